/- The reference's Same, of the same value. -/
import Derived.Test.YthkpeomdklcnmaaGreatDoorColl
import Derived.Test.YthkpeomdklcnmaaGreatDoorTexts
namespace Go.Proofs.YthkpeomdklcnmaaGreatDoor
open Go.RowKit

set_option maxRecDepth 100000 in
set_option maxHeartbeats 4000000 in
theorem rsame_yes_at (n : Nat) : ∀ (t : T) (A : Option Addr) (c : Nat) (A' : Option Addr) (c' : Nat) (B : Option Addr) (d : Nat) (B' : Option Addr) (d' : Nat) (w : World), t.size ≤ n → n ≤ 100000 → t.Small → TV w (· < w.heap.size) t A c A' c' → TV w (· < w.heap.size) t B d B' d' →
    Calls Tryz.prog 10 #[t.agg A c A' c', t.agg B d B' d'] w fun e w' => e = .returned (.bool true) ∧ Below w.heap.size w w' := by
  induction n with
  | zero => intro t _ _ _ _ _ _ _ _ _ h; have := t.size_pos; omega
  | succ n ih =>
    intro t A c A' c' B d B' d' w ht hn hs hv hu
    have hl := hv.lens.1
    have hls := t.len_size
    have hkl := hs.here
    have IH := Lib.hid ih
    have HV := Lib.hid hv
    have HU := Lib.hid hu
    have HS := Lib.hid hs
    clear ih hv hu hs
    unfold T.agg
    go_enter Tryz.func10, Tryz.ntmps10
    go_wp2_with fail
    have hW : Below w.heap.size w ((w.alloc (.cells (t.cs A c A' c') 29)).alloc (.cells (t.cs B d B' d') 29)) := ((Below.refl _ _).alloc (Nat.le_refl _) _).alloc (by simp) _
    have hB0 : Blk ((w.alloc (.cells (t.cs A c A' c') 29)).alloc (.cells (t.cs B d B' d') 29)) w.heap.size 29 (t.cs A c A' c') := (Blk.new w _ _).alloc _
    have hB1 : Blk ((w.alloc (.cells (t.cs A c A' c') 29)).alloc (.cells (t.cs B d B' d') 29)) (w.heap.size + 1) 29 (t.cs B d B' d') := by
      have := Blk.new (w.alloc (.cells (t.cs A c A' c') 29)) 29 (t.cs B d B' d')
      simpa using this
    change Code.wp _ _ _ _ ((w.alloc (.cells (t.cs A c A' c') 29)).alloc (.cells (t.cs B d B' d') 29))
    generalize ((w.alloc (.cells (t.cs A c A' c') 29)).alloc (.cells (t.cs B d B' d') 29)) = W at *
    have HW := Lib.hid hW
    have HB0 := Lib.hid hB0
    have HB1 := Lib.hid hB1
    clear hW hB0 hB1
    go_loopw [54] (fun i wr => ∃ k : Nat, k ≤ t.keys.length ∧ i = .int .i64 k ∧ Blk wr w.heap.size 29 (t.cs A c A' c') ∧ Blk wr (w.heap.size + 1) 29 (t.cs B d B' d') ∧ Below w.heap.size w wr) (fun i _ => t.keys.length - (intOf i).toNat)
    case atStart => exact ⟨0, Nat.zero_le _, rfl, HB0.out, HB1.out, HW.out⟩
    case round =>
      obtain ⟨k, hk, rfl, hb0, hb1, hbel⟩ := hrel
      have HB0 := Lib.hid hb0
      have HB1 := Lib.hid hb1
      have Hbel := Lib.hid hbel
      have a5 : wr.cell? ⟨w.heap.size, 5, none⟩ = some (.slice A' t.keys.length c') := hb0.cell 5
      have b5 : wr.cell? ⟨w.heap.size + 1, 5, none⟩ = some (.slice B' t.keys.length d') := hb1.cell 5
      have a4 : wr.cell? ⟨w.heap.size, 4, none⟩ = some (.slice A t.items.length c) := hb0.cell 4
      clear hb0 hb1 hbel
      by_cases hlt : k < t.keys.length
      · have u1 : decide (k < t.keys.length) = true := decide_eq_true hlt
        obtain ⟨b, o, s, rfl, hb, hx, hc⟩ := HV.out.keys.at_ hlt
        obtain ⟨b', o', s', rfl, hb', hx', hc'⟩ := HU.out.keys.at_ hlt
        obtain rfl : s = s' := by rw [hx] at hx'; injection hx'
        have e0 := ((Keeps.of_below Hbel.out).cell hb (o + k)).trans hc
        have e1 := ((Keeps.of_below Hbel.out).cell hb' (o' + k)).trans hc'
        have i1 : (k : Int) < t.keys.length := by omega
        have i2 : (0 : Int) ≤ k := by omega
        clear hx hx' hc hc'
        go_wp2_with fail
        go_quiet (fail)
        go_wp2_with fail
        go_roundw
        case rel => exact ⟨k + 1, hlt, by go_num, HB0.out, HB1.out, below_drewN Hbel.out _⟩
        case measure => simp [intOf]; omega
      · obtain rfl : t.keys.length = k := by omega
        go_wp2_with fail
        go_loopw [72] (fun i wr => ∃ k : Nat, k ≤ t.items.length ∧ i = .int .i64 k ∧ Blk wr w.heap.size 29 (t.cs A c A' c') ∧ Blk wr (w.heap.size + 1) 29 (t.cs B d B' d') ∧ Below w.heap.size w wr) (fun i _ => t.items.length - (intOf i).toNat)
        case atStart => exact ⟨0, Nat.zero_le _, rfl, HB0.out, HB1.out, Hbel.out⟩
        case round =>
          clear a5 b5 a4 HB0 HB1 Hbel
          obtain ⟨k, hk2, rfl, hb0, hb1, hbel⟩ := hrel
          have HB0 := Lib.hid hb0
          have HB1 := Lib.hid hb1
          have Hbel := Lib.hid hbel
          have hlw0 : w.heap.size < wr.heap.size := hb0.lt
          have hlw1 : w.heap.size + 1 < wr.heap.size := hb1.lt
          have a4 : wr.cell? ⟨w.heap.size, 4, none⟩ = some (.slice A t.items.length c) := hb0.cell 4
          have b4 : wr.cell? ⟨w.heap.size + 1, 4, none⟩ = some (.slice B t.items.length d) := hb1.cell 4
          clear hb0 hb1 hbel
          by_cases hlt2 : k < t.items.length
          · have u1 : decide (k < t.items.length) = true := decide_eq_true hlt2
            obtain ⟨b, o, x, D, e, D', e', rfl, hb, hx, h6, hX⟩ := HV.out.at_ hlt2
            obtain ⟨b', o', x', E, f, E', f', rfl, hb', hx', h6', hX'⟩ := HU.out.at_ hlt2
            obtain rfl : x = x' := by rw [hx] at hx'; injection hx'
            have hxs := T.at_size hx
            have HXs := Lib.hid (HS.out.at_ hx)
            have HX := Lib.hid hX
            have HX' := Lib.hid hX'
            have hbw : b < wr.heap.size := by have := hb; omega
            have hbw' : b' < wr.heap.size := by have := hb'; omega
            obtain ⟨p0, p1, p2, p3, p4, p5⟩ := h6.keep hb (.of_below Hbel.out)
            obtain ⟨q0, q1, q2, q3, q4, q5⟩ := h6'.keep hb' (.of_below Hbel.out)
            have i1 : (k : Int) < t.items.length := by omega
            have i2 : (0 : Int) ≤ k := by omega
            have HSS := Lib.hid (show ∀ w', Below wr.heap.size wr w' → w'.cell? ⟨w.heap.size, 4, none⟩ = some (.slice (some ⟨b, o, none⟩) t.items.length c) ∧ w'.cell? ⟨w.heap.size + 1, 4, none⟩ = some (.slice (some ⟨b', o', none⟩) t.items.length d) ∧ w'.cell? ⟨b, o + k * 6, none⟩ = some (.int .i64 x.kind) ∧ w'.cell? ⟨b, o + k * 6 + 1, none⟩ = some (.bool x.tr) ∧ w'.cell? ⟨b, o + k * 6 + 2, none⟩ = some (.int .i64 x.num) ∧ w'.cell? ⟨b, o + k * 6 + 3, none⟩ = some (.string x.str) ∧ w'.cell? ⟨b, o + k * 6 + 4, none⟩ = some (.slice D x.items.length e) ∧ w'.cell? ⟨b, o + k * 6 + 5, none⟩ = some (.slice D' x.keys.length e') ∧ w'.cell? ⟨b', o' + k * 6, none⟩ = some (.int .i64 x.kind) ∧ w'.cell? ⟨b', o' + k * 6 + 1, none⟩ = some (.bool x.tr) ∧ w'.cell? ⟨b', o' + k * 6 + 2, none⟩ = some (.int .i64 x.num) ∧ w'.cell? ⟨b', o' + k * 6 + 3, none⟩ = some (.string x.str) ∧ w'.cell? ⟨b', o' + k * 6 + 4, none⟩ = some (.slice E x.items.length f) ∧ w'.cell? ⟨b', o' + k * 6 + 5, none⟩ = some (.slice E' x.keys.length f') from fun w' hb => ⟨(hb.cell (p := ⟨w.heap.size, 4, none⟩) hlw0).trans a4, (hb.cell (p := ⟨w.heap.size + 1, 4, none⟩) hlw1).trans b4, (hb.cell (p := ⟨b, o + k * 6, none⟩) hbw).trans p0, (hb.cell (p := ⟨b, o + k * 6 + 1, none⟩) hbw).trans p1, (hb.cell (p := ⟨b, o + k * 6 + 2, none⟩) hbw).trans p2, (hb.cell (p := ⟨b, o + k * 6 + 3, none⟩) hbw).trans p3, (hb.cell (p := ⟨b, o + k * 6 + 4, none⟩) hbw).trans p4, (hb.cell (p := ⟨b, o + k * 6 + 5, none⟩) hbw).trans p5, (hb.cell (p := ⟨b', o' + k * 6, none⟩) hbw').trans q0, (hb.cell (p := ⟨b', o' + k * 6 + 1, none⟩) hbw').trans q1, (hb.cell (p := ⟨b', o' + k * 6 + 2, none⟩) hbw').trans q2, (hb.cell (p := ⟨b', o' + k * 6 + 3, none⟩) hbw').trans q3, (hb.cell (p := ⟨b', o' + k * 6 + 4, none⟩) hbw').trans q4, (hb.cell (p := ⟨b', o' + k * 6 + 5, none⟩) hbw').trans q5⟩)
            clear hX hX' h6 h6' hx hx'
            go_wp2_with fail
            go_region_held3 (fun w' => w'.cell? ⟨w.heap.size, 4, none⟩ = some (.slice (some ⟨b, o, none⟩) t.items.length c) ∧ w'.cell? ⟨w.heap.size + 1, 4, none⟩ = some (.slice (some ⟨b', o', none⟩) t.items.length d) ∧ w'.cell? ⟨b, o + k * 6, none⟩ = some (.int .i64 x.kind) ∧ w'.cell? ⟨b, o + k * 6 + 1, none⟩ = some (.bool x.tr) ∧ w'.cell? ⟨b, o + k * 6 + 2, none⟩ = some (.int .i64 x.num) ∧ w'.cell? ⟨b, o + k * 6 + 3, none⟩ = some (.string x.str) ∧ w'.cell? ⟨b, o + k * 6 + 4, none⟩ = some (.slice D x.items.length e) ∧ w'.cell? ⟨b, o + k * 6 + 5, none⟩ = some (.slice D' x.keys.length e') ∧ w'.cell? ⟨b', o' + k * 6, none⟩ = some (.int .i64 x.kind) ∧ w'.cell? ⟨b', o' + k * 6 + 1, none⟩ = some (.bool x.tr) ∧ w'.cell? ⟨b', o' + k * 6 + 2, none⟩ = some (.int .i64 x.num) ∧ w'.cell? ⟨b', o' + k * 6 + 3, none⟩ = some (.string x.str) ∧ w'.cell? ⟨b', o' + k * 6 + 4, none⟩ = some (.slice E x.items.length f) ∧ w'.cell? ⟨b', o' + k * 6 + 5, none⟩ = some (.slice E' x.keys.length f'))
              (first
                | with_reducible exact HSS.out _ HBX.out
                | go_keep)
              (first
                | (go_at_call 10
                   refine (IH.out x D e D' e' E f E' f' _ (by omega) (by omega) HXs.out (HX.out.on Hbel.out.drew) (HX'.out.on Hbel.out.drew)).mono ?_
                   rintro e2 w2 ⟨rfl, hb2⟩
                   have HBX := Lib.hid (show Below wr.heap.size wr w2 from (Below.refl _ _).drew.trans hb2)
                   clear hb2))
            go_wp2_with fail
            go_roundw
            case rel => exact ⟨k + 1, hlt2, by go_num, HB0.out.onto HBX.out, HB1.out.onto HBX.out, Hbel.out.trans (HBX.out.mono Hbel.out.size)⟩
            case measure => simp [intOf]; omega
          · obtain rfl : t.items.length = k := by omega
            go_wp2_with fail
            go_ret
            exact ⟨rfl, Hbel.out⟩
theorem rsame_yes (t : T) (A : Option Addr) (c : Nat) (A' : Option Addr) (c' : Nat) (B : Option Addr) (d : Nat) (B' : Option Addr) (d' : Nat) (w : World) (ht : t.size ≤ 100000) (hs : t.Small) (hv : TV w (· < w.heap.size) t A c A' c') (hu : TV w (· < w.heap.size) t B d B' d') :
    Calls Tryz.prog 10 #[t.agg A c A' c', t.agg B d B' d'] w fun e w' => e = .returned (.bool true) ∧ Below w.heap.size w w' :=
  rsame_yes_at 100000 t A c A' c' B d B' d' w ht (Nat.le_refl _) hs hv hu
end Go.Proofs.YthkpeomdklcnmaaGreatDoor
