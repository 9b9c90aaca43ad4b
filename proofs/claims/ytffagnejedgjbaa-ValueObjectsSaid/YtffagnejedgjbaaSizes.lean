/- Sizes and depths: contracts of the program's and the reference's. -/
import Derived.Test.YtffagnejedgjbaaMem3
namespace Go.Proofs.Ytffagnejedgjbaa
open Go.RowKit

set_option maxRecDepth 100000 in
set_option maxHeartbeats 2000000 in
theorem vsize_any (n : Nat) : ∀ (t : T) (A : Option Addr) (c : Nat) (A' : Option Addr) (c' : Nat) (w : World), t.size ≤ n → n ≤ 100000 → TV w (· < w.heap.size) t A c A' c' →
    Calls Try.prog 22 #[t.agg A c A' c'] w fun e w' => e = .returned (.int .i64 t.size) ∧ Below w.heap.size w w' := by
  induction n with
  | zero => intro t _ _ _ _ _ h; have := t.size_pos; omega
  | succ n ih =>
    intro t A c A' c' w ht hn hv
    have hl := hv.lens.1
    have hls := t.len_size
    have hse := t.size_eq
    have hss : T.sizes t.items < t.size := by omega
    have IH := Lib.hid ih
    have HV := Lib.hid hv
    have HE := Lib.hid hse
    clear ih hv hse
    unfold T.agg
    go_enter Try.func22, Try.ntmps22
    go_wp2_with fail
    go_loopw [3, 9] (fun s i wr => ∃ k : Nat, k ≤ t.items.length ∧ i = .int .i64 k ∧ s = .int .i64 ((1 + T.sizes (t.items.take k) : Nat) : Int) ∧ Below w.heap.size w wr) (fun _ i _ => t.items.length - (intOf i).toNat)
    case atStart => exact ⟨0, Nat.zero_le _, rfl, by simp [T.sizes], (Below.refl _ _).alloc (Nat.le_refl _) _⟩
    case round =>
      obtain ⟨k, hk, rfl, rfl, hbel⟩ := hrel
      have Hbel := Lib.hid hbel
      clear hbel
      have hsz := T.sizes_take t.items k
      have hse := HE.out
      by_cases hlt : k < t.items.length
      · have u1 : decide (k < t.items.length) = true := decide_eq_true hlt
        obtain ⟨b, o, x, B, d, B', d', rfl, hb, hx, h6, hX⟩ := HV.out.at_ hlt
        have hxs := T.at_size hx
        have HS := Lib.hid (T.sizes_snoc hx)
        have HX := Lib.hid hX
        have hszn := T.sizes_take t.items (k + 1)
        rw [HS.out] at hszn
        obtain ⟨e0, e1, e2, e3, e4, e5⟩ := h6.keep hb (.of_below Hbel.out)
        clear hX h6 hx hse u1
        go_wp2_with fail
        refine (IH.out x B d B' d' _ (by omega) (by omega) (HX.out.on (Hbel.out.alloc Hbel.out.size _))).mono ?_
        rintro e w2 ⟨rfl, hb2⟩
        have Hb2 := Lib.hid ((Hbel.out.alloc Hbel.out.size _).trans (hb2.mono (Hbel.out.alloc Hbel.out.size _).size))
        clear hb2
        go_wp2_with fail
        go_roundw
        case rel => exact ⟨k + 1, hlt, by go_num, by rw [HS.out]; go_num, Hb2.out⟩
        case measure => simp [intOf]; omega
      · obtain rfl : t.items.length = k := by omega
        clear hse hsz
        go_wp2_with fail
        go_ret
        exact ⟨ret_int (by rw [List.take_length, HE.out]), Hbel.out⟩

set_option maxRecDepth 100000 in
set_option maxHeartbeats 2000000 in
theorem rsize_any (n : Nat) : ∀ (t : T) (A : Option Addr) (c : Nat) (A' : Option Addr) (c' : Nat) (w : World), t.size ≤ n → n ≤ 100000 → TV w (· < w.heap.size) t A c A' c' →
    Calls Try.prog 23 #[t.agg A c A' c'] w fun e w' => e = .returned (.int .i64 t.size) ∧ Below w.heap.size w w' := by
  induction n with
  | zero => intro t _ _ _ _ _ h; have := t.size_pos; omega
  | succ n ih =>
    intro t A c A' c' w ht hn hv
    have hl := hv.lens.1
    have hls := t.len_size
    have hse := t.size_eq
    have hss : T.sizes t.items < t.size := by omega
    have IH := Lib.hid ih
    have HV := Lib.hid hv
    have HE := Lib.hid hse
    clear ih hv hse
    unfold T.agg
    go_enter Try.func23, Try.ntmps23
    go_wp2_with fail
    go_loopw [3, 8] (fun s i wr => ∃ k : Nat, k ≤ t.items.length ∧ i = .int .i64 k ∧ s = .int .i64 ((1 + T.sizes (t.items.take k) : Nat) : Int) ∧ Blk wr w.heap.size 30 (t.cs A c A' c') ∧ Below w.heap.size w wr) (fun _ i _ => t.items.length - (intOf i).toNat)
    case atStart => exact ⟨0, Nat.zero_le _, rfl, by simp [T.sizes], Blk.new _ _ _, (Below.refl _ _).alloc (Nat.le_refl _) _⟩
    case round =>
      obtain ⟨k, hk, rfl, rfl, hbx, hbel⟩ := hrel
      have Hbel := Lib.hid hbel
      have Hbx := Lib.hid hbx
      have hlw := hbx.lt
      have d4 : wr.cell? ⟨w.heap.size, 4, none⟩ = some (.slice A t.items.length c) := hbx.cell 4
      clear hbel hbx
      have hsz := T.sizes_take t.items k
      by_cases hlt : k < t.items.length
      · have u1 : decide (k < t.items.length) = true := decide_eq_true hlt
        obtain ⟨b, o, x, B, d, B', d', rfl, hb, hx, h6, hX⟩ := HV.out.at_ hlt
        have hxs := T.at_size hx
        have HS := Lib.hid (T.sizes_snoc hx)
        have HX := Lib.hid hX
        have hszn := T.sizes_take t.items (k + 1)
        rw [HS.out] at hszn
        obtain ⟨e0, e1, e2, e3, e4, e5⟩ := h6.keep hb (.of_below Hbel.out)
        clear hX h6 hx
        go_wp2_with fail
        refine (IH.out x B d B' d' _ (by omega) (by omega) (HX.out.on Hbel.out)).mono ?_
        rintro e w2 ⟨rfl, hb2⟩
        have Hb2 := Lib.hid (Hbel.out.trans (hb2.mono Hbel.out.size))
        have Hbx2 := Lib.hid (Hbx.out.onto hb2)
        clear hb2
        go_wp2_with fail
        go_roundw
        case rel => exact ⟨k + 1, hlt, by go_num, by rw [HS.out]; go_num, Hbx2.out, Hb2.out⟩
        case measure => simp [intOf]; omega
      · obtain rfl : t.items.length = k := by omega
        clear hsz
        go_wp2_with fail
        go_ret
        exact ⟨ret_int (by rw [List.take_length, HE.out]), Hbel.out⟩

theorem four_or {k : Int} (h : ¬ (k = 4 ∨ k = 5)) : (k != 4) = true ∧ (k != 5) = true := by
  constructor <;> simp <;> omega

set_option maxRecDepth 100000 in
set_option maxHeartbeats 2000000 in
theorem vdepth_any (n : Nat) : ∀ (t : T) (A : Option Addr) (c : Nat) (A' : Option Addr) (c' : Nat) (w : World), t.size ≤ n → n ≤ 100000 → TV w (· < w.heap.size) t A c A' c' →
    Calls Try.prog 24 #[t.agg A c A' c'] w fun e w' => e = .returned (.int .i64 t.depth) ∧ Below w.heap.size w w' := by
  induction n with
  | zero => intro t _ _ _ _ _ h; have := t.size_pos; omega
  | succ n ih =>
    intro t A c A' c' w ht hn hv
    have hl := hv.lens.1
    have hls := t.len_size
    have hse := t.size_eq
    have hss : T.sizes t.items < t.size := by omega
    have hdt := t.depth_le
    have IH := Lib.hid ih
    have HV := Lib.hid hv
    have HE := Lib.hid t.depth_eq
    clear ih hv hse
    unfold T.agg
    by_cases h45 : t.kind = 4 ∨ t.kind = 5
    · have HE2 := Lib.hid (show t.depth = 1 + T.depths t.items by rw [HE.out, if_pos h45])
      have hdd : T.depths t.items ≤ 100000 := by have := HE2.out; omega
      have g : ((t.kind != 4) = true ∧ (t.kind != 5) = false) ∨ (t.kind != 4) = false := by
        rcases h45 with h | h
        · right; simp; exact h
        · left; simp; omega
      clear h45
      rcases g with ⟨g1, g2⟩ | g1
      all_goals
        go_enter Try.func24, Try.ntmps24
        go_wp2_with fail
        go_loopw [3, 17] (fun s i wr => ∃ k : Nat, k ≤ t.items.length ∧ i = .int .i64 k ∧ s = .int .i64 ((T.depths (t.items.take k) : Nat) : Int) ∧ Below w.heap.size w wr) (fun _ i _ => t.items.length - (intOf i).toNat)
        case atStart => exact ⟨0, Nat.zero_le _, rfl, by simp [T.depths], (Below.refl _ _).alloc (Nat.le_refl _) _⟩
        case round =>
          obtain ⟨k, hk, rfl, rfl, hbel⟩ := hrel
          have Hbel := Lib.hid hbel
          clear hbel
          have hsz := T.depths_take t.items k
          by_cases hlt : k < t.items.length
          · have u1 : decide (k < t.items.length) = true := decide_eq_true hlt
            obtain ⟨b, o, x, B, d, B', d', rfl, hb, hx, h6, hX⟩ := HV.out.at_ hlt
            have hxs := T.at_size hx
            have HS := Lib.hid (T.depths_snoc hx)
            have HX := Lib.hid hX
            obtain ⟨e0, e1, e2, e3, e4, e5⟩ := h6.keep hb (.of_below Hbel.out)
            clear hX h6 hx
            go_wp2_with fail
            refine (IH.out x B d B' d' _ (by omega) (by omega) (HX.out.on (Hbel.out.alloc Hbel.out.size _))).mono ?_
            rintro e w2 ⟨rfl, hb2⟩
            have Hb2 := Lib.hid ((Hbel.out.alloc Hbel.out.size _).trans (hb2.mono (Hbel.out.alloc Hbel.out.size _).size))
            clear hb2
            go_wp2_with fail
            go_roundw
            case rel => exact ⟨k + 1, hlt, by go_num, by rw [HS.out]; simp; omega, Hb2.out⟩
            case measure => simp [intOf]; omega
          · obtain rfl : t.items.length = k := by omega
            rw [List.take_length] at hsz ⊢
            clear hsz
            go_wp2_with fail
            go_ret
            exact ⟨ret_int (by rw [HE2.out]; go_num), Hbel.out⟩
    · have HE2 := Lib.hid (show t.depth = 0 by rw [HE.out, if_neg h45])
      obtain ⟨g1, g2⟩ := four_or h45
      clear h45
      go_enter Try.func24, Try.ntmps24
      go_wp2_with fail
      go_ret
      exact ⟨ret_int (by rw [HE2.out]; rfl), (Below.refl _ _).alloc (Nat.le_refl _) _⟩

set_option maxRecDepth 100000 in
set_option maxHeartbeats 2000000 in
theorem rdepth_any (n : Nat) : ∀ (t : T) (A : Option Addr) (c : Nat) (A' : Option Addr) (c' : Nat) (w : World), t.size ≤ n → n ≤ 100000 → t.Kinds → TV w (· < w.heap.size) t A c A' c' →
    Calls Try.prog 25 #[t.agg A c A' c'] w fun e w' => e = .returned (.int .i64 t.depth) ∧ Below w.heap.size w w' := by
  induction n with
  | zero => intro t _ _ _ _ _ h; have := t.size_pos; omega
  | succ n ih =>
    intro t A c A' c' w ht hn hks hv
    have hl := hv.lens.1
    have hls := t.len_size
    have hse := t.size_eq
    have hss : T.sizes t.items < t.size := by omega
    have hdt := t.depth_le
    have hk0 := hks.here.1
    have hk5 := hks.here.2
    have IH := Lib.hid ih
    have HV := Lib.hid hv
    have HK := Lib.hid hks
    have HE := Lib.hid t.depth_eq
    clear ih hv hse hks
    unfold T.agg
    by_cases h45 : t.kind < 4
    · have HE2 := Lib.hid (show t.depth = 0 by rw [HE.out, if_neg (by omega)])
      go_enter Try.func25, Try.ntmps25
      go_wp2_with fail
      go_ret
      exact ⟨ret_int (by rw [HE2.out]; rfl), (Below.refl _ _).alloc (Nat.le_refl _) _⟩
    · have HE2 := Lib.hid (show t.depth = 1 + T.depths t.items by rw [HE.out, if_pos (by omega)])
      have hdd : T.depths t.items ≤ 100000 := by have := HE2.out; omega
      go_enter Try.func25, Try.ntmps25
      go_wp2_with fail
      go_loopw [3, 11] (fun s i wr => ∃ k : Nat, k ≤ t.items.length ∧ i = .int .i64 k ∧ s = .int .i64 ((1 + T.depths (t.items.take k) : Nat) : Int) ∧ Blk wr w.heap.size 30 (t.cs A c A' c') ∧ Below w.heap.size w wr) (fun _ i _ => t.items.length - (intOf i).toNat)
      case atStart => exact ⟨0, Nat.zero_le _, rfl, by simp [T.depths], Blk.new _ _ _, (Below.refl _ _).alloc (Nat.le_refl _) _⟩
      case round =>
        obtain ⟨k, hk, rfl, rfl, hbx, hbel⟩ := hrel
        have Hbel := Lib.hid hbel
        have Hbx := Lib.hid hbx
        have hlw := hbx.lt
        have d4 : wr.cell? ⟨w.heap.size, 4, none⟩ = some (.slice A t.items.length c) := hbx.cell 4
        clear hbel hbx
        have hsz := T.depths_take t.items k
        by_cases hlt : k < t.items.length
        · have u1 : decide (k < t.items.length) = true := decide_eq_true hlt
          obtain ⟨b, o, x, B, d, B', d', rfl, hb, hx, h6, hX⟩ := HV.out.at_ hlt
          have hxs := T.at_size hx
          have hxd := x.depth_le
          have HS := Lib.hid (T.depths_snoc hx)
          have HX := Lib.hid hX
          have HXK := Lib.hid (HK.out.at_ hx)
          obtain ⟨e0, e1, e2, e3, e4, e5⟩ := h6.keep hb (.of_below Hbel.out)
          clear hX h6 hx
          go_wp2_with fail
          refine (IH.out x B d B' d' _ (by omega) (by omega) HXK.out (HX.out.on Hbel.out)).mono ?_
          rintro e w2 ⟨rfl, hb2⟩
          have Hb2 := Lib.hid (Hbel.out.trans (hb2.mono Hbel.out.size))
          have Hbx2 := Lib.hid (Hbx.out.onto hb2)
          clear hb2
          go_wp2_with fail
          go_roundw
          case rel => exact ⟨k + 1, hlt, by go_num, by rw [HS.out]; simp; omega, Hbx2.out, Hb2.out⟩
          case measure => simp [intOf]; omega
        · obtain rfl : t.items.length = k := by omega
          clear hsz
          go_wp2_with fail
          go_ret
          exact ⟨ret_int (by rw [List.take_length, HE2.out]), Hbel.out⟩
end Go.Proofs.Ytffagnejedgjbaa
