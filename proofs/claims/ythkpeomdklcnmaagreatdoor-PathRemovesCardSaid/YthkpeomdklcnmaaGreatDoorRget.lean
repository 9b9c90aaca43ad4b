/- The reference's Get: contract. -/
import Derived.Test.YthkpeomdklcnmaaGreatDoorWay
import Derived.Outline
namespace Go.Proofs.YthkpeomdklcnmaaGreatDoor
open Go.RowKit
set_option linter.unusedVariables false
/-- what the reference's Get answers -/
def RGetPost (t : T) (p : List ByteArray) (w : World) (e : Ending) (w' : World) : Prop :=
  (∃ x, Leads t p x ∧ ∃ C f C' f', e = .returned (.tuple #[.agg #[.int .i64 x.kind, .bool x.tr, .int .i64 x.num, .string x.str, .slice C x.items.length f, .slice C' x.keys.length f'], .bool true]) ∧ TV w' (· < w'.heap.size) x C f C' f' ∧ Below w.heap.size w w') ∨
  ((∀ x, ¬ Leads t p x) ∧ e = .returned (.tuple #[.agg #[.int .i64 0, .bool false, .int .i64 0, .string ⟨#[]⟩, .slice none 0 0, .slice none 0 0], .bool false]) ∧ Below w.heap.size w w')
/-- where the reference stands -/
def RStands (w : World) (t : T) (p : List ByteArray) (j : Nat) (wr : World) : Prop :=
  ∃ y A c A' c', Blk wr w.heap.size 29 #[.int .i64 y.kind, .bool y.tr, .int .i64 y.num, .string y.str, .slice A y.items.length c, .slice A' y.keys.length c'] ∧ TV wr (· < w.heap.size) y A c A' c' ∧ y.Fine ∧ (∀ x, Leads t p x ↔ Leads y (p.drop j) x) ∧ Blk wr (w.heap.size + 1) 29 #[.int .i64 0, .bool false, .int .i64 0, .string ⟨#[]⟩, .slice none 0 0, .slice none 0 0] ∧ Below w.heap.size w wr
set_option maxRecDepth 100000 in
set_option maxHeartbeats 8000000 in
theorem rget_any (t : T) (p : List ByteArray) (P : Option Addr) (cp : Nat) (A : Option Addr) (c : Nat) (A' : Option Addr) (c' : Nat) (w : World) (hn : t.Fine) (hpl : p.length ≤ 1000) (hp : SReads w (· < w.heap.size) P p) (hv : TV w (· < w.heap.size) t A c A' c') :
    Calls Tryz.prog 12 #[.agg #[.int .i64 t.kind, .bool t.tr, .int .i64 t.num, .string t.str, .slice A t.items.length c, .slice A' t.keys.length c'], .slice P p.length cp] w (RGetPost t p w) := by
  have HP := Lib.hid hp
  have HST := Lib.hid (show RStands w t p 0 ((w.alloc (.cells #[.int .i64 t.kind, .bool t.tr, .int .i64 t.num, .string t.str, .slice A t.items.length c, .slice A' t.keys.length c'] 29)).alloc (.cells #[.int .i64 0, .bool false, .int .i64 0, .string ⟨#[]⟩, .slice none 0 0, .slice none 0 0] 29)) from
    ⟨t, A, c, A', c', (Blk.new w _ _).alloc _, (hv.under (((Below.refl _ _).alloc (Nat.le_refl _) _).alloc (by simp) _)), hn, fun x => by simp, by have := Blk.new (w.alloc (.cells #[.int .i64 t.kind, .bool t.tr, .int .i64 t.num, .string t.str, .slice A t.items.length c, .slice A' t.keys.length c'] 29)) 29 #[.int .i64 0, .bool false, .int .i64 0, .string ⟨#[]⟩, .slice none 0 0, .slice none 0 0]; simpa using this, ((Below.refl _ _).alloc (Nat.le_refl _) _).alloc (by simp) _⟩)
  clear hn hp hv
  go_enter Tryz.func12, Tryz.ntmps12
  go_wp2_with fail
  go_loopw [10] (fun s wr => ∃ j : Nat, j ≤ p.length ∧ s = .int .i64 j ∧ RStands w t p j wr) (fun s _ => p.length - (intOf s).toNat)
  case atStart => exact ⟨0, Nat.zero_le _, rfl, HST.out⟩
  case round =>
    obtain ⟨j, hj, rfl, y, A, c, A', c', hB, hv, hn, hl, hZ, hbel⟩ := hrel
    have a0 : wr.cell? ⟨w.heap.size, 0, none⟩ = some (.int .i64 y.kind) := hB.cell 0
    have a1 : wr.cell? ⟨w.heap.size, 1, none⟩ = some (.bool y.tr) := hB.cell 1
    have a2 : wr.cell? ⟨w.heap.size, 2, none⟩ = some (.int .i64 y.num) := hB.cell 2
    have a3 : wr.cell? ⟨w.heap.size, 3, none⟩ = some (.string y.str) := hB.cell 3
    have a4 : wr.cell? ⟨w.heap.size, 4, none⟩ = some (.slice A y.items.length c) := hB.cell 4
    have a5 : wr.cell? ⟨w.heap.size, 5, none⟩ = some (.slice A' y.keys.length c') := hB.cell 5
    have HB := Lib.hid hB
    have HV := Lib.hid hv
    have HN := Lib.hid hn
    have HL := Lib.hid hl
    have HZ := Lib.hid hZ
    have HBl := Lib.hid hbel
    have hwr := hB.lt
    have hi40 := hn.items80
    clear hB hv hn hl hZ hbel
    by_cases hlt : j < p.length
    · have u1 : decide (j < p.length) = true := decide_eq_true hlt
      have u2 : decide ((j : Int) < (p.length : Int)) = true := decide_eq_true (by omega)
      have i1 : (j : Int) < (p.length : Int) := by omega
      have i2 : (0 : Int) ≤ (j : Int) := by omega
      obtain ⟨bp, op, rfl, hbp, hcp⟩ := (HP.out) (by intro hz; rw [hz] at hlt; simp at hlt)
      obtain ⟨q, hq⟩ : ∃ q, p[j]? = some q := ⟨_, List.getElem?_eq_getElem hlt⟩
      have HC := Lib.hid (show ∀ w', Below wr.heap.size wr w' → (w'.cell? ⟨w.heap.size, 0, none⟩ = some (.int .i64 y.kind) ∧ w'.cell? ⟨w.heap.size, 1, none⟩ = some (.bool y.tr) ∧ w'.cell? ⟨w.heap.size, 2, none⟩ = some (.int .i64 y.num) ∧ w'.cell? ⟨w.heap.size, 3, none⟩ = some (.string y.str) ∧ w'.cell? ⟨w.heap.size, 4, none⟩ = some (.slice A y.items.length c) ∧ w'.cell? ⟨w.heap.size, 5, none⟩ = some (.slice A' y.keys.length c')) ∧ w'.cell? ⟨bp, op + j, none⟩ = some (.string q) from fun w' h => by
        have hb := HB.out.onto h
        exact ⟨⟨hb.cell 0, hb.cell 1, hb.cell 2, hb.cell 3, hb.cell 4, hb.cell 5⟩, ((HBl.out.trans (h.mono HBl.out.size)).cell (p := ⟨bp, op + j, none⟩) hbp).trans (hcp j q hq)⟩)
      have ep := (HC.out wr (Below.refl _ _)).2
      have HQ := Lib.hid hq
      clear hcp hq
      have HBc := Lib.hid (Below.refl wr.heap.size wr)
      go_upto_region 4 with fail
      by_cases hk : ∃ k, IsAt y q k
      · obtain ⟨k, hk⟩ := hk
        have hkl := hk.1
        have HK := Lib.hid hk
        obtain ⟨bA, oA, z, D, f, D', f', rfl, hbA, hx, h6z, hX⟩ := HV.out.at_ hkl
        have HX := Lib.hid hX
        have H6 := Lib.hid h6z
        have HZI := Lib.hid hx
        clear hk hx h6z hX
        go_region_held3 (fun w' => (w'.cell? ⟨w.heap.size, 0, none⟩ = some (.int .i64 y.kind) ∧ w'.cell? ⟨w.heap.size, 1, none⟩ = some (.bool y.tr) ∧ w'.cell? ⟨w.heap.size, 2, none⟩ = some (.int .i64 y.num) ∧ w'.cell? ⟨w.heap.size, 3, none⟩ = some (.string y.str) ∧ w'.cell? ⟨w.heap.size, 4, none⟩ = some (.slice (some ⟨bA, oA, none⟩) y.items.length c) ∧ w'.cell? ⟨w.heap.size, 5, none⟩ = some (.slice A' y.keys.length c')) ∧ w'.cell? ⟨bp, op + j, none⟩ = some (.string q))
          (first
            | with_reducible exact HC.out _ HBc.out
            | with_reducible exact HC.out _ (below_drewN HBc.out _)
            | exact HC.out _ HBc.out.drew
            | go_keep)
          (first
            | (go_at_call 28
               with_reducible refine (rplace_yes y q k _ c A' c' _ HN.out HK.out ((HV.out.wide fun b hb => Nat.lt_trans hb hwr).on ?_)).mono ?_
               · exact (by first | with_reducible exact HBc.out | with_reducible exact below_drewN HBc.out _ | exact HBc.out.drew)
               rintro e7 w7 ⟨rfl, hb7⟩
               have HBc := Lib.hid (show Below wr.heap.size wr w7 from by first | with_reducible exact HBc.out.trans (hb7.mono HBc.out.size) | with_reducible exact (below_drewN HBc.out _).trans (hb7.mono HBc.out.size) | exact HBc.out.drew.trans (hb7.mono HBc.out.size))
               clear hb7))
        all_goals
          have hb7 : Below wr.heap.size wr w7 := (by first | with_reducible exact HBc.out | with_reducible exact below_drewN HBc.out _ | exact HBc.out.drew)
          have h7 := HB.out.onto hb7
          have e4 : w7.cell? ⟨w.heap.size, 4, none⟩ = some (.slice (some ⟨bA, oA, none⟩) y.items.length c) := h7.cell 4
          have q0 : w7.cell? ⟨w.heap.size, 0, none⟩ = some (.int .i64 y.kind) := h7.cell 0
          have q1 : w7.cell? ⟨w.heap.size, 1, none⟩ = some (.bool y.tr) := h7.cell 1
          have q2 : w7.cell? ⟨w.heap.size, 2, none⟩ = some (.int .i64 y.num) := h7.cell 2
          have q3 : w7.cell? ⟨w.heap.size, 3, none⟩ = some (.string y.str) := h7.cell 3
          have q5 : w7.cell? ⟨w.heap.size, 5, none⟩ = some (.slice A' y.keys.length c') := h7.cell 5
          have f0 := h7.free 0
          have f1 := h7.free 1
          have f2 := h7.free 2
          have f3 := h7.free 3
          have f4 := h7.free 4
          have f5 := h7.free 5
          have z6 := H6.out.keep (S := (· < w.heap.size)) hbA (fun b hb => hb7.block b (Nat.lt_trans hb hwr))
          obtain ⟨e0', e1', e2', e3', e4', e5'⟩ := z6
          have i3 : (k : Int) < (y.items.length : Int) := by omega
          have i4 : (0 : Int) ≤ (k : Int) := by omega
          have H7 := Lib.hid h7
          have HB7 := Lib.hid hb7
          clear h7 hb7 a0 a1 a2 a3 a4 a5 ep
          go_wp2_with fail
          go_roundw
          case rel =>
            have hF := res_put H7.out rfl z D f D' f'
            have hZ7 := HZ.out.onto HB7.out
            refine ⟨j + 1, hlt, by go_num, z, D, f, D', f', hF, ?_, HN.out.at_ HZI.out, fun x => ?_, ?_, ?_⟩
            · refine HX.out.keep fun b hb => ?_
              have hb : b < w.heap.size := hb
              have hne : b ≠ w.heap.size := by omega
              rw [Below.heap_setCell _ _ _ _ hne, Below.heap_setCell _ _ _ _ hne, Below.heap_setCell _ _ _ _ hne, Below.heap_setCell _ _ _ _ hne, Below.heap_setCell _ _ _ _ hne, Below.heap_setCell _ _ _ _ hne]
              exact HB7.out.block b (by omega)
            · rw [HL.out x, drop_at HQ.out]
              exact leads_cons HN.out HK.out HZI.out
            · have hne : w.heap.size + 1 ≠ w.heap.size := by omega
              exact (((((hZ7.far hne _).far hne _).far hne _).far hne _).far hne _).far hne _
            · exact (((((((HBl.out.trans (HB7.out.mono HBl.out.size)).setCell (Nat.le_refl _) _).setCell (Nat.le_refl _) _).setCell (Nat.le_refl _) _).setCell (Nat.le_refl _) _).setCell (Nat.le_refl _) _).setCell (Nat.le_refl _) _)
          case measure => simp [intOf]; omega
      · have HK := Lib.hid (show ∀ k, ¬ IsAt y q k from fun k h => hk ⟨k, h⟩)
        clear hk
        go_region_held3 (fun w' => (w'.cell? ⟨w.heap.size, 0, none⟩ = some (.int .i64 y.kind) ∧ w'.cell? ⟨w.heap.size, 1, none⟩ = some (.bool y.tr) ∧ w'.cell? ⟨w.heap.size, 2, none⟩ = some (.int .i64 y.num) ∧ w'.cell? ⟨w.heap.size, 3, none⟩ = some (.string y.str) ∧ w'.cell? ⟨w.heap.size, 4, none⟩ = some (.slice A y.items.length c) ∧ w'.cell? ⟨w.heap.size, 5, none⟩ = some (.slice A' y.keys.length c')) ∧ w'.cell? ⟨bp, op + j, none⟩ = some (.string q))
          (first
            | with_reducible exact HC.out _ HBc.out
            | with_reducible exact HC.out _ (below_drewN HBc.out _)
            | exact HC.out _ HBc.out.drew
            | go_keep)
          (first
            | (go_at_call 28
               with_reducible refine (rplace_no y q A c A' c' _ HN.out HK.out ((HV.out.wide fun b hb => Nat.lt_trans hb hwr).on ?_)).mono ?_
               · exact (by first | with_reducible exact HBc.out | with_reducible exact below_drewN HBc.out _ | exact HBc.out.drew)
               rintro e7 w7 ⟨rfl, hb7⟩
               have HBc := Lib.hid (show Below wr.heap.size wr w7 from by first | with_reducible exact HBc.out.trans (hb7.mono HBc.out.size) | with_reducible exact (below_drewN HBc.out _).trans (hb7.mono HBc.out.size) | exact HBc.out.drew.trans (hb7.mono HBc.out.size))
               clear hb7))
        all_goals
          have hb7 : Below wr.heap.size wr w7 := (by first | with_reducible exact HBc.out | with_reducible exact below_drewN HBc.out _ | exact HBc.out.drew)
          have h7 := HZ.out.onto hb7
          have q0 : w7.cell? ⟨w.heap.size + 1, 0, none⟩ = some (.int .i64 0) := h7.cell 0
          have q1 : w7.cell? ⟨w.heap.size + 1, 1, none⟩ = some (.bool false) := h7.cell 1
          have q2 : w7.cell? ⟨w.heap.size + 1, 2, none⟩ = some (.int .i64 0) := h7.cell 2
          have q3 : w7.cell? ⟨w.heap.size + 1, 3, none⟩ = some (.string ⟨#[]⟩) := h7.cell 3
          have q4 : w7.cell? ⟨w.heap.size + 1, 4, none⟩ = some (.slice none 0 0) := h7.cell 4
          have q5 : w7.cell? ⟨w.heap.size + 1, 5, none⟩ = some (.slice none 0 0) := h7.cell 5
          have f0 := h7.free 0
          have f1 := h7.free 1
          have f2 := h7.free 2
          have f3 := h7.free 3
          have f4 := h7.free 4
          have f5 := h7.free 5
          have HF := Lib.hid (res_put h7 rfl T.zero none 0 none 0)
          have hw7 := HBl.out.trans (hb7.mono HBl.out.size)
          have hE := Lib.hid (show Below w.heap.size w ((((((w7.setCell ⟨w.heap.size + 1, 0, none⟩ (.int .i64 T.zero.kind)).setCell ⟨w.heap.size + 1, 1, none⟩ (.bool T.zero.tr)).setCell ⟨w.heap.size + 1, 2, none⟩ (.int .i64 T.zero.num)).setCell ⟨w.heap.size + 1, 3, none⟩ (.string T.zero.str)).setCell ⟨w.heap.size + 1, 4, none⟩ (.slice none T.zero.items.length 0)).setCell ⟨w.heap.size + 1, 5, none⟩ (.slice none T.zero.keys.length 0)) from (((((hw7.setCell (by simp) _).setCell (by simp) _).setCell (by simp) _).setCell (by simp) _).setCell (by simp) _).setCell (by simp) _)
          clear hw7
          have HNO := Lib.hid (show ∀ x, ¬ Leads t p x from fun x hx => by
            have h1 := (HL.out x).1 hx
            rw [drop_at HQ.out] at h1
            obtain ⟨k, _, h2, _⟩ := h1
            exact HK.out k h2)
          clear h7 hb7 a0 a1 a2 a3 a4 a5 ep
          go_wp2_with fail
          change bodyPost _ _ _ _ _ ((((((w7.setCell ⟨w.heap.size + 1, 0, none⟩ (.int .i64 T.zero.kind)).setCell ⟨w.heap.size + 1, 1, none⟩ (.bool T.zero.tr)).setCell ⟨w.heap.size + 1, 2, none⟩ (.int .i64 T.zero.num)).setCell ⟨w.heap.size + 1, 3, none⟩ (.string T.zero.str)).setCell ⟨w.heap.size + 1, 4, none⟩ (.slice none T.zero.items.length 0)).setCell ⟨w.heap.size + 1, 5, none⟩ (.slice none T.zero.keys.length 0))
          generalize ((((((w7.setCell ⟨w.heap.size + 1, 0, none⟩ (.int .i64 T.zero.kind)).setCell ⟨w.heap.size + 1, 1, none⟩ (.bool T.zero.tr)).setCell ⟨w.heap.size + 1, 2, none⟩ (.int .i64 T.zero.num)).setCell ⟨w.heap.size + 1, 3, none⟩ (.string T.zero.str)).setCell ⟨w.heap.size + 1, 4, none⟩ (.slice none T.zero.items.length 0)).setCell ⟨w.heap.size + 1, 5, none⟩ (.slice none T.zero.keys.length 0)) = Wf at *
          have m0 : Wf.cell? ⟨w.heap.size + 1, 0, none⟩ = some (.int .i64 0) := HF.out.cell 0
          have m1 : Wf.cell? ⟨w.heap.size + 1, 1, none⟩ = some (.bool false) := HF.out.cell 1
          have m2 : Wf.cell? ⟨w.heap.size + 1, 2, none⟩ = some (.int .i64 0) := HF.out.cell 2
          have m3 : Wf.cell? ⟨w.heap.size + 1, 3, none⟩ = some (.string ⟨#[]⟩) := HF.out.cell 3
          have m4 : Wf.cell? ⟨w.heap.size + 1, 4, none⟩ = some (.slice none 0 0) := HF.out.cell 4
          have m5 : Wf.cell? ⟨w.heap.size + 1, 5, none⟩ = some (.slice none 0 0) := HF.out.cell 5
          exact bodyPost_ret (v := .tuple #[.agg #[.int .i64 0, .bool false, .int .i64 0, .string ⟨#[]⟩, .slice none 0 0, .slice none 0 0], .bool false]) (by simp [results, Tryz.results12, go_sem, m0, m1, m2, m3, m4, m5]) rfl (.inr ⟨HNO.out, rfl, hE.out⟩)
    · have u1 : decide (j < p.length) = false := decide_eq_false hlt
      have u2 : decide ((j : Int) < (p.length : Int)) = false := decide_eq_false (by omega)
      have hy : Leads t p y := (HL.out y).2 (by rw [List.drop_eq_nil_of_le (by omega)]; exact rfl)
      have HY := Lib.hid hy
      have h7 := HZ.out
      have q0 : wr.cell? ⟨w.heap.size + 1, 0, none⟩ = some (.int .i64 0) := h7.cell 0
      have q1 : wr.cell? ⟨w.heap.size + 1, 1, none⟩ = some (.bool false) := h7.cell 1
      have q2 : wr.cell? ⟨w.heap.size + 1, 2, none⟩ = some (.int .i64 0) := h7.cell 2
      have q3 : wr.cell? ⟨w.heap.size + 1, 3, none⟩ = some (.string ⟨#[]⟩) := h7.cell 3
      have q4 : wr.cell? ⟨w.heap.size + 1, 4, none⟩ = some (.slice none 0 0) := h7.cell 4
      have q5 : wr.cell? ⟨w.heap.size + 1, 5, none⟩ = some (.slice none 0 0) := h7.cell 5
      have f0 := h7.free 0
      have f1 := h7.free 1
      have f2 := h7.free 2
      have f3 := h7.free 3
      have f4 := h7.free 4
      have f5 := h7.free 5
      have HF := Lib.hid (res_put h7 rfl y A c A' c')
      have hE := Lib.hid (show Below w.heap.size w ((((((wr.setCell ⟨w.heap.size + 1, 0, none⟩ (.int .i64 y.kind)).setCell ⟨w.heap.size + 1, 1, none⟩ (.bool y.tr)).setCell ⟨w.heap.size + 1, 2, none⟩ (.int .i64 y.num)).setCell ⟨w.heap.size + 1, 3, none⟩ (.string y.str)).setCell ⟨w.heap.size + 1, 4, none⟩ (.slice A y.items.length c)).setCell ⟨w.heap.size + 1, 5, none⟩ (.slice A' y.keys.length c')) from (((((HBl.out.setCell (by simp) _).setCell (by simp) _).setCell (by simp) _).setCell (by simp) _).setCell (by simp) _).setCell (by simp) _)
      have hTV := Lib.hid (show TV ((((((wr.setCell ⟨w.heap.size + 1, 0, none⟩ (.int .i64 y.kind)).setCell ⟨w.heap.size + 1, 1, none⟩ (.bool y.tr)).setCell ⟨w.heap.size + 1, 2, none⟩ (.int .i64 y.num)).setCell ⟨w.heap.size + 1, 3, none⟩ (.string y.str)).setCell ⟨w.heap.size + 1, 4, none⟩ (.slice A y.items.length c)).setCell ⟨w.heap.size + 1, 5, none⟩ (.slice A' y.keys.length c')) (· < (((((((wr.setCell ⟨w.heap.size + 1, 0, none⟩ (.int .i64 y.kind)).setCell ⟨w.heap.size + 1, 1, none⟩ (.bool y.tr)).setCell ⟨w.heap.size + 1, 2, none⟩ (.int .i64 y.num)).setCell ⟨w.heap.size + 1, 3, none⟩ (.string y.str)).setCell ⟨w.heap.size + 1, 4, none⟩ (.slice A y.items.length c)).setCell ⟨w.heap.size + 1, 5, none⟩ (.slice A' y.keys.length c'))).heap.size) y A c A' c' from by
        have hz : (((((((wr.setCell ⟨w.heap.size + 1, 0, none⟩ (.int .i64 y.kind)).setCell ⟨w.heap.size + 1, 1, none⟩ (.bool y.tr)).setCell ⟨w.heap.size + 1, 2, none⟩ (.int .i64 y.num)).setCell ⟨w.heap.size + 1, 3, none⟩ (.string y.str)).setCell ⟨w.heap.size + 1, 4, none⟩ (.slice A y.items.length c)).setCell ⟨w.heap.size + 1, 5, none⟩ (.slice A' y.keys.length c'))).heap.size = wr.heap.size := by simp [World.setCell]
        refine (HV.out.keep fun b hb => ?_).wide fun b hb => by show b < _; rw [hz]; exact Nat.lt_trans hb hwr
        have hb : b < w.heap.size := hb
        have hne : b ≠ w.heap.size + 1 := by omega
        rw [Below.heap_setCell _ _ _ _ hne, Below.heap_setCell _ _ _ _ hne, Below.heap_setCell _ _ _ _ hne, Below.heap_setCell _ _ _ _ hne, Below.heap_setCell _ _ _ _ hne, Below.heap_setCell _ _ _ _ hne])
      clear h7 hy
      go_wp2_with fail
      change bodyPost _ _ _ _ _ ((((((wr.setCell ⟨w.heap.size + 1, 0, none⟩ (.int .i64 y.kind)).setCell ⟨w.heap.size + 1, 1, none⟩ (.bool y.tr)).setCell ⟨w.heap.size + 1, 2, none⟩ (.int .i64 y.num)).setCell ⟨w.heap.size + 1, 3, none⟩ (.string y.str)).setCell ⟨w.heap.size + 1, 4, none⟩ (.slice A y.items.length c)).setCell ⟨w.heap.size + 1, 5, none⟩ (.slice A' y.keys.length c'))
      generalize ((((((wr.setCell ⟨w.heap.size + 1, 0, none⟩ (.int .i64 y.kind)).setCell ⟨w.heap.size + 1, 1, none⟩ (.bool y.tr)).setCell ⟨w.heap.size + 1, 2, none⟩ (.int .i64 y.num)).setCell ⟨w.heap.size + 1, 3, none⟩ (.string y.str)).setCell ⟨w.heap.size + 1, 4, none⟩ (.slice A y.items.length c)).setCell ⟨w.heap.size + 1, 5, none⟩ (.slice A' y.keys.length c')) = Wf at *
      have m0 : Wf.cell? ⟨w.heap.size + 1, 0, none⟩ = some (.int .i64 y.kind) := HF.out.cell 0
      have m1 : Wf.cell? ⟨w.heap.size + 1, 1, none⟩ = some (.bool y.tr) := HF.out.cell 1
      have m2 : Wf.cell? ⟨w.heap.size + 1, 2, none⟩ = some (.int .i64 y.num) := HF.out.cell 2
      have m3 : Wf.cell? ⟨w.heap.size + 1, 3, none⟩ = some (.string y.str) := HF.out.cell 3
      have m4 : Wf.cell? ⟨w.heap.size + 1, 4, none⟩ = some (.slice A y.items.length c) := HF.out.cell 4
      have m5 : Wf.cell? ⟨w.heap.size + 1, 5, none⟩ = some (.slice A' y.keys.length c') := HF.out.cell 5
      exact bodyPost_ret (v := .tuple #[.agg #[.int .i64 y.kind, .bool y.tr, .int .i64 y.num, .string y.str, .slice A y.items.length c, .slice A' y.keys.length c'], .bool true]) (by simp [results, Tryz.results12, go_sem, m0, m1, m2, m3, m4, m5]) rfl (.inl ⟨y, HY.out, A, c, A', c', rfl, hTV.out, hE.out⟩)
end Go.Proofs.YthkpeomdklcnmaaGreatDoor
