/- A path picked by a number; the same steps, or not; does a path begin with another one: contracts. -/
import Derived.Test.YthkpeomdklcnmaaDoorRall
import Derived.Test.YthkpeomdklcnmaaDoorSets
import Derived.Outline
namespace Go.Proofs.YthkpeomdklcnmaaDoor
open Go.RowKit
set_option linter.unusedVariables false

/-- what pick answers: a path that leads somewhere -/
def PickPost (t : T) (w : World) (e : Ending) (w' : World) : Prop := ∃ (q : List ByteArray) (y : T) (P : Option Addr) (cp : Nat), e = .returned (.slice P q.length cp) ∧ q.length ≤ cp ∧ q.length ≤ 40 ∧ (∀ s ∈ q, s.size ≤ 1000) ∧ Leads t q y ∧ SReads w' (· < w'.heap.size) P q ∧ Below w.heap.size w w'
set_option maxRecDepth 100000 in
set_option maxHeartbeats 4000000 in
theorem pick_any (t : T) (A : Option Addr) (c : Nat) (A' : Option Addr) (c' : Nat) (n : Nat) (w : World) (hn : t.Nice) (hn16 : n ≤ 65535) (hv : TV w (· < w.heap.size) t A c A' c') :
    Calls Tryd.prog 14 #[.agg #[.int .i64 t.kind, .bool t.tr, .int .i64 t.num, .string t.str, .slice A t.items.length c, .slice A' t.keys.length c'], .int .u16 n] w (PickPost t w) := by
  have hsz := hn.size
  have hpos := t.size_pos
  have HV := Lib.hid hv
  have HN := Lib.hid hn
  have hm : ((n : Int)).tmod (t.size : Int) = ((n % t.size : Nat) : Int) := by rw [Int.tmod_eq_emod_of_nonneg (by omega)]; omega
  have hml := Nat.mod_lt n hpos
  have hw16 : IntKind.i64.wrap (n : Int) = n := IntWalk.i64_in _ (by omega)
  have hne : ¬ (t.size : Int) = 0 := by omega
  have hne2 : ((t.size : Int) == 0) = false := beq_eq_false_iff_ne.2 hne
  clear hv hn
  generalize n % t.size = k at *
  go_enter Tryd.func14, Tryd.ntmps14
  go_upto_region 1 with fail
  have hW : Below w.heap.size w (w.alloc (.cells #[.int .i64 t.kind, .bool t.tr, .int .i64 t.num, .string t.str, .slice A t.items.length c, .slice A' t.keys.length c'] 28)) := (Below.refl _ _).alloc (Nat.le_refl _) _
  have hB0 : Blk (w.alloc (.cells #[.int .i64 t.kind, .bool t.tr, .int .i64 t.num, .string t.str, .slice A t.items.length c, .slice A' t.keys.length c'] 28)) w.heap.size 28 #[.int .i64 t.kind, .bool t.tr, .int .i64 t.num, .string t.str, .slice A t.items.length c, .slice A' t.keys.length c'] := Blk.new w _ _
  change Code.wp _ _ _ _ (w.alloc (.cells #[.int .i64 t.kind, .bool t.tr, .int .i64 t.num, .string t.str, .slice A t.items.length c, .slice A' t.keys.length c'] 28))
  generalize (w.alloc (.cells #[.int .i64 t.kind, .bool t.tr, .int .i64 t.num, .string t.str, .slice A t.items.length c, .slice A' t.keys.length c'] 28)) = W at *
  have HW := Lib.hid hW
  have hGW := hB0.lt
  obtain ⟨a0, a1, a2, a3, a4, a5⟩ : W.cell? ⟨w.heap.size, 0, none⟩ = some (.int .i64 t.kind) ∧ W.cell? ⟨w.heap.size, 1, none⟩ = some (.bool t.tr) ∧ W.cell? ⟨w.heap.size, 2, none⟩ = some (.int .i64 t.num) ∧ W.cell? ⟨w.heap.size, 3, none⟩ = some (.string t.str) ∧ W.cell? ⟨w.heap.size, 4, none⟩ = some (.slice A t.items.length c) ∧ W.cell? ⟨w.heap.size, 5, none⟩ = some (.slice A' t.keys.length c') := ⟨hB0.cell 0, hB0.cell 1, hB0.cell 2, hB0.cell 3, hB0.cell 4, hB0.cell 5⟩
  have HCall := Lib.hid (show Calls Tryd.prog 17 #[.agg #[.int .i64 t.kind, .bool t.tr, .int .i64 t.num, .string t.str, .slice A t.items.length c, .slice A' t.keys.length c'], .slice none 0 0] W (AllPost (· < w.heap.size) t [] W) from rall_at 80 (· < w.heap.size) t [] none 0 A c A' c' W (by omega) (Nat.le_refl _) HN.out.fine (Nat.le_refl _) (by simp) (fun b hb => by have : b < w.heap.size := hb; omega) (SReads.none_ _ _ _) (HV.out.under hW))
  clear hW hB0
  go_wp2_with fail
  refine HCall.out.mono ?_
  rintro e w2 ⟨A2, c2, rfl, hc2, hpr, hb2⟩
  have H2 := Lib.hid (HW.out.trans (hb2.mono HW.out.size))
  have hlen := parts_len t []
  obtain ⟨qx, hqx⟩ : ∃ qx, (t.parts [])[k]? = some qx := ⟨_, List.getElem?_eq_getElem (by omega)⟩
  obtain ⟨b, o, P, cp, rfl, hbS, hcell, hlc, hrd⟩ := hpr.at_ hqx
  obtain ⟨q, h1, h2, h3, h4⟩ := parts_leads t.size t [] (Nat.le_refl _) HN.out.good HN.out.fit (by omega) qx (List.mem_of_getElem? hqx)
  rw [List.nil_append] at h1
  rw [h1] at hcell hlc hrd
  have hs2 := hb2.size
  have HR := Lib.hid (hrd.wide fun b hb => show b < w2.heap.size by rcases hb with h | h; have : b < w.heap.size := h; omega; exact h.2)
  have HL := Lib.hid h2
  have H4 := Lib.hid h4
  have i1 : (k : Int) < (t.size : Int) := by omega
  have i2 : (0 : Int) ≤ (k : Int) := by omega
  clear hpr hb2 hqx hrd h1 h2 h4 hbS hlen a0 a1 a2 a3 a4 a5
  go_wp2_with fail
  go_ret
  exact ⟨q, qx.2, P, cp, rfl, hlc, by omega, H4.out, HL.out, HR.out, H2.out⟩
set_option maxRecDepth 100000 in
set_option maxHeartbeats 4000000 in
theorem same_w4 (p q : List ByteArray) (P : Option Addr) (cp : Nat) (Q : Option Addr) (cq : Nat) (w : World) (hpl : p.length ≤ 1000000) (hql : q.length ≤ 1000000) (hp : SReads w (· < w.heap.size) P p) (hq : SReads w (· < w.heap.size) Q q) :
    Calls Tryd.prog 20 #[.slice P p.length cp, .slice Q q.length cq] w fun e w' => ∃ b, e = .returned (.bool b) ∧ (b = false → p ≠ q) ∧ Below w.heap.size w w' := by
  have HP := Lib.hid hp
  have HQ := Lib.hid hq
  clear hp hq
  by_cases hl : p.length = q.length
  · have n1 : ((p.length : Int) != (q.length : Int)) = false := by simp; omega
    go_enter Tryd.func20, Tryd.ntmps20
    go_wp2_with fail
    clear n1
    go_loopw [13] (fun x wr => ∃ j : Nat, j ≤ p.length ∧ x = .int .i64 j ∧ Below w.heap.size w wr) (fun x _ => p.length - (intOf x).toNat)
    case atStart => exact ⟨0, Nat.zero_le _, rfl, Below.refl _ _⟩
    case round =>
      obtain ⟨j, hj, rfl, hbel⟩ := hrel
      have HBl := Lib.hid hbel
      clear hbel
      by_cases hlt : j < p.length
      · have u1 : decide (j < p.length) = true := decide_eq_true hlt
        have u2 : decide ((j : Int) < (p.length : Int)) = true := decide_eq_true (by omega)
        have u3 : decide (j < q.length) = true := decide_eq_true (by omega)
        have u4 : decide ((j : Int) < (q.length : Int)) = true := decide_eq_true (by omega)
        have i1 : (j : Int) < (p.length : Int) := by omega
        have i3 : (j : Int) < (q.length : Int) := by omega
        have i2 : (0 : Int) ≤ (j : Int) := by omega
        obtain ⟨x, hx⟩ : ∃ x, p[j]? = some x := ⟨_, List.getElem?_eq_getElem hlt⟩
        obtain ⟨y, hy⟩ : ∃ y, q[j]? = some y := ⟨_, List.getElem?_eq_getElem (by omega)⟩
        obtain ⟨bp, op, rfl, hbp, hcp⟩ := (HP.out) (by intro hz; rw [hz] at hx; simp at hx)
        obtain ⟨bq, oq, rfl, hbq, hcq⟩ := (HQ.out) (by intro hz; rw [hz] at hy; simp at hy)
        have ep : wr.cell? ⟨bp, op + j, none⟩ = some (.string x) := (HBl.out.cell (p := ⟨bp, op + j, none⟩) hbp).trans (hcp j x hx)
        have eq : wr.cell? ⟨bq, oq + j, none⟩ = some (.string y) := (HBl.out.cell (p := ⟨bq, oq + j, none⟩) hbq).trans (hcq j y hy)
        have HX := Lib.hid hx
        have HY := Lib.hid hy
        clear hcp hcq hx hy hl
        by_cases hxy : x = y
        · have hxx : (x.toList == y.toList) = true := bl_eq hxy
          clear hxy
          go_wp2_with fail
          go_quiet (fail)
          go_wp2_with fail
          go_roundw
          case rel => exact ⟨j + 1, hlt, by go_num, below_drewN HBl.out _⟩
          case measure => simp [intOf]; omega
        · have hxx : (x.toList == y.toList) = false := bl_ne hxy
          have HXY := Lib.hid hxy
          clear hxy
          go_wp2_with fail
          go_quiet (fail)
          go_wp2_with fail
          go_ret
          exact ⟨false, rfl, (fun _ e => HXY.out (by have h1 := HX.out; have h2 := HY.out; rw [e, h2] at h1; injection h1 with h1; exact h1.symm)), below_drewN HBl.out _⟩
      · have u1 : decide (j < p.length) = false := decide_eq_false hlt
        have u2 : decide ((j : Int) < (p.length : Int)) = false := decide_eq_false (by omega)
        have u3 : decide (j < q.length) = false := decide_eq_false (by omega)
        have u4 : decide ((j : Int) < (q.length : Int)) = false := decide_eq_false (by omega)
        clear hl
        go_wp2_with fail
        go_ret
        exact ⟨true, rfl, (fun h => by cases h), HBl.out⟩
  · have n1 : ((p.length : Int) != (q.length : Int)) = true := by simp; omega
    have HL := Lib.hid hl
    clear hl
    go_enter Tryd.func20, Tryd.ntmps20
    go_wp2_with fail
    go_ret
    exact ⟨false, rfl, (fun _ e => HL.out (by rw [e])), Below.refl _ _⟩
theorem SReads.take_ {w : World} {S : Nat → Prop} {A : Option Addr} {l : List ByteArray} (h : SReads w S A l) (k : Nat) : SReads w S A (l.take k) := by
  intro hn
  obtain ⟨b, o, e, hs, hc⟩ := h (by intro hz; rw [hz] at hn; simp at hn)
  exact ⟨b, o, e, hs, fun i s hi => hc i s (by rw [List.getElem?_take] at hi; split at hi; exact hi; cases hi)⟩
theorem parts_of : ∀ {p q : List ByteArray}, ¬ q <+: p → ¬ p <+: q → Parts p q
  | [], q, h1, h2 => absurd (List.nil_prefix) h2
  | a :: p, [], h1, h2 => absurd (List.nil_prefix) h1
  | a :: p, b :: q, h1, h2 => by
    by_cases hab : a = b
    · subst hab
      exact .inr (parts_of (fun h => h1 (List.cons_prefix_cons.2 ⟨rfl, h⟩)) (fun h => h2 (List.cons_prefix_cons.2 ⟨rfl, h⟩)))
    · exact .inl hab
end Go.Proofs.YthkpeomdklcnmaaDoor
