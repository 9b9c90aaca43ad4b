/- A path picked by a number; the same steps, or not; does a path begin with another one: contracts. -/
import Derived.Test.YthkpeomdklcnmaaGreatDoorRall
import Derived.Test.YthkpeomdklcnmaaGreatDoorSets
import Derived.Outline
namespace Go.Proofs.YthkpeomdklcnmaaGreatDoor
open Go.RowKit
set_option linter.unusedVariables false

/-- what pick answers: a path that leads somewhere -/
def PickPost (t : T) (w : World) (e : Ending) (w' : World) : Prop := ∃ (q : List ByteArray) (y : T) (P : Option Addr) (cp : Nat), e = .returned (.slice P q.length cp) ∧ q.length ≤ cp ∧ q.length ≤ 40 ∧ (∀ s ∈ q, s.size ≤ 1000) ∧ Leads t q y ∧ SReads w' (· < w'.heap.size) P q ∧ Below w.heap.size w w'
set_option maxRecDepth 100000 in
set_option maxHeartbeats 4000000 in
theorem pick_any (t : T) (A : Option Addr) (c : Nat) (A' : Option Addr) (c' : Nat) (n : Nat) (w : World) (hn : t.Nice) (hn16 : n ≤ 65535) (hv : TV w (· < w.heap.size) t A c A' c') :
    Calls Tryz.prog 7 #[.agg #[.int .i64 t.kind, .bool t.tr, .int .i64 t.num, .string t.str, .slice A t.items.length c, .slice A' t.keys.length c'], .int .u16 n] w (PickPost t w) := by
  have hsz := hn.size
  have hpos := t.size_pos
  have HV := Lib.hid hv
  have HN := Lib.hid hn
  have hm : ((n : Int)).tmod (t.size : Int) = ((n % t.size : Nat) : Int) := by rw [Int.tmod_eq_emod_of_nonneg (by omega)]; omega
  have hml := Nat.mod_lt n hpos
  have hw16 : IntKind.i64.wrap (n : Int) = n := IntWalk.i64_in _ (by omega)
  have hne : ¬ (t.size : Int) = 0 := by omega
  have hne2 : ((t.size : Int) == 0) = false := beq_eq_false_iff_ne.2 hne
  clear hv hn
  generalize n % t.size = k at *
  go_enter Tryz.func7, Tryz.ntmps7
  go_upto_region 1 with fail
  have hW : Below w.heap.size w (w.alloc (.cells #[.int .i64 t.kind, .bool t.tr, .int .i64 t.num, .string t.str, .slice A t.items.length c, .slice A' t.keys.length c'] 29)) := (Below.refl _ _).alloc (Nat.le_refl _) _
  have hB0 : Blk (w.alloc (.cells #[.int .i64 t.kind, .bool t.tr, .int .i64 t.num, .string t.str, .slice A t.items.length c, .slice A' t.keys.length c'] 29)) w.heap.size 29 #[.int .i64 t.kind, .bool t.tr, .int .i64 t.num, .string t.str, .slice A t.items.length c, .slice A' t.keys.length c'] := Blk.new w _ _
  change Code.wp _ _ _ _ (w.alloc (.cells #[.int .i64 t.kind, .bool t.tr, .int .i64 t.num, .string t.str, .slice A t.items.length c, .slice A' t.keys.length c'] 29))
  generalize (w.alloc (.cells #[.int .i64 t.kind, .bool t.tr, .int .i64 t.num, .string t.str, .slice A t.items.length c, .slice A' t.keys.length c'] 29)) = W at *
  have HW := Lib.hid hW
  have hGW := hB0.lt
  obtain ⟨a0, a1, a2, a3, a4, a5⟩ : W.cell? ⟨w.heap.size, 0, none⟩ = some (.int .i64 t.kind) ∧ W.cell? ⟨w.heap.size, 1, none⟩ = some (.bool t.tr) ∧ W.cell? ⟨w.heap.size, 2, none⟩ = some (.int .i64 t.num) ∧ W.cell? ⟨w.heap.size, 3, none⟩ = some (.string t.str) ∧ W.cell? ⟨w.heap.size, 4, none⟩ = some (.slice A t.items.length c) ∧ W.cell? ⟨w.heap.size, 5, none⟩ = some (.slice A' t.keys.length c') := ⟨hB0.cell 0, hB0.cell 1, hB0.cell 2, hB0.cell 3, hB0.cell 4, hB0.cell 5⟩
  have HCall := Lib.hid (show Calls Tryz.prog 23 #[.agg #[.int .i64 t.kind, .bool t.tr, .int .i64 t.num, .string t.str, .slice A t.items.length c, .slice A' t.keys.length c'], .slice none 0 0] W (AllPost (· < w.heap.size) t [] W) from rall_at 80 (· < w.heap.size) t [] none 0 A c A' c' W (by omega) (Nat.le_refl _) HN.out.fine (Nat.le_refl _) (by simp) (fun b hb => by have : b < w.heap.size := hb; omega) (SReads.none_ _ _ _) (HV.out.under hW))
  clear hW hB0
  go_wp2_with fail
  refine HCall.out.mono ?_
  rintro e w2 ⟨A2, c2, rfl, hc2, hpr, hb2⟩
  have H2 := Lib.hid (HW.out.trans (hb2.mono HW.out.size))
  have hlen := parts_len t []
  obtain ⟨qx, hqx⟩ : ∃ qx, (t.parts [])[k]? = some qx := ⟨_, List.getElem?_eq_getElem (by omega)⟩
  obtain ⟨b, o, P, cp, rfl, hbS, hcell, hlc, hrd⟩ := hpr.at_ hqx
  obtain ⟨q, h1, h2, h3, h4⟩ := parts_leads t.size t [] (Nat.le_refl _) HN.out.good HN.out.fit (by omega) qx (List.mem_of_getElem? hqx)
  rw [List.nil_append] at h1
  rw [h1] at hcell hlc hrd
  have hs2 := hb2.size
  have HR := Lib.hid (hrd.wide fun b hb => show b < w2.heap.size by rcases hb with h | h; have : b < w.heap.size := h; omega; exact h.2)
  have HL := Lib.hid h2
  have H4 := Lib.hid h4
  have i1 : (k : Int) < (t.size : Int) := by omega
  have i2 : (0 : Int) ≤ (k : Int) := by omega
  clear hpr hb2 hqx hrd h1 h2 h4 hbS hlen a0 a1 a2 a3 a4 a5
  go_wp2_with fail
  go_ret
  exact ⟨q, qx.2, P, cp, rfl, hlc, by omega, H4.out, HL.out, HR.out, H2.out⟩
theorem SReads.take_ {w : World} {S : Nat → Prop} {A : Option Addr} {l : List ByteArray} (h : SReads w S A l) (k : Nat) : SReads w S A (l.take k) := by
  intro hn
  obtain ⟨b, o, e, hs, hc⟩ := h (by intro hz; rw [hz] at hn; simp at hn)
  exact ⟨b, o, e, hs, fun i s hi => hc i s (by rw [List.getElem?_take] at hi; split at hi; exact hi; cases hi)⟩
theorem parts_of : ∀ {p q : List ByteArray}, ¬ q <+: p → ¬ p <+: q → Parts p q
  | [], q, h1, h2 => absurd (List.nil_prefix) h2
  | a :: p, [], h1, h2 => absurd (List.nil_prefix) h1
  | a :: p, b :: q, h1, h2 => by
    by_cases hab : a = b
    · subst hab
      exact .inr (parts_of (fun h => h1 (List.cons_prefix_cons.2 ⟨rfl, h⟩)) (fun h => h2 (List.cons_prefix_cons.2 ⟨rfl, h⟩)))
    · exact .inl hab
end Go.Proofs.YthkpeomdklcnmaaGreatDoor
