/- A path's number and steps by value, opened. -/
import Derived.Test.YthkpeomdklcnmaaDoorOpen
import Derived.WideShapes
import Derived.OpenShut
namespace Go.Proofs.YthkpeomdklcnmaaDoor
open Go.RowKit Go.ChangeShapes Go.WideShapes Go.Deep
set_option linter.constructorNameAsVariable false

section
variable {H : Type} {enc : TypeId × Value → H} {w : World} {spare : Nat → Bool} {held : Bool}
set_option maxRecDepth 100000 in
theorem where_open {r : Reach} {b0 : Nat} {v : Value} {d : DataW H} {p : List MemPlace} (hv : Value.okWide Tryd.prog w r b0 44 v) (h : DataW.Trod enc Tryd.prog w 0 spare held 44 v d p) :
    ∃ (a : Nat) (l : List ByteArray) (A : Option Addr) (c : Nat), v = .agg #[.int .u16 a, .slice A l.length c] ∧ a ≤ 65535 ∧ l.length ≤ c ∧ c ≤ maxLen ∧ SReads w (· < w.heap.size) A l ∧ ∀ s ∈ l, s.size ≤ maxLen := by
  have hC : Tryd.prog.cellsOf 44 = 2 := by kernel_rfl
  have s0 : Tryd.prog.cellsOf 42 = 1 := by kernel_rfl
  have s1 : Tryd.prog.cellsOf 23 = 1 := by kernel_rfl
  obtain ⟨cs, rfl, hsz⟩ := okWide_struct Tryd.underlying44 hv
  obtain ⟨l⟩ := cs
  match l, hsz.trans hC with
  | [c0, c1], _ =>
    obtain ⟨fuel, hf⟩ := h
    obtain ⟨xs, m, _, _, _, hlen, hg⟩ := DataW.trod_struct Tryd.underlying44 hf
    have g0 := hg 0 _ rfl
    have g1 := hg 1 _ rfl
    match xs, hlen with
    | [y0, y1], _ =>
      have g0 : DataW.trod enc Tryd.prog w 0 spare held m 42 (([c0, c1].drop 0).take (Tryd.prog.cellsOf 42)) = some y0 := g0
      rw [s0] at g0
      have g1 : DataW.trod enc Tryd.prog w 0 spare held m 23 (([c0, c1].drop 1).take (Tryd.prog.cellsOf 23)) = some y1 := g1
      rw [s1] at g1
      obtain ⟨k, e0, _, w0⟩ := DataW.trod_int Tryd.underlying42 (show DataW.trod enc Tryd.prog w 0 spare held m 42 [c0] = some y0 from g0)
      obtain ⟨K, mk, ck, rfl⟩ := slice_cell Tryd.underlying23 (show DataW.trod enc Tryd.prog w 0 spare held m 23 [c1] = some y1 from g1)
      obtain ⟨hk1, hk2, l, rfl, hk3, hk4⟩ := strs_open (show DataW.trod enc Tryd.prog w 0 spare held m 23 [.slice K mk ck] = some y1 from g1)
      injection e0 with e0 _
      subst e0
      have q0 : IntKind.u16.min = 0 := rfl
      have q1 : IntKind.u16.max = 65535 := rfl
      simp only [Lit.wf, decide_eq_true_eq, Bool.and_eq_true] at w0
      obtain ⟨a, rfl⟩ : ∃ a : Nat, k = a := ⟨k.toNat, by omega⟩
      exact ⟨a, l, K, ck, rfl, by omega, hk1, hk2, hk3, hk4⟩
end
end Go.Proofs.YthkpeomdklcnmaaDoor
