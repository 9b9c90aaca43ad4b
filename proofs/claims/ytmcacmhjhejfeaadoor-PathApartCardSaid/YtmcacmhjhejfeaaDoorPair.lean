/- Two numbers of 16 bits by value, opened. -/
import Derived.Test.YtmcacmhjhejfeaaDoorOpen
import Derived.WideShapes
import Derived.OpenShut
namespace Go.Proofs.YtmcacmhjhejfeaaDoor
open Go.RowKit Go.ChangeShapes Go.WideShapes Go.Deep
set_option linter.constructorNameAsVariable false

section
variable {H : Type} {enc : TypeId × Value → H} {w : World} {spare : Nat → Bool} {held : Bool}
set_option maxRecDepth 100000 in
theorem pair_open {r : Reach} {b0 : Nat} {v : Value} {d : DataW H} {p : List MemPlace} (hv : Value.okWide Tryd.prog w r b0 58 v) (h : DataW.Trod enc Tryd.prog w 0 spare held 58 v d p) :
    ∃ a b : Nat, v = .agg #[.int .u16 a, .int .u16 b] ∧ a ≤ 65535 ∧ b ≤ 65535 := by
  have hC : Tryd.prog.cellsOf 58 = 2 := by kernel_rfl
  have s1 : Tryd.prog.cellsOf 23 = 1 := by kernel_rfl
  simp only [Value.okWide, Tryd.underlying58] at hv
  obtain ⟨cs, rfl, hsz, _⟩ := hv
  obtain ⟨l⟩ := cs
  match l, hsz.trans hC with
  | [c0, c1], _ =>
    obtain ⟨fuel, hf⟩ := h
    obtain ⟨xs, m, _, _, _, hlen, hg⟩ := DataW.trod_array Tryd.underlying58 hf
    have g0 := hg 0 (by omega)
    have g1 := hg 1 (by omega)
    match xs, hlen with
    | [y0, y1], _ =>
      rw [s1] at g0 g1
      obtain ⟨k, e0, _, w0⟩ := DataW.trod_int Tryd.underlying23 (show DataW.trod enc Tryd.prog w 0 spare held m 23 [c0] = some y0 from g0)
      obtain ⟨n, e1, _, w1⟩ := DataW.trod_int Tryd.underlying23 (show DataW.trod enc Tryd.prog w 0 spare held m 23 [c1] = some y1 from g1)
      injection e0 with e0 _
      injection e1 with e1 _
      subst e0 e1
      have q0 : IntKind.u16.min = 0 := rfl
      have q1 : IntKind.u16.max = 65535 := rfl
      simp only [Lit.wf, decide_eq_true_eq, Bool.and_eq_true] at w0 w1
      obtain ⟨a, rfl⟩ : ∃ a : Nat, k = a := ⟨k.toNat, by omega⟩
      obtain ⟨b, rfl⟩ : ∃ b : Nat, n = b := ⟨n.toNat, by omega⟩
      exact ⟨a, b, rfl, by omega, by omega⟩
end
end Go.Proofs.YtmcacmhjhejfeaaDoor
