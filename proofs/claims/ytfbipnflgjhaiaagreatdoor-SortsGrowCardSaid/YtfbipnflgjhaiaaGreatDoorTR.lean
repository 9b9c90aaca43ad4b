/- Three bytes by value, opened. -/
import Derived.Deep.Slices
import Derived.Deep.Fields
import Derived.ChangeSame
import Derived.WideShapes
import Derived.OpenShut
import Derived.Test.YtfbipnflgjhaiaaGreatDoorEX
set_option linter.unusedVariables false
set_option maxRecDepth 100000
set_option maxHeartbeats 8000000
open Go.Lib (hid)
namespace Go.Proofs.YtfbipnflgjhaiaaGreatDoor
open Go.RowKit Go.ChangeShapes Go.WideShapes Go.Deep
set_option linter.constructorNameAsVariable false
section
variable {H : Type} {enc : TypeId × Value → H} {w : World} {spare : Nat → Bool} {held : Bool}
theorem tri_open {r : Reach} {b0 : Nat} {v : Value} {d : DataW H} {p : List MemPlace} (hv : Value.okWide Tryz.prog w r b0 22 v) (h : DataW.Trod enc Tryz.prog w 0 spare held 22 v d p) :
 ∃ a b c : Nat, v = .agg #[.int .u8 a, .int .u8 b, .int .u8 c] ∧ a ≤ 255 ∧ b ≤ 255 ∧ c ≤ 255 := by
 have hC : Tryz.prog.cellsOf 22 = 3 := by kernel_rfl
 have s1 : Tryz.prog.cellsOf 5 = 1 := by kernel_rfl
 simp only [Value.okWide, Tryz.underlying22] at hv
 obtain ⟨cs, rfl, hsz, _⟩ := hv
 obtain ⟨l⟩ := cs
 match l, hsz.trans hC with
 | [c0, c1, c2], _ =>
  obtain ⟨fuel, hf⟩ := h
  obtain ⟨xs, m, _, _, _, hlen, hg⟩ := DataW.trod_array Tryz.underlying22 hf
  have g0 := hg 0 (by omega)
  have g1 := hg 1 (by omega)
  have g2 := hg 2 (by omega)
  match xs, hlen with
  | [y0, y1, y2], _ =>
   rw [s1] at g0 g1 g2
   obtain ⟨k, e0, _, w0⟩ := DataW.trod_int Tryz.underlying5 (show DataW.trod enc Tryz.prog w 0 spare held m 5 [c0] = some y0 from g0)
   obtain ⟨n, e1, _, w1⟩ := DataW.trod_int Tryz.underlying5 (show DataW.trod enc Tryz.prog w 0 spare held m 5 [c1] = some y1 from g1)
   obtain ⟨q, e2, _, w2⟩ := DataW.trod_int Tryz.underlying5 (show DataW.trod enc Tryz.prog w 0 spare held m 5 [c2] = some y2 from g2)
   injection e0 with e0 _
   injection e1 with e1 _
   injection e2 with e2 _
   subst e0 e1 e2
   have q0 : IntKind.u8.min = 0 := rfl
   have q1 : IntKind.u8.max = 255 := rfl
   simp only [Lit.wf, decide_eq_true_eq, Bool.and_eq_true] at w0 w1 w2
   obtain ⟨a, rfl⟩ : ∃ a : Nat, k = a := ⟨k.toNat, by omega⟩
   obtain ⟨b, rfl⟩ : ∃ b : Nat, n = b := ⟨n.toNat, by omega⟩
   obtain ⟨c, rfl⟩ : ∃ c : Nat, q = c := ⟨q.toNat, by omega⟩
   exact ⟨a, b, c, rfl, by omega, by omega, by omega⟩
end
end Go.Proofs.YtfbipnflgjhaiaaGreatDoor
