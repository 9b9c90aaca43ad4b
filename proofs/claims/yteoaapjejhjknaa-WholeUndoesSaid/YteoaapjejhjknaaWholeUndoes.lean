/- WholeUndoes: what is added, and taken away again, leaves what was there; so does what is multiplied, and divided again; the order of what is added doesn't matter. No conditions: any two int64. -/
import Derived.Test.YteoaapjejhjknaaRows
import Derived.WalkKit
import Derived.ProofKit
import Derived.OpenShut
import Derived.Below
import Derived.Test.YteoaapjejhjknaaInts
namespace Go.Proofs.Yteoaapjejhjknaa.wholeUndoes
open Go.ChangeShapes Go.WideShapes Go.ChangeAt Go.RowKit
set_option linter.unusedVariables false      -- a walk need not use every 'w<i>' (that an integer argument fits its kind)

theorem own : ownKnob Try.prog.godebug = none := by kernel_rfl


set_option maxRecDepth 100000 in
set_option maxHeartbeats 2000000 in
theorem walk (a b : Int) (w0 : (Lit.int .i64 a).wf = true) (w1 : (Lit.int .i64 b).wf = true) (w : World) :
    Calls Try.prog 7 #[.int .i64 a, .int .i64 b] w fun e w' => e = .returned (.bool true) ∧ Below w.heap.size w w' := by
  have ia := Lib.hid (in_of a w0)
  have ib := Lib.hid (in_of b w1)
  clear w0 w1
  by_cases hs : In64 (a + b)
  · obtain ⟨n, Hn, En⟩ : ∃ n : Int, Hid (In64 n) ∧ Hid (a + b = n) := ⟨_, Lib.hid hs, Lib.hid rfl⟩
    clear hs
    by_cases hm : In64 (a * b)
    · obtain ⟨p, Hp, Ep⟩ : ∃ p : Int, Hid (In64 p) ∧ Hid (a * b = p) := ⟨_, Lib.hid hm, Lib.hid rfl⟩
      clear hm
      by_cases h0 : b = 0
      · have t0 : (b != 0) = false := by simp; exact h0
        clear h0
        go_enter Try.func7, Try.ntmps7
        go_wp2_with fail
        refine (awake_any _).mono ?_
        rintro e w' ⟨rfl, rfl⟩
        go_wp2_with fail
        refine (add_is a b n _ ia.out ib.out Hn.out En.out).mono ?_
        rintro e w' ⟨rfl, rfl⟩
        go_wp2_with fail
        refine (sub_is n b a _ Hn.out ib.out ia.out (by have := En.out; omega)).mono ?_
        rintro e w' ⟨rfl, rfl⟩
        go_wp2_with fail
        refine (mul_is a b p _ ia.out ib.out Hp.out Ep.out).mono ?_
        rintro e w' ⟨rfl, rfl⟩
        go_wp2_with fail
        refine (add_is a b n _ ia.out ib.out Hn.out En.out).mono ?_
        rintro e w' ⟨rfl, rfl⟩
        go_wp2_with fail
        refine (add_is b a n _ ib.out ia.out Hn.out (by have := En.out; omega)).mono ?_
        rintro e w' ⟨rfl, rfl⟩
        go_wp2_with fail
        go_ret
        exact ⟨rfl, Below.refl _ _⟩
      · have t0 : (b != 0) = true := by simp; exact h0
        have H0 := Lib.hid h0
        have Hq := Lib.hid (show ¬ (p = -9223372036854775808 ∧ b = -1) by
          rintro ⟨rfl, rfl⟩
          have h1 := Ep.out
          have h2 := ia.out
          unfold In64 at h2
          omega)
        have Eq := Lib.hid (show p.tdiv b = a by rw [← Ep.out, Int.mul_tdiv_cancel _ h0])
        clear h0
        go_enter Try.func7, Try.ntmps7
        go_wp2_with fail
        refine (awake_any _).mono ?_
        rintro e w' ⟨rfl, rfl⟩
        go_wp2_with fail
        refine (add_is a b n _ ia.out ib.out Hn.out En.out).mono ?_
        rintro e w' ⟨rfl, rfl⟩
        go_wp2_with fail
        refine (sub_is n b a _ Hn.out ib.out ia.out (by have := En.out; omega)).mono ?_
        rintro e w' ⟨rfl, rfl⟩
        go_wp2_with fail
        refine (mul_is a b p _ ia.out ib.out Hp.out Ep.out).mono ?_
        rintro e w' ⟨rfl, rfl⟩
        go_wp2_with fail
        refine (div_is p b a _ Hp.out H0.out Hq.out Eq.out).mono ?_
        rintro e w' ⟨rfl, rfl⟩
        go_wp2_with fail
        refine (add_is a b n _ ia.out ib.out Hn.out En.out).mono ?_
        rintro e w' ⟨rfl, rfl⟩
        go_wp2_with fail
        refine (add_is b a n _ ib.out ia.out Hn.out (by have := En.out; omega)).mono ?_
        rintro e w' ⟨rfl, rfl⟩
        go_wp2_with fail
        go_ret
        exact ⟨rfl, Below.refl _ _⟩
    · have Hp := Lib.hid hm
      clear hm
      go_enter Try.func7, Try.ntmps7
      go_wp2_with fail
      refine (awake_any _).mono ?_
      rintro e w' ⟨rfl, rfl⟩
      go_wp2_with fail
      refine (add_is a b n _ ia.out ib.out Hn.out En.out).mono ?_
      rintro e w' ⟨rfl, rfl⟩
      go_wp2_with fail
      refine (sub_is n b a _ Hn.out ib.out ia.out (by have := En.out; omega)).mono ?_
      rintro e w' ⟨rfl, rfl⟩
      go_wp2_with fail
      refine (mul_over a b _ ia.out ib.out Hp.out).mono ?_
      rintro e w' ⟨rfl, rfl⟩
      go_wp2_with fail
      refine (add_is a b n _ ia.out ib.out Hn.out En.out).mono ?_
      rintro e w' ⟨rfl, rfl⟩
      go_wp2_with fail
      refine (add_is b a n _ ib.out ia.out Hn.out (by have := En.out; omega)).mono ?_
      rintro e w' ⟨rfl, rfl⟩
      go_wp2_with fail
      go_ret
      exact ⟨rfl, Below.refl _ _⟩
  · have Hn := Lib.hid hs
    clear hs
    by_cases hm : In64 (a * b)
    · obtain ⟨p, Hp, Ep⟩ : ∃ p : Int, Hid (In64 p) ∧ Hid (a * b = p) := ⟨_, Lib.hid hm, Lib.hid rfl⟩
      clear hm
      by_cases h0 : b = 0
      · have t0 : (b != 0) = false := by simp; exact h0
        clear h0
        go_enter Try.func7, Try.ntmps7
        go_wp2_with fail
        refine (awake_any _).mono ?_
        rintro e w' ⟨rfl, rfl⟩
        go_wp2_with fail
        refine (add_over a b _ ia.out ib.out Hn.out).mono ?_
        rintro e w' ⟨rfl, rfl⟩
        go_wp2_with fail
        refine (mul_is a b p _ ia.out ib.out Hp.out Ep.out).mono ?_
        rintro e w' ⟨rfl, rfl⟩
        go_wp2_with fail
        refine (add_over a b _ ia.out ib.out Hn.out).mono ?_
        rintro e w' ⟨rfl, rfl⟩
        go_wp2_with fail
        refine (add_over b a _ ib.out ia.out (by rw [Int.add_comm]; exact Hn.out)).mono ?_
        rintro e w' ⟨rfl, rfl⟩
        go_wp2_with fail
        go_ret
        exact ⟨rfl, Below.refl _ _⟩
      · have t0 : (b != 0) = true := by simp; exact h0
        have H0 := Lib.hid h0
        have Hq := Lib.hid (show ¬ (p = -9223372036854775808 ∧ b = -1) by
          rintro ⟨rfl, rfl⟩
          have h1 := Ep.out
          have h2 := ia.out
          unfold In64 at h2
          omega)
        have Eq := Lib.hid (show p.tdiv b = a by rw [← Ep.out, Int.mul_tdiv_cancel _ h0])
        clear h0
        go_enter Try.func7, Try.ntmps7
        go_wp2_with fail
        refine (awake_any _).mono ?_
        rintro e w' ⟨rfl, rfl⟩
        go_wp2_with fail
        refine (add_over a b _ ia.out ib.out Hn.out).mono ?_
        rintro e w' ⟨rfl, rfl⟩
        go_wp2_with fail
        refine (mul_is a b p _ ia.out ib.out Hp.out Ep.out).mono ?_
        rintro e w' ⟨rfl, rfl⟩
        go_wp2_with fail
        refine (div_is p b a _ Hp.out H0.out Hq.out Eq.out).mono ?_
        rintro e w' ⟨rfl, rfl⟩
        go_wp2_with fail
        refine (add_over a b _ ia.out ib.out Hn.out).mono ?_
        rintro e w' ⟨rfl, rfl⟩
        go_wp2_with fail
        refine (add_over b a _ ib.out ia.out (by rw [Int.add_comm]; exact Hn.out)).mono ?_
        rintro e w' ⟨rfl, rfl⟩
        go_wp2_with fail
        go_ret
        exact ⟨rfl, Below.refl _ _⟩
    · have Hp := Lib.hid hm
      clear hm
      go_enter Try.func7, Try.ntmps7
      go_wp2_with fail
      refine (awake_any _).mono ?_
      rintro e w' ⟨rfl, rfl⟩
      go_wp2_with fail
      refine (add_over a b _ ia.out ib.out Hn.out).mono ?_
      rintro e w' ⟨rfl, rfl⟩
      go_wp2_with fail
      refine (mul_over a b _ ia.out ib.out Hp.out).mono ?_
      rintro e w' ⟨rfl, rfl⟩
      go_wp2_with fail
      refine (add_over a b _ ia.out ib.out Hn.out).mono ?_
      rintro e w' ⟨rfl, rfl⟩
      go_wp2_with fail
      refine (add_over b a _ ib.out ia.out (by rw [Int.add_comm]; exact Hn.out)).mono ?_
      rintro e w' ⟨rfl, rfl⟩
      go_wp2_with fail
      go_ret
      exact ⟨rfl, Below.refl _ _⟩

set_option maxRecDepth 100000 in
theorem lifted (os : Os) (started : os.Started) (H : Type) (enc : TypeId × Value → H) :
    ReturnsInHanded {} Try.checked os 7 .any (Rows.wholeUndoesSpec.pre6 enc Try.prog Try.f7 Rows.wholeUndoesRow.domain false) (Rows.wholeUndoesSpec.post enc Try.prog Try.f7 false true false false) := by
  refine returnsInHanded_of_change (C := Try.checked) own started (by kernel_rfl) Try.func7
    (ChangeSpec.witness6 (enc := enc) (C := Try.checked) false ⟨#[], #[.int .i64 0, .int .i64 0], []⟩ 8 (by kernel_rfl) (by kernel_rfl) (by kernel_rfl) (by kernel_rfl)) ?_
  intro W base args ds gs before hval0 hW hcnd _
  have hval : ∀ (j : Nat) t v, Try.f7.params[j]? = some t → args[j]? = some v → Value.okWide Try.prog W .any base t v := hval0
  have hW' := hW
  obtain ⟨p, q, hA0, hV, rfl, hfz, hnd⟩ := hW
  have hA : DataW.TrodAll enc Try.prog W 0 (fun _ => true) true Try.f7.params.toList args.toList ds p := hA0
  rw [Try.params7] at hA hval
  obtain ⟨v0, vs0, d0, ds0, p0, q0, hargs, rfl, rfl, h0, r0⟩ := trodAll_cons hA
  obtain ⟨v1, vs1, d1, ds1, p1, q1, rfl, rfl, rfl, h1, r1⟩ := trodAll_cons r0
  obtain ⟨rfl, rfl, rfl⟩ := trodAll_nil r1
  obtain rfl : args = #[v0, v1] := by cases args; simp_all
  obtain ⟨rfl, rfl⟩ := trodVars_none hV
  obtain ⟨a0, rfl, rfl, rfl, w0⟩ := open_int Try.underlying2 (hval 0 2 v0 rfl rfl) h0
  obtain ⟨a1, rfl, rfl, rfl, w1⟩ := open_int Try.underlying2 (hval 1 2 v1 rfl rfl) h1
  clear hA0 hval0
  simp only [List.append_nil] at hW'
  refine (walk a0 a1 w0 w1 W).mono fun e W' ⟨he, bel⟩ => ?_
  subst he
  exact ⟨_, rfl, _, _, _, [], _, [], hW', trodAll_mk1 (shut_bool Try.underlying4 _), (trodAll_cons_mk (shut_int Try.underlying2 w0) (trodAll_cons_mk (shut_int Try.underlying2 w1) trodAll_mk0)), rfl, bel.frame _, fun h => by cases h⟩

theorem over : Rows.wholeUndoesRow.holds Try.pinned (OpenSpec.ofChange Rows.wholeUndoesSpec) :=
  OpenClaim.holds_of_wide 7 Try.f7 rfl rfl rfl rfl rfl rfl rfl ⟨rfl, rfl, rfl, rfl, rfl⟩ rfl rfl rfl rfl rfl (by kernel_rfl) Try.func7 (by kernel_rfl)
    (of_decide_eq_true (by kernel_rfl)) (by unfold Func.isWrapper; first | (rw [if_pos (by decide +kernel)]; kernel_rfl) | (rw [if_neg (by decide +kernel)]; exact ⟨rfl, rfl⟩))
    (fun os started H enc _ => lifted os started H enc)

/-- The statement. -/
theorem proved : Rows.WholeUndoesSaid :=
  over
end Go.Proofs.Yteoaapjejhjknaa.wholeUndoes
