/- DrawOrders: how any three sequences are in the order is the document's; it is a whole one. No conditions: any three slices of ints (the law itself asks nothing of more than 60 numbers each). -/
import Derived.Test.YtkccciacngjhfaaRows
import Derived.Test.YtkccciacngjhfaaDwG
import Derived.Test.YtkccciacngjhfaaDwF
import Derived.WalkKit
import Derived.ProofKit
import Derived.OpenShut
import Derived.ChangeOld
import Derived.Below
namespace Go.Proofs.Ytkccciacngjhfaa.drawOrders
open Go.ChangeShapes Go.WideShapes Go.ChangeAt Go.RowKit
set_option linter.unusedVariables false
attribute [local go_sem ↓] Go.wp_at_zero Go.wp_at_succ

theorem own : ownKnob Try.prog.godebug = none := by kernel_rfl
theorem laidOut : laidOutB Try.prog = true := by kernel_rfl

set_option maxRecDepth 100000 in
set_option maxHeartbeats 4000000 in
theorem walk (l : List Int) (A : Option Addr) (c : Nat) (m : List Int) (B : Option Addr) (d : Nat) (n : List Int) (C : Option Addr) (f : Nat) (w : World) (hnl : A = none → c = 0 ∧ l = []) (hrl : RI w w.heap.size A l) (hnm : B = none → d = 0 ∧ m = []) (hrm : RI w w.heap.size B m) (hnn : C = none → f = 0 ∧ n = []) (hrn : RI w w.heap.size C n) :
    Calls Try.prog 4 #[.slice A l.length c, .slice B m.length d, .slice C n.length f] w fun e w' => e = .returned (.bool true) ∧ Below w.heap.size w w' := by
  have Rl := Lib.hid hrl
  have Rm := Lib.hid hrm
  have Rn := Lib.hid hrn
  clear hnl hrl hnm hrm hnn hrn
  by_cases h1 : l.length ≤ 60
  · by_cases h2 : m.length ≤ 60
    · by_cases h3 : n.length ≤ 60
      · have tl : decide ((60 : Int) < (l.length : Int)) = false := decide_eq_false (by omega)
        have tm : decide ((60 : Int) < (m.length : Int)) = false := decide_eq_false (by omega)
        have tn : decide ((60 : Int) < (n.length : Int)) = false := decide_eq_false (by omega)
        have hx3 := ordI_three l m
        have hsw := ordI_swap l m
        have htr := ordI_trans l m n
        have HLM := Lib.hid (show lessI l m = decide (ordI l m < 0) from rfl)
        have HML := Lib.hid (show lessI m l = decide (ordI m l < 0) from rfl)
        generalize hx : ordI l m = x at *
        generalize hx2 : ordI m l = x2 at *
        generalize hy : ordI m n = y at *
        generalize hz : ordI l n = z at *
        have HX := Lib.hid hx
        have HX2 := Lib.hid hx2
        have HY := Lib.hid hy
        have HZ := Lib.hid hz
        clear hx hx2 hy hz
        subst hsw
        go_enter Try.func4, Try.ntmps4
        go_wp2_with fail
        refine (awake12_any _).mono ?_
        rintro e w1 ⟨rfl, hb⟩
        have HB1 := Lib.hid hb
        have Rl1 := Lib.hid (Rl.out.onto hb)
        have Rm1 := Lib.hid (Rm.out.onto hb)
        have Rn1 := Lib.hid (Rn.out.onto hb)
        clear hb
        rcases hx3 with rfl | rfl | rfl
        · by_cases hy0 : 0 < y
          · have ty : decide (0 < y) = true := decide_eq_true hy0
            go_wp2_with fail
            refine (rlessI_any l m A B c d _ (by omega) Rl1.out Rm1.out).mono ?_
            rintro e w2 ⟨rfl, hb⟩
            rw [show lessI l m = true from HLM.out]
            have HB2 := Lib.hid (HB1.out.trans (hb.mono HB1.out.size))
            have Rl2 := Lib.hid (Rl1.out.onto hb)
            have Rm2 := Lib.hid (Rm1.out.onto hb)
            have Rn2 := Lib.hid (Rn1.out.onto hb)
            clear hb
            go_wp2_with fail
            refine (dorder_any l m A B c d _ (by omega) Rl2.out Rm2.out).mono ?_
            rintro e w' ⟨rfl, rfl⟩
            rw [HX.out]
            go_wp2_with fail
            refine (dorder_any m l B A d c _ (by omega) Rm2.out Rl2.out).mono ?_
            rintro e w' ⟨rfl, rfl⟩
            rw [HX2.out]
            go_wp2_with fail
            refine (dorder_any m n B C d f _ (by omega) Rm2.out Rn2.out).mono ?_
            rintro e w' ⟨rfl, rfl⟩
            rw [HY.out]
            go_wp2_with fail
            go_ret
            exact ⟨rfl, HB2.out⟩
          · have ty : decide (0 < y) = false := decide_eq_false hy0
            have tz : decide (z ≤ 0) = true := decide_eq_true (htr (by decide) (by omega))
            go_wp2_with fail
            refine (rlessI_any l m A B c d _ (by omega) Rl1.out Rm1.out).mono ?_
            rintro e w2 ⟨rfl, hb⟩
            rw [show lessI l m = true from HLM.out]
            have HB2 := Lib.hid (HB1.out.trans (hb.mono HB1.out.size))
            have Rl2 := Lib.hid (Rl1.out.onto hb)
            have Rm2 := Lib.hid (Rm1.out.onto hb)
            have Rn2 := Lib.hid (Rn1.out.onto hb)
            clear hb
            go_wp2_with fail
            refine (dorder_any l m A B c d _ (by omega) Rl2.out Rm2.out).mono ?_
            rintro e w' ⟨rfl, rfl⟩
            rw [HX.out]
            go_wp2_with fail
            refine (dorder_any m l B A d c _ (by omega) Rm2.out Rl2.out).mono ?_
            rintro e w' ⟨rfl, rfl⟩
            rw [HX2.out]
            go_wp2_with fail
            refine (dorder_any m n B C d f _ (by omega) Rm2.out Rn2.out).mono ?_
            rintro e w' ⟨rfl, rfl⟩
            rw [HY.out]
            go_wp2_with fail
            refine (dorder_any l n A C c f _ (by omega) Rl2.out Rn2.out).mono ?_
            rintro e w' ⟨rfl, rfl⟩
            rw [HZ.out]
            go_wp2_with fail
            go_ret
            exact ⟨rfl, HB2.out⟩
        · by_cases hy0 : 0 < y
          · have ty : decide (0 < y) = true := decide_eq_true hy0
            go_wp2_with fail
            refine (rlessI_any l m A B c d _ (by omega) Rl1.out Rm1.out).mono ?_
            rintro e w2 ⟨rfl, hb⟩
            rw [show lessI l m = false from HLM.out]
            have HB2 := Lib.hid (HB1.out.trans (hb.mono HB1.out.size))
            have Rl2 := Lib.hid (Rl1.out.onto hb)
            have Rm2 := Lib.hid (Rm1.out.onto hb)
            have Rn2 := Lib.hid (Rn1.out.onto hb)
            clear hb
            go_wp2_with fail
            refine (rlessI_any m l B A d c _ (by omega) Rm2.out Rl2.out).mono ?_
            rintro e w3 ⟨rfl, hb⟩
            rw [show lessI m l = false from HML.out]
            have HB3 := Lib.hid (HB2.out.trans (hb.mono HB2.out.size))
            have Rl3 := Lib.hid (Rl2.out.onto hb)
            have Rm3 := Lib.hid (Rm2.out.onto hb)
            have Rn3 := Lib.hid (Rn2.out.onto hb)
            clear hb
            go_wp2_with fail
            refine (dorder_any l m A B c d _ (by omega) Rl3.out Rm3.out).mono ?_
            rintro e w' ⟨rfl, rfl⟩
            rw [HX.out]
            go_wp2_with fail
            refine (dorder_any m l B A d c _ (by omega) Rm3.out Rl3.out).mono ?_
            rintro e w' ⟨rfl, rfl⟩
            rw [HX2.out]
            go_wp2_with fail
            refine (dorder_any m n B C d f _ (by omega) Rm3.out Rn3.out).mono ?_
            rintro e w' ⟨rfl, rfl⟩
            rw [HY.out]
            go_wp2_with fail
            go_ret
            exact ⟨rfl, HB3.out⟩
          · have ty : decide (0 < y) = false := decide_eq_false hy0
            have tz : decide (z ≤ 0) = true := decide_eq_true (htr (by decide) (by omega))
            go_wp2_with fail
            refine (rlessI_any l m A B c d _ (by omega) Rl1.out Rm1.out).mono ?_
            rintro e w2 ⟨rfl, hb⟩
            rw [show lessI l m = false from HLM.out]
            have HB2 := Lib.hid (HB1.out.trans (hb.mono HB1.out.size))
            have Rl2 := Lib.hid (Rl1.out.onto hb)
            have Rm2 := Lib.hid (Rm1.out.onto hb)
            have Rn2 := Lib.hid (Rn1.out.onto hb)
            clear hb
            go_wp2_with fail
            refine (rlessI_any m l B A d c _ (by omega) Rm2.out Rl2.out).mono ?_
            rintro e w3 ⟨rfl, hb⟩
            rw [show lessI m l = false from HML.out]
            have HB3 := Lib.hid (HB2.out.trans (hb.mono HB2.out.size))
            have Rl3 := Lib.hid (Rl2.out.onto hb)
            have Rm3 := Lib.hid (Rm2.out.onto hb)
            have Rn3 := Lib.hid (Rn2.out.onto hb)
            clear hb
            go_wp2_with fail
            refine (dorder_any l m A B c d _ (by omega) Rl3.out Rm3.out).mono ?_
            rintro e w' ⟨rfl, rfl⟩
            rw [HX.out]
            go_wp2_with fail
            refine (dorder_any m l B A d c _ (by omega) Rm3.out Rl3.out).mono ?_
            rintro e w' ⟨rfl, rfl⟩
            rw [HX2.out]
            go_wp2_with fail
            refine (dorder_any m n B C d f _ (by omega) Rm3.out Rn3.out).mono ?_
            rintro e w' ⟨rfl, rfl⟩
            rw [HY.out]
            go_wp2_with fail
            refine (dorder_any l n A C c f _ (by omega) Rl3.out Rn3.out).mono ?_
            rintro e w' ⟨rfl, rfl⟩
            rw [HZ.out]
            go_wp2_with fail
            go_ret
            exact ⟨rfl, HB3.out⟩
        · go_wp2_with fail
          refine (rlessI_any l m A B c d _ (by omega) Rl1.out Rm1.out).mono ?_
          rintro e w2 ⟨rfl, hb⟩
          rw [show lessI l m = false from HLM.out]
          have HB2 := Lib.hid (HB1.out.trans (hb.mono HB1.out.size))
          have Rl2 := Lib.hid (Rl1.out.onto hb)
          have Rm2 := Lib.hid (Rm1.out.onto hb)
          have Rn2 := Lib.hid (Rn1.out.onto hb)
          clear hb
          go_wp2_with fail
          refine (rlessI_any m l B A d c _ (by omega) Rm2.out Rl2.out).mono ?_
          rintro e w3 ⟨rfl, hb⟩
          rw [show lessI m l = true from HML.out]
          have HB3 := Lib.hid (HB2.out.trans (hb.mono HB2.out.size))
          have Rl3 := Lib.hid (Rl2.out.onto hb)
          have Rm3 := Lib.hid (Rm2.out.onto hb)
          have Rn3 := Lib.hid (Rn2.out.onto hb)
          clear hb
          go_wp2_with fail
          refine (dorder_any l m A B c d _ (by omega) Rl3.out Rm3.out).mono ?_
          rintro e w' ⟨rfl, rfl⟩
          rw [HX.out]
          go_wp2_with fail
          refine (dorder_any m l B A d c _ (by omega) Rm3.out Rl3.out).mono ?_
          rintro e w' ⟨rfl, rfl⟩
          rw [HX2.out]
          go_wp2_with fail
          go_ret
          exact ⟨rfl, HB3.out⟩
      · have tl : decide ((60 : Int) < (l.length : Int)) = false := decide_eq_false (by omega)
        have tm : decide ((60 : Int) < (m.length : Int)) = false := decide_eq_false (by omega)
        have t0 : decide ((60 : Int) < (n.length : Int)) = true := decide_eq_true (by omega)
        go_enter Try.func4, Try.ntmps4
        go_wp2_with fail
        refine (awake12_any _).mono ?_
        rintro e w1 ⟨rfl, hb1⟩
        have HB1 := Lib.hid hb1
        clear hb1
        go_wp2_with fail
        refine (awake12_any _).mono ?_
        rintro e w2 ⟨rfl, hb2⟩
        have HB2 := Lib.hid (HB1.out.trans (hb2.mono HB1.out.size))
        clear hb2
        go_wp2_with fail
        go_ret
        exact ⟨rfl, HB2.out⟩
    · have tl : decide ((60 : Int) < (l.length : Int)) = false := decide_eq_false (by omega)
      have t0 : decide ((60 : Int) < (m.length : Int)) = true := decide_eq_true (by omega)
      go_enter Try.func4, Try.ntmps4
      go_wp2_with fail
      refine (awake12_any _).mono ?_
      rintro e w1 ⟨rfl, hb1⟩
      have HB1 := Lib.hid hb1
      clear hb1
      go_wp2_with fail
      refine (awake12_any _).mono ?_
      rintro e w2 ⟨rfl, hb2⟩
      have HB2 := Lib.hid (HB1.out.trans (hb2.mono HB1.out.size))
      clear hb2
      go_wp2_with fail
      go_ret
      exact ⟨rfl, HB2.out⟩
  · have t0 : decide ((60 : Int) < (l.length : Int)) = true := decide_eq_true (by omega)
    go_enter Try.func4, Try.ntmps4
    go_wp2_with fail
    refine (awake12_any _).mono ?_
    rintro e w1 ⟨rfl, hb1⟩
    have HB1 := Lib.hid hb1
    clear hb1
    go_wp2_with fail
    refine (awake12_any _).mono ?_
    rintro e w2 ⟨rfl, hb2⟩
    have HB2 := Lib.hid (HB1.out.trans (hb2.mono HB1.out.size))
    clear hb2
    go_wp2_with fail
    go_ret
    exact ⟨rfl, HB2.out⟩

set_option maxRecDepth 100000 in
theorem lifted (os : Os) (started : os.Started) (H : Type) (enc : TypeId × Value → H) :
    ReturnsInHanded {} Try.checked os 4 .any (Rows.drawOrdersSpec.pre6 enc Try.prog Try.f4 Rows.drawOrdersRow.domain false) (Rows.drawOrdersSpec.post enc Try.prog Try.f4 false true false false) := by
  refine returnsInHanded_of_change (C := Try.checked) own started (by kernel_rfl) Try.func4
    (ChangeSpec.witness6 (enc := enc) (C := Try.checked) false ⟨#[], #[.slice none 0 0, .slice none 0 0, .slice none 0 0], []⟩ 8 (by kernel_rfl) (by kernel_rfl) (by kernel_rfl) (by kernel_rfl)) ?_
  intro W base args ds gs before hval0 hW hcnd _
  have hval : ∀ (j : Nat) t v, Try.f4.params[j]? = some t → args[j]? = some v → Value.okWide Try.prog W .any base t v := hval0
  have hW' := hW
  obtain ⟨p, q, hA0, hV, rfl, hfz, hnd⟩ := hW
  have hA : DataW.TrodAll enc Try.prog W 0 (fun _ => true) true Try.f4.params.toList args.toList ds p := hA0
  rw [Try.params4] at hA hval
  obtain ⟨v0, vs0, d0, ds0, p0, q0, hargs, rfl, rfl, h0, r0⟩ := trodAll_cons hA
  obtain ⟨v1, vs1, d1, ds1, p1, q1, rfl, rfl, rfl, h1, r1⟩ := trodAll_cons r0
  obtain ⟨v2, vs2, d2, ds2, p2, q2, rfl, rfl, rfl, h2, r2⟩ := trodAll_cons r1
  obtain ⟨rfl, rfl, rfl⟩ := trodAll_nil r2
  obtain rfl : args = #[v0, v1, v2] := by cases args; simp_all
  obtain ⟨rfl, rfl⟩ := trodVars_none hV
  obtain ⟨a0, n0, c0, rfl⟩ := okWide_slice Try.underlying22 (hval 0 22 v0 rfl rfl)
  have k0 := h0
  have lt0 : ∀ x ∈ p0, x.block < W.heap.size := by obtain ⟨m, hm⟩ := k0; exact DataW.trod_lt m _ _ _ hm
  obtain ⟨f0, hf0⟩ := h0
  obtain ⟨l0, rfl, _, hm0, hn0, hw0, hr0⟩ := row_open Try.underlying22 Try.underlying3 (by kernel_rfl) (show DataW.trod enc Try.prog W 0 _ _ f0 22 [.slice a0 n0 c0] = some (d0, p0) from hf0)
  obtain ⟨a1, n1, c1, rfl⟩ := okWide_slice Try.underlying22 (hval 1 22 v1 rfl rfl)
  have k1 := h1
  have lt1 : ∀ x ∈ p1, x.block < W.heap.size := by obtain ⟨m, hm⟩ := k1; exact DataW.trod_lt m _ _ _ hm
  obtain ⟨f1, hf1⟩ := h1
  obtain ⟨l1, rfl, _, hm1, hn1, hw1, hr1⟩ := row_open Try.underlying22 Try.underlying3 (by kernel_rfl) (show DataW.trod enc Try.prog W 0 _ _ f1 22 [.slice a1 n1 c1] = some (d1, p1) from hf1)
  obtain ⟨a2, n2, c2, rfl⟩ := okWide_slice Try.underlying22 (hval 2 22 v2 rfl rfl)
  have k2 := h2
  have lt2 : ∀ x ∈ p2, x.block < W.heap.size := by obtain ⟨m, hm⟩ := k2; exact DataW.trod_lt m _ _ _ hm
  obtain ⟨f2, hf2⟩ := h2
  obtain ⟨l2, rfl, _, hm2, hn2, hw2, hr2⟩ := row_open Try.underlying22 Try.underlying3 (by kernel_rfl) (show DataW.trod enc Try.prog W 0 _ _ f2 22 [.slice a2 n2 c2] = some (d2, p2) from hf2)
  clear hA0 hval0
  refine (walk l0 a0 c0 l1 a1 c1 l2 a2 c2 W hn0 hr0 hn1 hr1 hn2 hr2).mono fun e W' ⟨he, bel⟩ => ?_
  subst he
  exact ⟨_, rfl, _, _, _, [], _, [], hW', trodAll_mk1 (shut_bool Try.underlying4 _), (trodAll_cons_mk (Below.trod laidOut (by kernel_rfl) (of_decide_eq_true (by kernel_rfl)) k0 bel lt0) (trodAll_cons_mk (Below.trod laidOut (by kernel_rfl) (of_decide_eq_true (by kernel_rfl)) k1 bel lt1) (trodAll_cons_mk (Below.trod laidOut (by kernel_rfl) (of_decide_eq_true (by kernel_rfl)) k2 bel lt2) trodAll_mk0))), rfl, bel.frame _, fun h => by cases h⟩

theorem over : Rows.drawOrdersRow.holds Try.pinned (OpenSpec.ofChange Rows.drawOrdersSpec) :=
  OpenClaim.holds_of_wide 4 Try.f4 rfl rfl rfl rfl rfl rfl rfl ⟨rfl, rfl, rfl, rfl, rfl⟩ rfl rfl rfl rfl rfl (by kernel_rfl) Try.func4 (by kernel_rfl)
    (of_decide_eq_true (by kernel_rfl)) (by unfold Func.isWrapper; first | (rw [if_pos (by decide +kernel)]; kernel_rfl) | (rw [if_neg (by decide +kernel)]; exact ⟨rfl, rfl⟩))
    (fun os started H enc _ => lifted os started H enc)

/-- The statement. -/
theorem proved : Rows.DrawOrdersSaid := over
end Go.Proofs.Ytkccciacngjhfaa.drawOrders
