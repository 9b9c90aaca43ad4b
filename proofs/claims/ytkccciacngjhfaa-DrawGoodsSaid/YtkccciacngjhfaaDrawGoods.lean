/- DrawGoods: whether any numbers are a sequence is the document's; so it is of as many as may be, and of one more. No conditions: any slice of ints and any byte (the law itself asks nothing of more than 100 numbers). -/
import Derived.Test.YtkccciacngjhfaaRows
import Derived.Test.YtkccciacngjhfaaDwG
import Derived.Test.YtkccciacngjhfaaDwF
import Derived.WalkKit
import Derived.ProofKit
import Derived.OpenShut
import Derived.ChangeOld
import Derived.Below
namespace Go.Proofs.Ytkccciacngjhfaa.drawGoods
open Go.ChangeShapes Go.WideShapes Go.ChangeAt Go.RowKit
set_option linter.unusedVariables false
attribute [local go_sem ↓] Go.wp_at_zero Go.wp_at_succ

theorem own : ownKnob Try.prog.godebug = none := by kernel_rfl
theorem laidOut : laidOutB Try.prog = true := by kernel_rfl

theorem row_zeros (n : Nat) (hn : n ≤ 1000000) : goodD (List.replicate n (0 : Int)) = decide (n ≤ 4096) := by
  unfold goodD
  rw [List.length_replicate]
  have : (List.replicate n (0 : Int)).any (fun n => !isD n) = false := by
    rw [List.any_eq_false]
    intro x hx
    rw [List.mem_replicate] at hx
    rw [hx.2]
    decide
  rw [this]
  simp
theorem made_ri (w w' : World) (n : Nat) (hown : w'.ownsRow w.heap.size 3 1 (.slice (some ⟨w.heap.size, 0, none⟩) n n) n (madeCells (Value.int .i64 0).cells (n * 1)).toList) (hg : w.grownBy w' none) :
    RI w' w'.heap.size (some ⟨w.heap.size, 0, none⟩) (List.replicate n 0) ∧ Below w.heap.size w w' := by
  have h1 : (madeCells (Value.int .i64 0).cells (n * 1)).toList = (List.replicate n (0 : Int)).map (Value.int .i64) := by
    rw [Nat.mul_one]
    have := toList_madeCells_one (.int .i64 0) n
    rw [List.map_replicate]
    exact this
  rw [h1] at hown
  have hl : (List.replicate n (0 : Int)).length = n := List.length_replicate
  refine ⟨?_, (Below.refl _ _).grown hg (Nat.le_refl _) (fun k hk => by cases hk)⟩
  have hown2 : w'.ownsRow w.heap.size 3 1 (.slice (some ⟨w.heap.size, 0, none⟩) n n) (List.replicate n (0 : Int)).length ((List.replicate n (0 : Int)).map (Value.int .i64)) := by rw [hl]; exact hown
  obtain ⟨A, c, e, _, hr⟩ := own_ri hown2
  injection e with e _ _
  rw [e]
  exact hr
theorem longgood_any (n g : Nat) (w : World) (hn : n ≤ 1000000) (hr : RI w w.heap.size (some ⟨g, 0, none⟩) (List.replicate n 0)) :
    Calls Try.prog 9 #[.slice (some ⟨g, 0, none⟩) n n] w fun e w' => e = .returned (.bool (goodD (List.replicate n 0))) ∧ w = w' := by
  have := dgood_any (List.replicate n 0) (some ⟨g, 0, none⟩) n w (by rw [List.length_replicate]; exact hn) hr
  rwa [List.length_replicate] at this
set_option maxRecDepth 100000 in
set_option maxHeartbeats 4000000 in
theorem walk (l : List Int) (A : Option Addr) (c : Nat) (m : Int) (w : World) (hnil : A = none → c = 0 ∧ l = []) (hr : RI w w.heap.size A l) (h0 : 0 ≤ m) (h1 : m ≤ 255) :
    Calls Try.prog 3 #[.slice A l.length c, .int .u8 m] w fun e w' => e = .returned (.bool true) ∧ Below w.heap.size w w' := by
  have Hr := Lib.hid hr
  clear hr hnil
  by_cases hl : l.length ≤ 100
  · have t0 : decide ((100 : Int) < (l.length : Int)) = false := decide_eq_false (by omega)
    obtain ⟨i0, hi, hz0, hz1, hz2⟩ := info_parts infoInt12
    have HI := Lib.hid hi
    have HZ0 := Lib.hid hz0
    have HZ1 := Lib.hid hz1
    have HZ2 := Lib.hid hz2
    clear hi hz0 hz1 hz2
    go_enter Try.func3, Try.ntmps3
    go_wp2_with fail
    refine (awake12_any _).mono ?_
    rintro e w1 ⟨rfl, hb1⟩
    have HB1 := Lib.hid hb1
    have Hr1 := Lib.hid (Hr.out.onto hb1)
    clear hb1
    obtain ⟨r, hm, hr3⟩ : ∃ r : Nat, m.tmod 3 = r ∧ r < 3 := ⟨(m % 3).toNat, by rw [Int.tmod_eq_emod_of_nonneg h0]; omega, by omega⟩
    rcases (by omega : r = 0 ∨ r = 1 ∨ r = 2) with rfl | rfl | rfl
    · obtain ⟨w2, hrun, hown, hg⟩ := run_make_full (P := Try.prog) w1 w1.heap.size 22 3 i0 (.int .i64 0) 1 Try.underlying22 HI.out HZ0.out HZ1.out .i64 .i64 4095 (by rw [HZ2.out]; decide) (by decide) (Nat.le_refl _)
      have hrun2 : (Instr.makeSlice 22 (.int .i64 4095) (.int .i64 4095)).run Try.prog w1 = .ok (.slice (some ⟨w1.heap.size, 0, none⟩) 4095 4095) w2 := hrun
      obtain ⟨HRn, HBn⟩ := made_ri w1 w2 4095 hown hg
      have HB2 := Lib.hid (HB1.out.trans (HBn.mono HB1.out.size))
      have Hr2 := Lib.hid (Hr1.out.onto HBn)
      have HRM := Lib.hid HRn
      clear hrun hown hg HRn HBn
      go_wp2_with fail
      refine (dgood_any l A c _ (by omega) Hr2.out).mono ?_
      rintro e w3 ⟨rfl, rfl⟩
      go_wp2_with fail
      refine (rgoodD_any l A c _ (by omega) Hr2.out).mono ?_
      rintro e w3 ⟨rfl, rfl⟩
      have tgd : (goodD l == goodD l) = true := by simp
      generalize goodD l = gl at *
      go_wp2_with fail
      refine (longgood_any 4095 w1.heap.size _ (by decide) HRM.out).mono ?_
      rintro e w3 ⟨rfl, rfl⟩
      rw [show goodD (List.replicate 4095 (0 : Int)) = true from (row_zeros _ (by decide)).trans (by decide)]
      go_wp2_with fail
      go_ret
      exact ⟨rfl, HB2.out⟩
    · obtain ⟨w2, hrun, hown, hg⟩ := run_make_full (P := Try.prog) w1 w1.heap.size 22 3 i0 (.int .i64 0) 1 Try.underlying22 HI.out HZ0.out HZ1.out .i64 .i64 4096 (by rw [HZ2.out]; decide) (by decide) (Nat.le_refl _)
      have hrun2 : (Instr.makeSlice 22 (.int .i64 4096) (.int .i64 4096)).run Try.prog w1 = .ok (.slice (some ⟨w1.heap.size, 0, none⟩) 4096 4096) w2 := hrun
      obtain ⟨HRn, HBn⟩ := made_ri w1 w2 4096 hown hg
      have HB2 := Lib.hid (HB1.out.trans (HBn.mono HB1.out.size))
      have Hr2 := Lib.hid (Hr1.out.onto HBn)
      have HRM := Lib.hid HRn
      clear hrun hown hg HRn HBn
      go_wp2_with fail
      refine (dgood_any l A c _ (by omega) Hr2.out).mono ?_
      rintro e w3 ⟨rfl, rfl⟩
      go_wp2_with fail
      refine (rgoodD_any l A c _ (by omega) Hr2.out).mono ?_
      rintro e w3 ⟨rfl, rfl⟩
      have tgd : (goodD l == goodD l) = true := by simp
      generalize goodD l = gl at *
      go_wp2_with fail
      refine (longgood_any 4096 w1.heap.size _ (by decide) HRM.out).mono ?_
      rintro e w3 ⟨rfl, rfl⟩
      rw [show goodD (List.replicate 4096 (0 : Int)) = true from (row_zeros _ (by decide)).trans (by decide)]
      go_wp2_with fail
      go_ret
      exact ⟨rfl, HB2.out⟩
    · obtain ⟨w2, hrun, hown, hg⟩ := run_make_full (P := Try.prog) w1 w1.heap.size 22 3 i0 (.int .i64 0) 1 Try.underlying22 HI.out HZ0.out HZ1.out .i64 .i64 4097 (by rw [HZ2.out]; decide) (by decide) (Nat.le_refl _)
      have hrun2 : (Instr.makeSlice 22 (.int .i64 4097) (.int .i64 4097)).run Try.prog w1 = .ok (.slice (some ⟨w1.heap.size, 0, none⟩) 4097 4097) w2 := hrun
      obtain ⟨HRn, HBn⟩ := made_ri w1 w2 4097 hown hg
      have HB2 := Lib.hid (HB1.out.trans (HBn.mono HB1.out.size))
      have Hr2 := Lib.hid (Hr1.out.onto HBn)
      have HRM := Lib.hid HRn
      clear hrun hown hg HRn HBn
      go_wp2_with fail
      refine (dgood_any l A c _ (by omega) Hr2.out).mono ?_
      rintro e w3 ⟨rfl, rfl⟩
      go_wp2_with fail
      refine (rgoodD_any l A c _ (by omega) Hr2.out).mono ?_
      rintro e w3 ⟨rfl, rfl⟩
      have tgd : (goodD l == goodD l) = true := by simp
      generalize goodD l = gl at *
      go_wp2_with fail
      refine (longgood_any 4097 w1.heap.size _ (by decide) HRM.out).mono ?_
      rintro e w3 ⟨rfl, rfl⟩
      rw [show goodD (List.replicate 4097 (0 : Int)) = false from (row_zeros _ (by decide)).trans (by decide)]
      go_wp2_with fail
      go_ret
      exact ⟨rfl, HB2.out⟩
  · have t0 : decide ((100 : Int) < (l.length : Int)) = true := decide_eq_true (by omega)
    go_enter Try.func3, Try.ntmps3
    go_wp2_with fail
    refine (awake12_any _).mono ?_
    rintro e w1 ⟨rfl, hb1⟩
    have HB1 := Lib.hid hb1
    clear hb1
    go_wp2_with fail
    refine (awake12_any _).mono ?_
    rintro e w2 ⟨rfl, hb2⟩
    have HB2 := Lib.hid (HB1.out.trans (hb2.mono HB1.out.size))
    clear hb2
    go_wp2_with fail
    go_ret
    exact ⟨rfl, HB2.out⟩

set_option maxRecDepth 100000 in
theorem lifted (os : Os) (started : os.Started) (H : Type) (enc : TypeId × Value → H) :
    ReturnsInHanded {} Try.checked os 3 .any (Rows.drawGoodsSpec.pre6 enc Try.prog Try.f3 Rows.drawGoodsRow.domain false) (Rows.drawGoodsSpec.post enc Try.prog Try.f3 false true false false) := by
  refine returnsInHanded_of_change (C := Try.checked) own started (by kernel_rfl) Try.func3
    (ChangeSpec.witness6 (enc := enc) (C := Try.checked) false ⟨#[], #[.slice none 0 0, .int .u8 0], []⟩ 8 (by kernel_rfl) (by kernel_rfl) (by kernel_rfl) (by kernel_rfl)) ?_
  intro W base args ds gs before hval0 hW hcnd _
  have hval : ∀ (j : Nat) t v, Try.f3.params[j]? = some t → args[j]? = some v → Value.okWide Try.prog W .any base t v := hval0
  have hW' := hW
  obtain ⟨p, q, hA0, hV, rfl, hfz, hnd⟩ := hW
  have hA : DataW.TrodAll enc Try.prog W 0 (fun _ => true) true Try.f3.params.toList args.toList ds p := hA0
  rw [Try.params3] at hA hval
  obtain ⟨v0, vs0, d0, ds0, p0, q0, hargs, rfl, rfl, h0, r0⟩ := trodAll_cons hA
  obtain ⟨v1, vs1, d1, ds1, p1, q1, rfl, rfl, rfl, h1, r1⟩ := trodAll_cons r0
  obtain ⟨rfl, rfl, rfl⟩ := trodAll_nil r1
  obtain rfl : args = #[v0, v1] := by cases args; simp_all
  obtain ⟨rfl, rfl⟩ := trodVars_none hV
  obtain ⟨a0, n0, c0, rfl⟩ := okWide_slice Try.underlying22 (hval 0 22 v0 rfl rfl)
  have k0 := h0
  have lt0 : ∀ x ∈ p0, x.block < W.heap.size := by obtain ⟨m, hm⟩ := k0; exact DataW.trod_lt m _ _ _ hm
  obtain ⟨f0, hf0⟩ := h0
  obtain ⟨l0, rfl, _, hm0, hn0, hw0, hr0⟩ := row_open Try.underlying22 Try.underlying3 (by kernel_rfl) (show DataW.trod enc Try.prog W 0 _ _ f0 22 [.slice a0 n0 c0] = some (d0, p0) from hf0)
  obtain ⟨x1, rfl, rfl, rfl, w1⟩ := open_int Try.underlying5 (hval 1 5 v1 rfl rfl) h1
  clear hA0 hval0
  refine (walk l0 a0 c0 x1 W hn0 hr0 (in8_wf w1).1 (in8_wf w1).2).mono fun e W' ⟨he, bel⟩ => ?_
  subst he
  exact ⟨_, rfl, _, _, _, [], _, [], hW', trodAll_mk1 (shut_bool Try.underlying4 _), (trodAll_cons_mk (Below.trod laidOut (by kernel_rfl) (of_decide_eq_true (by kernel_rfl)) k0 bel lt0) (trodAll_cons_mk (shut_int Try.underlying5 w1) trodAll_mk0)), rfl, bel.frame _, fun h => by cases h⟩

theorem over : Rows.drawGoodsRow.holds Try.pinned (OpenSpec.ofChange Rows.drawGoodsSpec) :=
  OpenClaim.holds_of_wide 3 Try.f3 rfl rfl rfl rfl rfl rfl rfl ⟨rfl, rfl, rfl, rfl, rfl⟩ rfl rfl rfl rfl rfl (by kernel_rfl) Try.func3 (by kernel_rfl)
    (of_decide_eq_true (by kernel_rfl)) (by unfold Func.isWrapper; first | (rw [if_pos (by decide +kernel)]; kernel_rfl) | (rw [if_neg (by decide +kernel)]; exact ⟨rfl, rfl⟩))
    (fun os started H enc _ => lifted os started H enc)

/-- The statement. -/
theorem proved : Rows.DrawGoodsSaid := over
end Go.Proofs.Ytkccciacngjhfaa.drawGoods
