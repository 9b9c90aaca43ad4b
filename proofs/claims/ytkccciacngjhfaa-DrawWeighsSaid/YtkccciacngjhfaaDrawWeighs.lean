/- DrawWeighs: whatever is weighed, each place, or what is wrong, is the document's; sources are asked once for each, or not at all. No conditions: any numbers, seed and weights (the law itself asks nothing of more than 60 numbers, 30 rows of weights, or 70 weights in a row). -/
import Derived.Test.YtkccciacngjhfaaRows
import Derived.Test.YtkccciacngjhfaaDwG
import Derived.Test.YtkccciacngjhfaaDwF
import Derived.Test.YtkccciacngjhfaaDwH
import Derived.Test.YtkccciacngjhfaaDwJ
import Derived.Test.YtkccciacngjhfaaDwK
import Derived.WalkKit
import Derived.BigQuiet
import Derived.ProofKit
import Derived.OpenShut
import Derived.ChangeOld
import Derived.Below
namespace Go.Proofs.Ytkccciacngjhfaa.drawWeighs
open Go.ChangeShapes Go.WideShapes Go.ChangeAt Go.RowKit
set_option linter.unusedVariables false
attribute [local go_sem ↓] Go.wp_at_zero Go.wp_at_succ

theorem own : ownKnob Try.prog.godebug = none := by kernel_rfl
theorem laidOut : laidOutB Try.prog = true := by kernel_rfl

theorem sum_bd {l : List Int} (h : okW l) (h0 : l ≠ []) (hl : l.length ≤ 64) : 1 ≤ l.sum ∧ l.sum ≤ 64000 := by
  have h1 := sumT_bd h l.length (Nat.le_refl _)
  rw [sumT_all] at h1
  have h2 : 0 < l.length := List.length_pos_iff.2 h0
  omega
theorem nxS_ge (l : List Int) (b : Int) (u : Nat) (h0 : 0 < b) (h : b ≤ 64000) : -4294967296 ≤ nxS l b u := by
  unfold nxS remI
  have := tmod_bds (l.getD u 0) b h0
  split
  · split
    · split <;> omega
    · omega
  · omega
theorem nxM_ge (b z : Int) (h0 : 0 < b) (h : b ≤ 64000) : -4294967296 ≤ nxM b z := by
  unfold nxM
  have := tmod_bds (mixZ (IntKind.u64.wrap (z + 11400714819323198485))) b h0
  split <;> omega
set_option maxRecDepth 100000 in
set_option maxHeartbeats 8000000 in
theorem walkS (A : Option Addr) (l : List Int) (c : Nat) (z : Int) (B : Option Addr) (N d : Nat) (w : World) (hl : l.length ≤ 60) (hn : N ≤ 30) (hnil : A = none → c = 0 ∧ l = []) (hr : RI w w.heap.size A l) (hrn : RII w w.heap.size B N) :
    Calls Try.prog 6 #[.agg #[.slice A l.length c, .int .i64 z, .bool false], .slice B N d] w fun e w' => e = .returned (.bool true) ∧ Below w.heap.size w w' := by
  have t0 : decide ((60 : Int) < (l.length : Int)) = false := decide_eq_false (by omega)
  have t1 : decide ((30 : Int) < (N : Int)) = false := decide_eq_false (by omega)
  have HNIL := Lib.hid hnil
  have HR0 := Lib.hid hr
  have HN0 := Lib.hid hrn
  clear hnil hr hrn
  go_enter Try.func6, Try.ntmps6
  go_upto_region 1 with fail
  have hb0 := Blk.new w 30 #[.slice A l.length c, .int .i64 z, .bool false]
  have hbw : Below w.heap.size w (w.alloc (.cells #[.slice A l.length c, .int .i64 z, .bool false] 30)) := (Below.refl _ _).alloc (Nat.le_refl _) _
  change Code.wp _ _ _ _ (w.alloc (Obj.cells #[.slice A l.length c, .int .i64 z, .bool false] 30))
  generalize (w.alloc (Obj.cells #[.slice A l.length c, .int .i64 z, .bool false] 30)) = W at hb0 hbw ⊢
  have HB0 := Lib.hid hb0
  have HBW := Lib.hid hbw
  clear hb0 hbw
  go_wp2_with fail
  refine (awake12_any _).mono ?_
  rintro e W1 ⟨rfl, hb⟩
  have hb1 := HB0.out.onto hb
  have HW1 := Lib.hid (HBW.out.trans (hb.mono HBW.out.size))
  have a0 := hb1.cell 0
  have a1 := hb1.cell 1
  have a2 := hb1.cell 2
  clear hb hb1
  go_wp2_with fail
  refine (source_scr A l c z _ HNIL.out (by omega) (HR0.out.onto HW1.out)).mono ?_
  rintro e W2 ⟨g, lo, A', c', rfl, hg, hs, hra, hb⟩
  have HS := Lib.hid hs
  have HRA := Lib.hid hra
  have hgw : w.heap.size ≤ g := Nat.le_trans HW1.out.size hg
  have HW2 := Lib.hid (HW1.out.trans (hb.mono HW1.out.size))
  clear hs hb a0 a1 a2 hg hra
  go_upto_region 4 with fail
  have hq0 := Blk.new W2 33 #[.slice A' l.length c', .bool false, .int .u64 0, .int .i64 0]
  have hb3 : Below W2.heap.size W2 (W2.alloc (.cells #[.slice A' l.length c', .bool false, .int .u64 0, .int .i64 0] 33)) := (Below.refl _ _).alloc (Nat.le_refl _) _
  have hgq : g < W2.heap.size := scr_lt HS.out
  have hs3 := scr_below HS.out hb3 hgq
  have hr3 := HRA.out.below hb3 (Nat.le_of_lt hgq)
  have HW3 := Lib.hid (HW2.out.trans (hb3.mono HW2.out.size))
  have hqw : w.heap.size ≤ W2.heap.size := HW2.out.size
  change Code.wp _ _ _ _ (W2.alloc (Obj.cells #[.slice A' l.length c', .bool false, .int .u64 0, .int .i64 0] 33))
  generalize (W2.alloc (Obj.cells #[.slice A' l.length c', .bool false, .int .u64 0, .int .i64 0] 33)) = W3 at *
  generalize W2.heap.size = q at *
  have HQ0 := Lib.hid hq0
  have HS3 := Lib.hid hs3
  have HQW := Lib.hid hqw
  have HGQ := Lib.hid hgq
  have HGW := Lib.hid hgw
  have HR3 := Lib.hid hr3
  clear hq0 hb3 hs3 HS HW2 hr3 HRA
  have HM1 := Lib.hid (show ∀ w : World, (method 187 59 (.pointer (some ⟨g, 0, none⟩)) "Next").run Try.prog w = .ok (44, .pointer (some ⟨g, 0, none⟩)) w from fun _ => by kernel_rfl)
  have hm2 : ∀ w : World, (method 187 59 (.pointer (some ⟨g, 0, none⟩)) "Used").run Try.prog w = .ok (45, .pointer (some ⟨g, 0, none⟩)) w := fun _ => by kernel_rfl
  go_wp2_with fail
  go_loopw [8, 9, 10, 11, 12, 13, 40] (fun _ _ _ _ _ _ i wr => ∃ (k u : Nat), k ≤ N ∧ u ≤ k ∧ i = .int .i64 k ∧ Blk wr q 33 #[.slice A' l.length c', .bool false, .int .u64 0, .int .i64 u] ∧ ScrB wr lo g u (l.drop u) ∧ RI wr g A' l ∧ Below w.heap.size w wr) (fun _ _ _ _ _ _ i _ => N - (intOf i).toNat)
  case atStart => exact ⟨0, 0, Nat.zero_le _, Nat.le_refl _, rfl, HQ0.out, by simpa using HS3.out, HR3.out, HW3.out⟩
  case round =>
    obtain ⟨k, u, hk, huk, rfl, kq, ks, kr, kb⟩ := hrel
    have KQ := Lib.hid kq
    have KS := Lib.hid ks
    have KR := Lib.hid kr
    have KB := Lib.hid kb
    clear kq ks kb kr
    by_cases hlt : k < N
    · have u1 : decide (k < N) = true := decide_eq_true hlt
      obtain ⟨b1, o1, Ai, wl, ci, rfl, hb1, e0, hlc, hmx, hri, hwb⟩ := HN0.out k hlt
      have e1 := (KB.out.cell (p := ⟨b1, o1 + k, none⟩) hb1).trans e0
      have HLC := Lib.hid hlc
      have HRI := Lib.hid (hri.below KB.out (Nat.le_refl _))
      clear e0 hlc hri hwb
      by_cases h70 : wl.length ≤ 70
      · have v70 : decide ((70 : Int) < (wl.length : Int)) = false := decide_eq_false (by omega)
        by_cases hne : wl = []
        · subst hne
          have c0 := KQ.out.cell 0
          have c1 := KQ.out.cell 1
          have c2 := KQ.out.cell 2
          have c3 := KQ.out.cell 3
          go_wp2_with fail
          refine (rweigh_nil A' l.length c' false 0 u Ai ci _).mono ?_
          rintro e w4 ⟨rfl, hb4⟩
          have KQ4 := Lib.hid (KQ.out.onto hb4)
          have KS4 := Lib.hid (scr_below KS.out hb4 (scr_lt KS.out))
          have KR4 := Lib.hid (KR.out.below hb4 (Nat.le_of_lt (scr_lt KS.out)))
          have KB4 := Lib.hid (KB.out.trans (hb4.mono KB.out.size))
          have HRI4 := Lib.hid (HRI.out.below (hb4.mono KB.out.size) (Nat.le_refl _))
          clear c0 c1 c2 c3 e1 hb4
          go_upto_region 10 with fail
          have hp := Blk.new w4 33 #[.slice A' l.length c', .bool false, .int .u64 0, .int .i64 u]
          have hb5 : Below w4.heap.size w4 (w4.alloc (.cells #[.slice A' l.length c', .bool false, .int .u64 0, .int .i64 u] 33)) := (Below.refl _ _).alloc (Nat.le_refl _) _
          have kq5 := KQ4.out.onto hb5
          have KS5 := Lib.hid (scr_below KS4.out hb5 (scr_lt KS4.out))
          have KR5 := Lib.hid (KR4.out.below hb5 (Nat.le_of_lt (scr_lt KS4.out)))
          have KB5 := Lib.hid (KB4.out.trans (hb5.mono KB4.out.size))
          have HRI5 := Lib.hid (HRI4.out.below (hb5.mono KB4.out.size) (Nat.le_refl _))
          have hpq : w4.heap.size ≠ q := by have := KQ4.out.lt; omega
          change Code.wp _ _ _ _ (w4.alloc (Obj.cells #[.slice A' l.length c', .bool false, .int .u64 0, .int .i64 u] 33))
          generalize (w4.alloc (Obj.cells #[.slice A' l.length c', .bool false, .int .u64 0, .int .i64 u] 33)) = w5 at *
          generalize w4.heap.size = p at *
          have d0 := hp.cell 0
          have d1 := hp.cell 1
          have d2 := hp.cell 2
          have d3 := hp.cell 3
          have c0 := kq5.cell 0
          have c1 := kq5.cell 1
          have c2 := kq5.cell 2
          have c3 := kq5.cell 3
          have f0 := kq5.free 0
          have f1 := kq5.free 1
          have f2 := kq5.free 2
          have f3 := kq5.free 3
          have KQ5 := Lib.hid kq5
          clear hp hb5 kq5 KQ4 KS4 KB4 HRI4 KR4
          go_upto_region 11 with fail
          have kq6 := put4 (W := w5) (g := q) KQ5.out rfl (.slice A' l.length c') (.bool false) (.int .u64 0) (.int .i64 u)
          have ks6 := scr_hi4 (W := w5) (q := q) KS5.out HGQ.out (.slice A' l.length c') (.bool false) (.int .u64 0) (.int .i64 u)
          have kr6 := KR5.out.hi4 (q := q) (Nat.le_of_lt HGQ.out) (.slice A' l.length c') (.bool false) (.int .u64 0) (.int .i64 u)
          have kb6 := put4_below (W := w5) KB5.out (show w.heap.size ≤ q from HQW.out) (.slice A' l.length c') (.bool false) (.int .u64 0) (.int .i64 u)
          have hri6 := HRI5.out.hi4 (q := q) HQW.out (.slice A' l.length c') (.bool false) (.int .u64 0) (.int .i64 u)
          change Code.wp _ _ _ _ ((((w5.setCell ⟨q, 0, none⟩ (.slice A' l.length c')).setCell ⟨q, 1, none⟩ (.bool false)).setCell ⟨q, 2, none⟩ (.int .u64 0)).setCell ⟨q, 3, none⟩ (.int .i64 u))
          generalize ((((w5.setCell ⟨q, 0, none⟩ (.slice A' l.length c')).setCell ⟨q, 1, none⟩ (.bool false)).setCell ⟨q, 2, none⟩ (.int .u64 0)).setCell ⟨q, 3, none⟩ (.int .i64 u)) = w6 at *
          have KQ6 := Lib.hid kq6
          have KS6 := Lib.hid ks6
          have KR6 := Lib.hid kr6
          have KB6 := Lib.hid kb6
          have HRI6 := Lib.hid hri6
          clear kq6 ks6 kb6 hri6 c0 d0 f0 c1 d1 f1 c2 d2 f2 c3 d3 f3 KQ5 KS5 KB5 HRI5 kr6 KR5
          go_wp2_with fail
          refine (pweigh_nil _ Ai ci _).mono ?_
          rintro e w7 ⟨rfl, rfl⟩
          have cu := scr_used KS6.out
          have c3 := KQ6.out.cell 3
          have v2 : ((u : Int) != (u : Int)) = false := by simp
          have HUS := Lib.hid (show ∀ n, Calls Try.prog 45 #[.pointer (some ⟨g, 0, none⟩)] (w6.drewN n) (fun e w' => e = .returned (.int .i64 u) ∧ w' = w6.drewN n) from fun n => (used_any g u (w6.drewN n) cu).mono (fun e w' h => ⟨h.1, h.2.symm⟩))
          go_wp2_with fail
          go_quiet ((go_at_call 45; refine Calls.quiet_of_same (HUS.out _)))
          go_wp2_with fail
          go_roundw
          case rel => exact ⟨k + 1, u, by omega, by omega, by go_num, KQ6.out, KS6.out, KR6.out, below_drewN KB6.out _⟩
          case measure => simp [intOf]; omega
        · by_cases hbad : 64 < wl.length ∨ wl.any (fun n => !isW n) = true
          · have HER := Lib.hid hbad
            clear hbad
            have c0 := KQ.out.cell 0
            have c1 := KQ.out.cell 1
            have c2 := KQ.out.cell 2
            have c3 := KQ.out.cell 3
            go_wp2_with fail
            refine (rweigh_err A' l.length c' false 0 u wl Ai ci _ (by omega) hne HER.out (HRI.out.more KB.out.size)).mono ?_
            rintro e w4 ⟨rfl, hb4⟩
            have KQ4 := Lib.hid (KQ.out.onto hb4)
            have KS4 := Lib.hid (scr_below KS.out hb4 (scr_lt KS.out))
            have KR4 := Lib.hid (KR.out.below hb4 (Nat.le_of_lt (scr_lt KS.out)))
            have KB4 := Lib.hid (KB.out.trans (hb4.mono KB.out.size))
            have HRI4 := Lib.hid (HRI.out.below (hb4.mono KB.out.size) (Nat.le_refl _))
            clear c0 c1 c2 c3 e1 hb4
            go_upto_region 10 with fail
            have hp := Blk.new w4 33 #[.slice A' l.length c', .bool false, .int .u64 0, .int .i64 u]
            have hb5 : Below w4.heap.size w4 (w4.alloc (.cells #[.slice A' l.length c', .bool false, .int .u64 0, .int .i64 u] 33)) := (Below.refl _ _).alloc (Nat.le_refl _) _
            have kq5 := KQ4.out.onto hb5
            have KS5 := Lib.hid (scr_below KS4.out hb5 (scr_lt KS4.out))
            have KR5 := Lib.hid (KR4.out.below hb5 (Nat.le_of_lt (scr_lt KS4.out)))
            have KB5 := Lib.hid (KB4.out.trans (hb5.mono KB4.out.size))
            have HRI5 := Lib.hid (HRI4.out.below (hb5.mono KB4.out.size) (Nat.le_refl _))
            have hpq : w4.heap.size ≠ q := by have := KQ4.out.lt; omega
            change Code.wp _ _ _ _ (w4.alloc (Obj.cells #[.slice A' l.length c', .bool false, .int .u64 0, .int .i64 u] 33))
            generalize (w4.alloc (Obj.cells #[.slice A' l.length c', .bool false, .int .u64 0, .int .i64 u] 33)) = w5 at *
            generalize w4.heap.size = p at *
            have d0 := hp.cell 0
            have d1 := hp.cell 1
            have d2 := hp.cell 2
            have d3 := hp.cell 3
            have c0 := kq5.cell 0
            have c1 := kq5.cell 1
            have c2 := kq5.cell 2
            have c3 := kq5.cell 3
            have f0 := kq5.free 0
            have f1 := kq5.free 1
            have f2 := kq5.free 2
            have f3 := kq5.free 3
            have KQ5 := Lib.hid kq5
            clear hp hb5 kq5 KQ4 KS4 KB4 HRI4 KR4
            go_upto_region 11 with fail
            have kq6 := put4 (W := w5) (g := q) KQ5.out rfl (.slice A' l.length c') (.bool false) (.int .u64 0) (.int .i64 u)
            have ks6 := scr_hi4 (W := w5) (q := q) KS5.out HGQ.out (.slice A' l.length c') (.bool false) (.int .u64 0) (.int .i64 u)
            have kr6 := KR5.out.hi4 (q := q) (Nat.le_of_lt HGQ.out) (.slice A' l.length c') (.bool false) (.int .u64 0) (.int .i64 u)
            have kb6 := put4_below (W := w5) KB5.out (show w.heap.size ≤ q from HQW.out) (.slice A' l.length c') (.bool false) (.int .u64 0) (.int .i64 u)
            have hri6 := HRI5.out.hi4 (q := q) HQW.out (.slice A' l.length c') (.bool false) (.int .u64 0) (.int .i64 u)
            change Code.wp _ _ _ _ ((((w5.setCell ⟨q, 0, none⟩ (.slice A' l.length c')).setCell ⟨q, 1, none⟩ (.bool false)).setCell ⟨q, 2, none⟩ (.int .u64 0)).setCell ⟨q, 3, none⟩ (.int .i64 u))
            generalize ((((w5.setCell ⟨q, 0, none⟩ (.slice A' l.length c')).setCell ⟨q, 1, none⟩ (.bool false)).setCell ⟨q, 2, none⟩ (.int .u64 0)).setCell ⟨q, 3, none⟩ (.int .i64 u)) = w6 at *
            have KQ6 := Lib.hid kq6
            have KS6 := Lib.hid ks6
            have KR6 := Lib.hid kr6
            have KB6 := Lib.hid kb6
            have HRI6 := Lib.hid hri6
            clear kq6 ks6 kb6 hri6 c0 d0 f0 c1 d1 f1 c2 d2 f2 c3 d3 f3 KQ5 KS5 KB5 HRI5 kr6 KR5
            go_wp2_with fail
            refine (pweigh_err _ wl Ai ci _ (by omega) hne HER.out (HRI6.out.more KB6.out.size)).mono ?_
            rintro e w7 ⟨rfl, rfl⟩
            have cu := scr_used KS6.out
            have c3 := KQ6.out.cell 3
            have v2 : ((u : Int) != (u : Int)) = false := by simp
            have HUS := Lib.hid (show ∀ n, Calls Try.prog 45 #[.pointer (some ⟨g, 0, none⟩)] (w6.drewN n) (fun e w' => e = .returned (.int .i64 u) ∧ w' = w6.drewN n) from fun n => (used_any g u (w6.drewN n) cu).mono (fun e w' h => ⟨h.1, h.2.symm⟩))
            go_wp2_with fail
            go_quiet ((go_at_call 45; refine Calls.quiet_of_same (HUS.out _)))
            go_wp2_with fail
            go_roundw
            case rel => exact ⟨k + 1, u, by omega, by omega, by go_num, KQ6.out, KS6.out, KR6.out, below_drewN KB6.out _⟩
            case measure => simp [intOf]; omega
          · have h64 : wl.length ≤ 64 := by
              rcases Nat.lt_or_ge 64 wl.length with h | h
              · exact absurd (Or.inl h) hbad
              · exact h
            have hok : okW wl := any_okW (by
              cases h : wl.any (fun n => !isW n)
              · rfl
              · exact absurd (Or.inr h) hbad)
            have HOK := Lib.hid hok
            have hsb := sum_bd hok hne h64
            clear hbad hok
            have c0 := KQ.out.cell 0
            have c1 := KQ.out.cell 1
            have c2 := KQ.out.cell 2
            have c3 := KQ.out.cell 3
            go_wp2_with fail
            refine (rweigh_ok A' l.length c' false 0 u 0 (nxU wl.sum u) (nxS l wl.sum u) wl Ai ci _ h64 hne HOK.out (HRI.out.more KB.out.size) (fun w' hw' => rS A' l c' 0 wl.sum u w' (by omega) ((KR.out.below hw' (Nat.le_of_lt (scr_lt KS.out))).more (Nat.le_trans (Nat.le_of_lt (scr_lt KS.out)) hw'.size))) (nxS_ge l wl.sum u (by omega) (by omega)) (nxS_lt l wl.sum u (by omega))).mono ?_
            rintro e w4 ⟨rfl, hb4⟩
            have KQ4 := Lib.hid (KQ.out.onto hb4)
            have KS4 := Lib.hid (scr_below KS.out hb4 (scr_lt KS.out))
            have KR4 := Lib.hid (KR.out.below hb4 (Nat.le_of_lt (scr_lt KS.out)))
            have KB4 := Lib.hid (KB.out.trans (hb4.mono KB.out.size))
            have HRI4 := Lib.hid (HRI.out.below (hb4.mono KB.out.size) (Nat.le_refl _))
            clear c0 c1 c2 c3 e1 hb4
            go_upto_region 10 with fail
            have hp := Blk.new w4 33 #[.slice A' l.length c', .bool false, .int .u64 0, .int .i64 (nxU wl.sum u)]
            have hb5 : Below w4.heap.size w4 (w4.alloc (.cells #[.slice A' l.length c', .bool false, .int .u64 0, .int .i64 (nxU wl.sum u)] 33)) := (Below.refl _ _).alloc (Nat.le_refl _) _
            have kq5 := KQ4.out.onto hb5
            have KS5 := Lib.hid (scr_below KS4.out hb5 (scr_lt KS4.out))
            have KR5 := Lib.hid (KR4.out.below hb5 (Nat.le_of_lt (scr_lt KS4.out)))
            have KB5 := Lib.hid (KB4.out.trans (hb5.mono KB4.out.size))
            have HRI5 := Lib.hid (HRI4.out.below (hb5.mono KB4.out.size) (Nat.le_refl _))
            have hpq : w4.heap.size ≠ q := by have := KQ4.out.lt; omega
            change Code.wp _ _ _ _ (w4.alloc (Obj.cells #[.slice A' l.length c', .bool false, .int .u64 0, .int .i64 (nxU wl.sum u)] 33))
            generalize (w4.alloc (Obj.cells #[.slice A' l.length c', .bool false, .int .u64 0, .int .i64 (nxU wl.sum u)] 33)) = w5 at *
            generalize w4.heap.size = p at *
            have d0 := hp.cell 0
            have d1 := hp.cell 1
            have d2 := hp.cell 2
            have d3 := hp.cell 3
            have c0 := kq5.cell 0
            have c1 := kq5.cell 1
            have c2 := kq5.cell 2
            have c3 := kq5.cell 3
            have f0 := kq5.free 0
            have f1 := kq5.free 1
            have f2 := kq5.free 2
            have f3 := kq5.free 3
            have KQ5 := Lib.hid kq5
            clear hp hb5 kq5 KQ4 KS4 KB4 HRI4 KR4
            go_upto_region 11 with fail
            have kq6 := put4 (W := w5) (g := q) KQ5.out rfl (.slice A' l.length c') (.bool false) (.int .u64 0) (.int .i64 (nxU wl.sum u))
            have ks6 := scr_hi4 (W := w5) (q := q) KS5.out HGQ.out (.slice A' l.length c') (.bool false) (.int .u64 0) (.int .i64 (nxU wl.sum u))
            have kr6 := KR5.out.hi4 (q := q) (Nat.le_of_lt HGQ.out) (.slice A' l.length c') (.bool false) (.int .u64 0) (.int .i64 (nxU wl.sum u))
            have kb6 := put4_below (W := w5) KB5.out (show w.heap.size ≤ q from HQW.out) (.slice A' l.length c') (.bool false) (.int .u64 0) (.int .i64 (nxU wl.sum u))
            have hri6 := HRI5.out.hi4 (q := q) HQW.out (.slice A' l.length c') (.bool false) (.int .u64 0) (.int .i64 (nxU wl.sum u))
            change Code.wp _ _ _ _ ((((w5.setCell ⟨q, 0, none⟩ (.slice A' l.length c')).setCell ⟨q, 1, none⟩ (.bool false)).setCell ⟨q, 2, none⟩ (.int .u64 0)).setCell ⟨q, 3, none⟩ (.int .i64 (nxU wl.sum u)))
            generalize ((((w5.setCell ⟨q, 0, none⟩ (.slice A' l.length c')).setCell ⟨q, 1, none⟩ (.bool false)).setCell ⟨q, 2, none⟩ (.int .u64 0)).setCell ⟨q, 3, none⟩ (.int .i64 (nxU wl.sum u))) = w6 at *
            have KQ6 := Lib.hid kq6
            have KS6 := Lib.hid ks6
            have KR6 := Lib.hid kr6
            have KB6 := Lib.hid kb6
            have HRI6 := Lib.hid hri6
            clear kq6 ks6 kb6 hri6 c0 d0 f0 c1 d1 f1 c2 d2 f2 c3 d3 f3 KQ5 KS5 KB5 HRI5 kr6 KR5
            go_wp2_with fail
            refine (pweigh_ok 59 44 g wl Ai ci (nxS l wl.sum u) (fun w' => ScrB w' lo g (nxU wl.sum u) (l.drop (nxU wl.sum u)) ∧ Apt g w6 w') _ hne HLC.out h64 HOK.out HM1.out (Go.Proofs.enters_of Try.func44 (by kernel_rfl) rfl) (pS lo g wl.sum u l _ (by omega) KS6.out) (nxS_ge l wl.sum u (by omega) (by omega)) (nxS_lt l wl.sum u (by omega)) (HRI6.out.more KB6.out.size) (fun w' h => (HRI6.out.below (h.2.below (Below.refl w.heap.size _) HGW.out KB6.out.size) (Nat.le_refl _)).more (Nat.le_trans KB6.out.size h.2.size))).mono ?_
            rintro e w7 ⟨rfl, hs7, ha7⟩
            have KS7 := Lib.hid hs7
            have kq7 := ha7.blk (by have := HGQ.out; omega) KQ6.out
            have KQ7 := Lib.hid kq7
            have KR7 := Lib.hid (KR6.out.below (ha7.below (Below.refl g _) (Nat.le_refl _) (Nat.le_of_lt (scr_lt KS6.out))) (Nat.le_refl _))
            have KB7 := Lib.hid (ha7.below KB6.out HGW.out KB6.out.size)
            have cu : w7.cell? ⟨g, 0, none⟩ = some (.int .i64 (nxU wl.sum u)) := scr_used hs7
            have c3 := kq7.cell 3
            have HUL := Lib.hid (nxU_le wl.sum u)
            clear hs7 ha7 kq7 KQ6 KS6 KB6 KR6
            generalize plc (nxS l wl.sum u) wl = pv at *
            generalize nxU wl.sum u = u' at *
            have v1 : ((pv : Int) != (pv : Int)) = false := by simp
            have v2 : ((u' : Int) != (u' : Int)) = false := by simp
            have HUS := Lib.hid (show ∀ n, Calls Try.prog 45 #[.pointer (some ⟨g, 0, none⟩)] (w7.drewN n) (fun e w' => e = .returned (.int .i64 u') ∧ w' = w7.drewN n) from fun n => (used_any g u' (w7.drewN n) cu).mono (fun e w' h => ⟨h.1, h.2.symm⟩))
            go_wp2_with fail
            go_quiet ((go_at_call 45; refine Calls.quiet_of_same (HUS.out _)))
            go_wp2_with fail
            go_roundw
            case rel => exact ⟨k + 1, u', by omega, by have := HUL.out; omega, by go_num, KQ7.out, KS7.out, KR7.out, below_drewN KB7.out _⟩
            case measure => simp [intOf]; omega
      · have v70 : decide ((70 : Int) < (wl.length : Int)) = true := decide_eq_true (by omega)
        go_wp2_with fail
        go_ret
        exact ⟨rfl, KB.out⟩
    · obtain rfl : N = k := by omega
      go_wp2_with fail
      go_ret
      exact ⟨rfl, KB.out⟩
set_option maxRecDepth 100000 in
set_option maxHeartbeats 8000000 in
theorem walkM (A : Option Addr) (l : List Int) (c : Nat) (z : Int) (B : Option Addr) (N d : Nat) (w : World) (hl : l.length ≤ 60) (hn : N ≤ 30) (hnil : A = none → c = 0 ∧ l = []) (hr : RI w w.heap.size A l) (hrn : RII w w.heap.size B N) :
    Calls Try.prog 6 #[.agg #[.slice A l.length c, .int .i64 z, .bool true], .slice B N d] w fun e w' => e = .returned (.bool true) ∧ Below w.heap.size w w' := by
  have t0 : decide ((60 : Int) < (l.length : Int)) = false := decide_eq_false (by omega)
  have t1 : decide ((30 : Int) < (N : Int)) = false := decide_eq_false (by omega)
  have HNIL := Lib.hid hnil
  have HR0 := Lib.hid hr
  have HN0 := Lib.hid hrn
  clear hnil hr hrn
  go_enter Try.func6, Try.ntmps6
  go_upto_region 1 with fail
  have hb0 := Blk.new w 30 #[.slice A l.length c, .int .i64 z, .bool true]
  have hbw : Below w.heap.size w (w.alloc (.cells #[.slice A l.length c, .int .i64 z, .bool true] 30)) := (Below.refl _ _).alloc (Nat.le_refl _) _
  change Code.wp _ _ _ _ (w.alloc (Obj.cells #[.slice A l.length c, .int .i64 z, .bool true] 30))
  generalize (w.alloc (Obj.cells #[.slice A l.length c, .int .i64 z, .bool true] 30)) = W at hb0 hbw ⊢
  have HB0 := Lib.hid hb0
  have HBW := Lib.hid hbw
  clear hb0 hbw
  go_wp2_with fail
  refine (awake12_any _).mono ?_
  rintro e W1 ⟨rfl, hb⟩
  have hb1 := HB0.out.onto hb
  have HW1 := Lib.hid (HBW.out.trans (hb.mono HBW.out.size))
  have a0 := hb1.cell 0
  have a1 := hb1.cell 1
  have a2 := hb1.cell 2
  clear hb hb1
  go_wp2_with fail
  refine (source_mix A l.length c z _).mono ?_
  rintro e W2 ⟨g, rfl, hg, hs, hb⟩
  have HS := Lib.hid hs
  have hgw : w.heap.size ≤ g := Nat.le_trans HW1.out.size hg
  have HW2 := Lib.hid (HW1.out.trans (hb.mono HW1.out.size))
  clear hs hb a0 a1 a2 hg
  go_upto_region 4 with fail
  have hq0 := Blk.new W2 33 #[.slice none 0 0, .bool true, .int .u64 (IntKind.u64.wrap z), .int .i64 0]
  have hb3 : Below W2.heap.size W2 (W2.alloc (.cells #[.slice none 0 0, .bool true, .int .u64 (IntKind.u64.wrap z), .int .i64 0] 33)) := (Below.refl _ _).alloc (Nat.le_refl _) _
  have hgq : g < W2.heap.size := HS.out.lt
  have hs3 := HS.out.onto hb3
  have HW3 := Lib.hid (HW2.out.trans (hb3.mono HW2.out.size))
  have hqw : w.heap.size ≤ W2.heap.size := HW2.out.size
  change Code.wp _ _ _ _ (W2.alloc (Obj.cells #[.slice none 0 0, .bool true, .int .u64 (IntKind.u64.wrap z), .int .i64 0] 33))
  generalize (W2.alloc (Obj.cells #[.slice none 0 0, .bool true, .int .u64 (IntKind.u64.wrap z), .int .i64 0] 33)) = W3 at *
  generalize W2.heap.size = q at *
  have HQ0 := Lib.hid hq0
  have HS3 := Lib.hid hs3
  have HQW := Lib.hid hqw
  have HGQ := Lib.hid hgq
  have HGW := Lib.hid hgw
  clear hq0 hb3 hs3 HS HW2
  have HM1 := Lib.hid (show ∀ w : World, (method 187 65 (.pointer (some ⟨g, 0, none⟩)) "Next").run Try.prog w = .ok (47, .pointer (some ⟨g, 0, none⟩)) w from fun _ => by kernel_rfl)
  have hm2 : ∀ w : World, (method 187 65 (.pointer (some ⟨g, 0, none⟩)) "Used").run Try.prog w = .ok (45, .pointer (some ⟨g, 0, none⟩)) w := fun _ => by kernel_rfl
  go_wp2_with fail
  go_loopw [8, 9, 10, 11, 12, 13, 40] (fun _ _ _ _ _ _ i wr => ∃ (k u : Nat) (y : Int), k ≤ N ∧ u ≤ k ∧ i = .int .i64 k ∧ Blk wr q 33 #[.slice none 0 0, .bool true, .int .u64 y, .int .i64 u] ∧ Blk wr g 67 #[.int .i64 u, .int .u64 y] ∧ Below w.heap.size w wr) (fun _ _ _ _ _ _ i _ => N - (intOf i).toNat)
  case atStart => exact ⟨0, 0, _, Nat.zero_le _, Nat.le_refl _, rfl, HQ0.out, HS3.out, HW3.out⟩
  case round =>
    obtain ⟨k, u, y, hk, huk, rfl, kq, ks, kb⟩ := hrel
    have KQ := Lib.hid kq
    have KS := Lib.hid ks
    have KB := Lib.hid kb
    clear kq ks kb
    by_cases hlt : k < N
    · have u1 : decide (k < N) = true := decide_eq_true hlt
      obtain ⟨b1, o1, Ai, wl, ci, rfl, hb1, e0, hlc, hmx, hri, hwb⟩ := HN0.out k hlt
      have e1 := (KB.out.cell (p := ⟨b1, o1 + k, none⟩) hb1).trans e0
      have HLC := Lib.hid hlc
      have HRI := Lib.hid (hri.below KB.out (Nat.le_refl _))
      clear e0 hlc hri hwb
      by_cases h70 : wl.length ≤ 70
      · have v70 : decide ((70 : Int) < (wl.length : Int)) = false := decide_eq_false (by omega)
        by_cases hne : wl = []
        · subst hne
          have c0 := KQ.out.cell 0
          have c1 := KQ.out.cell 1
          have c2 := KQ.out.cell 2
          have c3 := KQ.out.cell 3
          go_wp2_with fail
          refine (rweigh_nil none 0 0 true y u Ai ci _).mono ?_
          rintro e w4 ⟨rfl, hb4⟩
          have KQ4 := Lib.hid (KQ.out.onto hb4)
          have KS4 := Lib.hid (KS.out.onto hb4)
          have KB4 := Lib.hid (KB.out.trans (hb4.mono KB.out.size))
          have HRI4 := Lib.hid (HRI.out.below (hb4.mono KB.out.size) (Nat.le_refl _))
          clear c0 c1 c2 c3 e1 hb4
          go_upto_region 10 with fail
          have hp := Blk.new w4 33 #[.slice none 0 0, .bool true, .int .u64 y, .int .i64 u]
          have hb5 : Below w4.heap.size w4 (w4.alloc (.cells #[.slice none 0 0, .bool true, .int .u64 y, .int .i64 u] 33)) := (Below.refl _ _).alloc (Nat.le_refl _) _
          have kq5 := KQ4.out.onto hb5
          have KS5 := Lib.hid (KS4.out.onto hb5)
          have KB5 := Lib.hid (KB4.out.trans (hb5.mono KB4.out.size))
          have HRI5 := Lib.hid (HRI4.out.below (hb5.mono KB4.out.size) (Nat.le_refl _))
          have hpq : w4.heap.size ≠ q := by have := KQ4.out.lt; omega
          change Code.wp _ _ _ _ (w4.alloc (Obj.cells #[.slice none 0 0, .bool true, .int .u64 y, .int .i64 u] 33))
          generalize (w4.alloc (Obj.cells #[.slice none 0 0, .bool true, .int .u64 y, .int .i64 u] 33)) = w5 at *
          generalize w4.heap.size = p at *
          have d0 := hp.cell 0
          have d1 := hp.cell 1
          have d2 := hp.cell 2
          have d3 := hp.cell 3
          have c0 := kq5.cell 0
          have c1 := kq5.cell 1
          have c2 := kq5.cell 2
          have c3 := kq5.cell 3
          have f0 := kq5.free 0
          have f1 := kq5.free 1
          have f2 := kq5.free 2
          have f3 := kq5.free 3
          have KQ5 := Lib.hid kq5
          clear hp hb5 kq5 KQ4 KS4 KB4 HRI4
          go_upto_region 11 with fail
          have kq6 := put4 (W := w5) (g := q) KQ5.out rfl (.slice none 0 0) (.bool true) (.int .u64 y) (.int .i64 u)
          have ks6 := put4_far (W := w5) (g := q) KS5.out (by have := HGQ.out; omega) (.slice none 0 0) (.bool true) (.int .u64 y) (.int .i64 u)
          have kb6 := put4_below (W := w5) KB5.out (show w.heap.size ≤ q from HQW.out) (.slice none 0 0) (.bool true) (.int .u64 y) (.int .i64 u)
          have hri6 := HRI5.out.hi4 (q := q) HQW.out (.slice none 0 0) (.bool true) (.int .u64 y) (.int .i64 u)
          change Code.wp _ _ _ _ ((((w5.setCell ⟨q, 0, none⟩ (.slice none 0 0)).setCell ⟨q, 1, none⟩ (.bool true)).setCell ⟨q, 2, none⟩ (.int .u64 y)).setCell ⟨q, 3, none⟩ (.int .i64 u))
          generalize ((((w5.setCell ⟨q, 0, none⟩ (.slice none 0 0)).setCell ⟨q, 1, none⟩ (.bool true)).setCell ⟨q, 2, none⟩ (.int .u64 y)).setCell ⟨q, 3, none⟩ (.int .i64 u)) = w6 at *
          have KQ6 := Lib.hid kq6
          have KS6 := Lib.hid ks6
          have KB6 := Lib.hid kb6
          have HRI6 := Lib.hid hri6
          clear kq6 ks6 kb6 hri6 c0 d0 f0 c1 d1 f1 c2 d2 f2 c3 d3 f3 KQ5 KS5 KB5 HRI5
          go_wp2_with fail
          refine (pweigh_nil _ Ai ci _).mono ?_
          rintro e w7 ⟨rfl, rfl⟩
          have cu := KS6.out.cell 0
          have c3 := KQ6.out.cell 3
          have v2 : ((u : Int) != (u : Int)) = false := by simp
          have HUS := Lib.hid (show ∀ n, Calls Try.prog 45 #[.pointer (some ⟨g, 0, none⟩)] (w6.drewN n) (fun e w' => e = .returned (.int .i64 u) ∧ w' = w6.drewN n) from fun n => (used_any g u (w6.drewN n) cu).mono (fun e w' h => ⟨h.1, h.2.symm⟩))
          go_wp2_with fail
          go_quiet ((go_at_call 45; refine Calls.quiet_of_same (HUS.out _)))
          go_wp2_with fail
          go_roundw
          case rel => exact ⟨k + 1, u, y, by omega, by omega, by go_num, KQ6.out, KS6.out, below_drewN KB6.out _⟩
          case measure => simp [intOf]; omega
        · by_cases hbad : 64 < wl.length ∨ wl.any (fun n => !isW n) = true
          · have HER := Lib.hid hbad
            clear hbad
            have c0 := KQ.out.cell 0
            have c1 := KQ.out.cell 1
            have c2 := KQ.out.cell 2
            have c3 := KQ.out.cell 3
            go_wp2_with fail
            refine (rweigh_err none 0 0 true y u wl Ai ci _ (by omega) hne HER.out (HRI.out.more KB.out.size)).mono ?_
            rintro e w4 ⟨rfl, hb4⟩
            have KQ4 := Lib.hid (KQ.out.onto hb4)
            have KS4 := Lib.hid (KS.out.onto hb4)
            have KB4 := Lib.hid (KB.out.trans (hb4.mono KB.out.size))
            have HRI4 := Lib.hid (HRI.out.below (hb4.mono KB.out.size) (Nat.le_refl _))
            clear c0 c1 c2 c3 e1 hb4
            go_upto_region 10 with fail
            have hp := Blk.new w4 33 #[.slice none 0 0, .bool true, .int .u64 y, .int .i64 u]
            have hb5 : Below w4.heap.size w4 (w4.alloc (.cells #[.slice none 0 0, .bool true, .int .u64 y, .int .i64 u] 33)) := (Below.refl _ _).alloc (Nat.le_refl _) _
            have kq5 := KQ4.out.onto hb5
            have KS5 := Lib.hid (KS4.out.onto hb5)
            have KB5 := Lib.hid (KB4.out.trans (hb5.mono KB4.out.size))
            have HRI5 := Lib.hid (HRI4.out.below (hb5.mono KB4.out.size) (Nat.le_refl _))
            have hpq : w4.heap.size ≠ q := by have := KQ4.out.lt; omega
            change Code.wp _ _ _ _ (w4.alloc (Obj.cells #[.slice none 0 0, .bool true, .int .u64 y, .int .i64 u] 33))
            generalize (w4.alloc (Obj.cells #[.slice none 0 0, .bool true, .int .u64 y, .int .i64 u] 33)) = w5 at *
            generalize w4.heap.size = p at *
            have d0 := hp.cell 0
            have d1 := hp.cell 1
            have d2 := hp.cell 2
            have d3 := hp.cell 3
            have c0 := kq5.cell 0
            have c1 := kq5.cell 1
            have c2 := kq5.cell 2
            have c3 := kq5.cell 3
            have f0 := kq5.free 0
            have f1 := kq5.free 1
            have f2 := kq5.free 2
            have f3 := kq5.free 3
            have KQ5 := Lib.hid kq5
            clear hp hb5 kq5 KQ4 KS4 KB4 HRI4
            go_upto_region 11 with fail
            have kq6 := put4 (W := w5) (g := q) KQ5.out rfl (.slice none 0 0) (.bool true) (.int .u64 y) (.int .i64 u)
            have ks6 := put4_far (W := w5) (g := q) KS5.out (by have := HGQ.out; omega) (.slice none 0 0) (.bool true) (.int .u64 y) (.int .i64 u)
            have kb6 := put4_below (W := w5) KB5.out (show w.heap.size ≤ q from HQW.out) (.slice none 0 0) (.bool true) (.int .u64 y) (.int .i64 u)
            have hri6 := HRI5.out.hi4 (q := q) HQW.out (.slice none 0 0) (.bool true) (.int .u64 y) (.int .i64 u)
            change Code.wp _ _ _ _ ((((w5.setCell ⟨q, 0, none⟩ (.slice none 0 0)).setCell ⟨q, 1, none⟩ (.bool true)).setCell ⟨q, 2, none⟩ (.int .u64 y)).setCell ⟨q, 3, none⟩ (.int .i64 u))
            generalize ((((w5.setCell ⟨q, 0, none⟩ (.slice none 0 0)).setCell ⟨q, 1, none⟩ (.bool true)).setCell ⟨q, 2, none⟩ (.int .u64 y)).setCell ⟨q, 3, none⟩ (.int .i64 u)) = w6 at *
            have KQ6 := Lib.hid kq6
            have KS6 := Lib.hid ks6
            have KB6 := Lib.hid kb6
            have HRI6 := Lib.hid hri6
            clear kq6 ks6 kb6 hri6 c0 d0 f0 c1 d1 f1 c2 d2 f2 c3 d3 f3 KQ5 KS5 KB5 HRI5
            go_wp2_with fail
            refine (pweigh_err _ wl Ai ci _ (by omega) hne HER.out (HRI6.out.more KB6.out.size)).mono ?_
            rintro e w7 ⟨rfl, rfl⟩
            have cu := KS6.out.cell 0
            have c3 := KQ6.out.cell 3
            have v2 : ((u : Int) != (u : Int)) = false := by simp
            have HUS := Lib.hid (show ∀ n, Calls Try.prog 45 #[.pointer (some ⟨g, 0, none⟩)] (w6.drewN n) (fun e w' => e = .returned (.int .i64 u) ∧ w' = w6.drewN n) from fun n => (used_any g u (w6.drewN n) cu).mono (fun e w' h => ⟨h.1, h.2.symm⟩))
            go_wp2_with fail
            go_quiet ((go_at_call 45; refine Calls.quiet_of_same (HUS.out _)))
            go_wp2_with fail
            go_roundw
            case rel => exact ⟨k + 1, u, y, by omega, by omega, by go_num, KQ6.out, KS6.out, below_drewN KB6.out _⟩
            case measure => simp [intOf]; omega
          · have h64 : wl.length ≤ 64 := by
              rcases Nat.lt_or_ge 64 wl.length with h | h
              · exact absurd (Or.inl h) hbad
              · exact h
            have hok : okW wl := any_okW (by
              cases h : wl.any (fun n => !isW n)
              · rfl
              · exact absurd (Or.inr h) hbad)
            have HOK := Lib.hid hok
            have hsb := sum_bd hok hne h64
            clear hbad hok
            have c0 := KQ.out.cell 0
            have c1 := KQ.out.cell 1
            have c2 := KQ.out.cell 2
            have c3 := KQ.out.cell 3
            go_wp2_with fail
            refine (rweigh_ok none 0 0 true y u (nxZ wl.sum y) (nxU wl.sum u) (nxM wl.sum y) wl Ai ci _ h64 hne HOK.out (HRI.out.more KB.out.size) (fun w' _ => rM none 0 0 y wl.sum u w' (by omega)) (nxM_ge wl.sum y (by omega) (by omega)) (nxM_lt wl.sum y (by omega))).mono ?_
            rintro e w4 ⟨rfl, hb4⟩
            have KQ4 := Lib.hid (KQ.out.onto hb4)
            have KS4 := Lib.hid (KS.out.onto hb4)
            have KB4 := Lib.hid (KB.out.trans (hb4.mono KB.out.size))
            have HRI4 := Lib.hid (HRI.out.below (hb4.mono KB.out.size) (Nat.le_refl _))
            clear c0 c1 c2 c3 e1 hb4
            go_upto_region 10 with fail
            have hp := Blk.new w4 33 #[.slice none 0 0, .bool true, .int .u64 (nxZ wl.sum y), .int .i64 (nxU wl.sum u)]
            have hb5 : Below w4.heap.size w4 (w4.alloc (.cells #[.slice none 0 0, .bool true, .int .u64 (nxZ wl.sum y), .int .i64 (nxU wl.sum u)] 33)) := (Below.refl _ _).alloc (Nat.le_refl _) _
            have kq5 := KQ4.out.onto hb5
            have KS5 := Lib.hid (KS4.out.onto hb5)
            have KB5 := Lib.hid (KB4.out.trans (hb5.mono KB4.out.size))
            have HRI5 := Lib.hid (HRI4.out.below (hb5.mono KB4.out.size) (Nat.le_refl _))
            have hpq : w4.heap.size ≠ q := by have := KQ4.out.lt; omega
            change Code.wp _ _ _ _ (w4.alloc (Obj.cells #[.slice none 0 0, .bool true, .int .u64 (nxZ wl.sum y), .int .i64 (nxU wl.sum u)] 33))
            generalize (w4.alloc (Obj.cells #[.slice none 0 0, .bool true, .int .u64 (nxZ wl.sum y), .int .i64 (nxU wl.sum u)] 33)) = w5 at *
            generalize w4.heap.size = p at *
            have d0 := hp.cell 0
            have d1 := hp.cell 1
            have d2 := hp.cell 2
            have d3 := hp.cell 3
            have c0 := kq5.cell 0
            have c1 := kq5.cell 1
            have c2 := kq5.cell 2
            have c3 := kq5.cell 3
            have f0 := kq5.free 0
            have f1 := kq5.free 1
            have f2 := kq5.free 2
            have f3 := kq5.free 3
            have KQ5 := Lib.hid kq5
            clear hp hb5 kq5 KQ4 KS4 KB4 HRI4
            go_upto_region 11 with fail
            have kq6 := put4 (W := w5) (g := q) KQ5.out rfl (.slice none 0 0) (.bool true) (.int .u64 (nxZ wl.sum y)) (.int .i64 (nxU wl.sum u))
            have ks6 := put4_far (W := w5) (g := q) KS5.out (by have := HGQ.out; omega) (.slice none 0 0) (.bool true) (.int .u64 (nxZ wl.sum y)) (.int .i64 (nxU wl.sum u))
            have kb6 := put4_below (W := w5) KB5.out (show w.heap.size ≤ q from HQW.out) (.slice none 0 0) (.bool true) (.int .u64 (nxZ wl.sum y)) (.int .i64 (nxU wl.sum u))
            have hri6 := HRI5.out.hi4 (q := q) HQW.out (.slice none 0 0) (.bool true) (.int .u64 (nxZ wl.sum y)) (.int .i64 (nxU wl.sum u))
            change Code.wp _ _ _ _ ((((w5.setCell ⟨q, 0, none⟩ (.slice none 0 0)).setCell ⟨q, 1, none⟩ (.bool true)).setCell ⟨q, 2, none⟩ (.int .u64 (nxZ wl.sum y))).setCell ⟨q, 3, none⟩ (.int .i64 (nxU wl.sum u)))
            generalize ((((w5.setCell ⟨q, 0, none⟩ (.slice none 0 0)).setCell ⟨q, 1, none⟩ (.bool true)).setCell ⟨q, 2, none⟩ (.int .u64 (nxZ wl.sum y))).setCell ⟨q, 3, none⟩ (.int .i64 (nxU wl.sum u))) = w6 at *
            have KQ6 := Lib.hid kq6
            have KS6 := Lib.hid ks6
            have KB6 := Lib.hid kb6
            have HRI6 := Lib.hid hri6
            clear kq6 ks6 kb6 hri6 c0 d0 f0 c1 d1 f1 c2 d2 f2 c3 d3 f3 KQ5 KS5 KB5 HRI5
            go_wp2_with fail
            refine (pweigh_ok 65 47 g wl Ai ci (nxM wl.sum y) (fun w' => Blk w' g 67 #[.int .i64 (nxU wl.sum u), .int .u64 (nxZ wl.sum y)] ∧ Apt g w6 w') _ hne HLC.out h64 HOK.out HM1.out (Go.Proofs.enters_of Try.func47 (by kernel_rfl) rfl) (pM g wl.sum y u _ (by omega) KS6.out) (nxM_ge wl.sum y (by omega) (by omega)) (nxM_lt wl.sum y (by omega)) (HRI6.out.more KB6.out.size) (fun w' h => (HRI6.out.below (h.2.below (Below.refl w.heap.size _) HGW.out KB6.out.size) (Nat.le_refl _)).more (Nat.le_trans KB6.out.size h.2.size))).mono ?_
            rintro e w7 ⟨rfl, hs7, ha7⟩
            have KS7 := Lib.hid hs7
            have kq7 := ha7.blk (by have := HGQ.out; omega) KQ6.out
            have KQ7 := Lib.hid kq7
            have KB7 := Lib.hid (ha7.below KB6.out HGW.out KB6.out.size)
            have cu : w7.cell? ⟨g, 0, none⟩ = some (.int .i64 (nxU wl.sum u)) := hs7.cell 0
            have c3 := kq7.cell 3
            have HUL := Lib.hid (nxU_le wl.sum u)
            clear hs7 ha7 kq7 KQ6 KS6 KB6
            generalize plc (nxM wl.sum y) wl = pv at *
            generalize nxZ wl.sum y = y' at *
            generalize nxU wl.sum u = u' at *
            have v1 : ((pv : Int) != (pv : Int)) = false := by simp
            have v2 : ((u' : Int) != (u' : Int)) = false := by simp
            have HUS := Lib.hid (show ∀ n, Calls Try.prog 45 #[.pointer (some ⟨g, 0, none⟩)] (w7.drewN n) (fun e w' => e = .returned (.int .i64 u') ∧ w' = w7.drewN n) from fun n => (used_any g u' (w7.drewN n) cu).mono (fun e w' h => ⟨h.1, h.2.symm⟩))
            go_wp2_with fail
            go_quiet ((go_at_call 45; refine Calls.quiet_of_same (HUS.out _)))
            go_wp2_with fail
            go_roundw
            case rel => exact ⟨k + 1, u', y', by omega, by have := HUL.out; omega, by go_num, KQ7.out, KS7.out, below_drewN KB7.out _⟩
            case measure => simp [intOf]; omega
      · have v70 : decide ((70 : Int) < (wl.length : Int)) = true := decide_eq_true (by omega)
        go_wp2_with fail
        go_ret
        exact ⟨rfl, KB.out⟩
    · obtain rfl : N = k := by omega
      go_wp2_with fail
      go_ret
      exact ⟨rfl, KB.out⟩
theorem walk (A : Option Addr) (l : List Int) (c : Nat) (z : Int) (m : Bool) (B : Option Addr) (N d : Nat) (w : World) (hnil : A = none → c = 0 ∧ l = []) (hr : RI w w.heap.size A l) (hz1 : -9223372036854775808 ≤ z) (hz2 : z ≤ 9223372036854775807) (hrn : RII w w.heap.size B N) :
    Calls Try.prog 6 #[.agg #[.slice A l.length c, .int .i64 z, .bool m], .slice B N d] w fun e w' => e = .returned (.bool true) ∧ Below w.heap.size w w' := by
  by_cases hl : l.length ≤ 60
  · by_cases hn : N ≤ 30
    · cases m
      · exact walkS A l c z B N d w hl hn hnil hr hrn
      · exact walkM A l c z B N d w hl hn hnil hr hrn
    · have t0 : decide ((60 : Int) < (l.length : Int)) = false := decide_eq_false (by omega)
      have t1 : decide ((30 : Int) < (N : Int)) = true := decide_eq_true (by omega)
      go_enter Try.func6, Try.ntmps6
      go_upto_region 1 with fail
      have hb0 := Blk.new w 30 #[.slice A l.length c, .int .i64 z, .bool m]
      have hbw : Below w.heap.size w (w.alloc (.cells #[.slice A l.length c, .int .i64 z, .bool m] 30)) := (Below.refl _ _).alloc (Nat.le_refl _) _
      change Code.wp _ _ _ _ (w.alloc (Obj.cells #[.slice A l.length c, .int .i64 z, .bool m] 30))
      generalize (w.alloc (Obj.cells #[.slice A l.length c, .int .i64 z, .bool m] 30)) = W at hb0 hbw ⊢
      have HB0 := Lib.hid hb0
      have HBW := Lib.hid hbw
      clear hb0 hbw hr hrn hnil
      go_wp2_with fail
      refine (awake12_any _).mono ?_
      rintro e W1 ⟨rfl, hb⟩
      have hb1 := HB0.out.onto hb
      have HW1 := Lib.hid (HBW.out.trans (hb.mono HBW.out.size))
      have a0 := hb1.cell 0
      clear hb hb1
      go_wp2_with fail
      refine (awake12_any _).mono ?_
      rintro e W2 ⟨rfl, hb⟩
      have HW2 := Lib.hid (HW1.out.trans (hb.mono HW1.out.size))
      clear hb
      go_wp2_with fail
      go_ret
      exact ⟨rfl, HW2.out⟩
  · have t0 : decide ((60 : Int) < (l.length : Int)) = true := decide_eq_true (by omega)
    go_enter Try.func6, Try.ntmps6
    go_upto_region 1 with fail
    have hb0 := Blk.new w 30 #[.slice A l.length c, .int .i64 z, .bool m]
    have hbw : Below w.heap.size w (w.alloc (.cells #[.slice A l.length c, .int .i64 z, .bool m] 30)) := (Below.refl _ _).alloc (Nat.le_refl _) _
    change Code.wp _ _ _ _ (w.alloc (Obj.cells #[.slice A l.length c, .int .i64 z, .bool m] 30))
    generalize (w.alloc (Obj.cells #[.slice A l.length c, .int .i64 z, .bool m] 30)) = W at hb0 hbw ⊢
    have HB0 := Lib.hid hb0
    have HBW := Lib.hid hbw
    clear hb0 hbw hr hrn hnil
    go_wp2_with fail
    refine (awake12_any _).mono ?_
    rintro e W1 ⟨rfl, hb⟩
    have hb1 := HB0.out.onto hb
    have HW1 := Lib.hid (HBW.out.trans (hb.mono HBW.out.size))
    have a0 := hb1.cell 0
    clear hb hb1
    go_wp2_with fail
    refine (awake12_any _).mono ?_
    rintro e W2 ⟨rfl, hb⟩
    have HW2 := Lib.hid (HW1.out.trans (hb.mono HW1.out.size))
    clear hb
    go_wp2_with fail
    go_ret
    exact ⟨rfl, HW2.out⟩

set_option maxRecDepth 100000 in
theorem lifted (os : Os) (started : os.Started) (H : Type) (enc : TypeId × Value → H) :
    ReturnsInHanded {} Try.checked os 6 .any (Rows.drawWeighsSpec.pre6 enc Try.prog Try.f6 Rows.drawWeighsRow.domain false) (Rows.drawWeighsSpec.post enc Try.prog Try.f6 false true false false) := by
  refine returnsInHanded_of_change (C := Try.checked) own started (by kernel_rfl) Try.func6
    (ChangeSpec.witness6 (enc := enc) (C := Try.checked) false ⟨#[], #[.agg #[.slice none 0 0, .int .i64 0, .bool false], .slice none 0 0], []⟩ 8 (by kernel_rfl) (by kernel_rfl) (by kernel_rfl) (by kernel_rfl)) ?_
  intro W base args ds gs before hval0 hW hcnd _
  have hval : ∀ (j : Nat) t v, Try.f6.params[j]? = some t → args[j]? = some v → Value.okWide Try.prog W .any base t v := hval0
  have hW' := hW
  obtain ⟨p, q, hA0, hV, rfl, hfz, hnd⟩ := hW
  have hA : DataW.TrodAll enc Try.prog W 0 (fun _ => true) true Try.f6.params.toList args.toList ds p := hA0
  rw [Try.params6] at hA hval
  obtain ⟨v0, vs0, d0, ds0, p0, q0, hargs, rfl, rfl, h0, r0⟩ := trodAll_cons hA
  obtain ⟨v1, vs1, d1, ds1, p1, q1, rfl, rfl, rfl, h1, r1⟩ := trodAll_cons r0
  obtain ⟨rfl, rfl, rfl⟩ := trodAll_nil r1
  obtain rfl : args = #[v0, v1] := by cases args; simp_all
  obtain ⟨rfl, rfl⟩ := trodVars_none hV
  have k0 := h0
  have lt0 : ∀ x ∈ p0, x.block < W.heap.size := by obtain ⟨m, hm⟩ := k0; exact DataW.trod_lt m _ _ _ hm
  obtain ⟨a0, l0, c0, z0, m0, rfl, hn0, hr0, hz0a, hz0b⟩ := play_open (hval 0 30 v0 rfl rfl) h0
  obtain ⟨a1, n1, c1, rfl⟩ := okWide_slice Try.underlying43 (hval 1 43 v1 rfl rfl)
  have k1 := h1
  have lt1 : ∀ x ∈ p1, x.block < W.heap.size := by obtain ⟨m, hm⟩ := k1; exact DataW.trod_lt m _ _ _ hm
  obtain ⟨f1, hf1⟩ := h1
  obtain ⟨_, hm1, hr1⟩ := rii_open (show DataW.trod enc Try.prog W 0 _ _ f1 43 [.slice a1 n1 c1] = some (d1, p1) from hf1)
  clear hA0 hval0
  refine (walk a0 l0 c0 z0 m0 a1 n1 c1 W hn0 hr0 hz0a hz0b hr1).mono fun e W' ⟨he, bel⟩ => ?_
  subst he
  exact ⟨_, rfl, _, _, _, [], _, [], hW', trodAll_mk1 (shut_bool Try.underlying4 _), (trodAll_cons_mk (Below.trod laidOut (by kernel_rfl) (of_decide_eq_true (by kernel_rfl)) k0 bel lt0) (trodAll_cons_mk (Below.trod laidOut (by kernel_rfl) (of_decide_eq_true (by kernel_rfl)) k1 bel lt1) trodAll_mk0)), rfl, bel.frame _, fun h => by cases h⟩

theorem over : Rows.drawWeighsRow.holds Try.pinned (OpenSpec.ofChange Rows.drawWeighsSpec) :=
  OpenClaim.holds_of_wide 6 Try.f6 rfl rfl rfl rfl rfl rfl rfl ⟨rfl, rfl, rfl, rfl, rfl⟩ rfl rfl rfl rfl rfl (by kernel_rfl) Try.func6 (by kernel_rfl)
    (of_decide_eq_true (by kernel_rfl)) (by unfold Func.isWrapper; first | (rw [if_pos (by decide +kernel)]; kernel_rfl) | (rw [if_neg (by decide +kernel)]; exact ⟨rfl, rfl⟩))
    (fun os started H enc _ => lifted os started H enc)

/-- The statement. -/
theorem proved : Rows.DrawWeighsSaid := over
end Go.Proofs.Ytkccciacngjhfaa.drawWeighs
