/- GlyphOrders: of two texts the one stands ahead of the other, byte by byte, just if its points do. No conditions: any two strings (the law itself asks nothing of strings of more than 200 bytes, nor of bytes that are no text). -/
import Derived.Test.YteelelbkbhlilaaRows
import Derived.Test.YteelelbkbhlilaaPoints2
import Derived.Test.YteelelbkbhlilaaOrder
import Derived.WalkKit
import Derived.ProofKit
import Derived.OpenShut
import Derived.ShutString
namespace Go.Proofs.Yteelelbkbhlilaa.glyphOrders
open Pl
open Go.ChangeShapes Go.WideShapes Go.ChangeAt Go.RowKit
open Go.ChangeMaps (open_string shut_string)
set_option linter.unusedVariables false      -- a walk need not use every 'w<i>' (that an integer argument fits its kind)

theorem own : ownKnob Try.prog.godebug = none := by kernel_rfl

set_option maxRecDepth 100000 in
set_option maxHeartbeats 4000000 in
theorem walk (a0 : ByteArray) (a1 : ByteArray) (w0 : a0.size ≤ maxLen) (w1 : a1.size ≤ maxLen) (w : World) :
    Calls Try.prog 8 #[.string a0, .string a1] w fun e w' => e = .returned (.bool true) ∧ Below w.heap.size w w' := by
  clear w0 w1
  by_cases h0 : a0.size ≤ 200
  · have t0 : decide ((200 : Int) < (a0.size : Int)) = false := decide_eq_false (by omega)
    by_cases h1 : a1.size ≤ 200
    · have t1 : decide ((200 : Int) < (a1.size : Int)) = false := decide_eq_false (by omega)
      obtain ⟨la, Ra, sa⟩ := split_ex _ a0.data.toList (Nat.le_refl _)
      obtain ⟨lb, Rb, sb⟩ := split_ex _ a1.data.toList (Nat.le_refl _)
      have s0 := Lib.hid (show a0.size ≤ 100000 by omega)
      have s1 := Lib.hid (show a1.size ≤ 100000 by omega)
      by_cases hRa : Ra = []
      · subst hRa
        by_cases hRb : Rb = []
        · subst hRb
          have hla : la.length ≤ 200 := by have := sa.size; have := len_le la; omega
          have hlb : lb.length ≤ 200 := by have := sb.size; have := len_le lb; omega
          have ea : a0.toList = flat la := by rw [Lib.toList_data, sa.1]; simp
          have eb : a1.toList = flat lb := by rw [Lib.toList_data, sb.1]; simp
          have Ea := Lib.hid ea
          have Eb := Lib.hid eb
          clear ea eb
          go_enter Try.func8, Try.ntmps8
          go_wp2_with fail
          refine (awake_any _).mono ?_
          rintro e w' ⟨rfl, rfl⟩
          go_wp2_with fail
          refine (rvalid_yes a0 la sa s0.out _).mono ?_
          rintro e w1 ⟨rfl, b1⟩
          go_wp2_with fail
          refine (rvalid_yes a1 lb sb s1.out _).mono ?_
          rintro e w2 ⟨rfl, b2⟩
          go_wp2_with fail
          refine (points_full a0 la sa s0.out _).mono ?_
          rintro e w3 ⟨A, c, rfl, r1, b3⟩
          go_wp2_with fail
          refine (points_full a1 lb sb s1.out _).mono ?_
          rintro e w4 ⟨A', c', rfl, r2, b4⟩
          have bel : Below w.heap.size w w4 := by
            have x1 := b1.trans (b2.mono b1.size)
            have x2 := x1.trans (b3.mono x1.size)
            exact x2.trans (b4.mono x2.size)
          have Bel := Lib.hid bel
          have R1 := Lib.hid (r1.below b4 (Nat.le_refl _))
          have R2 := Lib.hid r2
          clear b1 b2 b3 b4 bel r1 r2
          go_wp2_with fail
          go_loopw [9] (fun i wr => ∃ q k : Nat, k ≤ la.length ∧ k ≤ lb.length ∧ i = .int .i64 k ∧ (∀ j, j < k → la.getD j 0 = lb.getD j 0) ∧ wr = w4.drewN q) (fun i _ => la.length - (intOf i).toNat)
          case atStart => exact ⟨0, 0, Nat.zero_le _, Nat.zero_le _, rfl, fun j h => absurd h (by omega), rfl⟩
          case round =>
            obtain ⟨q, k, hk, hk', rfl, hsame, rfl⟩ := hrel
            have Hs := Lib.hid hsame
            clear hsame
            by_cases ha : k < la.length
            · have u1 : decide (k < la.length) = true := decide_eq_true ha
              have u2 : (k == la.length) = false := by simp; omega
              have u3 : ((k : Int) == (la.length : Int)) = false := by simp; omega
              by_cases hb : k < lb.length
              · have u4 : decide (k < lb.length) = true := decide_eq_true hb
                obtain ⟨p1, o1, hA, _, c1⟩ := R1.out (by intro e; subst e; simp at ha)
                have cell1 := c1 k ha
                subst hA
                obtain ⟨p2, o2, hA', _, c2⟩ := R2.out (by intro e; subst e; simp at hb)
                have cell2 := c2 k hb
                subst hA'
                clear c1 c2
                by_cases hxy : la.getD k 0 = lb.getD k 0
                · have Hs' : Hid (∀ j, j < k + 1 → la.getD j 0 = lb.getD j 0) := Lib.hid (by
                    intro j hj
                    by_cases hjk : j < k
                    · exact Hs.out j hjk
                    · obtain rfl : k = j := by omega
                      exact hxy)
                  rw [hxy] at cell1
                  clear hxy
                  generalize lb.getD k 0 = y at cell1 cell2
                  go_wp2_with fail
                  go_quiet (fail)
                  go_wp2_with fail
                  go_roundw
                  case rel =>
                    exact ⟨_, k + 1, by omega, by omega, by go_num, Hs'.out, rfl⟩
                  case measure => simp [intOf]; omega
                · have hle := bl_less la lb k ha hb Hs.out sa.2.2 sb.2.2
                  rw [← Ea.out, ← Eb.out] at hle
                  generalize la.getD k 0 = x at cell1 hxy hle
                  generalize lb.getD k 0 = y at cell2 hxy hle
                  have u5 : (x == y) = false := by simp; omega
                  rcases (by omega : x < y ∨ y < x) with hlt | hlt
                  · have hbl := hle.1 hlt
                    have u6 : decide (x < y) = true := decide_eq_true hlt
                    clear hle hxy
                    go_wp2_with fail
                    go_quiet (fail)
                    go_wp2_with fail
                    go_quiet (fail)
                    go_wp2_with fail
                    go_ret
                    exact ⟨rfl, below_drewN Bel.out _⟩
                  · have hbl := hle.2 hlt
                    have u6 : decide (x < y) = false := decide_eq_false (by omega)
                    clear hle hxy
                    go_wp2_with fail
                    go_quiet (fail)
                    go_wp2_with fail
                    go_quiet (fail)
                    go_wp2_with fail
                    go_ret
                    exact ⟨rfl, below_drewN Bel.out _⟩
              · have u4 : decide (k < lb.length) = false := decide_eq_false hb
                have hbl := bl_end la lb k hk (by omega) Hs.out
                rw [← Ea.out, ← Eb.out] at hbl
                go_wp2_with fail
                go_quiet (fail)
                go_wp2_with fail
                go_quiet (fail)
                go_wp2_with fail
                go_ret
                exact ⟨rfl, below_drewN Bel.out _⟩
            · have u1 : decide (k < la.length) = false := decide_eq_false ha
              have u2 : (k == la.length) = true := by simp; omega
              have u3 : ((k : Int) == (la.length : Int)) = true := by simp; omega
              by_cases hb : k < lb.length
              · have u4 : decide (k < lb.length) = true := decide_eq_true hb
                have hbl := bl_short la lb k (by omega) hb Hs.out
                rw [← Ea.out, ← Eb.out] at hbl
                go_wp2_with fail
                go_quiet (fail)
                go_wp2_with fail
                go_quiet (fail)
                go_wp2_with fail
                go_ret
                exact ⟨rfl, below_drewN Bel.out _⟩
              · have u4 : decide (k < lb.length) = false := decide_eq_false hb
                have hbl := bl_end la lb k hk (by omega) Hs.out
                rw [← Ea.out, ← Eb.out] at hbl
                go_wp2_with fail
                go_quiet (fail)
                go_wp2_with fail
                go_quiet (fail)
                go_wp2_with fail
                go_ret
                exact ⟨rfl, below_drewN Bel.out _⟩
        · go_enter Try.func8, Try.ntmps8
          go_wp2_with fail
          refine (awake_any _).mono ?_
          rintro e w' ⟨rfl, rfl⟩
          go_wp2_with fail
          refine (rvalid_yes a0 la sa s0.out _).mono ?_
          rintro e w1 ⟨rfl, b1⟩
          go_wp2_with fail
          refine (rvalid_no a1 lb Rb sb hRb s1.out _).mono ?_
          rintro e w2 ⟨rfl, b2⟩
          go_wp2_with fail
          refine (awake_any _).mono ?_
          rintro e w' ⟨rfl, rfl⟩
          go_wp2_with fail
          go_ret
          exact ⟨rfl, b1.trans (b2.mono b1.size)⟩
      · go_enter Try.func8, Try.ntmps8
        go_wp2_with fail
        refine (awake_any _).mono ?_
        rintro e w' ⟨rfl, rfl⟩
        go_wp2_with fail
        refine (rvalid_no a0 la Ra sa hRa s0.out _).mono ?_
        rintro e w1 ⟨rfl, b1⟩
        go_wp2_with fail
        refine (awake_any _).mono ?_
        rintro e w' ⟨rfl, rfl⟩
        go_wp2_with fail
        go_ret
        exact ⟨rfl, b1⟩
    · have t1 : decide ((200 : Int) < (a1.size : Int)) = true := decide_eq_true (by omega)
      go_enter Try.func8, Try.ntmps8
      go_wp2_with (go_at_call 10; refine (awake_any _).mono ?_; rintro e w' ⟨rfl, rfl⟩)
      go_ret
      exact ⟨rfl, Below.refl _ _⟩
  · have t0 : decide ((200 : Int) < (a0.size : Int)) = true := decide_eq_true (by omega)
    go_enter Try.func8, Try.ntmps8
    go_wp2_with (go_at_call 10; refine (awake_any _).mono ?_; rintro e w' ⟨rfl, rfl⟩)
    go_ret
    exact ⟨rfl, Below.refl _ _⟩

set_option maxRecDepth 100000 in
theorem lifted (os : Os) (started : os.Started) (H : Type) (enc : TypeId × Value → H) :
    ReturnsInHanded {} Try.checked os 8 .any (Rows.glyphOrdersSpec.pre6 enc Try.prog Try.f8 Rows.glyphOrdersRow.domain false) (Rows.glyphOrdersSpec.post enc Try.prog Try.f8 false true false false) := by
  refine returnsInHanded_of_change (C := Try.checked) own started (by kernel_rfl) Try.func8
    (ChangeSpec.witness6 (enc := enc) (C := Try.checked) false ⟨#[], #[.string ByteArray.empty, .string ByteArray.empty], []⟩ 8 (by kernel_rfl) (by kernel_rfl) (by kernel_rfl) (by kernel_rfl)) ?_
  intro W base args ds gs before hval0 hW hcnd _
  have hval : ∀ (j : Nat) t v, Try.f8.params[j]? = some t → args[j]? = some v → Value.okWide Try.prog W .any base t v := hval0
  have hW' := hW
  obtain ⟨p, q, hA0, hV, rfl, hfz, hnd⟩ := hW
  have hA : DataW.TrodAll enc Try.prog W 0 (fun _ => true) true Try.f8.params.toList args.toList ds p := hA0
  rw [Try.params8] at hA hval
  obtain ⟨v0, vs0, d0, ds0, p0, q0, hargs, rfl, rfl, h0, r0⟩ := trodAll_cons hA
  obtain ⟨v1, vs1, d1, ds1, p1, q1, rfl, rfl, rfl, h1, r1⟩ := trodAll_cons r0
  obtain ⟨rfl, rfl, rfl⟩ := trodAll_nil r1
  obtain rfl : args = #[v0, v1] := by cases args; simp_all
  obtain ⟨rfl, rfl⟩ := trodVars_none hV
  obtain ⟨a0, rfl, rfl, rfl, w0⟩ := open_string Try.underlying9 (hval 0 9 v0 rfl rfl) h0
  obtain ⟨a1, rfl, rfl, rfl, w1⟩ := open_string Try.underlying9 (hval 1 9 v1 rfl rfl) h1
  clear hA0 hval0
  simp only [List.append_nil] at hW'
  refine (walk a0 a1 w0 w1 W).mono fun e W' ⟨he, bel⟩ => ?_
  subst he
  exact ⟨_, rfl, _, _, _, [], _, [], hW', trodAll_mk1 (shut_bool Try.underlying4 _), (trodAll_cons_mk (shut_string Try.underlying9 w0) (trodAll_cons_mk (shut_string Try.underlying9 w1) trodAll_mk0)), rfl, bel.frame _, fun h => by cases h⟩

theorem over : Rows.glyphOrdersRow.holds Try.pinned (OpenSpec.ofChange Rows.glyphOrdersSpec) :=
  OpenClaim.holds_of_wide 8 Try.f8 rfl rfl rfl rfl rfl rfl rfl ⟨rfl, rfl, rfl, rfl, rfl⟩ rfl rfl rfl rfl rfl (by kernel_rfl) Try.func8 (by kernel_rfl)
    (of_decide_eq_true (by kernel_rfl)) (by unfold Func.isWrapper; first | (rw [if_pos (by decide +kernel)]; kernel_rfl) | (rw [if_neg (by decide +kernel)]; exact ⟨rfl, rfl⟩))
    (fun os started H enc _ => lifted os started H enc)

/-- The statement. -/
theorem proved : Rows.GlyphOrdersSaid :=
  over
end Go.Proofs.Yteelelbkbhlilaa.glyphOrders
