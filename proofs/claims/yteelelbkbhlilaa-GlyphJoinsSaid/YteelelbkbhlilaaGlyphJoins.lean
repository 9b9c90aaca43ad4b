/- GlyphJoins: two texts, one behind the other, are a text, whose points are those of both, one behind the other. No conditions: any two strings (the law itself asks nothing of strings of more than 200 bytes, nor of bytes that are no text). -/
import Derived.Test.YteelelbkbhlilaaRows
import Derived.Test.YteelelbkbhlilaaPoints2
import Derived.WalkKit
import Derived.ProofKit
import Derived.OpenShut
import Derived.ShutString
namespace Go.Proofs.Yteelelbkbhlilaa.glyphJoins
open Pl
open Go.ChangeShapes Go.WideShapes Go.ChangeAt Go.RowKit
open Go.ChangeMaps (open_string shut_string)
set_option linter.unusedVariables false      -- a walk need not use every 'w<i>' (that an integer argument fits its kind)

theorem own : ownKnob Try.prog.godebug = none := by kernel_rfl

theorem split_join {a b : ByteArray} {la lb : List Int} (ha : Split a.data.toList la []) (hb : Split b.data.toList lb []) : Split (a ++ b).data.toList (la ++ lb) [] := by
  refine ⟨?_, rfl, ?_⟩
  · rw [ByteArray.data_append, Array.toList_append, ha.1, hb.1, flat_append]; simp
  · intro x hx
    rcases List.mem_append.1 hx with h | h
    · exact ha.2.2 x h
    · exact hb.2.2 x h

set_option maxRecDepth 100000 in
set_option maxHeartbeats 4000000 in
theorem walk (a0 : ByteArray) (a1 : ByteArray) (w0 : a0.size ≤ maxLen) (w1 : a1.size ≤ maxLen) (w : World) :
    Calls Try.prog 9 #[.string a0, .string a1] w fun e w' => e = .returned (.bool true) ∧ Below w.heap.size w w' := by
  clear w0 w1
  by_cases h0 : a0.size ≤ 200
  · have t0 : decide ((200 : Int) < (a0.size : Int)) = false := decide_eq_false (by omega)
    by_cases h1 : a1.size ≤ 200
    · have t1 : decide ((200 : Int) < (a1.size : Int)) = false := decide_eq_false (by omega)
      obtain ⟨la, Ra, sa⟩ := split_ex _ a0.data.toList (Nat.le_refl _)
      obtain ⟨lb, Rb, sb⟩ := split_ex _ a1.data.toList (Nat.le_refl _)
      have s0 := Lib.hid (show a0.size ≤ 100000 by omega)
      have s1 := Lib.hid (show a1.size ≤ 100000 by omega)
      by_cases hRa : Ra = []
      · subst hRa
        by_cases hRb : Rb = []
        · subst hRb
          have sj := split_join sa sb
          have s2 := Lib.hid (show (a0 ++ a1).size ≤ 100000 by rw [ByteArray.size_append]; omega)
          have hsum : a0.size + a1.size ≤ 400 := by omega
          have hla : la.length ≤ 200 := by have := sa.size; have := len_le la; omega
          have hlb : lb.length ≤ 200 := by have := sb.size; have := len_le lb; omega
          go_enter Try.func9, Try.ntmps9
          go_wp2_with fail
          refine (awake_any _).mono ?_
          rintro e w' ⟨rfl, rfl⟩
          go_wp2_with fail
          refine (rvalid_yes a0 la sa s0.out _).mono ?_
          rintro e w1 ⟨rfl, b1⟩
          go_wp2_with fail
          refine (rvalid_yes a1 lb sb s1.out _).mono ?_
          rintro e w2 ⟨rfl, b2⟩
          go_wp2_with fail
          refine (points_full a0 la sa s0.out _).mono ?_
          rintro e w3 ⟨A, c, rfl, r1, b3⟩
          go_wp2_with fail
          refine (points_full a1 lb sb s1.out _).mono ?_
          rintro e w4 ⟨A', c', rfl, r2, b4⟩
          go_wp2_with fail
          refine (points_full (a0 ++ a1) (la ++ lb) sj s2.out _).mono ?_
          rintro e w5 ⟨A2, c2, rfl, r3, b5⟩
          have bel : Below w.heap.size w w5 := by
            have x1 := b1.trans (b2.mono b1.size)
            have x2 := x1.trans (b3.mono x1.size)
            have x3 := x2.trans (b4.mono x2.size)
            exact x3.trans (b5.mono x3.size)
          have Bel := Lib.hid bel
          have R1 := Lib.hid (r1.below (b4.trans (b5.mono b4.size)) (Nat.le_refl _))
          have R2 := Lib.hid (r2.below b5 (Nat.le_refl _))
          have R3 := Lib.hid r3
          clear b1 b2 b3 b4 b5 bel r1 r2 r3
          go_wp2_with fail
          go_loopw [74] (fun i wr => ∃ q k : Nat, k ≤ la.length + lb.length ∧ i = .int .i64 k ∧ wr = w5.drewN q) (fun i _ => la.length + lb.length - (intOf i).toNat)
          case atStart => exact ⟨0, 0, Nat.zero_le _, rfl, rfl⟩
          case round =>
            obtain ⟨q, k, hk, rfl, rfl⟩ := hrel
            by_cases hlt : k < la.length + lb.length
            · have u1 : decide ((k : Int) < (la.length : Int) + (lb.length : Int)) = true := decide_eq_true (by omega)
              have hne3 : la ++ lb ≠ [] := by intro e; have := congrArg List.length e; simp at this; have h3 := this.1; have h4 := this.2; subst h3; subst h4; simp at hlt
              obtain ⟨b3, o3, hA2, _, c3⟩ := R3.out hne3
              have cell3 := c3 k (by simp; omega)
              subst hA2
              clear c3 hne3
              by_cases hka : k < la.length
              · have u2 : decide (k < la.length) = true := decide_eq_true hka
                have u3 : decide (la.length ≤ k) = false := decide_eq_false (by omega)
                have u2' : decide ((k : Int) < (la.length : Int)) = true := decide_eq_true (by omega)
                have u3' : decide ((la.length : Int) ≤ (k : Int)) = false := decide_eq_false (by omega)
                obtain ⟨b1, o1, hA, _, c1⟩ := R1.out (by intro e; subst e; simp at hka)
                have cell1 := c1 k hka
                subst hA
                have hx : (la ++ lb).getD k 0 = la.getD k 0 := by simp [List.getElem?_append_left hka]
                rw [hx] at cell3
                generalize la.getD k 0 = x at cell1 cell3
                clear c1 hx
                go_wp2_with fail
                go_quiet (fail)
                go_wp2_with fail
                go_roundw
                case rel => exact ⟨_, k + 1, by omega, by go_num, rfl⟩
                case measure => simp [intOf]; omega
              · have u2 : decide (k < la.length) = false := decide_eq_false hka
                have u3 : decide (la.length ≤ k) = true := decide_eq_true (by omega)
                have u2' : decide ((k : Int) < (la.length : Int)) = false := decide_eq_false (by omega)
                have u3' : decide ((la.length : Int) ≤ (k : Int)) = true := decide_eq_true (by omega)
                obtain ⟨b1, o1, hA, _, c1⟩ := R2.out (by intro e; subst e; simp at hlt; omega)
                have cell1 := c1 (k - la.length) (by omega)
                subst hA
                have hx : (la ++ lb).getD k 0 = lb.getD (k - la.length) 0 := by simp [List.getElem?_append_right (show la.length ≤ k by omega)]
                rw [hx] at cell3
                generalize lb.getD (k - la.length) 0 = x at cell1 cell3
                have e1 : IntKind.i64.wrap ((k : Int) - (la.length : Int)) = (k : Int) - (la.length : Int) := IntWalk.i64_in _ (by omega)
                have e2 : 0 ≤ (k : Int) - (la.length : Int) := by omega
                have e3 : ((k : Int) - (la.length : Int)).toNat = k - la.length := by omega
                have e4 : (k : Int) - (la.length : Int) < (lb.length : Int) := by omega
                clear c1 hx
                go_wp2_with fail
                go_quiet (fail)
                go_wp2_with fail
                go_roundw
                case rel => exact ⟨_, k + 1, by omega, by go_num, rfl⟩
                case measure => simp [intOf]; omega
            · obtain rfl : k = la.length + lb.length := by omega
              go_wp2_with fail
              go_ret
              exact ⟨rfl, below_drewN Bel.out _⟩
        · go_enter Try.func9, Try.ntmps9
          go_wp2_with fail
          refine (awake_any _).mono ?_
          rintro e w' ⟨rfl, rfl⟩
          go_wp2_with fail
          refine (rvalid_yes a0 la sa s0.out _).mono ?_
          rintro e w1 ⟨rfl, b1⟩
          go_wp2_with fail
          refine (rvalid_no a1 lb Rb sb hRb s1.out _).mono ?_
          rintro e w2 ⟨rfl, b2⟩
          go_wp2_with fail
          refine (awake_any _).mono ?_
          rintro e w' ⟨rfl, rfl⟩
          go_wp2_with fail
          go_ret
          exact ⟨rfl, b1.trans (b2.mono b1.size)⟩
      · go_enter Try.func9, Try.ntmps9
        go_wp2_with fail
        refine (awake_any _).mono ?_
        rintro e w' ⟨rfl, rfl⟩
        go_wp2_with fail
        refine (rvalid_no a0 la Ra sa hRa s0.out _).mono ?_
        rintro e w1 ⟨rfl, b1⟩
        go_wp2_with fail
        refine (awake_any _).mono ?_
        rintro e w' ⟨rfl, rfl⟩
        go_wp2_with fail
        go_ret
        exact ⟨rfl, b1⟩
    · have t1 : decide ((200 : Int) < (a1.size : Int)) = true := decide_eq_true (by omega)
      go_enter Try.func9, Try.ntmps9
      go_wp2_with (go_at_call 10; refine (awake_any _).mono ?_; rintro e w' ⟨rfl, rfl⟩)
      go_ret
      exact ⟨rfl, Below.refl _ _⟩
  · have t0 : decide ((200 : Int) < (a0.size : Int)) = true := decide_eq_true (by omega)
    go_enter Try.func9, Try.ntmps9
    go_wp2_with (go_at_call 10; refine (awake_any _).mono ?_; rintro e w' ⟨rfl, rfl⟩)
    go_ret
    exact ⟨rfl, Below.refl _ _⟩

set_option maxRecDepth 100000 in
theorem lifted (os : Os) (started : os.Started) (H : Type) (enc : TypeId × Value → H) :
    ReturnsInHanded {} Try.checked os 9 .any (Rows.glyphJoinsSpec.pre6 enc Try.prog Try.f9 Rows.glyphJoinsRow.domain false) (Rows.glyphJoinsSpec.post enc Try.prog Try.f9 false true false false) := by
  refine returnsInHanded_of_change (C := Try.checked) own started (by kernel_rfl) Try.func9
    (ChangeSpec.witness6 (enc := enc) (C := Try.checked) false ⟨#[], #[.string ByteArray.empty, .string ByteArray.empty], []⟩ 8 (by kernel_rfl) (by kernel_rfl) (by kernel_rfl) (by kernel_rfl)) ?_
  intro W base args ds gs before hval0 hW hcnd _
  have hval : ∀ (j : Nat) t v, Try.f9.params[j]? = some t → args[j]? = some v → Value.okWide Try.prog W .any base t v := hval0
  have hW' := hW
  obtain ⟨p, q, hA0, hV, rfl, hfz, hnd⟩ := hW
  have hA : DataW.TrodAll enc Try.prog W 0 (fun _ => true) true Try.f9.params.toList args.toList ds p := hA0
  rw [Try.params9] at hA hval
  obtain ⟨v0, vs0, d0, ds0, p0, q0, hargs, rfl, rfl, h0, r0⟩ := trodAll_cons hA
  obtain ⟨v1, vs1, d1, ds1, p1, q1, rfl, rfl, rfl, h1, r1⟩ := trodAll_cons r0
  obtain ⟨rfl, rfl, rfl⟩ := trodAll_nil r1
  obtain rfl : args = #[v0, v1] := by cases args; simp_all
  obtain ⟨rfl, rfl⟩ := trodVars_none hV
  obtain ⟨a0, rfl, rfl, rfl, w0⟩ := open_string Try.underlying9 (hval 0 9 v0 rfl rfl) h0
  obtain ⟨a1, rfl, rfl, rfl, w1⟩ := open_string Try.underlying9 (hval 1 9 v1 rfl rfl) h1
  clear hA0 hval0
  simp only [List.append_nil] at hW'
  refine (walk a0 a1 w0 w1 W).mono fun e W' ⟨he, bel⟩ => ?_
  subst he
  exact ⟨_, rfl, _, _, _, [], _, [], hW', trodAll_mk1 (shut_bool Try.underlying4 _), (trodAll_cons_mk (shut_string Try.underlying9 w0) (trodAll_cons_mk (shut_string Try.underlying9 w1) trodAll_mk0)), rfl, bel.frame _, fun h => by cases h⟩

theorem over : Rows.glyphJoinsRow.holds Try.pinned (OpenSpec.ofChange Rows.glyphJoinsSpec) :=
  OpenClaim.holds_of_wide 9 Try.f9 rfl rfl rfl rfl rfl rfl rfl ⟨rfl, rfl, rfl, rfl, rfl⟩ rfl rfl rfl rfl rfl (by kernel_rfl) Try.func9 (by kernel_rfl)
    (of_decide_eq_true (by kernel_rfl)) (by unfold Func.isWrapper; first | (rw [if_pos (by decide +kernel)]; kernel_rfl) | (rw [if_neg (by decide +kernel)]; exact ⟨rfl, rfl⟩))
    (fun os started H enc _ => lifted os started H enc)

/-- The statement. -/
theorem proved : Rows.GlyphJoinsSaid :=
  over
end Go.Proofs.Yteelelbkbhlilaa.glyphJoins
