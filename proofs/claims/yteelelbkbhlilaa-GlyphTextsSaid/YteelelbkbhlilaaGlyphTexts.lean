/- GlyphTexts: whether any bytes are a text, the place at which they are none, and their points are the reference's; the text of these points is those bytes. No conditions: any string (the law itself asks nothing of strings of more than 300 bytes). -/
import Derived.Test.YteelelbkbhlilaaRows
import Derived.Test.YteelelbkbhlilaaText
import Derived.WalkKit
import Derived.ProofKit
import Derived.OpenShut
import Derived.ShutString
namespace Go.Proofs.Yteelelbkbhlilaa.glyphTexts
open Pl
open Go.ChangeShapes Go.WideShapes Go.ChangeAt Go.RowKit
open Go.ChangeMaps (open_string shut_string)
set_option linter.unusedVariables false      -- a walk need not use every 'w<i>' (that an integer argument fits its kind)

theorem own : ownKnob Try.prog.godebug = none := by kernel_rfl

set_option maxRecDepth 100000 in
set_option maxHeartbeats 4000000 in
theorem walk (a0 : ByteArray) (w0 : a0.size ≤ maxLen) (w : World) :
    Calls Try.prog 5 #[.string a0] w fun e w' => e = .returned (.bool true) ∧ Below w.heap.size w w' := by
  clear w0
  by_cases h0 : a0.size ≤ 300
  · have t0 : decide ((300 : Int) < (a0.size : Int)) = false := decide_eq_false (by omega)
    obtain ⟨l, R, sp⟩ := split_ex _ a0.data.toList (Nat.le_refl _)
    have s0 := Lib.hid (show a0.size ≤ 100000 by omega)
    have hsz := sp.size
    by_cases hR : R = []
    · subst hR
      have hlen : (flat l).length = a0.size := by simpa using hsz.symm
      have Hlen := Lib.hid (congrArg Int.ofNat hlen)
      have hll : l.length ≤ 300 := by have := len_le l; omega
      have hS : a0 = ⟨(flat l).toArray⟩ := by
        have := sp.1
        rw [List.append_nil] at this
        rw [← this]
      have HS := Lib.hid hS
      clear hsz hlen hS
      go_enter Try.func5, Try.ntmps5
      go_wp2_with fail
      refine (awake_any _).mono ?_
      rintro e w' ⟨rfl, rfl⟩
      go_wp2_with fail
      refine (rpoints_any a0 l [] sp s0.out _).mono ?_
      rintro e w1 ⟨A1, c1, rfl, r1, b1⟩
      rw [show (((flat l).length : Nat) : Int) = (a0.size : Int) from Hlen.out]
      go_wp2_with fail
      refine (valid_any a0 l [] sp _).mono ?_
      rintro e w2 ⟨rfl, b2⟩
      rw [stopAt_nil l rfl, isFull_nil rfl]
      go_wp2_with fail
      refine (points_full a0 l sp s0.out _).mono ?_
      rintro e w3 ⟨A2, c2, rfl, r2, b3⟩
      have bel : Below w.heap.size w w3 := by
        have x1 := b1.trans (b2.mono b1.size)
        exact x1.trans (b3.mono x1.size)
      have Bel := Lib.hid bel
      have R1 := Lib.hid (r1.below (b2.trans (b3.mono b2.size)) (Nat.le_refl _))
      have R2 := Lib.hid r2
      clear b1 b2 b3 bel r1 r2
      go_wp2_with fail
      go_loopw [74] (fun i wr => ∃ q k : Nat, k ≤ l.length ∧ i = .int .i64 k ∧ wr = w3.drewN q) (fun i _ => l.length - (intOf i).toNat)
      case atStart => exact ⟨0, 0, Nat.zero_le _, rfl, rfl⟩
      case round =>
        obtain ⟨q, k, hk, rfl, rfl⟩ := hrel
        by_cases hlt : k < l.length
        · have u1 : decide (k < l.length) = true := decide_eq_true hlt
          have hne : l ≠ [] := by intro e; subst e; simp at hlt
          obtain ⟨p1, o1, hA, _, d1⟩ := R1.out hne
          have cell1 := d1 k hlt
          subst hA
          obtain ⟨p2, o2, hA', _, d2⟩ := R2.out hne
          have cell2 := d2 k hlt
          subst hA'
          clear d1 d2 hne
          generalize l.getD k 0 = x at cell1 cell2
          go_wp2_with fail
          go_quiet (fail)
          go_wp2_with fail
          go_roundw
          case rel => exact ⟨_, k + 1, by omega, by go_num, rfl⟩
          case measure => simp [intOf]; omega
        · obtain rfl : l.length = k := by omega
          go_wp2_with fail
          have rd : Reads (w3.drewN q) (w3.drewN q).heap.size A2 l := R2.out
          refine (text_good l A2 c2 a0 _ (by omega) rd sp.2.2 HS.out).mono ?_
          rintro e w5 ⟨rfl, b5⟩
          have B5 := Lib.hid ((below_drewN Bel.out q).trans (b5.mono Bel.out.size))
          clear b5 rd
          go_wp2_with fail
          go_ret
          exact ⟨ret_bool (by simp), B5.out⟩
    · have HR := Lib.hid hR
      have hlt : ((flat l).length : Int) < (a0.size : Int) := by
        have : 0 < R.length := List.length_pos_iff.2 hR
        omega
      clear hsz hR
      go_enter Try.func5, Try.ntmps5
      go_wp2_with fail
      refine (awake_any _).mono ?_
      rintro e w' ⟨rfl, rfl⟩
      go_wp2_with fail
      refine (rpoints_any a0 l R sp s0.out _).mono ?_
      rintro e w1 ⟨A1, c1, rfl, r1, b1⟩
      go_wp2_with fail
      refine (valid_any a0 l R sp _).mono ?_
      rintro e w2 ⟨rfl, b2⟩
      rw [stopAt_not l HR.out, isFull_not HR.out]
      go_wp2_with fail
      refine (points_not a0 l R sp HR.out s0.out _).mono ?_
      rintro e w3 ⟨rfl, b3⟩
      have bel : Below w.heap.size w w3 := by
        have x1 := b1.trans (b2.mono b1.size)
        exact x1.trans (b3.mono x1.size)
      have Bel := Lib.hid bel
      clear b1 b2 b3 bel r1
      go_wp2_with fail
      go_ret
      exact ⟨ret_bool (by simp), Bel.out⟩
  · have t0 : decide ((300 : Int) < (a0.size : Int)) = true := decide_eq_true (by omega)
    go_enter Try.func5, Try.ntmps5
    go_wp2_with (go_at_call 10; refine (awake_any _).mono ?_; rintro e w' ⟨rfl, rfl⟩)
    go_ret
    exact ⟨rfl, Below.refl _ _⟩

set_option maxRecDepth 100000 in
theorem lifted (os : Os) (started : os.Started) (H : Type) (enc : TypeId × Value → H) :
    ReturnsInHanded {} Try.checked os 5 .any (Rows.glyphTextsSpec.pre6 enc Try.prog Try.f5 Rows.glyphTextsRow.domain false) (Rows.glyphTextsSpec.post enc Try.prog Try.f5 false true false false) := by
  refine returnsInHanded_of_change (C := Try.checked) own started (by kernel_rfl) Try.func5
    (ChangeSpec.witness6 (enc := enc) (C := Try.checked) false ⟨#[], #[.string ByteArray.empty], []⟩ 8 (by kernel_rfl) (by kernel_rfl) (by kernel_rfl) (by kernel_rfl)) ?_
  intro W base args ds gs before hval0 hW hcnd _
  have hval : ∀ (j : Nat) t v, Try.f5.params[j]? = some t → args[j]? = some v → Value.okWide Try.prog W .any base t v := hval0
  have hW' := hW
  obtain ⟨p, q, hA0, hV, rfl, hfz, hnd⟩ := hW
  have hA : DataW.TrodAll enc Try.prog W 0 (fun _ => true) true Try.f5.params.toList args.toList ds p := hA0
  rw [Try.params5] at hA hval
  obtain ⟨v0, vs0, d0, ds0, p0, q0, hargs, rfl, rfl, h0, r0⟩ := trodAll_cons hA
  obtain ⟨rfl, rfl, rfl⟩ := trodAll_nil r0
  obtain rfl : args = #[v0] := by cases args; simp_all
  obtain ⟨rfl, rfl⟩ := trodVars_none hV
  obtain ⟨a0, rfl, rfl, rfl, w0⟩ := open_string Try.underlying9 (hval 0 9 v0 rfl rfl) h0
  clear hA0 hval0
  simp only [List.append_nil] at hW'
  refine (walk a0 w0 W).mono fun e W' ⟨he, bel⟩ => ?_
  subst he
  exact ⟨_, rfl, _, _, _, [], _, [], hW', trodAll_mk1 (shut_bool Try.underlying4 _), (trodAll_cons_mk (shut_string Try.underlying9 w0) trodAll_mk0), rfl, bel.frame _, fun h => by cases h⟩

theorem over : Rows.glyphTextsRow.holds Try.pinned (OpenSpec.ofChange Rows.glyphTextsSpec) :=
  OpenClaim.holds_of_wide 5 Try.f5 rfl rfl rfl rfl rfl rfl rfl ⟨rfl, rfl, rfl, rfl, rfl⟩ rfl rfl rfl rfl rfl (by kernel_rfl) Try.func5 (by kernel_rfl)
    (of_decide_eq_true (by kernel_rfl)) (by unfold Func.isWrapper; first | (rw [if_pos (by decide +kernel)]; kernel_rfl) | (rw [if_neg (by decide +kernel)]; exact ⟨rfl, rfl⟩))
    (fun os started H enc _ => lifted os started H enc)

/-- The statement. -/
theorem proved : Rows.GlyphTextsSaid :=
  over
end Go.Proofs.Yteelelbkbhlilaa.glyphTexts
