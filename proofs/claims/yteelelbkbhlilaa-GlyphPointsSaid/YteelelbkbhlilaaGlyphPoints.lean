/- GlyphPoints: whether any number is a point is the reference's answer; a point's bytes are the reference's, and Decode finds that point and their number again, whatever bytes stand behind them; what is no point has no bytes. No conditions: any int and any string (the law itself asks nothing of strings of more than 100 bytes). -/
import Derived.Test.YteelelbkbhlilaaRows
import Derived.Test.YteelelbkbhlilaaRefText
import Derived.WalkKit
import Derived.ProofKit
import Derived.OpenShut
import Derived.ShutString
namespace Go.Proofs.Yteelelbkbhlilaa.glyphPoints
open Pl
open Go.ChangeShapes Go.WideShapes Go.ChangeAt Go.RowKit
open Go.ChangeMaps (open_string shut_string)
set_option linter.unusedVariables false      -- a walk need not use every 'w<i>' (that an integer argument fits its kind)

theorem own : ownKnob Try.prog.godebug = none := by kernel_rfl

theorem encode_eq (n : Int) (h : isPt n = true) : Utf8.encode n = ⟨(Lib.encodeRune n).toArray⟩ := by
  have hp := (isPt_iff n).1 h
  have hv : Utf8.valid n = true := by rw [validRune_eq]; simpa [validRune] using hp
  simp only [Utf8.encode, hv, if_true]
  by_cases h1 : n ≤ 127
  · rw [if_pos (by omega), Lib.encodeRune, Lib.encodeRuneZ_one (by omega) h1]; rfl
  · rw [if_neg (by omega)]
    by_cases h2 : n ≤ 2047
    · rw [if_pos (by omega), Lib.encodeRune, Lib.encodeRuneZ_two (by omega) h2]
      simp only [List.map_cons, List.map_nil]
      rw [show (192 + n / 64).toNat = 0xC0 + n.toNat / 64 by omega, show (128 + n % 64).toNat = 0x80 + n.toNat % 64 by omega]
    · rw [if_neg (by omega)]
      by_cases h3 : n ≤ 65535
      · rw [if_pos (by omega), Lib.encodeRune, Lib.encodeRuneZ_three (by omega)]
        simp only [List.map_cons, List.map_nil]
        rw [show (224 + n / 4096).toNat = 0xE0 + n.toNat / 4096 by omega, show (128 + n / 64 % 64).toNat = 0x80 + n.toNat / 64 % 64 by omega, show (128 + n % 64).toNat = 0x80 + n.toNat % 64 by omega]
      · rw [if_neg (by omega), Lib.encodeRune, Lib.encodeRuneZ_four (by omega) (by omega)]
        simp only [List.map_cons, List.map_nil]
        rw [show (240 + n / 262144).toNat = 0xF0 + n.toNat / 262144 by omega, show (128 + n / 4096 % 64).toNat = 0x80 + n.toNat / 4096 % 64 by omega, show (128 + n / 64 % 64).toNat = 0x80 + n.toNat / 64 % 64 by omega, show (128 + n % 64).toNat = 0x80 + n.toNat % 64 by omega]
theorem encode_pt (n : Int) (S : ByteArray) (w : World) (h : isPt n = true) (hS : S = ⟨(Lib.encodeRune n).toArray⟩) : Calls Try.prog 11 #[.int .i64 n] w fun e w' => e = .returned (.string S) ∧ w = w' := by
  rw [hS, ← encode_eq n h]; exact encode_yes n w h
theorem text_one (n : Int) (S : ByteArray) (b : Nat) (w : World) (h : isPt n = true) (hS : S = ⟨(Lib.encodeRune n).toArray⟩) (hb : b < w.heap.size) (hc : w.cell? ⟨b, 0, none⟩ = some (.int .i64 n)) :
    Calls Try.prog 15 #[.slice (some ⟨b, 0, none⟩) 1 1] w fun e w' => e = .returned (.string S) ∧ Below w.heap.size w w' := by
  have := rtext_any [n] (some ⟨b, 0, none⟩) 1 w (by simp) (fun _ => ⟨b, 0, rfl, hb, fun i hi => by
    obtain rfl : i = 0 := by simp at hi; omega
    exact hc⟩) (by simp; exact h)
  rw [hS]
  simpa [flat] using this

theorem walk (a0 : Int) (a1 : ByteArray) (w0 : (Lit.int .i64 a0).wf = true) (w1 : a1.size ≤ maxLen) (w : World) :
    Calls Try.prog 3 #[.int .i64 a0, .string a1] w fun e w' => e = .returned (.bool true) ∧ Below w.heap.size w w' := by
  have hsum : a1.size ≤ 100 → True := fun _ => trivial
  clear w0 w1 hsum
  by_cases h0 : a1.size ≤ 100
  · have t0 : decide ((100 : Int) < (a1.size : Int)) = false := decide_eq_false (by omega)
    cases hp : isPt a0 with
    | false =>
      go_enter Try.func3, Try.ntmps3
      go_wp2_with fail
      refine (awake_any _).mono ?_
      rintro e w' ⟨rfl, rfl⟩
      go_wp2_with fail
      refine (encode_no a0 _ hp).mono ?_
      rintro e w' ⟨rfl, rfl⟩
      go_wp2_with fail
      refine (ris_no a0 _ hp).mono ?_
      rintro e w' ⟨rfl, rfl⟩
      go_wp2_with fail
      refine (gis_no a0 _ hp).mono ?_
      rintro e w' ⟨rfl, rfl⟩
      go_wp2_with fail
      go_ret
      exact ⟨rfl, Below.refl _ _⟩
    | true =>
      obtain ⟨S, HS⟩ : ∃ S : ByteArray, Hid (S = ⟨(Lib.encodeRune a0).toArray⟩) := ⟨_, Lib.hid rfl⟩
      have HN : Hid (decN (S ++ a1).data.toList = a0 ∧ decM (S ++ a1).data.toList = (S.size : Int)) := by
        have hL : (S ++ a1).data.toList = Lib.encodeRune a0 ++ a1.data.toList := by
          rw [ByteArray.data_append, Array.toList_append, HS.out]
        have := ok_of_enc a0 a1.data.toList hp
        rw [← hL] at this
        have hz : S.size = (Lib.encodeRune a0).length := by rw [HS.out]; rfl
        have hp' := (isPt_iff a0).1 hp
        refine ⟨?_, ?_⟩
        · rw [decN_yes this.2, this.1]; simp only []; omega
        · rw [decM_yes this.2, this.1, hz]
      have hS4 : S.size ≤ 4 := by
        have := (enc_len a0).2
        have hz : S.size = (Lib.encodeRune a0).length := by rw [HS.out]; rfl
        omega
      go_enter Try.func3, Try.ntmps3
      go_wp2_with fail
      refine (awake_any _).mono ?_
      rintro e w' ⟨rfl, rfl⟩
      go_wp2_with fail
      refine (encode_pt a0 S _ hp HS.out).mono ?_
      rintro e w' ⟨rfl, rfl⟩
      go_wp2_with fail
      refine (ris_yes a0 _ hp).mono ?_
      rintro e w' ⟨rfl, rfl⟩
      go_wp2_with fail
      refine (decode_any (S ++ a1) _).mono ?_
      rintro e w1 ⟨rfl, b1⟩
      rw [HN.out.1, HN.out.2]
      go_wp2_with fail
      refine (gis_yes a0 _ hp).mono ?_
      rintro e w' ⟨rfl, rfl⟩
      go_wp2_with fail
      refine (text_one a0 S _ _ hp HS.out (by simp) (by simp)).mono ?_
      rintro e w2 ⟨rfl, b2⟩
      go_wp2_with fail
      go_ret
      exact ⟨ret_bool (by simp), b1.trans (((Below.refl _ _).alloc b1.size _).trans (b2.mono (by have := b1.size; simp; omega)))⟩
  · have t0 : decide ((100 : Int) < (a1.size : Int)) = true := decide_eq_true (by omega)
    go_enter Try.func3, Try.ntmps3
    go_wp2_with (go_at_call 10; refine (awake_any _).mono ?_; rintro e w' ⟨rfl, rfl⟩)
    go_ret
    exact ⟨rfl, Below.refl _ _⟩

set_option maxRecDepth 100000 in
theorem lifted (os : Os) (started : os.Started) (H : Type) (enc : TypeId × Value → H) :
    ReturnsInHanded {} Try.checked os 3 .any (Rows.glyphPointsSpec.pre6 enc Try.prog Try.f3 Rows.glyphPointsRow.domain false) (Rows.glyphPointsSpec.post enc Try.prog Try.f3 false true false false) := by
  refine returnsInHanded_of_change (C := Try.checked) own started (by kernel_rfl) Try.func3
    (ChangeSpec.witness6 (enc := enc) (C := Try.checked) false ⟨#[], #[.int .i64 0, .string ByteArray.empty], []⟩ 8 (by kernel_rfl) (by kernel_rfl) (by kernel_rfl) (by kernel_rfl)) ?_
  intro W base args ds gs before hval0 hW hcnd _
  have hval : ∀ (j : Nat) t v, Try.f3.params[j]? = some t → args[j]? = some v → Value.okWide Try.prog W .any base t v := hval0
  have hW' := hW
  obtain ⟨p, q, hA0, hV, rfl, hfz, hnd⟩ := hW
  have hA : DataW.TrodAll enc Try.prog W 0 (fun _ => true) true Try.f3.params.toList args.toList ds p := hA0
  rw [Try.params3] at hA hval
  obtain ⟨v0, vs0, d0, ds0, p0, q0, hargs, rfl, rfl, h0, r0⟩ := trodAll_cons hA
  obtain ⟨v1, vs1, d1, ds1, p1, q1, rfl, rfl, rfl, h1, r1⟩ := trodAll_cons r0
  obtain ⟨rfl, rfl, rfl⟩ := trodAll_nil r1
  obtain rfl : args = #[v0, v1] := by cases args; simp_all
  obtain ⟨rfl, rfl⟩ := trodVars_none hV
  obtain ⟨a0, rfl, rfl, rfl, w0⟩ := open_int Try.underlying3 (hval 0 3 v0 rfl rfl) h0
  obtain ⟨a1, rfl, rfl, rfl, w1⟩ := open_string Try.underlying9 (hval 1 9 v1 rfl rfl) h1
  clear hA0 hval0
  simp only [List.append_nil] at hW'
  refine (walk a0 a1 w0 w1 W).mono fun e W' ⟨he, bel⟩ => ?_
  subst he
  exact ⟨_, rfl, _, _, _, [], _, [], hW', trodAll_mk1 (shut_bool Try.underlying4 _), (trodAll_cons_mk (shut_int Try.underlying3 w0) (trodAll_cons_mk (shut_string Try.underlying9 w1) trodAll_mk0)), rfl, bel.frame _, fun h => by cases h⟩

theorem over : Rows.glyphPointsRow.holds Try.pinned (OpenSpec.ofChange Rows.glyphPointsSpec) :=
  OpenClaim.holds_of_wide 3 Try.f3 rfl rfl rfl rfl rfl rfl rfl ⟨rfl, rfl, rfl, rfl, rfl⟩ rfl rfl rfl rfl rfl (by kernel_rfl) Try.func3 (by kernel_rfl)
    (of_decide_eq_true (by kernel_rfl)) (by unfold Func.isWrapper; first | (rw [if_pos (by decide +kernel)]; kernel_rfl) | (rw [if_neg (by decide +kernel)]; exact ⟨rfl, rfl⟩))
    (fun os started H enc _ => lifted os started H enc)

/-- The statement. -/
theorem proved : Rows.GlyphPointsSaid :=
  over
end Go.Proofs.Yteelelbkbhlilaa.glyphPoints
