/- Which words are reserved, and how many a call takes: contracts of the program's parser. -/
import Derived.Test.YtbampaiabciheaaGreatDoorEE
set_option linter.unusedVariables false
set_option maxRecDepth 100000
set_option maxHeartbeats 8000000
open Go.Lib (hid)
namespace Go.Proofs.YtbampaiabciheaaGreatDoor
open Go.RowKit
open Tk Ex
set_option linter.unusedSimpArgs false
theorem tl_lit {s : ByteArray} {t : ByteArray} {l : List UInt8} {r : Bool} (hl : t.data.toList = l) (h : eqb s t = r) : (s.toList == l) = r := by
 rw [ByteArray.toList_eq, ← hl]; exact h
theorem xargs_any (s : ByteArray) (w : World) : Calls Tryz.prog 46 #[.string s] w fun e w' => e = .returned (.int .i64 (argsN s : Nat)) ∧ w = w' := by
 cases h0 : eqb s (⟨#[108, 101, 110]⟩ : ByteArray) with
 | true =>
  have HR := hid (show argsN s = 1 by unfold argsN ones twos; simp only [h0, List.any_cons, List.any_nil, Bool.or_false, Bool.false_or, Bool.or_true, Bool.true_or, if_true, Bool.false_eq_true, if_false])
  have f0 : (s.toList == [108, 101, 110]) = true := tl_lit rfl h0
  have g0 : (s.toList == (⟨#[108, 101, 110]⟩ : ByteArray).toList) = true := by rw [tl_eqb]; exact h0
  clear h0
  generalize argsN s = z at *
  go_enter Tryz.func46, Tryz.ntmps46
  go_wp2_with fail
  go_ret
  exact ⟨by rw [HR.out] <;> rfl, rfl⟩
 | false =>
  cases h1 : eqb s (⟨#[115, 117, 109]⟩ : ByteArray) with
  | true =>
   have HR := hid (show argsN s = 1 by unfold argsN ones twos; simp only [h0, h1, List.any_cons, List.any_nil, Bool.or_false, Bool.false_or, Bool.or_true, Bool.true_or, if_true, Bool.false_eq_true, if_false])
   have f0 : (s.toList == [108, 101, 110]) = false := tl_lit rfl h0
   have g0 : (s.toList == (⟨#[108, 101, 110]⟩ : ByteArray).toList) = false := by rw [tl_eqb]; exact h0
   have f1 : (s.toList == [115, 117, 109]) = true := tl_lit rfl h1
   have g1 : (s.toList == (⟨#[115, 117, 109]⟩ : ByteArray).toList) = true := by rw [tl_eqb]; exact h1
   clear h0 h1
   generalize argsN s = z at *
   go_enter Tryz.func46, Tryz.ntmps46
   go_wp2_with fail
   go_ret
   exact ⟨by rw [HR.out] <;> rfl, rfl⟩
  | false =>
   cases h2 : eqb s (⟨#[109, 105, 110]⟩ : ByteArray) with
   | true =>
    have HR := hid (show argsN s = 1 by unfold argsN ones twos; simp only [h0, h1, h2, List.any_cons, List.any_nil, Bool.or_false, Bool.false_or, Bool.or_true, Bool.true_or, if_true, Bool.false_eq_true, if_false])
    have f0 : (s.toList == [108, 101, 110]) = false := tl_lit rfl h0
    have g0 : (s.toList == (⟨#[108, 101, 110]⟩ : ByteArray).toList) = false := by rw [tl_eqb]; exact h0
    have f1 : (s.toList == [115, 117, 109]) = false := tl_lit rfl h1
    have g1 : (s.toList == (⟨#[115, 117, 109]⟩ : ByteArray).toList) = false := by rw [tl_eqb]; exact h1
    have f2 : (s.toList == [109, 105, 110]) = true := tl_lit rfl h2
    have g2 : (s.toList == (⟨#[109, 105, 110]⟩ : ByteArray).toList) = true := by rw [tl_eqb]; exact h2
    clear h0 h1 h2
    generalize argsN s = z at *
    go_enter Tryz.func46, Tryz.ntmps46
    go_wp2_with fail
    go_ret
    exact ⟨by rw [HR.out] <;> rfl, rfl⟩
   | false =>
    cases h3 : eqb s (⟨#[109, 97, 120]⟩ : ByteArray) with
    | true =>
     have HR := hid (show argsN s = 1 by unfold argsN ones twos; simp only [h0, h1, h2, h3, List.any_cons, List.any_nil, Bool.or_false, Bool.false_or, Bool.or_true, Bool.true_or, if_true, Bool.false_eq_true, if_false])
     have f0 : (s.toList == [108, 101, 110]) = false := tl_lit rfl h0
     have g0 : (s.toList == (⟨#[108, 101, 110]⟩ : ByteArray).toList) = false := by rw [tl_eqb]; exact h0
     have f1 : (s.toList == [115, 117, 109]) = false := tl_lit rfl h1
     have g1 : (s.toList == (⟨#[115, 117, 109]⟩ : ByteArray).toList) = false := by rw [tl_eqb]; exact h1
     have f2 : (s.toList == [109, 105, 110]) = false := tl_lit rfl h2
     have g2 : (s.toList == (⟨#[109, 105, 110]⟩ : ByteArray).toList) = false := by rw [tl_eqb]; exact h2
     have f3 : (s.toList == [109, 97, 120]) = true := tl_lit rfl h3
     have g3 : (s.toList == (⟨#[109, 97, 120]⟩ : ByteArray).toList) = true := by rw [tl_eqb]; exact h3
     clear h0 h1 h2 h3
     generalize argsN s = z at *
     go_enter Tryz.func46, Tryz.ntmps46
     go_wp2_with fail
     go_ret
     exact ⟨by rw [HR.out] <;> rfl, rfl⟩
    | false =>
     cases h4 : eqb s (⟨#[97, 108, 108]⟩ : ByteArray) with
     | true =>
      have HR := hid (show argsN s = 1 by unfold argsN ones twos; simp only [h0, h1, h2, h3, h4, List.any_cons, List.any_nil, Bool.or_false, Bool.false_or, Bool.or_true, Bool.true_or, if_true, Bool.false_eq_true, if_false])
      have f0 : (s.toList == [108, 101, 110]) = false := tl_lit rfl h0
      have g0 : (s.toList == (⟨#[108, 101, 110]⟩ : ByteArray).toList) = false := by rw [tl_eqb]; exact h0
      have f1 : (s.toList == [115, 117, 109]) = false := tl_lit rfl h1
      have g1 : (s.toList == (⟨#[115, 117, 109]⟩ : ByteArray).toList) = false := by rw [tl_eqb]; exact h1
      have f2 : (s.toList == [109, 105, 110]) = false := tl_lit rfl h2
      have g2 : (s.toList == (⟨#[109, 105, 110]⟩ : ByteArray).toList) = false := by rw [tl_eqb]; exact h2
      have f3 : (s.toList == [109, 97, 120]) = false := tl_lit rfl h3
      have g3 : (s.toList == (⟨#[109, 97, 120]⟩ : ByteArray).toList) = false := by rw [tl_eqb]; exact h3
      have f4 : (s.toList == [97, 108, 108]) = true := tl_lit rfl h4
      have g4 : (s.toList == (⟨#[97, 108, 108]⟩ : ByteArray).toList) = true := by rw [tl_eqb]; exact h4
      clear h0 h1 h2 h3 h4
      generalize argsN s = z at *
      go_enter Tryz.func46, Tryz.ntmps46
      go_wp2_with fail
      go_ret
      exact ⟨by rw [HR.out] <;> rfl, rfl⟩
     | false =>
      cases h5 : eqb s (⟨#[97, 110, 121]⟩ : ByteArray) with
      | true =>
       have HR := hid (show argsN s = 1 by unfold argsN ones twos; simp only [h0, h1, h2, h3, h4, h5, List.any_cons, List.any_nil, Bool.or_false, Bool.false_or, Bool.or_true, Bool.true_or, if_true, Bool.false_eq_true, if_false])
       have f0 : (s.toList == [108, 101, 110]) = false := tl_lit rfl h0
       have g0 : (s.toList == (⟨#[108, 101, 110]⟩ : ByteArray).toList) = false := by rw [tl_eqb]; exact h0
       have f1 : (s.toList == [115, 117, 109]) = false := tl_lit rfl h1
       have g1 : (s.toList == (⟨#[115, 117, 109]⟩ : ByteArray).toList) = false := by rw [tl_eqb]; exact h1
       have f2 : (s.toList == [109, 105, 110]) = false := tl_lit rfl h2
       have g2 : (s.toList == (⟨#[109, 105, 110]⟩ : ByteArray).toList) = false := by rw [tl_eqb]; exact h2
       have f3 : (s.toList == [109, 97, 120]) = false := tl_lit rfl h3
       have g3 : (s.toList == (⟨#[109, 97, 120]⟩ : ByteArray).toList) = false := by rw [tl_eqb]; exact h3
       have f4 : (s.toList == [97, 108, 108]) = false := tl_lit rfl h4
       have g4 : (s.toList == (⟨#[97, 108, 108]⟩ : ByteArray).toList) = false := by rw [tl_eqb]; exact h4
       have f5 : (s.toList == [97, 110, 121]) = true := tl_lit rfl h5
       have g5 : (s.toList == (⟨#[97, 110, 121]⟩ : ByteArray).toList) = true := by rw [tl_eqb]; exact h5
       clear h0 h1 h2 h3 h4 h5
       generalize argsN s = z at *
       go_enter Tryz.func46, Tryz.ntmps46
       go_wp2_with fail
       go_ret
       exact ⟨by rw [HR.out] <;> rfl, rfl⟩
      | false =>
       cases h6 : eqb s (⟨#[107, 101, 121, 115]⟩ : ByteArray) with
       | true =>
        have HR := hid (show argsN s = 1 by unfold argsN ones twos; simp only [h0, h1, h2, h3, h4, h5, h6, List.any_cons, List.any_nil, Bool.or_false, Bool.false_or, Bool.or_true, Bool.true_or, if_true, Bool.false_eq_true, if_false])
        have f0 : (s.toList == [108, 101, 110]) = false := tl_lit rfl h0
        have g0 : (s.toList == (⟨#[108, 101, 110]⟩ : ByteArray).toList) = false := by rw [tl_eqb]; exact h0
        have f1 : (s.toList == [115, 117, 109]) = false := tl_lit rfl h1
        have g1 : (s.toList == (⟨#[115, 117, 109]⟩ : ByteArray).toList) = false := by rw [tl_eqb]; exact h1
        have f2 : (s.toList == [109, 105, 110]) = false := tl_lit rfl h2
        have g2 : (s.toList == (⟨#[109, 105, 110]⟩ : ByteArray).toList) = false := by rw [tl_eqb]; exact h2
        have f3 : (s.toList == [109, 97, 120]) = false := tl_lit rfl h3
        have g3 : (s.toList == (⟨#[109, 97, 120]⟩ : ByteArray).toList) = false := by rw [tl_eqb]; exact h3
        have f4 : (s.toList == [97, 108, 108]) = false := tl_lit rfl h4
        have g4 : (s.toList == (⟨#[97, 108, 108]⟩ : ByteArray).toList) = false := by rw [tl_eqb]; exact h4
        have f5 : (s.toList == [97, 110, 121]) = false := tl_lit rfl h5
        have g5 : (s.toList == (⟨#[97, 110, 121]⟩ : ByteArray).toList) = false := by rw [tl_eqb]; exact h5
        have f6 : (s.toList == [107, 101, 121, 115]) = true := tl_lit rfl h6
        have g6 : (s.toList == (⟨#[107, 101, 121, 115]⟩ : ByteArray).toList) = true := by rw [tl_eqb]; exact h6
        clear h0 h1 h2 h3 h4 h5 h6
        generalize argsN s = z at *
        go_enter Tryz.func46, Tryz.ntmps46
        go_wp2_with fail
        go_ret
        exact ⟨by rw [HR.out] <;> rfl, rfl⟩
       | false =>
        cases h7 : eqb s (⟨#[104, 97, 115]⟩ : ByteArray) with
        | true =>
         have HR := hid (show argsN s = 2 by unfold argsN ones twos; simp only [h0, h1, h2, h3, h4, h5, h6, h7, List.any_cons, List.any_nil, Bool.or_false, Bool.false_or, Bool.or_true, Bool.true_or, if_true, Bool.false_eq_true, if_false])
         have f0 : (s.toList == [108, 101, 110]) = false := tl_lit rfl h0
         have g0 : (s.toList == (⟨#[108, 101, 110]⟩ : ByteArray).toList) = false := by rw [tl_eqb]; exact h0
         have f1 : (s.toList == [115, 117, 109]) = false := tl_lit rfl h1
         have g1 : (s.toList == (⟨#[115, 117, 109]⟩ : ByteArray).toList) = false := by rw [tl_eqb]; exact h1
         have f2 : (s.toList == [109, 105, 110]) = false := tl_lit rfl h2
         have g2 : (s.toList == (⟨#[109, 105, 110]⟩ : ByteArray).toList) = false := by rw [tl_eqb]; exact h2
         have f3 : (s.toList == [109, 97, 120]) = false := tl_lit rfl h3
         have g3 : (s.toList == (⟨#[109, 97, 120]⟩ : ByteArray).toList) = false := by rw [tl_eqb]; exact h3
         have f4 : (s.toList == [97, 108, 108]) = false := tl_lit rfl h4
         have g4 : (s.toList == (⟨#[97, 108, 108]⟩ : ByteArray).toList) = false := by rw [tl_eqb]; exact h4
         have f5 : (s.toList == [97, 110, 121]) = false := tl_lit rfl h5
         have g5 : (s.toList == (⟨#[97, 110, 121]⟩ : ByteArray).toList) = false := by rw [tl_eqb]; exact h5
         have f6 : (s.toList == [107, 101, 121, 115]) = false := tl_lit rfl h6
         have g6 : (s.toList == (⟨#[107, 101, 121, 115]⟩ : ByteArray).toList) = false := by rw [tl_eqb]; exact h6
         have f7 : (s.toList == [104, 97, 115]) = true := tl_lit rfl h7
         have g7 : (s.toList == (⟨#[104, 97, 115]⟩ : ByteArray).toList) = true := by rw [tl_eqb]; exact h7
         clear h0 h1 h2 h3 h4 h5 h6 h7
         generalize argsN s = z at *
         go_enter Tryz.func46, Tryz.ntmps46
         go_wp2_with fail
         go_ret
         exact ⟨by rw [HR.out] <;> rfl, rfl⟩
        | false =>
         cases h8 : eqb s (⟨#[99, 111, 117, 110, 116]⟩ : ByteArray) with
         | true =>
          have HR := hid (show argsN s = 2 by unfold argsN ones twos; simp only [h0, h1, h2, h3, h4, h5, h6, h7, h8, List.any_cons, List.any_nil, Bool.or_false, Bool.false_or, Bool.or_true, Bool.true_or, if_true, Bool.false_eq_true, if_false])
          have f0 : (s.toList == [108, 101, 110]) = false := tl_lit rfl h0
          have g0 : (s.toList == (⟨#[108, 101, 110]⟩ : ByteArray).toList) = false := by rw [tl_eqb]; exact h0
          have f1 : (s.toList == [115, 117, 109]) = false := tl_lit rfl h1
          have g1 : (s.toList == (⟨#[115, 117, 109]⟩ : ByteArray).toList) = false := by rw [tl_eqb]; exact h1
          have f2 : (s.toList == [109, 105, 110]) = false := tl_lit rfl h2
          have g2 : (s.toList == (⟨#[109, 105, 110]⟩ : ByteArray).toList) = false := by rw [tl_eqb]; exact h2
          have f3 : (s.toList == [109, 97, 120]) = false := tl_lit rfl h3
          have g3 : (s.toList == (⟨#[109, 97, 120]⟩ : ByteArray).toList) = false := by rw [tl_eqb]; exact h3
          have f4 : (s.toList == [97, 108, 108]) = false := tl_lit rfl h4
          have g4 : (s.toList == (⟨#[97, 108, 108]⟩ : ByteArray).toList) = false := by rw [tl_eqb]; exact h4
          have f5 : (s.toList == [97, 110, 121]) = false := tl_lit rfl h5
          have g5 : (s.toList == (⟨#[97, 110, 121]⟩ : ByteArray).toList) = false := by rw [tl_eqb]; exact h5
          have f6 : (s.toList == [107, 101, 121, 115]) = false := tl_lit rfl h6
          have g6 : (s.toList == (⟨#[107, 101, 121, 115]⟩ : ByteArray).toList) = false := by rw [tl_eqb]; exact h6
          have f7 : (s.toList == [104, 97, 115]) = false := tl_lit rfl h7
          have g7 : (s.toList == (⟨#[104, 97, 115]⟩ : ByteArray).toList) = false := by rw [tl_eqb]; exact h7
          have f8 : (s.toList == [99, 111, 117, 110, 116]) = true := tl_lit rfl h8
          have g8 : (s.toList == (⟨#[99, 111, 117, 110, 116]⟩ : ByteArray).toList) = true := by rw [tl_eqb]; exact h8
          clear h0 h1 h2 h3 h4 h5 h6 h7 h8
          generalize argsN s = z at *
          go_enter Tryz.func46, Tryz.ntmps46
          go_wp2_with fail
          go_ret
          exact ⟨by rw [HR.out] <;> rfl, rfl⟩
         | false =>
          cases h9 : eqb s (⟨#[115, 116, 97, 114, 116, 115]⟩ : ByteArray) with
          | true =>
           have HR := hid (show argsN s = 2 by unfold argsN ones twos; simp only [h0, h1, h2, h3, h4, h5, h6, h7, h8, h9, List.any_cons, List.any_nil, Bool.or_false, Bool.false_or, Bool.or_true, Bool.true_or, if_true, Bool.false_eq_true, if_false])
           have f0 : (s.toList == [108, 101, 110]) = false := tl_lit rfl h0
           have g0 : (s.toList == (⟨#[108, 101, 110]⟩ : ByteArray).toList) = false := by rw [tl_eqb]; exact h0
           have f1 : (s.toList == [115, 117, 109]) = false := tl_lit rfl h1
           have g1 : (s.toList == (⟨#[115, 117, 109]⟩ : ByteArray).toList) = false := by rw [tl_eqb]; exact h1
           have f2 : (s.toList == [109, 105, 110]) = false := tl_lit rfl h2
           have g2 : (s.toList == (⟨#[109, 105, 110]⟩ : ByteArray).toList) = false := by rw [tl_eqb]; exact h2
           have f3 : (s.toList == [109, 97, 120]) = false := tl_lit rfl h3
           have g3 : (s.toList == (⟨#[109, 97, 120]⟩ : ByteArray).toList) = false := by rw [tl_eqb]; exact h3
           have f4 : (s.toList == [97, 108, 108]) = false := tl_lit rfl h4
           have g4 : (s.toList == (⟨#[97, 108, 108]⟩ : ByteArray).toList) = false := by rw [tl_eqb]; exact h4
           have f5 : (s.toList == [97, 110, 121]) = false := tl_lit rfl h5
           have g5 : (s.toList == (⟨#[97, 110, 121]⟩ : ByteArray).toList) = false := by rw [tl_eqb]; exact h5
           have f6 : (s.toList == [107, 101, 121, 115]) = false := tl_lit rfl h6
           have g6 : (s.toList == (⟨#[107, 101, 121, 115]⟩ : ByteArray).toList) = false := by rw [tl_eqb]; exact h6
           have f7 : (s.toList == [104, 97, 115]) = false := tl_lit rfl h7
           have g7 : (s.toList == (⟨#[104, 97, 115]⟩ : ByteArray).toList) = false := by rw [tl_eqb]; exact h7
           have f8 : (s.toList == [99, 111, 117, 110, 116]) = false := tl_lit rfl h8
           have g8 : (s.toList == (⟨#[99, 111, 117, 110, 116]⟩ : ByteArray).toList) = false := by rw [tl_eqb]; exact h8
           have f9 : (s.toList == [115, 116, 97, 114, 116, 115]) = true := tl_lit rfl h9
           have g9 : (s.toList == (⟨#[115, 116, 97, 114, 116, 115]⟩ : ByteArray).toList) = true := by rw [tl_eqb]; exact h9
           clear h0 h1 h2 h3 h4 h5 h6 h7 h8 h9
           generalize argsN s = z at *
           go_enter Tryz.func46, Tryz.ntmps46
           go_wp2_with fail
           go_ret
           exact ⟨by rw [HR.out] <;> rfl, rfl⟩
          | false =>
           cases h10 : eqb s (⟨#[101, 110, 100, 115]⟩ : ByteArray) with
           | true =>
            have HR := hid (show argsN s = 2 by unfold argsN ones twos; simp only [h0, h1, h2, h3, h4, h5, h6, h7, h8, h9, h10, List.any_cons, List.any_nil, Bool.or_false, Bool.false_or, Bool.or_true, Bool.true_or, if_true, Bool.false_eq_true, if_false])
            have f0 : (s.toList == [108, 101, 110]) = false := tl_lit rfl h0
            have g0 : (s.toList == (⟨#[108, 101, 110]⟩ : ByteArray).toList) = false := by rw [tl_eqb]; exact h0
            have f1 : (s.toList == [115, 117, 109]) = false := tl_lit rfl h1
            have g1 : (s.toList == (⟨#[115, 117, 109]⟩ : ByteArray).toList) = false := by rw [tl_eqb]; exact h1
            have f2 : (s.toList == [109, 105, 110]) = false := tl_lit rfl h2
            have g2 : (s.toList == (⟨#[109, 105, 110]⟩ : ByteArray).toList) = false := by rw [tl_eqb]; exact h2
            have f3 : (s.toList == [109, 97, 120]) = false := tl_lit rfl h3
            have g3 : (s.toList == (⟨#[109, 97, 120]⟩ : ByteArray).toList) = false := by rw [tl_eqb]; exact h3
            have f4 : (s.toList == [97, 108, 108]) = false := tl_lit rfl h4
            have g4 : (s.toList == (⟨#[97, 108, 108]⟩ : ByteArray).toList) = false := by rw [tl_eqb]; exact h4
            have f5 : (s.toList == [97, 110, 121]) = false := tl_lit rfl h5
            have g5 : (s.toList == (⟨#[97, 110, 121]⟩ : ByteArray).toList) = false := by rw [tl_eqb]; exact h5
            have f6 : (s.toList == [107, 101, 121, 115]) = false := tl_lit rfl h6
            have g6 : (s.toList == (⟨#[107, 101, 121, 115]⟩ : ByteArray).toList) = false := by rw [tl_eqb]; exact h6
            have f7 : (s.toList == [104, 97, 115]) = false := tl_lit rfl h7
            have g7 : (s.toList == (⟨#[104, 97, 115]⟩ : ByteArray).toList) = false := by rw [tl_eqb]; exact h7
            have f8 : (s.toList == [99, 111, 117, 110, 116]) = false := tl_lit rfl h8
            have g8 : (s.toList == (⟨#[99, 111, 117, 110, 116]⟩ : ByteArray).toList) = false := by rw [tl_eqb]; exact h8
            have f9 : (s.toList == [115, 116, 97, 114, 116, 115]) = false := tl_lit rfl h9
            have g9 : (s.toList == (⟨#[115, 116, 97, 114, 116, 115]⟩ : ByteArray).toList) = false := by rw [tl_eqb]; exact h9
            have f10 : (s.toList == [101, 110, 100, 115]) = true := tl_lit rfl h10
            have g10 : (s.toList == (⟨#[101, 110, 100, 115]⟩ : ByteArray).toList) = true := by rw [tl_eqb]; exact h10
            clear h0 h1 h2 h3 h4 h5 h6 h7 h8 h9 h10
            generalize argsN s = z at *
            go_enter Tryz.func46, Tryz.ntmps46
            go_wp2_with fail
            go_ret
            exact ⟨by rw [HR.out] <;> rfl, rfl⟩
           | false =>
            cases h11 : eqb s (⟨#[106, 111, 105, 110]⟩ : ByteArray) with
            | true =>
             have HR := hid (show argsN s = 2 by unfold argsN ones twos; simp only [h0, h1, h2, h3, h4, h5, h6, h7, h8, h9, h10, h11, List.any_cons, List.any_nil, Bool.or_false, Bool.false_or, Bool.or_true, Bool.true_or, if_true, Bool.false_eq_true, if_false])
             have f0 : (s.toList == [108, 101, 110]) = false := tl_lit rfl h0
             have g0 : (s.toList == (⟨#[108, 101, 110]⟩ : ByteArray).toList) = false := by rw [tl_eqb]; exact h0
             have f1 : (s.toList == [115, 117, 109]) = false := tl_lit rfl h1
             have g1 : (s.toList == (⟨#[115, 117, 109]⟩ : ByteArray).toList) = false := by rw [tl_eqb]; exact h1
             have f2 : (s.toList == [109, 105, 110]) = false := tl_lit rfl h2
             have g2 : (s.toList == (⟨#[109, 105, 110]⟩ : ByteArray).toList) = false := by rw [tl_eqb]; exact h2
             have f3 : (s.toList == [109, 97, 120]) = false := tl_lit rfl h3
             have g3 : (s.toList == (⟨#[109, 97, 120]⟩ : ByteArray).toList) = false := by rw [tl_eqb]; exact h3
             have f4 : (s.toList == [97, 108, 108]) = false := tl_lit rfl h4
             have g4 : (s.toList == (⟨#[97, 108, 108]⟩ : ByteArray).toList) = false := by rw [tl_eqb]; exact h4
             have f5 : (s.toList == [97, 110, 121]) = false := tl_lit rfl h5
             have g5 : (s.toList == (⟨#[97, 110, 121]⟩ : ByteArray).toList) = false := by rw [tl_eqb]; exact h5
             have f6 : (s.toList == [107, 101, 121, 115]) = false := tl_lit rfl h6
             have g6 : (s.toList == (⟨#[107, 101, 121, 115]⟩ : ByteArray).toList) = false := by rw [tl_eqb]; exact h6
             have f7 : (s.toList == [104, 97, 115]) = false := tl_lit rfl h7
             have g7 : (s.toList == (⟨#[104, 97, 115]⟩ : ByteArray).toList) = false := by rw [tl_eqb]; exact h7
             have f8 : (s.toList == [99, 111, 117, 110, 116]) = false := tl_lit rfl h8
             have g8 : (s.toList == (⟨#[99, 111, 117, 110, 116]⟩ : ByteArray).toList) = false := by rw [tl_eqb]; exact h8
             have f9 : (s.toList == [115, 116, 97, 114, 116, 115]) = false := tl_lit rfl h9
             have g9 : (s.toList == (⟨#[115, 116, 97, 114, 116, 115]⟩ : ByteArray).toList) = false := by rw [tl_eqb]; exact h9
             have f10 : (s.toList == [101, 110, 100, 115]) = false := tl_lit rfl h10
             have g10 : (s.toList == (⟨#[101, 110, 100, 115]⟩ : ByteArray).toList) = false := by rw [tl_eqb]; exact h10
             have f11 : (s.toList == [106, 111, 105, 110]) = true := tl_lit rfl h11
             have g11 : (s.toList == (⟨#[106, 111, 105, 110]⟩ : ByteArray).toList) = true := by rw [tl_eqb]; exact h11
             clear h0 h1 h2 h3 h4 h5 h6 h7 h8 h9 h10 h11
             generalize argsN s = z at *
             go_enter Tryz.func46, Tryz.ntmps46
             go_wp2_with fail
             go_ret
             exact ⟨by rw [HR.out] <;> rfl, rfl⟩
            | false =>
             have HR := hid (show argsN s = 0 by unfold argsN ones twos; simp only [h0, h1, h2, h3, h4, h5, h6, h7, h8, h9, h10, h11, List.any_cons, List.any_nil, Bool.or_false, Bool.false_or, Bool.or_true, Bool.true_or, if_true, Bool.false_eq_true, if_false])
             have f0 : (s.toList == [108, 101, 110]) = false := tl_lit rfl h0
             have g0 : (s.toList == (⟨#[108, 101, 110]⟩ : ByteArray).toList) = false := by rw [tl_eqb]; exact h0
             have f1 : (s.toList == [115, 117, 109]) = false := tl_lit rfl h1
             have g1 : (s.toList == (⟨#[115, 117, 109]⟩ : ByteArray).toList) = false := by rw [tl_eqb]; exact h1
             have f2 : (s.toList == [109, 105, 110]) = false := tl_lit rfl h2
             have g2 : (s.toList == (⟨#[109, 105, 110]⟩ : ByteArray).toList) = false := by rw [tl_eqb]; exact h2
             have f3 : (s.toList == [109, 97, 120]) = false := tl_lit rfl h3
             have g3 : (s.toList == (⟨#[109, 97, 120]⟩ : ByteArray).toList) = false := by rw [tl_eqb]; exact h3
             have f4 : (s.toList == [97, 108, 108]) = false := tl_lit rfl h4
             have g4 : (s.toList == (⟨#[97, 108, 108]⟩ : ByteArray).toList) = false := by rw [tl_eqb]; exact h4
             have f5 : (s.toList == [97, 110, 121]) = false := tl_lit rfl h5
             have g5 : (s.toList == (⟨#[97, 110, 121]⟩ : ByteArray).toList) = false := by rw [tl_eqb]; exact h5
             have f6 : (s.toList == [107, 101, 121, 115]) = false := tl_lit rfl h6
             have g6 : (s.toList == (⟨#[107, 101, 121, 115]⟩ : ByteArray).toList) = false := by rw [tl_eqb]; exact h6
             have f7 : (s.toList == [104, 97, 115]) = false := tl_lit rfl h7
             have g7 : (s.toList == (⟨#[104, 97, 115]⟩ : ByteArray).toList) = false := by rw [tl_eqb]; exact h7
             have f8 : (s.toList == [99, 111, 117, 110, 116]) = false := tl_lit rfl h8
             have g8 : (s.toList == (⟨#[99, 111, 117, 110, 116]⟩ : ByteArray).toList) = false := by rw [tl_eqb]; exact h8
             have f9 : (s.toList == [115, 116, 97, 114, 116, 115]) = false := tl_lit rfl h9
             have g9 : (s.toList == (⟨#[115, 116, 97, 114, 116, 115]⟩ : ByteArray).toList) = false := by rw [tl_eqb]; exact h9
             have f10 : (s.toList == [101, 110, 100, 115]) = false := tl_lit rfl h10
             have g10 : (s.toList == (⟨#[101, 110, 100, 115]⟩ : ByteArray).toList) = false := by rw [tl_eqb]; exact h10
             have f11 : (s.toList == [106, 111, 105, 110]) = false := tl_lit rfl h11
             have g11 : (s.toList == (⟨#[106, 111, 105, 110]⟩ : ByteArray).toList) = false := by rw [tl_eqb]; exact h11
             clear h0 h1 h2 h3 h4 h5 h6 h7 h8 h9 h10 h11
             generalize argsN s = z at *
             go_enter Tryz.func46, Tryz.ntmps46
             go_wp2_with fail
             go_ret
             exact ⟨by rw [HR.out] <;> rfl, rfl⟩
end Go.Proofs.YtbampaiabciheaaGreatDoor
