/- Which words are reserved, and how many a call takes: contracts of the program's parser. -/
import Derived.Test.YtfbipnflgjhaiaaGreatDoorEE
set_option linter.unusedVariables false
set_option maxRecDepth 100000
set_option maxHeartbeats 8000000
open Go.Lib (hid)
namespace Go.Proofs.YtfbipnflgjhaiaaGreatDoor
open Go.RowKit
open Tk Ex
set_option linter.unusedSimpArgs false
theorem tl_lit {s : ByteArray} {t : ByteArray} {l : List UInt8} {r : Bool} (hl : t.data.toList = l) (h : eqb s t = r) : (s.toList == l) = r := by
 rw [ByteArray.toList_eq, ← hl]; exact h
theorem xargs_any (s : ByteArray) (w : World) : Calls Tryz.prog 123 #[.string s] w fun e w' => e = .returned (.int .i64 (argsN s : Nat)) ∧ w = w' := by
 obtain ⟨b0, h0⟩ : ∃ b, eqb s (⟨#[108, 101, 110]⟩ : ByteArray) = b := ⟨_, rfl⟩
 obtain ⟨b1, h1⟩ : ∃ b, eqb s (⟨#[115, 117, 109]⟩ : ByteArray) = b := ⟨_, rfl⟩
 obtain ⟨b2, h2⟩ : ∃ b, eqb s (⟨#[109, 105, 110]⟩ : ByteArray) = b := ⟨_, rfl⟩
 obtain ⟨b3, h3⟩ : ∃ b, eqb s (⟨#[109, 97, 120]⟩ : ByteArray) = b := ⟨_, rfl⟩
 obtain ⟨b4, h4⟩ : ∃ b, eqb s (⟨#[97, 108, 108]⟩ : ByteArray) = b := ⟨_, rfl⟩
 obtain ⟨b5, h5⟩ : ∃ b, eqb s (⟨#[97, 110, 121]⟩ : ByteArray) = b := ⟨_, rfl⟩
 obtain ⟨b6, h6⟩ : ∃ b, eqb s (⟨#[107, 101, 121, 115]⟩ : ByteArray) = b := ⟨_, rfl⟩
 obtain ⟨b7, h7⟩ : ∃ b, eqb s (⟨#[104, 97, 115]⟩ : ByteArray) = b := ⟨_, rfl⟩
 obtain ⟨b8, h8⟩ : ∃ b, eqb s (⟨#[99, 111, 117, 110, 116]⟩ : ByteArray) = b := ⟨_, rfl⟩
 obtain ⟨b9, h9⟩ : ∃ b, eqb s (⟨#[115, 116, 97, 114, 116, 115]⟩ : ByteArray) = b := ⟨_, rfl⟩
 obtain ⟨b10, h10⟩ : ∃ b, eqb s (⟨#[101, 110, 100, 115]⟩ : ByteArray) = b := ⟨_, rfl⟩
 obtain ⟨b11, h11⟩ : ∃ b, eqb s (⟨#[106, 111, 105, 110]⟩ : ByteArray) = b := ⟨_, rfl⟩
 have HR := hid (show argsN s = if (b0 || (b1 || (b2 || (b3 || (b4 || (b5 || (b6 || false))))))) = true then 1 else if (b7 || (b8 || (b9 || (b10 || (b11 || false))))) = true then 2 else 0 by unfold argsN ones twos; simp only [h0, h1, h2, h3, h4, h5, h6, h7, h8, h9, h10, h11, List.any_cons, List.any_nil])
 have f0 : (s.toList == [108, 101, 110]) = b0 := tl_lit rfl h0
 have g0 : (s.toList == (⟨#[108, 101, 110]⟩ : ByteArray).toList) = b0 := by rw [tl_eqb]; exact h0
 have f1 : (s.toList == [115, 117, 109]) = b1 := tl_lit rfl h1
 have g1 : (s.toList == (⟨#[115, 117, 109]⟩ : ByteArray).toList) = b1 := by rw [tl_eqb]; exact h1
 have f2 : (s.toList == [109, 105, 110]) = b2 := tl_lit rfl h2
 have g2 : (s.toList == (⟨#[109, 105, 110]⟩ : ByteArray).toList) = b2 := by rw [tl_eqb]; exact h2
 have f3 : (s.toList == [109, 97, 120]) = b3 := tl_lit rfl h3
 have g3 : (s.toList == (⟨#[109, 97, 120]⟩ : ByteArray).toList) = b3 := by rw [tl_eqb]; exact h3
 have f4 : (s.toList == [97, 108, 108]) = b4 := tl_lit rfl h4
 have g4 : (s.toList == (⟨#[97, 108, 108]⟩ : ByteArray).toList) = b4 := by rw [tl_eqb]; exact h4
 have f5 : (s.toList == [97, 110, 121]) = b5 := tl_lit rfl h5
 have g5 : (s.toList == (⟨#[97, 110, 121]⟩ : ByteArray).toList) = b5 := by rw [tl_eqb]; exact h5
 have f6 : (s.toList == [107, 101, 121, 115]) = b6 := tl_lit rfl h6
 have g6 : (s.toList == (⟨#[107, 101, 121, 115]⟩ : ByteArray).toList) = b6 := by rw [tl_eqb]; exact h6
 have f7 : (s.toList == [104, 97, 115]) = b7 := tl_lit rfl h7
 have g7 : (s.toList == (⟨#[104, 97, 115]⟩ : ByteArray).toList) = b7 := by rw [tl_eqb]; exact h7
 have f8 : (s.toList == [99, 111, 117, 110, 116]) = b8 := tl_lit rfl h8
 have g8 : (s.toList == (⟨#[99, 111, 117, 110, 116]⟩ : ByteArray).toList) = b8 := by rw [tl_eqb]; exact h8
 have f9 : (s.toList == [115, 116, 97, 114, 116, 115]) = b9 := tl_lit rfl h9
 have g9 : (s.toList == (⟨#[115, 116, 97, 114, 116, 115]⟩ : ByteArray).toList) = b9 := by rw [tl_eqb]; exact h9
 have f10 : (s.toList == [101, 110, 100, 115]) = b10 := tl_lit rfl h10
 have g10 : (s.toList == (⟨#[101, 110, 100, 115]⟩ : ByteArray).toList) = b10 := by rw [tl_eqb]; exact h10
 have f11 : (s.toList == [106, 111, 105, 110]) = b11 := tl_lit rfl h11
 have g11 : (s.toList == (⟨#[106, 111, 105, 110]⟩ : ByteArray).toList) = b11 := by rw [tl_eqb]; exact h11
 clear h0 h1 h2 h3 h4 h5 h6 h7 h8 h9 h10 h11
 generalize argsN s = z at *
 cases b0
 cases b1
 cases b2
 cases b3
 cases b4
 cases b5
 cases b6
 cases b7
 cases b8
 cases b9
 cases b10
 cases b11
 all_goals
  go_enter Tryz.func123, Tryz.ntmps123
  go_wp2_with fail
  go_ret
  exact ⟨by rw [HR.out] <;> rfl, rfl⟩
end Go.Proofs.YtfbipnflgjhaiaaGreatDoor
