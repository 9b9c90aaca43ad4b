/- The law's own text of four hexadecimal digits: its contract. -/
import Derived.Test.YtnenipgpncomeaaDoorAwake5
import Derived.Test.YtnenipgpncomeaaDoorTokEsc
namespace Go.Proofs.YtnenipgpncomeaaDoor
open Go.RowKit
open Tk
open Pl
set_option linter.unusedVariables false

theorem dig_small (d : Nat) (h : d < 16) : ((⟨#[48, 49, 50, 51, 52, 53, 54, 55, 56, 57, 97, 98, 99, 100, 101, 102]⟩ : ByteArray).extract d (d + 1)).data.toList = [hexB false d] := by
  rcases (by omega : d = 0 ∨ d = 1 ∨ d = 2 ∨ d = 3 ∨ d = 4 ∨ d = 5 ∨ d = 6 ∨ d = 7 ∨ d = 8 ∨ d = 9 ∨ d = 10 ∨ d = 11 ∨ d = 12 ∨ d = 13 ∨ d = 14 ∨ d = 15) with rfl | rfl | rfl | rfl | rfl | rfl | rfl | rfl | rfl | rfl | rfl | rfl | rfl | rfl | rfl | rfl <;> rfl
theorem dig_great (d : Nat) (h : d < 16) : ((⟨#[48, 49, 50, 51, 52, 53, 54, 55, 56, 57, 65, 66, 67, 68, 69, 70]⟩ : ByteArray).extract d (d + 1)).data.toList = [hexB true d] := by
  rcases (by omega : d = 0 ∨ d = 1 ∨ d = 2 ∨ d = 3 ∨ d = 4 ∨ d = 5 ∨ d = 6 ∨ d = 7 ∨ d = 8 ∨ d = 9 ∨ d = 10 ∨ d = 11 ∨ d = 12 ∨ d = 13 ∨ d = 14 ∨ d = 15) with rfl | rfl | rfl | rfl | rfl | rfl | rfl | rfl | rfl | rfl | rfl | rfl | rfl | rfl | rfl | rfl <;> rfl
def HexAt (g : Bool) (n : Nat) (k : Nat) (N : Nat) (A : ByteArray) : Prop := hexL g 4 n = hexL g (4 - k) N ++ A.data.toList ∧ A.size = k
theorem HexAt.step {g : Bool} {n k N : Nat} {A x : ByteArray} (h : HexAt g n k N A) (hk : k < 4) (hx : x.data.toList = [hexB g (N % 16)]) : HexAt g n (k + 1) (N / 16) (x ++ A) := by
  obtain ⟨h1, h2⟩ := h
  obtain ⟨j, hj⟩ : ∃ j, 4 - k = j + 1 := ⟨3 - k, by omega⟩
  have hxs : x.size = 1 := by rw [← size_toList, hx]; rfl
  refine ⟨?_, by rw [ByteArray.size_append]; omega⟩
  rw [h1, hj, hexL_cons, show 4 - (k + 1) = j by omega, ByteArray.data_append, Array.toList_append, hx]
  simp
theorem HexAt.done {g : Bool} {n N : Nat} {A : ByteArray} (h : HexAt g n 4 N A) : A = ⟨(hexL g 4 n).toArray⟩ := by
  apply ba_list
  have := h.1
  simpa [hexL] using this.symm
set_option maxRecDepth 100000 in
set_option maxHeartbeats 4000000 in
theorem hex_false (n : Nat) (w : World) (hn : n < 65536) : Calls Tryd.prog 12 #[.int .i64 n, .bool false] w fun e w' => e = .returned (.string ⟨(hexL false 4 n).toArray⟩) ∧ w = w' := by
  have H0 := Lib.hid (show HexAt false n 0 n ⟨#[]⟩ from ⟨by simp, rfl⟩)
  go_enter Tryd.func12, Tryd.ntmps12
  go_wp2_with fail
  go_loop [0, 6, 7] (fun a b c => ∃ (k N : Nat) (A : ByteArray), k ≤ 4 ∧ N < 65536 ∧ HexAt false n k N A ∧ a = .int .i64 N ∧ b = .string A ∧ c = .int .i64 k) (fun _ _ c => 4 - (intOf c).toNat)
  case atStart => exact ⟨0, n, ⟨#[]⟩, by omega, hn, H0.out, rfl, rfl, rfl⟩
  case round =>
    obtain ⟨k, N, A, hk, hN, hat, rfl, rfl, rfl⟩ := hrel
    have HAT := Lib.hid hat
    have hAs : A.size ≤ 4 := by have := hat.2; omega
    clear hat
    by_cases hlt : k < 4
    · have t1 : (k : Int) < 4 := by omega
      have t2 : decide ((k : Int) < 4) = true := decide_eq_true t1
      have i1 : (0 : Int) ≤ (N : Int) % 16 := by omega
      have i2 : (N : Int) % 16 + 1 ≤ 16 := by omega
      have e2 : ((N : Int) % 16).toNat = N % 16 := by omega
      have e3 : ((N : Int) % 16 + 1).toNat = N % 16 + 1 := by omega
      have e1 : IntKind.i64.wrap ((N : Int) % 16 + 1) = (N : Int) % 16 + 1 := IntWalk.i64_in _ (by omega)
      have hEs : ((⟨#[48, 49, 50, 51, 52, 53, 54, 55, 56, 57, 97, 98, 99, 100, 101, 102]⟩ : ByteArray).extract (N % 16) (N % 16 + 1)).size ≤ 16 := by rw [ByteArray.size_extract]; show min (N % 16 + 1) 16 - N % 16 ≤ 16; omega
      have HST := Lib.hid (HAT.out.step hlt (dig_small (N % 16) (by omega)))
      go_wp2_with fail
      go_round
      case rel => exact ⟨k + 1, N / 16, _, hlt, by omega, HST.out, by go_num, rfl, by go_num⟩
      case measure => simp [intOf]; omega
    · obtain rfl : k = 4 := by omega
      have HD := Lib.hid HAT.out.done
      go_wp2_with fail
      go_ret
      exact ⟨by rw [← HD.out] <;> rfl, rfl⟩
set_option maxRecDepth 100000 in
set_option maxHeartbeats 4000000 in
theorem hex_true (n : Nat) (w : World) (hn : n < 65536) : Calls Tryd.prog 12 #[.int .i64 n, .bool true] w fun e w' => e = .returned (.string ⟨(hexL true 4 n).toArray⟩) ∧ w = w' := by
  have H0 := Lib.hid (show HexAt true n 0 n ⟨#[]⟩ from ⟨by simp, rfl⟩)
  go_enter Tryd.func12, Tryd.ntmps12
  go_wp2_with fail
  go_loop [0, 6, 7] (fun a b c => ∃ (k N : Nat) (A : ByteArray), k ≤ 4 ∧ N < 65536 ∧ HexAt true n k N A ∧ a = .int .i64 N ∧ b = .string A ∧ c = .int .i64 k) (fun _ _ c => 4 - (intOf c).toNat)
  case atStart => exact ⟨0, n, ⟨#[]⟩, by omega, hn, H0.out, rfl, rfl, rfl⟩
  case round =>
    obtain ⟨k, N, A, hk, hN, hat, rfl, rfl, rfl⟩ := hrel
    have HAT := Lib.hid hat
    have hAs : A.size ≤ 4 := by have := hat.2; omega
    clear hat
    by_cases hlt : k < 4
    · have t1 : (k : Int) < 4 := by omega
      have t2 : decide ((k : Int) < 4) = true := decide_eq_true t1
      have i1 : (0 : Int) ≤ (N : Int) % 16 := by omega
      have i2 : (N : Int) % 16 + 1 ≤ 16 := by omega
      have e2 : ((N : Int) % 16).toNat = N % 16 := by omega
      have e3 : ((N : Int) % 16 + 1).toNat = N % 16 + 1 := by omega
      have e1 : IntKind.i64.wrap ((N : Int) % 16 + 1) = (N : Int) % 16 + 1 := IntWalk.i64_in _ (by omega)
      have hEs : ((⟨#[48, 49, 50, 51, 52, 53, 54, 55, 56, 57, 65, 66, 67, 68, 69, 70]⟩ : ByteArray).extract (N % 16) (N % 16 + 1)).size ≤ 16 := by rw [ByteArray.size_extract]; show min (N % 16 + 1) 16 - N % 16 ≤ 16; omega
      have HST := Lib.hid (HAT.out.step hlt (dig_great (N % 16) (by omega)))
      go_wp2_with fail
      go_round
      case rel => exact ⟨k + 1, N / 16, _, hlt, by omega, HST.out, by go_num, rfl, by go_num⟩
      case measure => simp [intOf]; omega
    · obtain rfl : k = 4 := by omega
      have HD := Lib.hid HAT.out.done
      go_wp2_with fail
      go_ret
      exact ⟨by rw [← HD.out] <;> rfl, rfl⟩
theorem hex_any (g : Bool) (n : Nat) (x : Int) (hx : x = (n : Int)) (w : World) (hn : n < 65536) : Calls Tryd.prog 12 #[.int .i64 x, .bool g] w fun e w' => e = .returned (.string ⟨(hexL g 4 n).toArray⟩) ∧ w = w' := by
  subst hx
  cases g with
  | true => exact hex_true n w hn
  | false => exact hex_false n w hn
end Go.Proofs.YtnenipgpncomeaaDoor
