/- Points written by four digits of base sixteen: plain mathematics. The law's own text of four hexadecimal digits: its contract. The law's own blanks: its contract. The law's own way to write a text: its contract. -/
import Derived.Test.YtaeimlfehlbiiaaGreatDoorMN
import Derived.Test.YtaeimlfehlbiiaaGreatDoorMI
import Derived.IntWalk
import Derived.Outline
import Derived.Test.YtaeimlfehlbiiaaGreatDoorMG
namespace Go.Proofs.YtaeimlfehlbiiaaGreatDoor.Rd
open Tk Pl
set_option linter.unusedVariables false
def hexd (g : Bool) (d : Nat) : UInt8 := if d < 10 then UInt8.ofNat (48 + d) else if g then UInt8.ofNat (55 + d) else UInt8.ofNat (87 + d)
theorem hexd_all : ∀ (g : Bool) (d : Fin 16), hexOf (hexd g d.val).toNat = (d.val : Int) := by decide +kernel
theorem hexd_of (g : Bool) {d : Nat} (h : d < 16) : hexOf (hexd g d).toNat = (d : Int) := hexd_all g ⟨d, h⟩
def fourL (g : Bool) (n : Nat) : List UInt8 := [hexd g (n / 4096 % 16), hexd g (n / 256 % 16), hexd g (n / 16 % 16), hexd g (n % 16)]
theorem four_at {s : ByteArray} {p : Nat} {g : Bool} {n : Nat} (hn : n < 65536) (h : Here s p (fourL g n)) : four s p = ((n : Int), p + 4) ∧ Here s (p + 4) [] := by
 obtain ⟨k1, _, h⟩ := Here.hd h
 obtain ⟨k2, _, h⟩ := h.hd
 obtain ⟨k3, _, h⟩ := h.hd
 obtain ⟨k4, _, h⟩ := h.hd
 have d1 := hexd_of g (d := n / 4096 % 16) (by omega)
 have d2 := hexd_of g (d := n / 256 % 16) (by omega)
 have d3 := hexd_of g (d := n / 16 % 16) (by omega)
 have d4 := hexd_of g (d := n % 16) (by omega)
 rw [← k1] at d1
 rw [← k2] at d2
 rw [← k3] at d3
 rw [← k4] at d4
 refine ⟨?_, h⟩
 unfold four
 rw [fourF_yes (by rw [d1]; omega), fourF_yes (by rw [d2]; omega), fourF_yes (by rw [d3]; omega), fourF_yes (by rw [d4]; omega)]
 rw [d1, d2, d3, d4]
 unfold fourF
 have : (((0 * 16 + ((n / 4096 % 16 : Nat) : Int)) * 16 + ((n / 256 % 16 : Nat) : Int)) * 16 + ((n / 16 % 16 : Nat) : Int)) * 16 + ((n % 16 : Nat) : Int) = (n : Int) := by omega
 rw [this]
theorem chL_four {n : Nat} (g : Bool) (hn : n < 65536) (hp : pt (n : Int) = true) : ChL [(n : Int)] ([92, 117] ++ fourL g n) := fun s p hh => by
 obtain ⟨b1, b2, _⟩ := Here.hd hh
 have b1' : bt s p = 92 := b1
 have b3' : bt s (p + 1) = 117 := (Here.hd (Here.hd hh).2.2).1
 obtain ⟨h4, _⟩ := four_at hn (Here.right (A := [92, 117]) hh)
 have h4' : four s (p + 2) = ((n : Int), p + 6) := h4
 refine ⟨p + 6, by rw [b1']; decide, ?_, rfl⟩
 unfold chAt
 rw [if_neg (by omega), if_pos b1']
 unfold escCh
 rw [b3', show shortOf 117 = none from rfl]
 show (if 117 = 117 then uniCh s p else _) = _
 rw [if_pos rfl]
 unfold uniCh
 rw [h4']
 show (if (n : Int) < 0 then _ else _) = _
 rw [if_neg (by omega), if_pos hp]
theorem chL_pair {n : Nat} (g h : Bool) (h0 : 65536 ≤ n) (h1 : n < 1114112) : ChL [(n : Int)] (([92, 117] ++ fourL g (55296 + (n - 65536) / 1024)) ++ ([92, 117] ++ fourL h (56320 + (n - 65536) % 1024))) := fun s p hh => by
 have hl := hh.left
 have hr : Here s (p + 6) ([92, 117] ++ fourL h (56320 + (n - 65536) % 1024)) := hh.right
 obtain ⟨b1, b2, _⟩ := Here.hd hl
 have b1' : bt s p = 92 := b1
 have b3' : bt s (p + 1) = 117 := (Here.hd (Here.hd hl).2.2).1
 have b4' : bt s (p + 6) = 92 := (Here.hd hr).1
 have b5' : bt s (p + 7) = 117 := (Here.hd (Here.hd hr).2.2).1
 have f1 : four s (p + 2) = (((55296 + (n - 65536) / 1024 : Nat) : Int), p + 6) := (four_at (by omega) (Here.right (A := [92, 117]) hl)).1
 have f2 : four s (p + 8) = (((56320 + (n - 65536) % 1024 : Nat) : Int), p + 12) := (four_at (by omega) (Here.right (A := [92, 117]) hr)).1
 refine ⟨p + 12, by rw [b1']; decide, ?_, rfl⟩
 unfold chAt
 rw [if_neg (by omega), if_pos b1']
 unfold escCh
 rw [b3', show shortOf 117 = none from rfl]
 show (if 117 = 117 then uniCh s p else _) = _
 rw [if_pos rfl]
 unfold uniCh
 rw [f1, f2]
 dsimp only
 have hnp : ¬ pt ((55296 + (n - 65536) / 1024 : Nat) : Int) = true := by rw [pt_iff]; omega
 have hhi : isHigh ((55296 + (n - 65536) / 1024 : Nat) : Int) = true := by unfold isHigh; rw [decide_eq_true_eq]; omega
 have hlo : isLow ((56320 + (n - 65536) % 1024 : Nat) : Int) = true := by unfold isLow; rw [decide_eq_true_eq]; omega
 rw [if_neg (by omega), if_neg hnp, if_pos ⟨hhi, b4', b5', hlo⟩]
 have e : 65536 + (((55296 + (n - 65536) / 1024 : Nat) : Int) - 55296) * 1024 + (((56320 + (n - 65536) % 1024 : Nat) : Int) - 56320) = (n : Int) := by omega
 rw [e]
end Go.Proofs.YtaeimlfehlbiiaaGreatDoor.Rd
namespace Go.Proofs.YtaeimlfehlbiiaaGreatDoor
open Go.RowKit
open Tk
open Pl
set_option linter.unusedVariables false
theorem dig_small (d : Nat) (h : d < 16) : ((⟨#[48, 49, 50, 51, 52, 53, 54, 55, 56, 57, 97, 98, 99, 100, 101, 102]⟩ : ByteArray).extract d (d + 1)).data.toList = [Rd.hexd false d] := by
 rcases (by omega : d = 0 ∨ d = 1 ∨ d = 2 ∨ d = 3 ∨ d = 4 ∨ d = 5 ∨ d = 6 ∨ d = 7 ∨ d = 8 ∨ d = 9 ∨ d = 10 ∨ d = 11 ∨ d = 12 ∨ d = 13 ∨ d = 14 ∨ d = 15) with rfl | rfl | rfl | rfl | rfl | rfl | rfl | rfl | rfl | rfl | rfl | rfl | rfl | rfl | rfl | rfl <;> rfl
theorem dig_great (d : Nat) (h : d < 16) : ((⟨#[48, 49, 50, 51, 52, 53, 54, 55, 56, 57, 65, 66, 67, 68, 69, 70]⟩ : ByteArray).extract d (d + 1)).data.toList = [Rd.hexd true d] := by
 rcases (by omega : d = 0 ∨ d = 1 ∨ d = 2 ∨ d = 3 ∨ d = 4 ∨ d = 5 ∨ d = 6 ∨ d = 7 ∨ d = 8 ∨ d = 9 ∨ d = 10 ∨ d = 11 ∨ d = 12 ∨ d = 13 ∨ d = 14 ∨ d = 15) with rfl | rfl | rfl | rfl | rfl | rfl | rfl | rfl | rfl | rfl | rfl | rfl | rfl | rfl | rfl | rfl <;> rfl
def hx6 (g : Bool) : Nat → Nat → List UInt8
 | 0, _ => []
 | k + 1, N => hx6 g k (N / 16) ++ [Rd.hexd g (N % 16)]
theorem hx6_four (g : Bool) (n : Nat) : hx6 g 4 n = Rd.fourL g n := by
 simp only [hx6, Rd.fourL, List.nil_append, List.cons_append]
 have e1 : n / 16 / 16 / 16 = n / 4096 := by omega
 have e2 : n / 16 / 16 = n / 256 := by omega
 rw [e1, e2]
def HexAt (g : Bool) (n : Nat) (k : Nat) (N : Nat) (A : ByteArray) : Prop := hx6 g 4 n = hx6 g (4 - k) N ++ A.data.toList ∧ A.size = k
theorem HexAt.step {g : Bool} {n k N : Nat} {A x : ByteArray} (h : HexAt g n k N A) (hk : k < 4) (hx : x.data.toList = [Rd.hexd g (N % 16)]) : HexAt g n (k + 1) (N / 16) (x ++ A) := by
 obtain ⟨h1, h2⟩ := h
 obtain ⟨j, hj⟩ : ∃ j, 4 - k = j + 1 := ⟨3 - k, by omega⟩
 have hxs : x.size = 1 := by rw [← size_toList, hx]; rfl
 refine ⟨?_, by rw [ByteArray.size_append]; omega⟩
 rw [h1, hj, show 4 - (k + 1) = j by omega, ByteArray.data_append, Array.toList_append, hx]
 simp [hx6]
theorem HexAt.done {g : Bool} {n N : Nat} {A : ByteArray} (h : HexAt g n 4 N A) : A = ⟨(Rd.fourL g n).toArray⟩ := by
 apply ba_list
 have := h.1
 rw [hx6_four] at this
 simpa [hx6] using this.symm
set_option maxRecDepth 100000 in
set_option maxHeartbeats 4000000 in
theorem four_false (n : Nat) (w : World) (hn : n < 65536) : Calls Tryz.prog 56 #[.int .i64 n, .bool false] w fun e w' => e = .returned (.string ⟨(Rd.fourL false n).toArray⟩) ∧ w = w' := by
 have H0 := Lib.hid (show HexAt false n 0 n ⟨#[]⟩ from ⟨by simp [hx6], rfl⟩)
 go_enter Tryz.func56, Tryz.ntmps56
 go_wp2_with fail
 go_loop [0, 6, 8] (fun a b c => ∃ (k N : Nat) (A : ByteArray), k ≤ 4 ∧ N < 65536 ∧ HexAt false n k N A ∧ a = .int .i64 N ∧ b = .string A ∧ c = .int .i64 k) (fun _ _ c => 4 - (intOf c).toNat)
 case atStart => exact ⟨0, n, ⟨#[]⟩, by omega, hn, H0.out, rfl, rfl, rfl⟩
 case round =>
  obtain ⟨k, N, A, hk, hN, hat, rfl, rfl, rfl⟩ := hrel
  have HAT := Lib.hid hat
  have hAs : A.size ≤ 4 := by have := hat.2; omega
  clear hat
  by_cases hlt : k < 4
  ·
   have t1 : (k : Int) < 4 := by omega
   have t2 : decide ((k : Int) < 4) = true := decide_eq_true t1
   have i1 : (0 : Int) ≤ (N : Int) % 16 := by omega
   have i2 : (N : Int) % 16 + 1 ≤ 16 := by omega
   have e2 : ((N : Int) % 16).toNat = N % 16 := by omega
   have e3 : ((N : Int) % 16 + 1).toNat = N % 16 + 1 := by omega
   have e1 : IntKind.i64.wrap ((N : Int) % 16 + 1) = (N : Int) % 16 + 1 := IntWalk.i64_in _ (by omega)
   have hEs : ((⟨#[48, 49, 50, 51, 52, 53, 54, 55, 56, 57, 97, 98, 99, 100, 101, 102]⟩ : ByteArray).extract (N % 16) (N % 16 + 1)).size ≤ 16 := by rw [ByteArray.size_extract]; show min (N % 16 + 1) 16 - N % 16 ≤ 16; omega
   have HST := Lib.hid (HAT.out.step hlt (dig_small (N % 16) (by omega)))
   go_wp2_with fail
   go_round
   case rel => exact ⟨k + 1, N / 16, _, hlt, by omega, HST.out, by go_num, rfl, by go_num⟩
   case measure => simp [intOf]; omega
  ·
   obtain rfl : k = 4 := by omega
   have HD := Lib.hid HAT.out.done
   go_wp2_with fail
   go_ret
   exact ⟨by rw [← HD.out] <;> rfl, rfl⟩
set_option maxRecDepth 100000 in
set_option maxHeartbeats 4000000 in
theorem four_true (n : Nat) (w : World) (hn : n < 65536) : Calls Tryz.prog 56 #[.int .i64 n, .bool true] w fun e w' => e = .returned (.string ⟨(Rd.fourL true n).toArray⟩) ∧ w = w' := by
 have H0 := Lib.hid (show HexAt true n 0 n ⟨#[]⟩ from ⟨by simp [hx6], rfl⟩)
 go_enter Tryz.func56, Tryz.ntmps56
 go_wp2_with fail
 go_loop [0, 6, 8] (fun a b c => ∃ (k N : Nat) (A : ByteArray), k ≤ 4 ∧ N < 65536 ∧ HexAt true n k N A ∧ a = .int .i64 N ∧ b = .string A ∧ c = .int .i64 k) (fun _ _ c => 4 - (intOf c).toNat)
 case atStart => exact ⟨0, n, ⟨#[]⟩, by omega, hn, H0.out, rfl, rfl, rfl⟩
 case round =>
  obtain ⟨k, N, A, hk, hN, hat, rfl, rfl, rfl⟩ := hrel
  have HAT := Lib.hid hat
  have hAs : A.size ≤ 4 := by have := hat.2; omega
  clear hat
  by_cases hlt : k < 4
  ·
   have t1 : (k : Int) < 4 := by omega
   have t2 : decide ((k : Int) < 4) = true := decide_eq_true t1
   have i1 : (0 : Int) ≤ (N : Int) % 16 := by omega
   have i2 : (N : Int) % 16 + 1 ≤ 16 := by omega
   have e2 : ((N : Int) % 16).toNat = N % 16 := by omega
   have e3 : ((N : Int) % 16 + 1).toNat = N % 16 + 1 := by omega
   have e1 : IntKind.i64.wrap ((N : Int) % 16 + 1) = (N : Int) % 16 + 1 := IntWalk.i64_in _ (by omega)
   have hEs : ((⟨#[48, 49, 50, 51, 52, 53, 54, 55, 56, 57, 65, 66, 67, 68, 69, 70]⟩ : ByteArray).extract (N % 16) (N % 16 + 1)).size ≤ 16 := by rw [ByteArray.size_extract]; show min (N % 16 + 1) 16 - N % 16 ≤ 16; omega
   have HST := Lib.hid (HAT.out.step hlt (dig_great (N % 16) (by omega)))
   go_wp2_with fail
   go_round
   case rel => exact ⟨k + 1, N / 16, _, hlt, by omega, HST.out, by go_num, rfl, by go_num⟩
   case measure => simp [intOf]; omega
  ·
   obtain rfl : k = 4 := by omega
   have HD := Lib.hid HAT.out.done
   go_wp2_with fail
   go_ret
   exact ⟨by rw [← HD.out] <;> rfl, rfl⟩
theorem four_any6 (g : Bool) (n : Nat) (x : Int) (hx : x = (n : Int)) (w : World) (hn : n < 65536) : Calls Tryz.prog 56 #[.int .i64 x, .bool g] w fun e w' => e = .returned (.string ⟨(Rd.fourL g n).toArray⟩) ∧ w = w' := by
 subst hx
 cases g with
 | true => exact four_true n w hn
 | false => exact four_false n w hn
end Go.Proofs.YtaeimlfehlbiiaaGreatDoor
namespace Go.Proofs.YtaeimlfehlbiiaaGreatDoor
open Go.RowKit
open Tk
open Pl
set_option linter.unusedVariables false
def GapGives (w : World) (e : Ending) (w' : World) : Prop := ∃ B : ByteArray, e = .returned (.string B) ∧ Rd.Bls B.data.toList ∧ B.size ≤ 3 ∧ w = w'
def gapB : Nat → ByteArray
 | 0 => ⟨#[]⟩
 | 1 => ⟨#[32]⟩
 | 2 => ⟨#[10]⟩
 | 3 => ⟨#[9]⟩
 | 4 => ⟨#[13, 10]⟩
 | 5 => ⟨#[32, 32]⟩
 | 6 => ⟨#[32, 9, 32]⟩
 | _ => ⟨#[10, 10]⟩
theorem gapB_all : ∀ k : Fin 8, ((gapB k.val).data.toList.all (fun b => isBl b.toNat) && decide ((gapB k.val).size ≤ 3)) = true := by decide +kernel
theorem gap_bls {k : Nat} (h : k < 8) : Rd.Bls (gapB k).data.toList := fun b hb => by
 have := gapB_all ⟨k, h⟩
 simp only [Bool.and_eq_true] at this
 exact List.all_eq_true.1 this.1 b hb
theorem gap_size {k : Nat} (h : k < 8) : (gapB k).size ≤ 3 := by
 have := gapB_all ⟨k, h⟩
 simp only [Bool.and_eq_true, decide_eq_true_eq] at this
 exact this.2
theorem index8 (k : Nat) (i : Int) (h : i = (k : Int)) (hk : k < 8) (w : World) : (Instr.index 106 (.agg #[.string ⟨#[]⟩, .string ⟨#[32]⟩, .string ⟨#[10]⟩, .string ⟨#[9]⟩, .string ⟨#[13, 10]⟩, .string ⟨#[32, 32]⟩, .string ⟨#[32, 9, 32]⟩, .string ⟨#[10, 10]⟩]) (.int .u8 i)).run Tryz.prog w = .ok (.string (gapB k)) w := by
 subst h
 rcases (by omega : k = 0 ∨ k = 1 ∨ k = 2 ∨ k = 3 ∨ k = 4 ∨ k = 5 ∨ k = 6 ∨ k = 7) with rfl | rfl | rfl | rfl | rfl | rfl | rfl | rfl <;> (simp [Instr.index, run_underlying Tryz.underlying106, asIntOf, go_sem]; try rfl)
set_option maxRecDepth 100000 in
set_option maxHeartbeats 4000000 in
theorem gap_at (n : Int) (k : Nat) (w : World) (h0 : 0 ≤ n) (h1 : n ≤ 255) (hk : n % 8 = (k : Int)) (hk8 : k < 8) : Calls Tryz.prog 30 #[.int .u8 n] w (GapGives w) := by
 have ht : n.tmod 8 = (k : Int) := by rw [Int.tmod_eq_emod_of_nonneg h0]; exact hk
 have hix := fun w => index8 k (n.tmod 8) ht hk8 w
 have hiy := fun w => index8 k (n % 8) hk hk8 w
 have HB := Lib.hid (gap_bls hk8)
 have HS := Lib.hid (gap_size hk8)
 clear hk ht hk8
 generalize gapB k = B at *
 go_enter Tryz.func30, Tryz.ntmps30
 go_wp2_with fail
 go_ret
 exact ⟨_, rfl, HB.out, HS.out, rfl⟩
theorem l6blanks_any (n : Int) (w : World) (h0 : 0 ≤ n) (h1 : n ≤ 255) : Calls Tryz.prog 30 #[.int .u8 n] w (GapGives w) :=
 gap_at n (n % 8).toNat w h0 h1 (by omega) (by omega)
end Go.Proofs.YtaeimlfehlbiiaaGreatDoor
namespace Go.Proofs.YtaeimlfehlbiiaaGreatDoor
open Go.RowKit
open Tk
open Pl
set_option linter.unusedVariables false
def Text6Gives (q : ByteArray) (w : World) (e : Ending) (w' : World) : Prop := ∃ r : ByteArray, e = .returned (.string r) ∧ Rd.StrL q r.data.toList ∧ r.size ≤ 12 * q.size + 2 ∧ Below w.heap.size w w'
def Wrote (l : List Int) (i : Nat) (O : ByteArray) : Prop := (∃ L, O.data.toList = 34 :: L ∧ Rd.ChL (l.take i) L) ∧ O.size ≤ 12 * i + 1
theorem Wrote.start (l : List Int) : Wrote l 0 ⟨#[34]⟩ := ⟨⟨[], rfl, by rw [List.take_zero]; exact Rd.chL_nil⟩, by show 1 ≤ 1; omega⟩
theorem Wrote.step {l : List Int} {i : Nat} {O X : ByteArray} (h : Wrote l i O) (hi : i < l.length) {p : Int} (hp : l.getD i 0 = p) {M : List UInt8} (hX : X.data.toList = M) (hc : Rd.ChL [p] M) (hs : X.size ≤ 12) : Wrote l (i + 1) (O ++ X) := by
 obtain ⟨⟨L, h1, h2⟩, h3⟩ := h
 refine ⟨⟨L ++ M, by rw [ByteArray.data_append, Array.toList_append, h1, hX]; rfl, ?_⟩, by rw [ByteArray.size_append]; omega⟩
 rw [getD_take_succ l i hi, hp]
 exact h2.app hc
theorem Wrote.done {l : List Int} {O q : ByteArray} (h : Wrote l l.length O) (hq : q.data.toList = flat l) : Rd.StrL q (O ++ ⟨#[34]⟩ : ByteArray).data.toList := by
 obtain ⟨⟨L, h1, h2⟩, _⟩ := h
 rw [List.take_length] at h2
 have : (O ++ ⟨#[34]⟩ : ByteArray).data.toList = 34 :: (L ++ [34]) := by rw [ByteArray.data_append, Array.toList_append, h1]; rfl
 rw [this]
 exact Rd.strL_of h2 hq
theorem enc_ascii {p : Int} (h0 : 0 ≤ p) (h1 : p < 128) : (⟨(flat [p]).toArray⟩ : ByteArray).data.toList = [UInt8.ofNat p.toNat] := by
 rw [flat_cons, flat_nil, List.append_nil]
 obtain ⟨n, rfl⟩ : ∃ n : Nat, p = n := ⟨p.toNat, by omega⟩
 have hall : ∀ k : Fin 128, Lib.encodeRune ((k.val : Nat) : Int) = [UInt8.ofNat k.val] := by decide +kernel
 exact hall ⟨n, by omega⟩
theorem enc_len6 (p : Int) : (⟨(flat [p]).toArray⟩ : ByteArray).size ≤ 4 := by
 have := len4 [p]
 rw [← size_toList]
 exact this
theorem four_ex (g : Bool) (pn : Nat) (x : Int) (hx : x = (pn : Int)) (w : World) (hn : pn < 65536) : Calls Tryz.prog 56 #[.int .i64 x, .bool g] w fun e w' => ∃ F : ByteArray, e = .returned (.string F) ∧ w = w' ∧ F.size ≤ 4 ∧ ∃ g', F.data.toList = Rd.fourL g' pn := by
 refine (four_any6 g pn x hx w hn).mono ?_
 rintro e w' ⟨rfl, rfl⟩
 exact ⟨_, rfl, rfl, by rw [← size_toList]; exact Nat.le_refl 4, g, rfl⟩
theorem flat_ge6 : ∀ l : List Int, l.length ≤ (flat l).length
 | [] => Nat.zero_le _
 | x :: l => by
  have h1 := flat_ge6 l
  have h2 := (enc_len x).1
  rw [flat_cons, List.length_append, List.length_cons]; omega
theorem pair_nums (p : Int) (h0 : 65536 ≤ p) (h1 : p ≤ 1114111) : ∃ pn hi lo : Nat, p = (pn : Int) ∧ hi = (pn - 65536) / 1024 ∧ lo = (pn - 65536) % 1024 ∧ 65536 ≤ pn ∧ pn < 1114112 ∧ hi < 1024 ∧ lo < 1024 ∧ (p - 65536) / 1024 = (hi : Int) ∧ (p - 65536) % 1024 = (lo : Int) := by
 refine ⟨p.toNat, (p.toNat - 65536) / 1024, (p.toNat - 65536) % 1024, ?_, rfl, rfl, ?_, ?_, ?_, ?_, ?_, ?_⟩ <;> omega
theorem i64_sum (a k : Nat) (hk : k < 1024) (ha : (a : Int) ≤ 60000) (h0 : (0:Int) ≤ a) : IntKind.i64.wrap ((a : Int) + (k : Int)) = (a : Int) + (k : Int) := IntWalk.i64_in _ (by omega)
theorem w64_sum (a k : Nat) (hk : k < 1024) (ha : (a : Int) ≤ 60000) (h0 : (0:Int) ≤ a) : wrap64 ((a : Int) + (k : Int)) = (a : Int) + (k : Int) := IntWalk.wrap64_in _ (by omega)
theorem sum_hi (k : Nat) : (55296 : Int) + (k : Int) = ((55296 + k : Nat) : Int) := by omega
theorem sum_lo (k : Nat) : (56320 : Int) + (k : Int) = ((56320 + k : Nat) : Int) := by omega
theorem i64_small (k : Nat) (hk : k < 1024) : IntKind.i64.wrap (k : Int) = (k : Int) := IntWalk.i64_in _ (by omega)
theorem w64_small (k : Nat) (hk : k < 1024) : wrap64 (k : Int) = (k : Int) := IntWalk.wrap64_in _ (by omega)
set_option maxRecDepth 100000 in
set_option maxHeartbeats 8000000 in
theorem l6text_any (
 q : ByteArray) (n : Int) (w : World) (hq : okText q) (hs : q.size ≤ 60) (hn0 : 0 ≤ n) (hn1 : n ≤ 255) : Calls Tryz.prog 33 #[.string q, .int .u8 n] w (Text6Gives q w) := by
 obtain ⟨l, hl⟩ := hq
 have HQ := Lib.hid (show q.data.toList = flat l by have := hl.1; rwa [List.append_nil] at this)
 have hll : l.length ≤ q.size := by
  have h1 := flat_ge6 l
  rw [← HQ.out] at h1
  simpa using h1
 have HPTS := Lib.hid hl.2.2
 have HPO := Lib.hid (rpoints_any q l [] hl (by omega) w)
 clear hl
 go_enter Tryz.func33, Tryz.ntmps33
 go_wp2_with fail
 refine HPO.out.mono ?_
 rintro e w1 ⟨A, c, rfl, hrd, hb1⟩
 have HRDS := Lib.hid hrd
 have H0 := Lib.hid hb1
 clear hrd hb1 HPO
 go_wp2_with fail
 go_loopw [7, 8, 9, 10, 18] (fun o7 _ _ _ x wr => ∃ (i : Nat) (O : ByteArray), i ≤ l.length ∧ x = .int .i64 i ∧ o7 = .string O ∧ Wrote l i O ∧ Below w1.heap.size w1 wr) (fun _ _ _ _ x _ => l.length - (intOf x).toNat)
 case atStart => exact ⟨0, ⟨#[34]⟩, Nat.zero_le _, rfl, rfl, Wrote.start l, Below.refl _ _⟩
 case round =>
  obtain ⟨i, O, hil, rfl, rfl, hwr, hbel⟩ := hrel
  have HWR := Lib.hid hwr
  have H1 := Lib.hid hbel
  have hOs := hwr.2
  clear hwr hbel
  by_cases hi : i < l.length
  ·
   have t1 : decide (i < l.length) = true := decide_eq_true hi
   have t2 : decide ((i : Int) < (l.length : Int)) = true := decide_eq_true (by omega)
   have i1 : (i : Int) < (l.length : Int) := by omega
   have i2 : (0 : Int) ≤ (i : Int) := by omega
   obtain ⟨b, o, rfl, hb, hcell⟩ := HRDS.out (by intro h; rw [h] at hi; simp at hi)
   have hc1 : wr.cell? ⟨b, o + i, none⟩ = some (.int .i64 (l.getD i 0)) := (H1.out.cell (p := ⟨b, o + i, none⟩) hb).trans (hcell i hi)
   have HPT := Lib.hid (show pt (l.getD i 0) = true from HPTS.out _ (by rw [List.getD_eq_getElem?_getD, List.getElem?_eq_getElem hi]; exact List.getElem_mem hi))
   have hp : 0 ≤ l.getD i 0 ∧ l.getD i 0 ≤ 1114111 := by rcases (pt_iff _).1 HPT.out with h | h <;> omega
   have HPE := Lib.hid (show ∀ x, l.getD i 0 = x → l.getD i 0 = x from fun _ h => h)
   generalize hpe : l.getD i 0 = p at *
   have HPX := Lib.hid hpe
   clear hpe hcell
   have ew : IntKind.i64.wrap (n + (i : Int)) = n + (i : Int) := IntWalk.i64_in _ (by omega)
   have ew2 : wrap64 (n + (i : Int)) = n + (i : Int) := IntWalk.wrap64_in _ (by omega)
   have HRD := Lib.hid (show ∀ x, Reads (wr.alloc (.cells #[.int .i64 x] 3)) (wr.alloc (.cells #[.int .i64 x] 3)).heap.size (some ⟨wr.heap.size, 0, none⟩) [x] from fun x _ => ⟨_, 0, rfl, by simp, fun j hj => by
    obtain rfl : j = 0 := by simpa using hj
    exact (Blk.new wr 3 #[.int .i64 x]).cell 0⟩)
   have hF4 := enc_len6 p
   have HF := Lib.hid (enc_len6 p)
   by_cases h34 : p = 34
   ·
    have u34 : (p == 34) = true := by rw [h34]; rfl
    have HA := Lib.hid (show Rd.ChL [p] [92, UInt8.ofNat p.toNat] from by rw [h34]; exact Rd.chL_short (UInt8.ofNat (34 : Int).toNat) rfl)
    have hb34 : 34 ≤ p ∧ p ≤ 34 := by omega
    clear h34
    have HX := Lib.hid (HWR.out.step hi HPX.out (X := ⟨#[92]⟩ ++ ⟨(flat [p]).toArray⟩) (M := [92, UInt8.ofNat p.toNat]) (by rw [ByteArray.data_append, Array.toList_append, enc_ascii (by omega) (by omega)]; rfl) (HA.out) (by rw [ByteArray.size_append]; show 1 + _ ≤ 12; omega))
    clear HPX
    try clear hb47
    go_wp2_with fail
    refine (rtext_any [p] (some ⟨wr.heap.size, 0, none⟩) 1 (wr.alloc (.cells #[.int .i64 p] 3)) (by simp) (HRD.out p) (by intro y hy; rw [List.mem_singleton.1 hy]; exact HPT.out)).mono ?_
    rintro e w3 ⟨rfl, hb3⟩
    have H3 := Lib.hid ((H1.out.alloc H1.out.size (.cells #[.int .i64 p] 3)).trans (hb3.mono (Nat.le_trans H1.out.size (by simp))))
    clear hb3
    generalize (⟨(flat [p]).toArray⟩ : ByteArray) = F at *
    go_wp2_with fail
    go_roundw
    case rel => exact ⟨i + 1, _, hi, by go_num, rfl, HX.out, H3.out⟩
    case measure => simp [intOf]; omega
   ·
    have u34 : (p == 34) = false := by rw [beq_eq_false_iff_ne]; exact h34
    by_cases h92 : p = 92
    ·
     have u92 : (p == 92) = true := by rw [h92]; rfl
     have HA := Lib.hid (show Rd.ChL [p] [92, UInt8.ofNat p.toNat] from by rw [h92]; exact Rd.chL_short (UInt8.ofNat (92 : Int).toNat) rfl)
     have hb92 : 92 ≤ p ∧ p ≤ 92 := by omega
     clear h92
     have HX := Lib.hid (HWR.out.step hi HPX.out (X := ⟨#[92]⟩ ++ ⟨(flat [p]).toArray⟩) (M := [92, UInt8.ofNat p.toNat]) (by rw [ByteArray.data_append, Array.toList_append, enc_ascii (by omega) (by omega)]; rfl) (HA.out) (by rw [ByteArray.size_append]; show 1 + _ ≤ 12; omega))
     clear HPX
     try clear hb47
     go_wp2_with fail
     refine (rtext_any [p] (some ⟨wr.heap.size, 0, none⟩) 1 (wr.alloc (.cells #[.int .i64 p] 3)) (by simp) (HRD.out p) (by intro y hy; rw [List.mem_singleton.1 hy]; exact HPT.out)).mono ?_
     rintro e w3 ⟨rfl, hb3⟩
     have H3 := Lib.hid ((H1.out.alloc H1.out.size (.cells #[.int .i64 p] 3)).trans (hb3.mono (Nat.le_trans H1.out.size (by simp))))
     clear hb3
     generalize (⟨(flat [p]).toArray⟩ : ByteArray) = F at *
     go_wp2_with fail
     go_roundw
     case rel => exact ⟨i + 1, _, hi, by go_num, rfl, HX.out, H3.out⟩
     case measure => simp [intOf]; omega
    ·
     have u92 : (p == 92) = false := by rw [beq_eq_false_iff_ne]; exact h92
     by_cases h47 : p = 47
     ·
      have u47 : (p == 47) = true := by rw [h47]; rfl
      have HA := Lib.hid (show Rd.ChL [p] [92, UInt8.ofNat p.toNat] from by rw [h47]; exact Rd.chL_short (UInt8.ofNat (47 : Int).toNat) rfl)
      have hb47 : 47 ≤ p ∧ p ≤ 47 := by omega
      clear h47
      by_cases hm2 : (n + (i : Int)) % 2 = 0
      ·
       have um2 : ((n + (i : Int)) % 2 == 0) = true := by rw [hm2]; rfl
       have um2' : ((n + (i : Int)).tmod 2 == 0) = true := by rw [Int.tmod_eq_emod_of_nonneg (by omega), hm2]; rfl
       have HM2 := Lib.hid hm2
       clear hm2
       have HX := Lib.hid (HWR.out.step hi HPX.out (X := ⟨#[92]⟩ ++ ⟨(flat [p]).toArray⟩) (M := [92, UInt8.ofNat p.toNat]) (by rw [ByteArray.data_append, Array.toList_append, enc_ascii (by omega) (by omega)]; rfl) (HA.out) (by rw [ByteArray.size_append]; show 1 + _ ≤ 12; omega))
       clear HPX
       try clear hb47
       go_wp2_with fail
       refine (rtext_any [p] (some ⟨wr.heap.size, 0, none⟩) 1 (wr.alloc (.cells #[.int .i64 p] 3)) (by simp) (HRD.out p) (by intro y hy; rw [List.mem_singleton.1 hy]; exact HPT.out)).mono ?_
       rintro e w3 ⟨rfl, hb3⟩
       have H3 := Lib.hid ((H1.out.alloc H1.out.size (.cells #[.int .i64 p] 3)).trans (hb3.mono (Nat.le_trans H1.out.size (by simp))))
       clear hb3
       generalize (⟨(flat [p]).toArray⟩ : ByteArray) = F at *
       go_wp2_with fail
       go_roundw
       case rel => exact ⟨i + 1, _, hi, by go_num, rfl, HX.out, H3.out⟩
       case measure => simp [intOf]; omega
      ·
       have um2 : ((n + (i : Int)) % 2 == 0) = false := by rw [beq_eq_false_iff_ne]; exact hm2
       have um2' : ((n + (i : Int)).tmod 2 == 0) = false := by rw [Int.tmod_eq_emod_of_nonneg (by omega), beq_eq_false_iff_ne]; exact hm2
       have HM2 := Lib.hid hm2
       clear hm2
       by_cases h32 : p < 32
       · exact absurd h32 (by omega)
       ·
        have u32 : decide (p < 32) = false := decide_eq_false h32
        by_cases hm3 : (n + (i : Int)) % 3 = 0
        ·
         have um3 : ((n + (i : Int)) % 3 == 0) = true := by rw [hm3]; rfl
         have um3' : ((n + (i : Int)).tmod 3 == 0) = true := by rw [Int.tmod_eq_emod_of_nonneg (by omega), hm3]; rfl
         have HM3 := Lib.hid hm3
         clear hm3
         by_cases h65 : p < 65536
         ·
          have u65 : decide (p < 65536) = true := decide_eq_true h65
          obtain ⟨pn, hpn⟩ : ∃ pn : Nat, p = pn := ⟨p.toNat, by omega⟩
          have HPN := Lib.hid hpn
          have hpn6 : pn < 65536 := by omega
          have HPTN := Lib.hid (show pt (pn : Int) = true from hpn ▸ HPT.out)
          clear hpn
          go_wp2_with fail
          refine (four_ex _ pn p HPN.out wr hpn6).mono ?_
          rintro e w3 ⟨F, rfl, rfl, hF6, hFL⟩
          have HFL := Lib.hid hFL
          clear hFL
          have HX := Lib.hid (show Wrote l (i + 1) (O ++ (⟨#[92, 117]⟩ ++ F)) from by
           obtain ⟨g, hg⟩ := HFL.out
           exact HWR.out.step hi HPX.out (X := ⟨#[92, 117]⟩ ++ F) (M := [92, 117] ++ Rd.fourL g pn) (by rw [ByteArray.data_append, Array.toList_append, hg]) (by rw [HPN.out]; exact Rd.chL_four g hpn6 HPTN.out) (by rw [ByteArray.size_append]; show 2 + _ ≤ 12; omega))
          go_wp2_with fail
          go_roundw
          case rel => exact ⟨i + 1, _, hi, by go_num, rfl, HX.out, H1.out⟩
          case measure => simp [intOf]; omega
         · exact absurd (show p < 65536 by omega) h65
        ·
         have um3 : ((n + (i : Int)) % 3 == 0) = false := by rw [beq_eq_false_iff_ne]; exact hm3
         have um3' : ((n + (i : Int)).tmod 3 == 0) = false := by rw [Int.tmod_eq_emod_of_nonneg (by omega), beq_eq_false_iff_ne]; exact hm3
         have HM3 := Lib.hid hm3
         clear hm3
         by_cases h65 : p < 65536
         ·
          have u65 : decide (p < 65536) = true := decide_eq_true h65
          have uge : decide (p ≥ 65536) = false := decide_eq_false (by omega)
          have uge' : decide (65536 ≤ p) = false := decide_eq_false (by omega)
          have HX := Lib.hid (HWR.out.step hi HPX.out (X := ⟨(flat [p]).toArray⟩) (M := Lib.encodeRune p) (by rw [flat_cons, flat_nil, List.append_nil]) (Rd.chL_raw HPT.out (by omega) (by omega) (by omega)) (by omega))
          clear HPX
          try clear hb47
          go_wp2_with fail
          refine (rtext_any [p] (some ⟨wr.heap.size, 0, none⟩) 1 (wr.alloc (.cells #[.int .i64 p] 3)) (by simp) (HRD.out p) (by intro y hy; rw [List.mem_singleton.1 hy]; exact HPT.out)).mono ?_
          rintro e w3 ⟨rfl, hb3⟩
          have H3 := Lib.hid ((H1.out.alloc H1.out.size (.cells #[.int .i64 p] 3)).trans (hb3.mono (Nat.le_trans H1.out.size (by simp))))
          clear hb3
          generalize (⟨(flat [p]).toArray⟩ : ByteArray) = F at *
          go_wp2_with fail
          go_roundw
          case rel => exact ⟨i + 1, _, hi, by go_num, rfl, HX.out, H3.out⟩
          case measure => simp [intOf]; omega
         · exact absurd (show p < 65536 by omega) h65
     ·
      have u47 : (p == 47) = false := by rw [beq_eq_false_iff_ne]; exact h47
      by_cases h32 : p < 32
      ·
       have u32 : decide (p < 32) = true := decide_eq_true h32
       obtain ⟨pn, hpn⟩ : ∃ pn : Nat, p = pn := ⟨p.toNat, by omega⟩
       have HPN := Lib.hid hpn
       have hpn6 : pn < 65536 := by omega
       have HPTN := Lib.hid (show pt (pn : Int) = true from hpn ▸ HPT.out)
       clear hpn
       go_wp2_with fail
       refine (four_ex _ pn p HPN.out wr hpn6).mono ?_
       rintro e w3 ⟨F, rfl, rfl, hF6, hFL⟩
       have HFL := Lib.hid hFL
       clear hFL
       have HX := Lib.hid (show Wrote l (i + 1) (O ++ (⟨#[92, 117]⟩ ++ F)) from by
        obtain ⟨g, hg⟩ := HFL.out
        exact HWR.out.step hi HPX.out (X := ⟨#[92, 117]⟩ ++ F) (M := [92, 117] ++ Rd.fourL g pn) (by rw [ByteArray.data_append, Array.toList_append, hg]) (by rw [HPN.out]; exact Rd.chL_four g hpn6 HPTN.out) (by rw [ByteArray.size_append]; show 2 + _ ≤ 12; omega))
       go_wp2_with fail
       go_roundw
       case rel => exact ⟨i + 1, _, hi, by go_num, rfl, HX.out, H1.out⟩
       case measure => simp [intOf]; omega
      ·
       have u32 : decide (p < 32) = false := decide_eq_false h32
       by_cases hm3 : (n + (i : Int)) % 3 = 0
       ·
        have um3 : ((n + (i : Int)) % 3 == 0) = true := by rw [hm3]; rfl
        have um3' : ((n + (i : Int)).tmod 3 == 0) = true := by rw [Int.tmod_eq_emod_of_nonneg (by omega), hm3]; rfl
        have HM3 := Lib.hid hm3
        clear hm3
        by_cases h65 : p < 65536
        ·
         have u65 : decide (p < 65536) = true := decide_eq_true h65
         obtain ⟨pn, hpn⟩ : ∃ pn : Nat, p = pn := ⟨p.toNat, by omega⟩
         have HPN := Lib.hid hpn
         have hpn6 : pn < 65536 := by omega
         have HPTN := Lib.hid (show pt (pn : Int) = true from hpn ▸ HPT.out)
         clear hpn
         go_wp2_with fail
         refine (four_ex _ pn p HPN.out wr hpn6).mono ?_
         rintro e w3 ⟨F, rfl, rfl, hF6, hFL⟩
         have HFL := Lib.hid hFL
         clear hFL
         have HX := Lib.hid (show Wrote l (i + 1) (O ++ (⟨#[92, 117]⟩ ++ F)) from by
          obtain ⟨g, hg⟩ := HFL.out
          exact HWR.out.step hi HPX.out (X := ⟨#[92, 117]⟩ ++ F) (M := [92, 117] ++ Rd.fourL g pn) (by rw [ByteArray.data_append, Array.toList_append, hg]) (by rw [HPN.out]; exact Rd.chL_four g hpn6 HPTN.out) (by rw [ByteArray.size_append]; show 2 + _ ≤ 12; omega))
         go_wp2_with fail
         go_roundw
         case rel => exact ⟨i + 1, _, hi, by go_num, rfl, HX.out, H1.out⟩
         case measure => simp [intOf]; omega
        ·
         have u65 : decide (p < 65536) = false := decide_eq_false h65
         have uge : decide (p ≥ 65536) = true := decide_eq_true (by omega)
         have uge' : decide (65536 ≤ p) = true := decide_eq_true (by omega)
         have hi_ := hi
         have hp1 : p ≤ 1114111 := hp.2
         have hp0 : 65536 ≤ p := by omega
         obtain ⟨pn, hi, lo, hpn, hhi, hlo, hq0, hq1, hhi4, hlo4, eq1, eq2⟩ := pair_nums p hp0 hp1
         have eq1' : (p - 65536).tdiv 1024 = (hi : Int) := by rw [Int.tdiv_eq_ediv_of_nonneg (Int.sub_nonneg_of_le hp0)]; exact eq1
         have eq2' : (p - 65536).tmod 1024 = (lo : Int) := by rw [Int.tmod_eq_emod_of_nonneg (Int.sub_nonneg_of_le hp0)]; exact eq2
         have ep : IntKind.i64.wrap (p - 65536) = p - 65536 := IntWalk.i64_in _ (by clear eq1 eq2 eq1' eq2'; omega)
         have ep2 : wrap64 (p - 65536) = p - 65536 := IntWalk.wrap64_in _ (by clear eq1 eq2 eq1' eq2'; omega)
         have eh : IntKind.i64.wrap (55296 + (hi : Int)) = 55296 + (hi : Int) := i64_sum 55296 _ hhi4 (by decide) (by decide)
         have eh2 : wrap64 (55296 + (hi : Int)) = 55296 + (hi : Int) := w64_sum 55296 _ hhi4 (by decide) (by decide)
         have el : IntKind.i64.wrap (56320 + (lo : Int)) = 56320 + (lo : Int) := i64_sum 56320 _ hlo4 (by decide) (by decide)
         have el2 : wrap64 (56320 + (lo : Int)) = 56320 + (lo : Int) := w64_sum 56320 _ hlo4 (by decide) (by decide)
         have ehh : IntKind.i64.wrap (hi : Int) = (hi : Int) := i64_small _ hhi4
         have ehh2 : wrap64 (hi : Int) = (hi : Int) := w64_small _ hhi4
         have HPN := Lib.hid hpn
         have HHI := Lib.hid hhi
         have HLO := Lib.hid hlo
         have HQ0 := Lib.hid hq0
         have HQ1 := Lib.hid hq1
         clear hpn hhi hlo hq0 hq1 h34 h92 h47 hp0 hp1 hF4
         go_wp2_with fail
         refine (four_ex _ (55296 + hi) _ (sum_hi hi) wr (Nat.lt_of_lt_of_le (Nat.add_lt_add_left hhi4 _) (by decide))).mono ?_
         rintro e w3 ⟨F, rfl, rfl, hF6, hFL⟩
         have HFL := Lib.hid hFL
         clear hFL
         go_wp2_with fail
         refine (four_ex _ (56320 + lo) _ (sum_lo lo) wr (Nat.lt_of_lt_of_le (Nat.add_lt_add_left hlo4 _) (by decide))).mono ?_
         rintro e w3 ⟨F2, rfl, rfl, hF62, hFL2⟩
         have HFL2 := Lib.hid hFL2
         clear hFL2
         have HX := Lib.hid (show Wrote l (i + 1) (O ++ (⟨#[92, 117]⟩ ++ F ++ ⟨#[92, 117]⟩ ++ F2)) from by
          obtain ⟨g, hg⟩ := HFL.out
          obtain ⟨g2, hg2⟩ := HFL2.out
          refine HWR.out.step hi_ HPX.out (X := ⟨#[92, 117]⟩ ++ F ++ ⟨#[92, 117]⟩ ++ F2) (M := ([92, 117] ++ Rd.fourL g (55296 + hi)) ++ ([92, 117] ++ Rd.fourL g2 (56320 + lo))) ?_ ?_ ?_
          · simp only [ByteArray.data_append, Array.toList_append, hg, hg2, List.append_assoc]
          · rw [HPN.out, HHI.out, HLO.out]; exact Rd.chL_pair g g2 HQ0.out HQ1.out
          · simp only [ByteArray.size_append]; show 2 + F.size + 2 + F2.size ≤ 12; omega)
         go_wp2_with fail
         go_roundw
         case rel => exact ⟨i + 1, _, hi_, by go_num, rfl, HX.out, H1.out⟩
         case measure => simp [intOf]; omega
       ·
        have um3 : ((n + (i : Int)) % 3 == 0) = false := by rw [beq_eq_false_iff_ne]; exact hm3
        have um3' : ((n + (i : Int)).tmod 3 == 0) = false := by rw [Int.tmod_eq_emod_of_nonneg (by omega), beq_eq_false_iff_ne]; exact hm3
        have HM3 := Lib.hid hm3
        clear hm3
        by_cases h65 : p < 65536
        ·
         have u65 : decide (p < 65536) = true := decide_eq_true h65
         have uge : decide (p ≥ 65536) = false := decide_eq_false (by omega)
         have uge' : decide (65536 ≤ p) = false := decide_eq_false (by omega)
         have HX := Lib.hid (HWR.out.step hi HPX.out (X := ⟨(flat [p]).toArray⟩) (M := Lib.encodeRune p) (by rw [flat_cons, flat_nil, List.append_nil]) (Rd.chL_raw HPT.out (by omega) (by omega) (by omega)) (by omega))
         clear HPX
         try clear hb47
         go_wp2_with fail
         refine (rtext_any [p] (some ⟨wr.heap.size, 0, none⟩) 1 (wr.alloc (.cells #[.int .i64 p] 3)) (by simp) (HRD.out p) (by intro y hy; rw [List.mem_singleton.1 hy]; exact HPT.out)).mono ?_
         rintro e w3 ⟨rfl, hb3⟩
         have H3 := Lib.hid ((H1.out.alloc H1.out.size (.cells #[.int .i64 p] 3)).trans (hb3.mono (Nat.le_trans H1.out.size (by simp))))
         clear hb3
         generalize (⟨(flat [p]).toArray⟩ : ByteArray) = F at *
         go_wp2_with fail
         go_roundw
         case rel => exact ⟨i + 1, _, hi, by go_num, rfl, HX.out, H3.out⟩
         case measure => simp [intOf]; omega
        ·
         have u65 : decide (p < 65536) = false := decide_eq_false h65
         have uge : decide (p ≥ 65536) = true := decide_eq_true (by omega)
         have uge' : decide (65536 ≤ p) = true := decide_eq_true (by omega)
         have HX := Lib.hid (HWR.out.step hi HPX.out (X := ⟨(flat [p]).toArray⟩) (M := Lib.encodeRune p) (by rw [flat_cons, flat_nil, List.append_nil]) (Rd.chL_raw HPT.out (by omega) (by omega) (by omega)) (by omega))
         clear HPX
         try clear hb47
         go_wp2_with fail
         refine (rtext_any [p] (some ⟨wr.heap.size, 0, none⟩) 1 (wr.alloc (.cells #[.int .i64 p] 3)) (by simp) (HRD.out p) (by intro y hy; rw [List.mem_singleton.1 hy]; exact HPT.out)).mono ?_
         rintro e w3 ⟨rfl, hb3⟩
         have H3 := Lib.hid ((H1.out.alloc H1.out.size (.cells #[.int .i64 p] 3)).trans (hb3.mono (Nat.le_trans H1.out.size (by simp))))
         clear hb3
         generalize (⟨(flat [p]).toArray⟩ : ByteArray) = F at *
         go_wp2_with fail
         go_roundw
         case rel => exact ⟨i + 1, _, hi, by go_num, rfl, HX.out, H3.out⟩
         case measure => simp [intOf]; omega
  ·
   obtain rfl : i = l.length := by omega
   have t1 : decide (l.length < l.length) = false := decide_eq_false (by omega)
   have t2 : decide ((l.length : Int) < (l.length : Int)) = false := decide_eq_false (by omega)
   have HD := Lib.hid (HWR.out.done HQ.out)
   go_wp2_with fail
   go_ret
   exact ⟨_, rfl, HD.out, by rw [ByteArray.size_append]; show O.size + 1 ≤ _; omega, H0.out.trans (H1.out.mono H0.out.size)⟩
end Go.Proofs.YtaeimlfehlbiiaaGreatDoor
