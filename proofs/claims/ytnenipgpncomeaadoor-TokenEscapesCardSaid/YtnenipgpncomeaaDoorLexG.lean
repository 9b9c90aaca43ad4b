/- The lexer's choice of a reader: its contract. -/
import Derived.Test.YtnenipgpncomeaaDoorLexC
namespace Go.Proofs.YtnenipgpncomeaaDoor
open Go.RowKit
open Tk
set_option linter.unusedVariables false

def Tk.rdOf (s : ByteArray) (a : Nat) : Value :=
  if s.size ≤ a then .func (.func 25) #[] #[]
  else if isMark (bt s a) = true then .func (.func 26) #[] #[]
  else if bt s a = 34 then .func (.func 27) #[] #[]
  else if bt s a = 45 ∨ isDg (bt s a) = true then .func (.func 28) #[] #[]
  else if bt s a = 116 ∨ bt s a = 102 ∨ bt s a = 110 then .func (.func 29) #[] #[]
  else .func (.func 30) #[] #[]
theorem firstByte (c : Nat) : c = 123 ∨ c = 125 ∨ c = 91 ∨ c = 93 ∨ c = 58 ∨ c = 44 ∨ c = 34 ∨ c = 45 ∨ c = 48 ∨ c = 49 ∨ c = 50 ∨ c = 51 ∨ c = 52 ∨ c = 53 ∨ c = 54 ∨ c = 55 ∨ c = 56 ∨ c = 57 ∨ c = 116 ∨ c = 102 ∨ c = 110 ∨ (c ≠ 123 ∧ c ≠ 125 ∧ c ≠ 91 ∧ c ≠ 93 ∧ c ≠ 58 ∧ c ≠ 44 ∧ c ≠ 34 ∧ c ≠ 45 ∧ c ≠ 48 ∧ c ≠ 49 ∧ c ≠ 50 ∧ c ≠ 51 ∧ c ≠ 52 ∧ c ≠ 53 ∧ c ≠ 54 ∧ c ≠ 55 ∧ c ≠ 56 ∧ c ≠ 57 ∧ c ≠ 116 ∧ c ≠ 102 ∧ c ≠ 110) := by omega
set_option maxRecDepth 100000 in
set_option maxHeartbeats 4000000 in
theorem reader_any5 (b : Nat) (s : ByteArray) (a : Nat) (w : World) (hs : s.size ≤ 1000000) (hc : w.cell? ⟨b, 0, none⟩ = some (.string s)) (ha : a ≤ s.size) : Calls Tryd.prog 22 #[.pointer (some ⟨b, 0, none⟩), .int .i64 a] w fun e w' => e = .returned (rdOf s a) ∧ w = w' := by
  have i2 : (0 : Int) ≤ (a : Int) := by omega
  by_cases hl : a < s.size
  · have u1 : decide (a < s.size) = true := decide_eq_true hl
    have j1 : (a : Int) < (s.size : Int) := by omega
    have j3 : ¬ (a : Int) = (s.size : Int) := by omega
    have u3 : ((a : Int) == (s.size : Int)) = false := beq_eq_false_iff_ne.2 j3
    have hx := bt_at s a hl
    have hnl : ¬ s.size ≤ a := by omega
    rcases firstByte (bt s a) with h | h | h | h | h | h | h | h | h | h | h | h | h | h | h | h | h | h | h | h | h | h
    · have HR := Lib.hid (show rdOf s a = .func (.func 26) #[] #[] by unfold rdOf; rw [if_neg hnl, h]; rfl)
      have hv : (s[a].toNat : Int) = 123 := by omega
      have q123 : ((s[a].toNat : Int) == 123) = true := by rw [hv]; rfl
      generalize rdOf s a = v at *
      clear hx h
      go_enter Tryd.func22, Tryd.ntmps22
      go_wp2_with fail
      go_ret
      exact ⟨by rw [HR.out]; rfl, rfl⟩
    · have HR := Lib.hid (show rdOf s a = .func (.func 26) #[] #[] by unfold rdOf; rw [if_neg hnl, h]; rfl)
      have hv : (s[a].toNat : Int) = 125 := by omega
      have q123 : ((s[a].toNat : Int) == 123) = false := by rw [hv]; rfl
      have q125 : ((s[a].toNat : Int) == 125) = true := by rw [hv]; rfl
      generalize rdOf s a = v at *
      clear hx h
      go_enter Tryd.func22, Tryd.ntmps22
      go_wp2_with fail
      go_ret
      exact ⟨by rw [HR.out]; rfl, rfl⟩
    · have HR := Lib.hid (show rdOf s a = .func (.func 26) #[] #[] by unfold rdOf; rw [if_neg hnl, h]; rfl)
      have hv : (s[a].toNat : Int) = 91 := by omega
      have q123 : ((s[a].toNat : Int) == 123) = false := by rw [hv]; rfl
      have q125 : ((s[a].toNat : Int) == 125) = false := by rw [hv]; rfl
      have q91 : ((s[a].toNat : Int) == 91) = true := by rw [hv]; rfl
      generalize rdOf s a = v at *
      clear hx h
      go_enter Tryd.func22, Tryd.ntmps22
      go_wp2_with fail
      go_ret
      exact ⟨by rw [HR.out]; rfl, rfl⟩
    · have HR := Lib.hid (show rdOf s a = .func (.func 26) #[] #[] by unfold rdOf; rw [if_neg hnl, h]; rfl)
      have hv : (s[a].toNat : Int) = 93 := by omega
      have q123 : ((s[a].toNat : Int) == 123) = false := by rw [hv]; rfl
      have q125 : ((s[a].toNat : Int) == 125) = false := by rw [hv]; rfl
      have q91 : ((s[a].toNat : Int) == 91) = false := by rw [hv]; rfl
      have q93 : ((s[a].toNat : Int) == 93) = true := by rw [hv]; rfl
      generalize rdOf s a = v at *
      clear hx h
      go_enter Tryd.func22, Tryd.ntmps22
      go_wp2_with fail
      go_ret
      exact ⟨by rw [HR.out]; rfl, rfl⟩
    · have HR := Lib.hid (show rdOf s a = .func (.func 26) #[] #[] by unfold rdOf; rw [if_neg hnl, h]; rfl)
      have hv : (s[a].toNat : Int) = 58 := by omega
      have q123 : ((s[a].toNat : Int) == 123) = false := by rw [hv]; rfl
      have q125 : ((s[a].toNat : Int) == 125) = false := by rw [hv]; rfl
      have q91 : ((s[a].toNat : Int) == 91) = false := by rw [hv]; rfl
      have q93 : ((s[a].toNat : Int) == 93) = false := by rw [hv]; rfl
      have q58 : ((s[a].toNat : Int) == 58) = true := by rw [hv]; rfl
      generalize rdOf s a = v at *
      clear hx h
      go_enter Tryd.func22, Tryd.ntmps22
      go_wp2_with fail
      go_ret
      exact ⟨by rw [HR.out]; rfl, rfl⟩
    · have HR := Lib.hid (show rdOf s a = .func (.func 26) #[] #[] by unfold rdOf; rw [if_neg hnl, h]; rfl)
      have hv : (s[a].toNat : Int) = 44 := by omega
      have q123 : ((s[a].toNat : Int) == 123) = false := by rw [hv]; rfl
      have q125 : ((s[a].toNat : Int) == 125) = false := by rw [hv]; rfl
      have q91 : ((s[a].toNat : Int) == 91) = false := by rw [hv]; rfl
      have q93 : ((s[a].toNat : Int) == 93) = false := by rw [hv]; rfl
      have q58 : ((s[a].toNat : Int) == 58) = false := by rw [hv]; rfl
      have q44 : ((s[a].toNat : Int) == 44) = true := by rw [hv]; rfl
      generalize rdOf s a = v at *
      clear hx h
      go_enter Tryd.func22, Tryd.ntmps22
      go_wp2_with fail
      go_ret
      exact ⟨by rw [HR.out]; rfl, rfl⟩
    · have HR := Lib.hid (show rdOf s a = .func (.func 27) #[] #[] by unfold rdOf; rw [if_neg hnl, h]; rfl)
      have hv : (s[a].toNat : Int) = 34 := by omega
      have q123 : ((s[a].toNat : Int) == 123) = false := by rw [hv]; rfl
      have q125 : ((s[a].toNat : Int) == 125) = false := by rw [hv]; rfl
      have q91 : ((s[a].toNat : Int) == 91) = false := by rw [hv]; rfl
      have q93 : ((s[a].toNat : Int) == 93) = false := by rw [hv]; rfl
      have q58 : ((s[a].toNat : Int) == 58) = false := by rw [hv]; rfl
      have q44 : ((s[a].toNat : Int) == 44) = false := by rw [hv]; rfl
      have q34 : ((s[a].toNat : Int) == 34) = true := by rw [hv]; rfl
      generalize rdOf s a = v at *
      clear hx h
      go_enter Tryd.func22, Tryd.ntmps22
      go_wp2_with fail
      go_ret
      exact ⟨by rw [HR.out]; rfl, rfl⟩
    · have HR := Lib.hid (show rdOf s a = .func (.func 28) #[] #[] by unfold rdOf; rw [if_neg hnl, h]; rfl)
      have hv : (s[a].toNat : Int) = 45 := by omega
      have q123 : ((s[a].toNat : Int) == 123) = false := by rw [hv]; rfl
      have q125 : ((s[a].toNat : Int) == 125) = false := by rw [hv]; rfl
      have q91 : ((s[a].toNat : Int) == 91) = false := by rw [hv]; rfl
      have q93 : ((s[a].toNat : Int) == 93) = false := by rw [hv]; rfl
      have q58 : ((s[a].toNat : Int) == 58) = false := by rw [hv]; rfl
      have q44 : ((s[a].toNat : Int) == 44) = false := by rw [hv]; rfl
      have q34 : ((s[a].toNat : Int) == 34) = false := by rw [hv]; rfl
      have q45 : ((s[a].toNat : Int) == 45) = true := by rw [hv]; rfl
      generalize rdOf s a = v at *
      clear hx h
      go_enter Tryd.func22, Tryd.ntmps22
      go_wp2_with fail
      go_ret
      exact ⟨by rw [HR.out]; rfl, rfl⟩
    · have HR := Lib.hid (show rdOf s a = .func (.func 28) #[] #[] by unfold rdOf; rw [if_neg hnl, h]; rfl)
      have hv : (s[a].toNat : Int) = 48 := by omega
      have q123 : ((s[a].toNat : Int) == 123) = false := by rw [hv]; rfl
      have q125 : ((s[a].toNat : Int) == 125) = false := by rw [hv]; rfl
      have q91 : ((s[a].toNat : Int) == 91) = false := by rw [hv]; rfl
      have q93 : ((s[a].toNat : Int) == 93) = false := by rw [hv]; rfl
      have q58 : ((s[a].toNat : Int) == 58) = false := by rw [hv]; rfl
      have q44 : ((s[a].toNat : Int) == 44) = false := by rw [hv]; rfl
      have q34 : ((s[a].toNat : Int) == 34) = false := by rw [hv]; rfl
      have q45 : ((s[a].toNat : Int) == 45) = false := by rw [hv]; rfl
      have q48 : ((s[a].toNat : Int) == 48) = true := by rw [hv]; rfl
      generalize rdOf s a = v at *
      clear hx h
      go_enter Tryd.func22, Tryd.ntmps22
      go_wp2_with fail
      go_ret
      exact ⟨by rw [HR.out]; rfl, rfl⟩
    · have HR := Lib.hid (show rdOf s a = .func (.func 28) #[] #[] by unfold rdOf; rw [if_neg hnl, h]; rfl)
      have hv : (s[a].toNat : Int) = 49 := by omega
      have q123 : ((s[a].toNat : Int) == 123) = false := by rw [hv]; rfl
      have q125 : ((s[a].toNat : Int) == 125) = false := by rw [hv]; rfl
      have q91 : ((s[a].toNat : Int) == 91) = false := by rw [hv]; rfl
      have q93 : ((s[a].toNat : Int) == 93) = false := by rw [hv]; rfl
      have q58 : ((s[a].toNat : Int) == 58) = false := by rw [hv]; rfl
      have q44 : ((s[a].toNat : Int) == 44) = false := by rw [hv]; rfl
      have q34 : ((s[a].toNat : Int) == 34) = false := by rw [hv]; rfl
      have q45 : ((s[a].toNat : Int) == 45) = false := by rw [hv]; rfl
      have q48 : ((s[a].toNat : Int) == 48) = false := by rw [hv]; rfl
      have q49 : ((s[a].toNat : Int) == 49) = true := by rw [hv]; rfl
      generalize rdOf s a = v at *
      clear hx h
      go_enter Tryd.func22, Tryd.ntmps22
      go_wp2_with fail
      go_ret
      exact ⟨by rw [HR.out]; rfl, rfl⟩
    · have HR := Lib.hid (show rdOf s a = .func (.func 28) #[] #[] by unfold rdOf; rw [if_neg hnl, h]; rfl)
      have hv : (s[a].toNat : Int) = 50 := by omega
      have q123 : ((s[a].toNat : Int) == 123) = false := by rw [hv]; rfl
      have q125 : ((s[a].toNat : Int) == 125) = false := by rw [hv]; rfl
      have q91 : ((s[a].toNat : Int) == 91) = false := by rw [hv]; rfl
      have q93 : ((s[a].toNat : Int) == 93) = false := by rw [hv]; rfl
      have q58 : ((s[a].toNat : Int) == 58) = false := by rw [hv]; rfl
      have q44 : ((s[a].toNat : Int) == 44) = false := by rw [hv]; rfl
      have q34 : ((s[a].toNat : Int) == 34) = false := by rw [hv]; rfl
      have q45 : ((s[a].toNat : Int) == 45) = false := by rw [hv]; rfl
      have q48 : ((s[a].toNat : Int) == 48) = false := by rw [hv]; rfl
      have q49 : ((s[a].toNat : Int) == 49) = false := by rw [hv]; rfl
      have q50 : ((s[a].toNat : Int) == 50) = true := by rw [hv]; rfl
      generalize rdOf s a = v at *
      clear hx h
      go_enter Tryd.func22, Tryd.ntmps22
      go_wp2_with fail
      go_ret
      exact ⟨by rw [HR.out]; rfl, rfl⟩
    · have HR := Lib.hid (show rdOf s a = .func (.func 28) #[] #[] by unfold rdOf; rw [if_neg hnl, h]; rfl)
      have hv : (s[a].toNat : Int) = 51 := by omega
      have q123 : ((s[a].toNat : Int) == 123) = false := by rw [hv]; rfl
      have q125 : ((s[a].toNat : Int) == 125) = false := by rw [hv]; rfl
      have q91 : ((s[a].toNat : Int) == 91) = false := by rw [hv]; rfl
      have q93 : ((s[a].toNat : Int) == 93) = false := by rw [hv]; rfl
      have q58 : ((s[a].toNat : Int) == 58) = false := by rw [hv]; rfl
      have q44 : ((s[a].toNat : Int) == 44) = false := by rw [hv]; rfl
      have q34 : ((s[a].toNat : Int) == 34) = false := by rw [hv]; rfl
      have q45 : ((s[a].toNat : Int) == 45) = false := by rw [hv]; rfl
      have q48 : ((s[a].toNat : Int) == 48) = false := by rw [hv]; rfl
      have q49 : ((s[a].toNat : Int) == 49) = false := by rw [hv]; rfl
      have q50 : ((s[a].toNat : Int) == 50) = false := by rw [hv]; rfl
      have q51 : ((s[a].toNat : Int) == 51) = true := by rw [hv]; rfl
      generalize rdOf s a = v at *
      clear hx h
      go_enter Tryd.func22, Tryd.ntmps22
      go_wp2_with fail
      go_ret
      exact ⟨by rw [HR.out]; rfl, rfl⟩
    · have HR := Lib.hid (show rdOf s a = .func (.func 28) #[] #[] by unfold rdOf; rw [if_neg hnl, h]; rfl)
      have hv : (s[a].toNat : Int) = 52 := by omega
      have q123 : ((s[a].toNat : Int) == 123) = false := by rw [hv]; rfl
      have q125 : ((s[a].toNat : Int) == 125) = false := by rw [hv]; rfl
      have q91 : ((s[a].toNat : Int) == 91) = false := by rw [hv]; rfl
      have q93 : ((s[a].toNat : Int) == 93) = false := by rw [hv]; rfl
      have q58 : ((s[a].toNat : Int) == 58) = false := by rw [hv]; rfl
      have q44 : ((s[a].toNat : Int) == 44) = false := by rw [hv]; rfl
      have q34 : ((s[a].toNat : Int) == 34) = false := by rw [hv]; rfl
      have q45 : ((s[a].toNat : Int) == 45) = false := by rw [hv]; rfl
      have q48 : ((s[a].toNat : Int) == 48) = false := by rw [hv]; rfl
      have q49 : ((s[a].toNat : Int) == 49) = false := by rw [hv]; rfl
      have q50 : ((s[a].toNat : Int) == 50) = false := by rw [hv]; rfl
      have q51 : ((s[a].toNat : Int) == 51) = false := by rw [hv]; rfl
      have q52 : ((s[a].toNat : Int) == 52) = true := by rw [hv]; rfl
      generalize rdOf s a = v at *
      clear hx h
      go_enter Tryd.func22, Tryd.ntmps22
      go_wp2_with fail
      go_ret
      exact ⟨by rw [HR.out]; rfl, rfl⟩
    · have HR := Lib.hid (show rdOf s a = .func (.func 28) #[] #[] by unfold rdOf; rw [if_neg hnl, h]; rfl)
      have hv : (s[a].toNat : Int) = 53 := by omega
      have q123 : ((s[a].toNat : Int) == 123) = false := by rw [hv]; rfl
      have q125 : ((s[a].toNat : Int) == 125) = false := by rw [hv]; rfl
      have q91 : ((s[a].toNat : Int) == 91) = false := by rw [hv]; rfl
      have q93 : ((s[a].toNat : Int) == 93) = false := by rw [hv]; rfl
      have q58 : ((s[a].toNat : Int) == 58) = false := by rw [hv]; rfl
      have q44 : ((s[a].toNat : Int) == 44) = false := by rw [hv]; rfl
      have q34 : ((s[a].toNat : Int) == 34) = false := by rw [hv]; rfl
      have q45 : ((s[a].toNat : Int) == 45) = false := by rw [hv]; rfl
      have q48 : ((s[a].toNat : Int) == 48) = false := by rw [hv]; rfl
      have q49 : ((s[a].toNat : Int) == 49) = false := by rw [hv]; rfl
      have q50 : ((s[a].toNat : Int) == 50) = false := by rw [hv]; rfl
      have q51 : ((s[a].toNat : Int) == 51) = false := by rw [hv]; rfl
      have q52 : ((s[a].toNat : Int) == 52) = false := by rw [hv]; rfl
      have q53 : ((s[a].toNat : Int) == 53) = true := by rw [hv]; rfl
      generalize rdOf s a = v at *
      clear hx h
      go_enter Tryd.func22, Tryd.ntmps22
      go_wp2_with fail
      go_ret
      exact ⟨by rw [HR.out]; rfl, rfl⟩
    · have HR := Lib.hid (show rdOf s a = .func (.func 28) #[] #[] by unfold rdOf; rw [if_neg hnl, h]; rfl)
      have hv : (s[a].toNat : Int) = 54 := by omega
      have q123 : ((s[a].toNat : Int) == 123) = false := by rw [hv]; rfl
      have q125 : ((s[a].toNat : Int) == 125) = false := by rw [hv]; rfl
      have q91 : ((s[a].toNat : Int) == 91) = false := by rw [hv]; rfl
      have q93 : ((s[a].toNat : Int) == 93) = false := by rw [hv]; rfl
      have q58 : ((s[a].toNat : Int) == 58) = false := by rw [hv]; rfl
      have q44 : ((s[a].toNat : Int) == 44) = false := by rw [hv]; rfl
      have q34 : ((s[a].toNat : Int) == 34) = false := by rw [hv]; rfl
      have q45 : ((s[a].toNat : Int) == 45) = false := by rw [hv]; rfl
      have q48 : ((s[a].toNat : Int) == 48) = false := by rw [hv]; rfl
      have q49 : ((s[a].toNat : Int) == 49) = false := by rw [hv]; rfl
      have q50 : ((s[a].toNat : Int) == 50) = false := by rw [hv]; rfl
      have q51 : ((s[a].toNat : Int) == 51) = false := by rw [hv]; rfl
      have q52 : ((s[a].toNat : Int) == 52) = false := by rw [hv]; rfl
      have q53 : ((s[a].toNat : Int) == 53) = false := by rw [hv]; rfl
      have q54 : ((s[a].toNat : Int) == 54) = true := by rw [hv]; rfl
      generalize rdOf s a = v at *
      clear hx h
      go_enter Tryd.func22, Tryd.ntmps22
      go_wp2_with fail
      go_ret
      exact ⟨by rw [HR.out]; rfl, rfl⟩
    · have HR := Lib.hid (show rdOf s a = .func (.func 28) #[] #[] by unfold rdOf; rw [if_neg hnl, h]; rfl)
      have hv : (s[a].toNat : Int) = 55 := by omega
      have q123 : ((s[a].toNat : Int) == 123) = false := by rw [hv]; rfl
      have q125 : ((s[a].toNat : Int) == 125) = false := by rw [hv]; rfl
      have q91 : ((s[a].toNat : Int) == 91) = false := by rw [hv]; rfl
      have q93 : ((s[a].toNat : Int) == 93) = false := by rw [hv]; rfl
      have q58 : ((s[a].toNat : Int) == 58) = false := by rw [hv]; rfl
      have q44 : ((s[a].toNat : Int) == 44) = false := by rw [hv]; rfl
      have q34 : ((s[a].toNat : Int) == 34) = false := by rw [hv]; rfl
      have q45 : ((s[a].toNat : Int) == 45) = false := by rw [hv]; rfl
      have q48 : ((s[a].toNat : Int) == 48) = false := by rw [hv]; rfl
      have q49 : ((s[a].toNat : Int) == 49) = false := by rw [hv]; rfl
      have q50 : ((s[a].toNat : Int) == 50) = false := by rw [hv]; rfl
      have q51 : ((s[a].toNat : Int) == 51) = false := by rw [hv]; rfl
      have q52 : ((s[a].toNat : Int) == 52) = false := by rw [hv]; rfl
      have q53 : ((s[a].toNat : Int) == 53) = false := by rw [hv]; rfl
      have q54 : ((s[a].toNat : Int) == 54) = false := by rw [hv]; rfl
      have q55 : ((s[a].toNat : Int) == 55) = true := by rw [hv]; rfl
      generalize rdOf s a = v at *
      clear hx h
      go_enter Tryd.func22, Tryd.ntmps22
      go_wp2_with fail
      go_ret
      exact ⟨by rw [HR.out]; rfl, rfl⟩
    · have HR := Lib.hid (show rdOf s a = .func (.func 28) #[] #[] by unfold rdOf; rw [if_neg hnl, h]; rfl)
      have hv : (s[a].toNat : Int) = 56 := by omega
      have q123 : ((s[a].toNat : Int) == 123) = false := by rw [hv]; rfl
      have q125 : ((s[a].toNat : Int) == 125) = false := by rw [hv]; rfl
      have q91 : ((s[a].toNat : Int) == 91) = false := by rw [hv]; rfl
      have q93 : ((s[a].toNat : Int) == 93) = false := by rw [hv]; rfl
      have q58 : ((s[a].toNat : Int) == 58) = false := by rw [hv]; rfl
      have q44 : ((s[a].toNat : Int) == 44) = false := by rw [hv]; rfl
      have q34 : ((s[a].toNat : Int) == 34) = false := by rw [hv]; rfl
      have q45 : ((s[a].toNat : Int) == 45) = false := by rw [hv]; rfl
      have q48 : ((s[a].toNat : Int) == 48) = false := by rw [hv]; rfl
      have q49 : ((s[a].toNat : Int) == 49) = false := by rw [hv]; rfl
      have q50 : ((s[a].toNat : Int) == 50) = false := by rw [hv]; rfl
      have q51 : ((s[a].toNat : Int) == 51) = false := by rw [hv]; rfl
      have q52 : ((s[a].toNat : Int) == 52) = false := by rw [hv]; rfl
      have q53 : ((s[a].toNat : Int) == 53) = false := by rw [hv]; rfl
      have q54 : ((s[a].toNat : Int) == 54) = false := by rw [hv]; rfl
      have q55 : ((s[a].toNat : Int) == 55) = false := by rw [hv]; rfl
      have q56 : ((s[a].toNat : Int) == 56) = true := by rw [hv]; rfl
      generalize rdOf s a = v at *
      clear hx h
      go_enter Tryd.func22, Tryd.ntmps22
      go_wp2_with fail
      go_ret
      exact ⟨by rw [HR.out]; rfl, rfl⟩
    · have HR := Lib.hid (show rdOf s a = .func (.func 28) #[] #[] by unfold rdOf; rw [if_neg hnl, h]; rfl)
      have hv : (s[a].toNat : Int) = 57 := by omega
      have q123 : ((s[a].toNat : Int) == 123) = false := by rw [hv]; rfl
      have q125 : ((s[a].toNat : Int) == 125) = false := by rw [hv]; rfl
      have q91 : ((s[a].toNat : Int) == 91) = false := by rw [hv]; rfl
      have q93 : ((s[a].toNat : Int) == 93) = false := by rw [hv]; rfl
      have q58 : ((s[a].toNat : Int) == 58) = false := by rw [hv]; rfl
      have q44 : ((s[a].toNat : Int) == 44) = false := by rw [hv]; rfl
      have q34 : ((s[a].toNat : Int) == 34) = false := by rw [hv]; rfl
      have q45 : ((s[a].toNat : Int) == 45) = false := by rw [hv]; rfl
      have q48 : ((s[a].toNat : Int) == 48) = false := by rw [hv]; rfl
      have q49 : ((s[a].toNat : Int) == 49) = false := by rw [hv]; rfl
      have q50 : ((s[a].toNat : Int) == 50) = false := by rw [hv]; rfl
      have q51 : ((s[a].toNat : Int) == 51) = false := by rw [hv]; rfl
      have q52 : ((s[a].toNat : Int) == 52) = false := by rw [hv]; rfl
      have q53 : ((s[a].toNat : Int) == 53) = false := by rw [hv]; rfl
      have q54 : ((s[a].toNat : Int) == 54) = false := by rw [hv]; rfl
      have q55 : ((s[a].toNat : Int) == 55) = false := by rw [hv]; rfl
      have q56 : ((s[a].toNat : Int) == 56) = false := by rw [hv]; rfl
      have q57 : ((s[a].toNat : Int) == 57) = true := by rw [hv]; rfl
      generalize rdOf s a = v at *
      clear hx h
      go_enter Tryd.func22, Tryd.ntmps22
      go_wp2_with fail
      go_ret
      exact ⟨by rw [HR.out]; rfl, rfl⟩
    · have HR := Lib.hid (show rdOf s a = .func (.func 29) #[] #[] by unfold rdOf; rw [if_neg hnl, h]; rfl)
      have hv : (s[a].toNat : Int) = 116 := by omega
      have q123 : ((s[a].toNat : Int) == 123) = false := by rw [hv]; rfl
      have q125 : ((s[a].toNat : Int) == 125) = false := by rw [hv]; rfl
      have q91 : ((s[a].toNat : Int) == 91) = false := by rw [hv]; rfl
      have q93 : ((s[a].toNat : Int) == 93) = false := by rw [hv]; rfl
      have q58 : ((s[a].toNat : Int) == 58) = false := by rw [hv]; rfl
      have q44 : ((s[a].toNat : Int) == 44) = false := by rw [hv]; rfl
      have q34 : ((s[a].toNat : Int) == 34) = false := by rw [hv]; rfl
      have q45 : ((s[a].toNat : Int) == 45) = false := by rw [hv]; rfl
      have q48 : ((s[a].toNat : Int) == 48) = false := by rw [hv]; rfl
      have q49 : ((s[a].toNat : Int) == 49) = false := by rw [hv]; rfl
      have q50 : ((s[a].toNat : Int) == 50) = false := by rw [hv]; rfl
      have q51 : ((s[a].toNat : Int) == 51) = false := by rw [hv]; rfl
      have q52 : ((s[a].toNat : Int) == 52) = false := by rw [hv]; rfl
      have q53 : ((s[a].toNat : Int) == 53) = false := by rw [hv]; rfl
      have q54 : ((s[a].toNat : Int) == 54) = false := by rw [hv]; rfl
      have q55 : ((s[a].toNat : Int) == 55) = false := by rw [hv]; rfl
      have q56 : ((s[a].toNat : Int) == 56) = false := by rw [hv]; rfl
      have q57 : ((s[a].toNat : Int) == 57) = false := by rw [hv]; rfl
      have q116 : ((s[a].toNat : Int) == 116) = true := by rw [hv]; rfl
      generalize rdOf s a = v at *
      clear hx h
      go_enter Tryd.func22, Tryd.ntmps22
      go_wp2_with fail
      go_ret
      exact ⟨by rw [HR.out]; rfl, rfl⟩
    · have HR := Lib.hid (show rdOf s a = .func (.func 29) #[] #[] by unfold rdOf; rw [if_neg hnl, h]; rfl)
      have hv : (s[a].toNat : Int) = 102 := by omega
      have q123 : ((s[a].toNat : Int) == 123) = false := by rw [hv]; rfl
      have q125 : ((s[a].toNat : Int) == 125) = false := by rw [hv]; rfl
      have q91 : ((s[a].toNat : Int) == 91) = false := by rw [hv]; rfl
      have q93 : ((s[a].toNat : Int) == 93) = false := by rw [hv]; rfl
      have q58 : ((s[a].toNat : Int) == 58) = false := by rw [hv]; rfl
      have q44 : ((s[a].toNat : Int) == 44) = false := by rw [hv]; rfl
      have q34 : ((s[a].toNat : Int) == 34) = false := by rw [hv]; rfl
      have q45 : ((s[a].toNat : Int) == 45) = false := by rw [hv]; rfl
      have q48 : ((s[a].toNat : Int) == 48) = false := by rw [hv]; rfl
      have q49 : ((s[a].toNat : Int) == 49) = false := by rw [hv]; rfl
      have q50 : ((s[a].toNat : Int) == 50) = false := by rw [hv]; rfl
      have q51 : ((s[a].toNat : Int) == 51) = false := by rw [hv]; rfl
      have q52 : ((s[a].toNat : Int) == 52) = false := by rw [hv]; rfl
      have q53 : ((s[a].toNat : Int) == 53) = false := by rw [hv]; rfl
      have q54 : ((s[a].toNat : Int) == 54) = false := by rw [hv]; rfl
      have q55 : ((s[a].toNat : Int) == 55) = false := by rw [hv]; rfl
      have q56 : ((s[a].toNat : Int) == 56) = false := by rw [hv]; rfl
      have q57 : ((s[a].toNat : Int) == 57) = false := by rw [hv]; rfl
      have q116 : ((s[a].toNat : Int) == 116) = false := by rw [hv]; rfl
      have q102 : ((s[a].toNat : Int) == 102) = true := by rw [hv]; rfl
      generalize rdOf s a = v at *
      clear hx h
      go_enter Tryd.func22, Tryd.ntmps22
      go_wp2_with fail
      go_ret
      exact ⟨by rw [HR.out]; rfl, rfl⟩
    · have HR := Lib.hid (show rdOf s a = .func (.func 29) #[] #[] by unfold rdOf; rw [if_neg hnl, h]; rfl)
      have hv : (s[a].toNat : Int) = 110 := by omega
      have q123 : ((s[a].toNat : Int) == 123) = false := by rw [hv]; rfl
      have q125 : ((s[a].toNat : Int) == 125) = false := by rw [hv]; rfl
      have q91 : ((s[a].toNat : Int) == 91) = false := by rw [hv]; rfl
      have q93 : ((s[a].toNat : Int) == 93) = false := by rw [hv]; rfl
      have q58 : ((s[a].toNat : Int) == 58) = false := by rw [hv]; rfl
      have q44 : ((s[a].toNat : Int) == 44) = false := by rw [hv]; rfl
      have q34 : ((s[a].toNat : Int) == 34) = false := by rw [hv]; rfl
      have q45 : ((s[a].toNat : Int) == 45) = false := by rw [hv]; rfl
      have q48 : ((s[a].toNat : Int) == 48) = false := by rw [hv]; rfl
      have q49 : ((s[a].toNat : Int) == 49) = false := by rw [hv]; rfl
      have q50 : ((s[a].toNat : Int) == 50) = false := by rw [hv]; rfl
      have q51 : ((s[a].toNat : Int) == 51) = false := by rw [hv]; rfl
      have q52 : ((s[a].toNat : Int) == 52) = false := by rw [hv]; rfl
      have q53 : ((s[a].toNat : Int) == 53) = false := by rw [hv]; rfl
      have q54 : ((s[a].toNat : Int) == 54) = false := by rw [hv]; rfl
      have q55 : ((s[a].toNat : Int) == 55) = false := by rw [hv]; rfl
      have q56 : ((s[a].toNat : Int) == 56) = false := by rw [hv]; rfl
      have q57 : ((s[a].toNat : Int) == 57) = false := by rw [hv]; rfl
      have q116 : ((s[a].toNat : Int) == 116) = false := by rw [hv]; rfl
      have q102 : ((s[a].toNat : Int) == 102) = false := by rw [hv]; rfl
      have q110 : ((s[a].toNat : Int) == 110) = true := by rw [hv]; rfl
      generalize rdOf s a = v at *
      clear hx h
      go_enter Tryd.func22, Tryd.ntmps22
      go_wp2_with fail
      go_ret
      exact ⟨by rw [HR.out]; rfl, rfl⟩
    · have HR := Lib.hid (show rdOf s a = .func (.func 30) #[] #[] by
        unfold rdOf
        have g1 : isMark (bt s a) = false := by unfold isMark; simp [h]
        have g2 : isDg (bt s a) = false := by rw [isDg_no]; omega
        rw [if_neg hnl, g1, g2]
        simp [h])
      have q123 : ((s[a].toNat : Int) == 123) = false := beq_eq_false_iff_ne.2 (by omega)
      have q125 : ((s[a].toNat : Int) == 125) = false := beq_eq_false_iff_ne.2 (by omega)
      have q91 : ((s[a].toNat : Int) == 91) = false := beq_eq_false_iff_ne.2 (by omega)
      have q93 : ((s[a].toNat : Int) == 93) = false := beq_eq_false_iff_ne.2 (by omega)
      have q58 : ((s[a].toNat : Int) == 58) = false := beq_eq_false_iff_ne.2 (by omega)
      have q44 : ((s[a].toNat : Int) == 44) = false := beq_eq_false_iff_ne.2 (by omega)
      have q34 : ((s[a].toNat : Int) == 34) = false := beq_eq_false_iff_ne.2 (by omega)
      have q45 : ((s[a].toNat : Int) == 45) = false := beq_eq_false_iff_ne.2 (by omega)
      have q48 : ((s[a].toNat : Int) == 48) = false := beq_eq_false_iff_ne.2 (by omega)
      have q49 : ((s[a].toNat : Int) == 49) = false := beq_eq_false_iff_ne.2 (by omega)
      have q50 : ((s[a].toNat : Int) == 50) = false := beq_eq_false_iff_ne.2 (by omega)
      have q51 : ((s[a].toNat : Int) == 51) = false := beq_eq_false_iff_ne.2 (by omega)
      have q52 : ((s[a].toNat : Int) == 52) = false := beq_eq_false_iff_ne.2 (by omega)
      have q53 : ((s[a].toNat : Int) == 53) = false := beq_eq_false_iff_ne.2 (by omega)
      have q54 : ((s[a].toNat : Int) == 54) = false := beq_eq_false_iff_ne.2 (by omega)
      have q55 : ((s[a].toNat : Int) == 55) = false := beq_eq_false_iff_ne.2 (by omega)
      have q56 : ((s[a].toNat : Int) == 56) = false := beq_eq_false_iff_ne.2 (by omega)
      have q57 : ((s[a].toNat : Int) == 57) = false := beq_eq_false_iff_ne.2 (by omega)
      have q116 : ((s[a].toNat : Int) == 116) = false := beq_eq_false_iff_ne.2 (by omega)
      have q102 : ((s[a].toNat : Int) == 102) = false := beq_eq_false_iff_ne.2 (by omega)
      have q110 : ((s[a].toNat : Int) == 110) = false := beq_eq_false_iff_ne.2 (by omega)
      generalize rdOf s a = v at *
      clear hx h
      go_enter Tryd.func22, Tryd.ntmps22
      go_wp2_with fail
      go_ret
      exact ⟨by rw [HR.out]; rfl, rfl⟩
  · obtain rfl : a = s.size := by omega
    have HR := Lib.hid (show rdOf s s.size = .func (.func 25) #[] #[] by unfold rdOf; rw [if_pos (Nat.le_refl _)])
    generalize rdOf s s.size = v at *
    go_enter Tryd.func22, Tryd.ntmps22
    go_wp2_with fail
    go_ret
    exact ⟨by rw [HR.out]; rfl, rfl⟩
end Go.Proofs.YtnenipgpncomeaaDoor
