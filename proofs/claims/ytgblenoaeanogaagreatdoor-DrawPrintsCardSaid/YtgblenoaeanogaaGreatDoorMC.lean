/- The lexer's choice of a reader: its contract. Contract of the program's isNumber. Contracts of the program's Parse and Text. The lexer's reader of a number: its contract. -/
import Derived.Test.YtgblenoaeanogaaGreatDoorMB
import Derived.Below
import Derived.Laws.RangeString
import Derived.Laws.RangeAny
import Derived.WalkSpells
import Derived.Lib.AtoiErrMem
import Derived.Lib.AppendIntMem
import Derived.Lib.LaidTab
set_option linter.unusedVariables false
set_option maxRecDepth 100000
set_option maxHeartbeats 8000000
open Go.Lib (hid)
namespace Go.Proofs.YtgblenoaeanogaaGreatDoor
open Go.RowKit
open Tk
def Tk.rdOf (s : ByteArray) (a : Nat) : Value :=
 if s.size ≤ a then .func (.func 85) #[] #[]
 else if isMark (bt s a) = true then .func (.func 86) #[] #[]
 else if bt s a = 34 then .func (.func 87) #[] #[]
 else if bt s a = 45 ∨ isDg (bt s a) = true then .func (.func 88) #[] #[]
 else if bt s a = 116 ∨ bt s a = 102 ∨ bt s a = 110 then .func (.func 89) #[] #[]
 else .func (.func 90) #[] #[]
theorem firstByte (c : Nat) : c = 123 ∨ c = 125 ∨ c = 91 ∨ c = 93 ∨ c = 58 ∨ c = 44 ∨ c = 34 ∨ c = 45 ∨ c = 48 ∨ c = 49 ∨ c = 50 ∨ c = 51 ∨ c = 52 ∨ c = 53 ∨ c = 54 ∨ c = 55 ∨ c = 56 ∨ c = 57 ∨ c = 116 ∨ c = 102 ∨ c = 110 ∨ (c ≠ 123 ∧ c ≠ 125 ∧ c ≠ 91 ∧ c ≠ 93 ∧ c ≠ 58 ∧ c ≠ 44 ∧ c ≠ 34 ∧ c ≠ 45 ∧ c ≠ 48 ∧ c ≠ 49 ∧ c ≠ 50 ∧ c ≠ 51 ∧ c ≠ 52 ∧ c ≠ 53 ∧ c ≠ 54 ∧ c ≠ 55 ∧ c ≠ 56 ∧ c ≠ 57 ∧ c ≠ 116 ∧ c ≠ 102 ∧ c ≠ 110) := by omega
theorem reader_any5 (b : Nat) (s : ByteArray) (a : Nat) (w : World) (hs : s.size ≤ 1000000) (hc : w.cell? ⟨b, 0, none⟩ = some (.string s)) (ha : a ≤ s.size) : Calls Tryz.prog 64 #[.pointer (some ⟨b, 0, none⟩), .int .i64 a] w fun e w' => e = .returned (rdOf s a) ∧ w = w' := by
 have i2 : (0 : Int) ≤ (a : Int) := by omega
 by_cases hl : a < s.size
 ·
  have u1 : decide (a < s.size) = true := decide_eq_true hl
  have j1 : (a : Int) < (s.size : Int) := by omega
  have j3 : ¬ (a : Int) = (s.size : Int) := by omega
  have u3 : ((a : Int) == (s.size : Int)) = false := beq_eq_false_iff_ne.2 j3
  have hx := bt_at s a hl
  have hnl : ¬ s.size ≤ a := by omega
  rcases firstByte (bt s a) with h | h | h | h | h | h | h | h | h | h | h | h | h | h | h | h | h | h | h | h | h | h
  rotate_left 21
  have HR := hid (show rdOf s a = .func (.func 90) #[] #[] by
   unfold rdOf
   have g1 : isMark (bt s a) = false := by unfold isMark; simp [h]
   have g2 : isDg (bt s a) = false := by rw [isDg_no]; omega
   rw [if_neg hnl, g1, g2]
   simp [h])
  have q123 : ((s[a].toNat : Int) == 123) = false := beq_eq_false_iff_ne.2 (by omega)
  have q125 : ((s[a].toNat : Int) == 125) = false := beq_eq_false_iff_ne.2 (by omega)
  have q91 : ((s[a].toNat : Int) == 91) = false := beq_eq_false_iff_ne.2 (by omega)
  have q93 : ((s[a].toNat : Int) == 93) = false := beq_eq_false_iff_ne.2 (by omega)
  have q58 : ((s[a].toNat : Int) == 58) = false := beq_eq_false_iff_ne.2 (by omega)
  have q44 : ((s[a].toNat : Int) == 44) = false := beq_eq_false_iff_ne.2 (by omega)
  have q34 : ((s[a].toNat : Int) == 34) = false := beq_eq_false_iff_ne.2 (by omega)
  have q45 : ((s[a].toNat : Int) == 45) = false := beq_eq_false_iff_ne.2 (by omega)
  have q48 : ((s[a].toNat : Int) == 48) = false := beq_eq_false_iff_ne.2 (by omega)
  have q49 : ((s[a].toNat : Int) == 49) = false := beq_eq_false_iff_ne.2 (by omega)
  have q50 : ((s[a].toNat : Int) == 50) = false := beq_eq_false_iff_ne.2 (by omega)
  have q51 : ((s[a].toNat : Int) == 51) = false := beq_eq_false_iff_ne.2 (by omega)
  have q52 : ((s[a].toNat : Int) == 52) = false := beq_eq_false_iff_ne.2 (by omega)
  have q53 : ((s[a].toNat : Int) == 53) = false := beq_eq_false_iff_ne.2 (by omega)
  have q54 : ((s[a].toNat : Int) == 54) = false := beq_eq_false_iff_ne.2 (by omega)
  have q55 : ((s[a].toNat : Int) == 55) = false := beq_eq_false_iff_ne.2 (by omega)
  have q56 : ((s[a].toNat : Int) == 56) = false := beq_eq_false_iff_ne.2 (by omega)
  have q57 : ((s[a].toNat : Int) == 57) = false := beq_eq_false_iff_ne.2 (by omega)
  have q116 : ((s[a].toNat : Int) == 116) = false := beq_eq_false_iff_ne.2 (by omega)
  have q102 : ((s[a].toNat : Int) == 102) = false := beq_eq_false_iff_ne.2 (by omega)
  have q110 : ((s[a].toNat : Int) == 110) = false := beq_eq_false_iff_ne.2 (by omega)
  generalize rdOf s a = v at *
  clear hx h
  go_enter Tryz.func64, Tryz.ntmps64
  go_wp2_with fail
  go_ret
  exact ⟨by rw [HR.out]; rfl, rfl⟩
  all_goals
   first
    | have HR := hid (show rdOf s a = .func (.func 86) #[] #[] by unfold rdOf; rw [if_neg hnl, h]; rfl)
    | have HR := hid (show rdOf s a = .func (.func 87) #[] #[] by unfold rdOf; rw [if_neg hnl, h]; rfl)
    | have HR := hid (show rdOf s a = .func (.func 88) #[] #[] by unfold rdOf; rw [if_neg hnl, h]; rfl)
    | have HR := hid (show rdOf s a = .func (.func 89) #[] #[] by unfold rdOf; rw [if_neg hnl, h]; rfl)
   have hv : (s[a].toNat : Int) = (bt s a : Nat) := by omega
   rw [h] at hv
   first
    | have q123 : ((s[a].toNat : Int) == 123) = true := by rw [hv]; rfl
    | have q123 : ((s[a].toNat : Int) == 123) = false := by rw [hv]; rfl
   first
    | have q125 : ((s[a].toNat : Int) == 125) = true := by rw [hv]; rfl
    | have q125 : ((s[a].toNat : Int) == 125) = false := by rw [hv]; rfl
   first
    | have q91 : ((s[a].toNat : Int) == 91) = true := by rw [hv]; rfl
    | have q91 : ((s[a].toNat : Int) == 91) = false := by rw [hv]; rfl
   first
    | have q93 : ((s[a].toNat : Int) == 93) = true := by rw [hv]; rfl
    | have q93 : ((s[a].toNat : Int) == 93) = false := by rw [hv]; rfl
   first
    | have q58 : ((s[a].toNat : Int) == 58) = true := by rw [hv]; rfl
    | have q58 : ((s[a].toNat : Int) == 58) = false := by rw [hv]; rfl
   first
    | have q44 : ((s[a].toNat : Int) == 44) = true := by rw [hv]; rfl
    | have q44 : ((s[a].toNat : Int) == 44) = false := by rw [hv]; rfl
   first
    | have q34 : ((s[a].toNat : Int) == 34) = true := by rw [hv]; rfl
    | have q34 : ((s[a].toNat : Int) == 34) = false := by rw [hv]; rfl
   first
    | have q45 : ((s[a].toNat : Int) == 45) = true := by rw [hv]; rfl
    | have q45 : ((s[a].toNat : Int) == 45) = false := by rw [hv]; rfl
   first
    | have q48 : ((s[a].toNat : Int) == 48) = true := by rw [hv]; rfl
    | have q48 : ((s[a].toNat : Int) == 48) = false := by rw [hv]; rfl
   first
    | have q49 : ((s[a].toNat : Int) == 49) = true := by rw [hv]; rfl
    | have q49 : ((s[a].toNat : Int) == 49) = false := by rw [hv]; rfl
   first
    | have q50 : ((s[a].toNat : Int) == 50) = true := by rw [hv]; rfl
    | have q50 : ((s[a].toNat : Int) == 50) = false := by rw [hv]; rfl
   first
    | have q51 : ((s[a].toNat : Int) == 51) = true := by rw [hv]; rfl
    | have q51 : ((s[a].toNat : Int) == 51) = false := by rw [hv]; rfl
   first
    | have q52 : ((s[a].toNat : Int) == 52) = true := by rw [hv]; rfl
    | have q52 : ((s[a].toNat : Int) == 52) = false := by rw [hv]; rfl
   first
    | have q53 : ((s[a].toNat : Int) == 53) = true := by rw [hv]; rfl
    | have q53 : ((s[a].toNat : Int) == 53) = false := by rw [hv]; rfl
   first
    | have q54 : ((s[a].toNat : Int) == 54) = true := by rw [hv]; rfl
    | have q54 : ((s[a].toNat : Int) == 54) = false := by rw [hv]; rfl
   first
    | have q55 : ((s[a].toNat : Int) == 55) = true := by rw [hv]; rfl
    | have q55 : ((s[a].toNat : Int) == 55) = false := by rw [hv]; rfl
   first
    | have q56 : ((s[a].toNat : Int) == 56) = true := by rw [hv]; rfl
    | have q56 : ((s[a].toNat : Int) == 56) = false := by rw [hv]; rfl
   first
    | have q57 : ((s[a].toNat : Int) == 57) = true := by rw [hv]; rfl
    | have q57 : ((s[a].toNat : Int) == 57) = false := by rw [hv]; rfl
   first
    | have q116 : ((s[a].toNat : Int) == 116) = true := by rw [hv]; rfl
    | have q116 : ((s[a].toNat : Int) == 116) = false := by rw [hv]; rfl
   first
    | have q102 : ((s[a].toNat : Int) == 102) = true := by rw [hv]; rfl
    | have q102 : ((s[a].toNat : Int) == 102) = false := by rw [hv]; rfl
   first
    | have q110 : ((s[a].toNat : Int) == 110) = true := by rw [hv]; rfl
    | have q110 : ((s[a].toNat : Int) == 110) = false := by rw [hv]; rfl
   generalize rdOf s a = v at *
   clear hx h hv
   go_enter Tryz.func64, Tryz.ntmps64
   go_wp2_with fail
   go_ret
   exact ⟨by rw [HR.out]; rfl, rfl⟩
 ·
  obtain rfl : a = s.size := by omega
  have HR := hid (show rdOf s s.size = .func (.func 85) #[] #[] by unfold rdOf; rw [if_pos (Nat.le_refl _)])
  generalize rdOf s s.size = v at *
  go_enter Tryz.func64, Tryz.ntmps64
  go_wp2_with fail
  go_ret
  exact ⟨by rw [HR.out]; rfl, rfl⟩
end Go.Proofs.YtgblenoaeanogaaGreatDoor
namespace Go.Proofs.YtgblenoaeanogaaGreatDoor.W2
open Go.RowKit
open De
def okTo (D : List UInt8) (k : Nat) : Prop := (∀ i, i < k → isDig (D.getD i 0) = true) ∧ (2 ≤ k → D.getD 0 0 ≠ 48)
theorem okTo.zero (D : List UInt8) : okTo D 0 := ⟨fun i hi => absurd hi (by omega), fun h => absurd h (by omega)⟩
theorem okTo.succ {D : List UInt8} {k : Nat} (h : okTo D k) (h1 : isDig (D.getD k 0) = true) (h2 : k = 1 → D.getD 0 0 ≠ 48) : okTo D (k + 1) := by
 refine ⟨fun i hi => ?_, fun hk => ?_⟩
 ·
  rcases Nat.lt_or_ge i k with h3 | h3
  · exact h.1 i h3
  · rw [show i = k by omega]; exact h1
 ·
  rcases Nat.lt_or_ge k 2 with h3 | h3
  · exact h2 (by omega)
  · exact h.2 h3
theorem okTo.all {D : List UInt8} (h : okTo D D.length) (hne : D ≠ []) : formD D = true := by
 unfold formD
 simp only [Bool.and_eq_true, Bool.not_eq_true', List.all_eq_true, Bool.or_eq_true, decide_eq_true_eq]
 refine ⟨⟨by cases D <;> simp_all, fun c hc => ?_⟩, ?_⟩
 ·
  obtain ⟨i, hi, rfl⟩ := List.mem_iff_getElem.1 hc
  have := h.1 i hi
  rwa [List.getD_eq_getElem?_getD, List.getElem?_eq_getElem hi] at this
 ·
  rcases (by omega : D.length = 1 ∨ D.length ≤ 0 ∨ 2 ≤ D.length) with h1 | h1 | h1
  · exact .inl h1
  · exact absurd (List.eq_nil_of_length_eq_zero (by omega)) hne
  ·
   right
   have := h.2 h1
   cases D with
   | nil => exact absurd rfl hne
   | cons c D => simpa using this
theorem form_stop {D : List UInt8} {k : Nat} (hk : k < D.length) (h : isDig (D.getD k 0) = false) : formD D = false := by
 rw [← Bool.not_eq_true]
 intro e
 unfold formD at e
 simp only [Bool.and_eq_true, List.all_eq_true] at e
 have := e.1.2 _ (List.getElem_mem hk)
 rw [List.getD_eq_getElem?_getD, List.getElem?_eq_getElem hk] at h
 simp only [Option.getD_some] at h
 rw [h] at this
 cases this
theorem form_lead {D : List UInt8} (hk : 1 < D.length) (h : D.getD 0 0 = 48) : formD D = false := by
 rw [← Bool.not_eq_true]
 intro e
 unfold formD at e
 simp only [Bool.and_eq_true, Bool.or_eq_true, decide_eq_true_eq, Bool.not_eq_true'] at e
 cases D with
 | nil => simp at hk
 | cons c D =>
  simp at h
  subst h
  simp at e
  simp at hk
  exact absurd e.2 (by rintro rfl; simp at hk)
theorem isnum_any (s : ByteArray) (w : World) (hs : s.size ≤ 100000) :
 Calls Tryz.prog 138 #[.string s] w fun e w' => e = .returned (.bool (form s.data.toList)) ∧ Below w.heap.size w w' := by
 obtain ⟨D, HD⟩ : ∃ D, Hid (digs s.data.toList = D) := ⟨_, hid rfl⟩
 have Hf := hid (show form s.data.toList = formD D by unfold form; rw [HD.out])
 have hDl : D.length ≤ 100000 := by
  rw [← HD.out]
  unfold digs
  have : s.data.toList.length = s.size := Array.length_toList
  split
  · rw [List.length_tail]; omega
  · omega
 obtain ⟨S, HS⟩ : ∃ S : ByteArray, Hid ((⟨(Lib.trimPrefix s.data.toList [45]).toArray⟩ : ByteArray) = S) := ⟨_, hid rfl⟩
 have HSL := hid (show S.data.toList = D by rw [← HS.out, trim_digs, HD.out])
 have HSs := hid (show S.size = D.length by rw [← HSL.out, Array.length_toList]; rfl)
 have htrim : Calls Tryz.prog 158 #[.string s, .string ⟨#[45]⟩] w fun e w' => e = .returned (.string S) ∧ w = w' := by
  refine (Tryz.strings_TrimPrefix s ⟨#[45]⟩ w).mono ?_
  rintro e w' ⟨rfl, rfl⟩
  exact ⟨by rw [← HS.out], rfl⟩
 have Htrim := hid htrim
 clear htrim
 rw [Hf.out]
 go_enter Tryz.func138, Tryz.ntmps138
 go_wp2_with fail
 refine Htrim.out.mono ?_
 rintro e w' ⟨rfl, rfl⟩
 go_wp2_with fail
 go_loopw [4, 5] (fun _ _ wr => ∃ k : Nat, k ≤ D.length ∧ okTo D k ∧ wr = w.iter S k) (fun _ _ wr => S.size + 1 - wr.iterPos w.heap.size)
 case atStart => exact ⟨0, Nat.zero_le _, okTo.zero D, rfl⟩
 case round =>
  obtain ⟨k, hk, hok, rfl⟩ := hrel
  have Hok := hid hok
  clear hok
  by_cases hlt : k < D.length
  ·
   have hpos : k < S.size := by rw [HSs.out]; exact hlt
   cases hd : isDig (D.getD k 0) with
   | false =>
    have Hst := hid (form_stop hlt hd)
    have hnd : ¬ (48 ≤ (D.getD k 0).toNat ∧ (D.getD k 0).toNat ≤ 57) := by rw [← dig_iff, hd]; simp
    have hr : (Utf8.decode S k).1 < 48 ∨ 57 < (Utf8.decode S k).1 := by
     rcases Nat.lt_or_ge (S.data.toList.getD k 0).toNat 128 with h | h
     · rw [De.decode_low S k hpos h, HSL.out]; show (D.getD k 0).toNat < 48 ∨ 57 < (D.getD k 0).toNat; omega
     · have h2 := De.decode_high S k hpos (Nat.not_lt.2 h); omega
    have hnx : ∀ ty, (Instr.next (.pointer (some ⟨w.heap.size, 0, none⟩)) true ty).run Tryz.prog (w.iter S k) = .ok (.tuple #[.bool true, .int .i64 k, .int .i32 (Utf8.decode S k).1]) (w.iter S (k + (Utf8.decode S k).2)) := fun ty => run_next_any w S k ty hpos
    generalize (Utf8.decode S k).1 = r at *
    generalize k + (Utf8.decode S k).2 = q at *
    clear hd hnd
    rcases hr with hr | hr
    ·
     have x1 : decide ((r : Int) < 48) = true := decide_eq_true (by omega)
     go_wp2_with fail
     go_ret
     exact ⟨ret_bool Hst.out.symm, (Below.refl _ _).alloc (Nat.le_refl _) _⟩
    ·
     have x1 : decide ((r : Int) < 48) = false := decide_eq_false (by omega)
     have x2 : decide ((57 : Int) < (r : Int)) = true := decide_eq_true (by omega)
     go_wp2_with fail
     go_ret
     exact ⟨ret_bool Hst.out.symm, (Below.refl _ _).alloc (Nat.le_refl _) _⟩
   | true =>
    have hc := (dig_iff _).1 hd
    have hdec := De.decode_low S k hpos (by rw [HSL.out]; omega)
    rw [HSL.out] at hdec
    have hnx : ∀ ty, (Instr.next (.pointer (some ⟨w.heap.size, 0, none⟩)) true ty).run Tryz.prog (w.iter S k) = .ok (.tuple #[.bool true, .int .i64 k, .int .i32 (D.getD k 0).toNat]) (w.iter S (k + 1)) := by
     intro ty
     rw [run_next_any w S k ty hpos, hdec]
    have Hd := hid hd
    have hmeas : D.length = S.size := HSs.out.symm
    obtain ⟨c0, c1⟩ := hc
    clear hdec hd
    by_cases h1 : k = 1
    ·
     subst h1
     have hS0 : 0 < S.size := by omega
     have he : ∀ h, (S[0]'h).toNat = (D.getD 0 0).toNat := by
      intro h
      have h2 : S.data.toList.getD 0 0 = D.getD 0 0 := by rw [HSL.out]
      rw [← h2, List.getD_eq_getElem?_getD, Array.getElem?_toList]
      rcases S with ⟨d⟩
      have hd : 0 < d.size := h
      simp [hd]; rfl
     generalize (D.getD 1 0).toNat = x at *
     have x1 : decide ((x : Int) < 48) = false := decide_eq_false (by omega)
     have x2 : decide ((57 : Int) < (x : Int)) = false := decide_eq_false (by omega)
     by_cases hz : D.getD 0 0 = 48
     ·
      have Hst := hid (form_lead hlt hz)
      have t5 : (((D[0]'(by omega)).toNat : Int) == 48) = true := by
       rw [List.getD_eq_getElem?_getD, List.getElem?_eq_getElem (by omega : 0 < D.length)] at hz
       simp only [Option.getD_some] at hz
       rw [hz]; rfl
      clear hz
      go_wp2_with fail
      go_ret
      exact ⟨ret_bool Hst.out.symm, (Below.refl _ _).alloc (Nat.le_refl _) _⟩
     ·
      have Hs := hid (Hok.out.succ Hd.out (fun _ => hz))
      have t5 : (((D[0]'(by omega)).toNat : Int) == 48) = false := by
       rw [List.getD_eq_getElem?_getD, List.getElem?_eq_getElem (by omega : 0 < D.length)] at hz
       simp only [Option.getD_some] at hz
       have : (D[0]'(by omega)).toNat ≠ 48 := fun h => hz (UInt8.toNat_inj.1 (by rw [h]; rfl))
       simp; omega
      clear hz
      go_wp2_with fail
      go_roundw
      case rel => exact ⟨2, by omega, Hs.out, rfl⟩
      case measure => simp; omega
    ·
     have t1 : ((k : Int) == 1) = false := by simp; omega
     have Hs := hid (Hok.out.succ Hd.out (fun e => absurd e h1))
     generalize (D.getD k 0).toNat = x at *
     have x1 : decide ((x : Int) < 48) = false := decide_eq_false (by omega)
     have x2 : decide ((57 : Int) < (x : Int)) = false := decide_eq_false (by omega)
     clear h1
     go_wp2_with fail
     go_roundw
     case rel => exact ⟨k + 1, by omega, Hs.out, rfl⟩
     case measure => simp; omega
  ·
   obtain rfl : D.length = k := by omega
   have hend : ¬ D.length < S.size := by have := HSs.out; omega
   have hnx : ∀ ty, (Instr.next (.pointer (some ⟨w.heap.size, 0, none⟩)) true ty).run Tryz.prog (w.iter S D.length) = _ := fun ty => run_next_end w S D.length ty hend
   by_cases hD : D = []
   ·
    have hS : S.toList.isEmpty = true := by rw [ByteArray.toList_eq, HSL.out, hD]; rfl
    have HF := hid (show formD D = false by rw [hD]; rfl)
    clear hD hend
    go_wp2_with fail
    go_ret
    exact ⟨ret_bool HF.out.symm, (Below.refl _ _).alloc (Nat.le_refl _) _⟩
   ·
    have hS : S.toList.isEmpty = false := by
     rw [ByteArray.toList_eq, HSL.out]
     cases D with
     | nil => exact absurd rfl hD
     | cons c D => rfl
    have HF := hid (Hok.out.all hD)
    clear hD hend
    go_wp2_with fail
    go_ret
    exact ⟨ret_bool HF.out.symm, (Below.refl _ _).alloc (Nat.le_refl _) _⟩
end Go.Proofs.YtgblenoaeanogaaGreatDoor.W2
namespace Go.Proofs.YtgblenoaeanogaaGreatDoor.W2
open Go.RowKit
open De
theorem isnum_f {s : ByteArray} {w : World} (hs : s.size ≤ 100000) (b : Bool) (h : form s.data.toList = b) :
 Calls Tryz.prog 138 #[.string s] w fun e w' => e = .returned (.bool b) ∧ Below w.heap.size w w' := by
 have := isnum_any s w hs; rwa [h] at this
theorem var_on {P : Program} {w w' : World} {n : String} {cs : Array Value} (h : w.var? P n = some cs) (hb : Below w.heap.size w w') : w'.var? P n = some cs := by
 unfold World.var? at h ⊢
 cases hg : P.globalNamed n with
 | none => rw [hg] at h; cases h
 | some g =>
  rw [hg] at h
  simp only [Option.bind_some] at h ⊢
  have hlt : g < w.heap.size := by
   rcases Nat.lt_or_ge g w.heap.size with hl | hl
   · exact hl
   · rw [Array.getElem?_eq_none hl] at h; cases h
  rw [hb.block g hlt]
  exact h
theorem parse_ok (s : ByteArray) (w : World) (hs : s.size ≤ 100000) (hf : form s.data.toList = true) (hi : In64 (numL s.data.toList)) :
 Calls Tryz.prog 116 #[.string s] w fun e w' => e = .returned (.tuple #[.int .i64 (numL s.data.toList), .int .i64 0]) ∧ Below w.heap.size w w' := by
 have hp : Lib.parseIntB 64 s.data.toList = Lib.NumEnd.ok (numL s.data.toList) := (parseI hf).trans (if_pos hi)
 have Hf := hid hf
 have Hp := hid hp
 clear hf hi hp
 generalize numL s.data.toList = z at *
 go_enter Tryz.func116, Tryz.ntmps116
 go_wp2_with fail
 refine (isnum_f hs true Hf.out).mono ?_
 rintro e w2 ⟨rfl, hb2⟩
 have Hb2 := hid hb2
 clear hb2
 go_wp2_with fail
 refine (Tryz.strconv_ParseInt_10_at64_ok s (by omega) z Hp.out w2).mono ?_
 rintro e w3 ⟨rfl, hw3⟩
 have hb3 : Below w2.heap.size w2 w3 := by
  rcases hw3 with rfl | ⟨t, rfl⟩
  · exact Below.refl _ _
  · exact Lib.bytesWorld_below _ _ _
 have Hb3 := hid (Hb2.out.trans (hb3.mono Hb2.out.size))
 clear hw3 hb3
 go_wp2_with fail
 go_ret2
 exact ⟨rfl, Hb3.out⟩
theorem parse_far (s : ByteArray) (tp : TypeId) (p : Value) (w : World) (hs : s.size ≤ 100000) (hf : form s.data.toList = true) (hi : ¬ In64 (numL s.data.toList)) (hv : w.var? Tryz.prog "strconv.ErrRange" = some #[.iface tp p]) :
 Calls Tryz.prog 116 #[.string s] w fun e w' => e = .returned (.tuple #[.int .i64 0, .int .i64 4]) ∧ Below w.heap.size w w' := by
 have hp : Lib.parseIntB 64 s.data.toList = Lib.NumEnd.range := (parseI hf).trans (if_neg hi)
 have Hf := hid hf
 have Hp := hid hp
 have Hv := hid hv
 clear hf hi hp hv
 go_enter Tryz.func116, Tryz.ntmps116
 go_wp2_with fail
 refine (isnum_f hs true Hf.out).mono ?_
 rintro e w2 ⟨rfl, hb2⟩
 have Hb2 := hid hb2
 have Hv2 := hid (show w2.var? Tryz.prog "strconv.ErrRange" = some #[.iface tp p] from var_on Hv.out hb2)
 clear hb2
 go_wp2_with fail
 refine (Tryz.strconv_ParseInt_10_at64_range_var s (by omega) Hp.out tp p w2 Hv2.out).mono ?_
 rintro e w3 ⟨M, rfl, hM, _, hb3⟩
 have Hb3 := hid (Hb2.out.trans (hb3.mono Hb2.out.size))
 clear hb3
 go_wp2_with fail
 go_ret2
 exact ⟨rfl, Hb3.out⟩
end Go.Proofs.YtgblenoaeanogaaGreatDoor.W2
namespace Go.Proofs.YtgblenoaeanogaaGreatDoor
open Go.RowKit
open Tk
def RangeErr (w : World) : Prop := ∃ tp p, w.var? Tryz.prog "strconv.ErrRange" = some #[.iface tp p]
theorem RangeErr.on {w w' : World} (h : RangeErr w) (hb : Below w.heap.size w w') : RangeErr w' := by
 obtain ⟨a, b, h1⟩ := h
 exact ⟨a, b, W2.var_on h1 hb⟩
theorem below_put5 {B : Nat} {a w : World} {g : Nat} (h : Below B a w) (hg : B ≤ g) (v0 v1 v2 v3 v4 : Value) :
 Below B a (((((w.setCell ⟨g, 0, none⟩ v0).setCell ⟨g, 1, none⟩ v1).setCell ⟨g, 2, none⟩ v2).setCell ⟨g, 3, none⟩ v3).setCell ⟨g, 4, none⟩ v4) :=
 ((((h.setCell (p := ⟨g, 0, none⟩) hg v0).setCell (p := ⟨g, 1, none⟩) hg v1).setCell (p := ⟨g, 2, none⟩) hg v2).setCell (p := ⟨g, 3, none⟩) hg v3).setCell (p := ⟨g, 4, none⟩) hg v4
theorem cell_lt5 {w : World} {b o : Nat} {v : Value} (h : w.cell? ⟨b, o, none⟩ = some v) : b < w.heap.size := by
 rcases Nat.lt_or_ge b w.heap.size with h1 | h1
 · exact h1
 ·
  unfold World.cell? at h
  rw [Array.getElem?_eq_none h1] at h
  cases h
theorem num_1 {s : ByteArray} {a : Nat} (h : intB s a = false) : numAns s a = .err (intE s a) 1 := by unfold numAns; rw [if_pos h]
theorem num_2 {s : ByteArray} {a : Nat} (h : intB s a = true) (h2 : fracB s (intE s a) = false) : numAns s a = .err (fracE s (intE s a)) 1 := by unfold numAns; rw [if_neg (by rw [h]; decide), if_pos h2]
theorem num_3 {s : ByteArray} {a : Nat} (h : intB s a = true) (h2 : fracB s (intE s a) = true) (h3 : expB s (fracE s (intE s a)) = false) : numAns s a = .err (expE s (fracE s (intE s a))) 1 := by unfold numAns; rw [if_neg (by rw [h]; decide), if_neg (by rw [h2]; decide), if_pos h3]
theorem num_4 {s : ByteArray} {a : Nat} (h : intB s a = true) (h2 : fracB s (intE s a) = true) (h3 : expB s (fracE s (intE s a)) = true) (h4 : intE s a < expE s (fracE s (intE s a))) : numAns s a = .err a 4 := by unfold numAns; rw [if_neg (by rw [h]; decide), if_neg (by rw [h2]; decide), if_neg (by rw [h3]; decide), if_pos h4]
theorem num_5 {s : ByteArray} {a : Nat} (h : intB s a = true) (h2 : fracB s (intE s a) = true) (h3 : expB s (fracE s (intE s a)) = true) (h4 : ¬ intE s a < expE s (fracE s (intE s a))) (h5 : ¬ Tk.In64 (De.numL (sub s a (intE s a)).data.toList)) : numAns s a = .err a 4 := by unfold numAns; rw [if_neg (by rw [h]; decide), if_neg (by rw [h2]; decide), if_neg (by rw [h3]; decide), if_neg h4, if_neg h5]
theorem num_6 {s : ByteArray} {a : Nat} (h : intB s a = true) (h2 : fracB s (intE s a) = true) (h3 : expB s (fracE s (intE s a)) = true) (h4 : ¬ intE s a < expE s (fracE s (intE s a))) (h5 : Tk.In64 (De.numL (sub s a (intE s a)).data.toList)) : numAns s a = .tok ⟨3, nix, De.numL (sub s a (intE s a)).data.toList, a, intE s a⟩ := by unfold numAns; rw [if_neg (by rw [h]; decide), if_neg (by rw [h2]; decide), if_neg (by rw [h3]; decide), if_neg h4, if_pos h5]
theorem intE_le {s : ByteArray} {a : Nat} (h : a ≤ s.size) : intE s a ≤ s.size := by
 have := signE_le h
 unfold intE
 split
 ·
  rename_i h1
  have := lt_of_bt (s := s) (i := signE s a) (by omega); omega
 · exact span_le _ this
theorem fracE_le {s : ByteArray} {a : Nat} (h : a ≤ s.size) : fracE s a ≤ s.size := by
 unfold fracE
 split
 ·
  rename_i h1
  have := lt_of_bt (s := s) (i := a) (by omega)
  exact span_le _ (by omega)
 · exact h
theorem num_any5 (b : Nat) (s : ByteArray) (a : Nat) (w : World) (hs : s.size ≤ 90000) (hc : w.cell? ⟨b, 0, none⟩ = some (.string s)) (ha : a ≤ s.size) (hr : RangeErr w) : Calls Tryz.prog 88 #[.pointer (some ⟨b, 0, none⟩), .int .i64 a] w fun e w' => e = .returned (numAns s a).val ∧ Below w.heap.size w w' := by
 have hb := cell_lt5 hc
 have h1 := intE_le ha
 have h2 := fracE_le h1
 have HN := hid (fun h => num_1 (s := s) (a := a) h)
 have HN2 := hid (fun h h2 => num_2 (s := s) (a := a) h h2)
 have HN3 := hid (fun h h2 h3 => num_3 (s := s) (a := a) h h2 h3)
 have HN4 := hid (fun h h2 h3 h4 => num_4 (s := s) (a := a) h h2 h3 h4)
 have HN5 := hid (fun h h2 h3 h4 h5 => num_5 (s := s) (a := a) h h2 h3 h4 h5)
 have HN6 := hid (fun h h2 h3 h4 h5 => num_6 (s := s) (a := a) h h2 h3 h4 h5)
 have HI := hid (fun w hc => int_any5 b s a w (by omega) hc ha)
 have HF := hid (fun w hc => frac_any5 b s (intE s a) w (by omega) hc h1)
 have HX := hid (fun w hc => exp_any5 b s (fracE s (intE s a)) w (by omega) hc h2)
 have HG := hid (fun h => num_form (s := s) (a := a) h)
 have hsub : sub s a (intE s a) = s.extract a (intE s a) := rfl
 rw [hsub] at HN5 HN6 HG
 have hsz : (s.extract a (intE s a)).size ≤ 100000 := by rw [ByteArray.size_extract]; omega
 have hge : a ≤ intE s a := by
  cases h : intB s a with
  | true => exact Nat.le_of_lt (num_form h).2.2
  | false =>
   unfold intE signE
   split <;> split <;> first | omega | exact Nat.le_trans (Nat.le_succ a) (span_ge _ _ _) | exact span_ge _ _ _
 have hge2 : intE s a ≤ fracE s (intE s a) := by
  unfold fracE
  split
  · exact Nat.le_trans (Nat.le_succ _) (span_ge _ _ _)
  · exact Nat.le_refl _
 clear hsub
 generalize expE s (fracE s (intE s a)) = X at *
 generalize expB s (fracE s (intE s a)) = xb at *
 generalize fracE s (intE s a) = F at *
 generalize fracB s (intE s a) = fb at *
 generalize intE s a = I at *
 generalize intB s a = ib at *
 generalize numAns s a = res at *
 have i1 : (0 : Int) ≤ (a : Int) := by omega
 have i2 : (a : Int) ≤ (I : Int) := by omega
 have i3 : (I : Int) ≤ (s.size : Int) := by omega
 go_enter Tryz.func88, Tryz.ntmps88
 go_wp2_with fail
 have hW : Below w.heap.size w (w.alloc (.cells #[.int .i64 0, .string ⟨#[]⟩, .int .i64 0, .int .i64 0, .int .i64 0] 99)) := (Below.refl _ _).alloc (Nat.le_refl _) _
 have hB : Blk (w.alloc (.cells #[.int .i64 0, .string ⟨#[]⟩, .int .i64 0, .int .i64 0, .int .i64 0] 99)) w.heap.size 99 #[.int .i64 0, .string ⟨#[]⟩, .int .i64 0, .int .i64 0, .int .i64 0] := Blk.new w _ _
 change Calls _ _ _ (w.alloc (.cells #[.int .i64 0, .string ⟨#[]⟩, .int .i64 0, .int .i64 0, .int .i64 0] 99)) _
 generalize (w.alloc (.cells #[.int .i64 0, .string ⟨#[]⟩, .int .i64 0, .int .i64 0, .int .i64 0] 99)) = W at *
 have hcW : W.cell? ⟨b, 0, none⟩ = some (.string s) := (hW.cell (p := ⟨b, 0, none⟩) hb).trans hc
 have HR := hid (hr.on hW)
 have HW := hid hW
 have HB := hid hB
 have c0 := hB.cell 0
 have c1 := hB.cell 1
 have c2 := hB.cell 2
 have c3 := hB.cell 3
 have c4 := hB.cell 4
 have f0 := hB.free 0
 have f1 := hB.free 1
 have f2 := hB.free 2
 have f3 := hB.free 3
 have f4 := hB.free 4
 clear hW hr hc
 refine (HI.out _ hcW).mono ?_
 rintro e w2 ⟨rfl, rfl⟩
 cases ib with
 | false =>
  have HE := hid (HN.out (by trivial))
  go_wp2_with fail
  refine bodyPost_ret (v := (Ans.err I 1).val) (by simp [results, Tryz.results88, go_sem, Ans.val, c0, c1, c2, c3, c4]) rfl ⟨by rw [HE.out], ?_⟩
  exact below_put5 HW.out (Nat.le_refl _) _ _ _ _ _
 | true =>
  go_wp2_with fail
  refine (HF.out _ hcW).mono ?_
  rintro e w2 ⟨rfl, rfl⟩
  cases fb with
  | false =>
   have HE := hid (HN2.out (by trivial) (by trivial))
   go_wp2_with fail
   refine bodyPost_ret (v := (Ans.err F 1).val) (by simp [results, Tryz.results88, go_sem, Ans.val, c0, c1, c2, c3, c4]) rfl ⟨by rw [HE.out], ?_⟩
   exact below_put5 HW.out (Nat.le_refl _) _ _ _ _ _
  | true =>
   go_wp2_with fail
   refine (HX.out _ hcW).mono ?_
   rintro e w2 ⟨rfl, rfl⟩
   cases xb with
   | false =>
    have HE := hid (HN3.out (by trivial) (by trivial) (by trivial))
    go_wp2_with fail
    refine bodyPost_ret (v := (Ans.err X 1).val) (by simp [results, Tryz.results88, go_sem, Ans.val, c0, c1, c2, c3, c4]) rfl ⟨by rw [HE.out], ?_⟩
    exact below_put5 HW.out (Nat.le_refl _) _ _ _ _ _
   | true =>
    by_cases hlt : I < X
    ·
     have HE := hid (HN4.out (by trivial) (by trivial) (by trivial) hlt)
     have u1 : decide ((X : Int) > (I : Int)) = true := decide_eq_true (by omega)
     have u2 : decide ((I : Int) < (X : Int)) = true := decide_eq_true (by omega)
     have u3 : decide (I < X) = true := decide_eq_true hlt
     go_wp2_with fail
     refine bodyPost_ret (v := (Ans.err a 4).val) (by simp [results, Tryz.results88, go_sem, Ans.val, c0, c1, c2, c3, c4]) rfl ⟨by rw [HE.out], ?_⟩
     exact below_put5 HW.out (Nat.le_refl _) _ _ _ _ _
    ·
     have u1 : decide ((X : Int) > (I : Int)) = false := decide_eq_false (by omega)
     have u2 : decide ((I : Int) < (X : Int)) = false := decide_eq_false (by omega)
     have u3 : decide (I < X) = false := decide_eq_false hlt
     have hg := HG.out (by trivial)
     have HS := hid hg.1
     by_cases h64 : Tk.In64 (De.numL (s.extract a I).data.toList)
     ·
      have HE := hid (HN6.out (by trivial) (by trivial) (by trivial) hlt h64)
      have HK := hid (show In64 (De.numL (s.extract a I).data.toList) from ⟨h64.1, h64.2⟩)
      clear hg h64 HN HN2 HN3 HN4 HN5 HN6 HG
      go_wp2_with fail
      refine (W2.parse_ok _ _ (by omega) HS.out HK.out).mono ?_
      rintro e w3 ⟨rfl, hb3⟩
      have HW3 := hid (HW.out.trans (hb3.mono HW.out.size))
      have hB3 := HB.out.onto hb3
      have d0 := hB3.cell 0
      have d1 := hB3.cell 1
      have d2 := hB3.cell 2
      have d3 := hB3.cell 3
      have d4 := hB3.cell 4
      have e0 := hB3.free 0
      have e1 := hB3.free 1
      have e2 := hB3.free 2
      have e3 := hB3.free 3
      have e4 := hB3.free 4
      clear hb3 hB3
      generalize De.numL (s.extract a I).data.toList = n at *
      go_wp2_with fail
      refine bodyPost_ret (v := (Ans.tok ⟨3, nix, n, a, I⟩).val) (by simp [results, Tryz.results88, go_sem, Ans.val, nix, d0, d1, d2, d3, d4]) rfl ⟨by rw [HE.out], ?_⟩
      exact below_put5 HW3.out (Nat.le_refl _) _ _ _ _ _
     ·
      have HE := hid (HN5.out (by trivial) (by trivial) (by trivial) hlt h64)
      have HK := hid (show ¬ In64 (De.numL (s.extract a I).data.toList) from fun h => h64 ⟨h.1, h.2⟩)
      clear hg h64 HN HN2 HN3 HN4 HN5 HN6 HG
      obtain ⟨tp, pv, hrv⟩ := HR.out
      have HRV := hid hrv
      clear hrv
      go_wp2_with fail
      refine (W2.parse_far _ tp pv _ (by omega) HS.out HK.out HRV.out).mono ?_
      rintro e w3 ⟨rfl, hb3⟩
      have HW3 := hid (HW.out.trans (hb3.mono HW.out.size))
      have hB3 := HB.out.onto hb3
      have d0 := hB3.cell 0
      have d1 := hB3.cell 1
      have d2 := hB3.cell 2
      have d3 := hB3.cell 3
      have d4 := hB3.cell 4
      have e0 := hB3.free 0
      have e1 := hB3.free 1
      have e2 := hB3.free 2
      have e3 := hB3.free 3
      have e4 := hB3.free 4
      clear hb3 hB3
      go_wp2_with fail
      refine bodyPost_ret (v := (Ans.err a 4).val) (by simp [results, Tryz.results88, go_sem, Ans.val, d0, d1, d2, d3, d4]) rfl ⟨by rw [HE.out], ?_⟩
      exact below_put5 HW3.out (Nat.le_refl _) _ _ _ _ _
end Go.Proofs.YtgblenoaeanogaaGreatDoor
