/- The lexer's choice of a reader: its contract. The lexer's reader of a number: its contract. Behind the blanks: the contract. The lexer's reader of a word: its contract. -/
import Derived.Test.YtfiahpeajccinaaGreatDoorPB
import Derived.Test.YtfiahpeajccinaaGreatDoorPC
import Derived.Shelf.Strings.SlTrimAscii
import Derived.Deep.QuietTactic
import Derived.BigQuiet
import Derived.WalkSmall
import Derived.KernelRfl
import Derived.Deep.RegionHeld3
import Derived.Deep.DeepCutAuto
import Derived.Below
import Derived.Laws.BytesArg
namespace Go.Proofs.YtfiahpeajccinaaGreatDoor
open Go.RowKit
open Tk
set_option linter.unusedVariables false

def Tk.rdOf (s : ByteArray) (a : Nat) : Value :=
  if s.size ≤ a then .func (.func 170) #[] #[]
  else if isMark (bt s a) = true then .func (.func 171) #[] #[]
  else if bt s a = 34 then .func (.func 172) #[] #[]
  else if bt s a = 45 ∨ isDg (bt s a) = true then .func (.func 173) #[] #[]
  else if bt s a = 116 ∨ bt s a = 102 ∨ bt s a = 110 then .func (.func 174) #[] #[]
  else .func (.func 175) #[] #[]
theorem firstByte (c : Nat) : c = 123 ∨ c = 125 ∨ c = 91 ∨ c = 93 ∨ c = 58 ∨ c = 44 ∨ c = 34 ∨ c = 45 ∨ c = 48 ∨ c = 49 ∨ c = 50 ∨ c = 51 ∨ c = 52 ∨ c = 53 ∨ c = 54 ∨ c = 55 ∨ c = 56 ∨ c = 57 ∨ c = 116 ∨ c = 102 ∨ c = 110 ∨ (c ≠ 123 ∧ c ≠ 125 ∧ c ≠ 91 ∧ c ≠ 93 ∧ c ≠ 58 ∧ c ≠ 44 ∧ c ≠ 34 ∧ c ≠ 45 ∧ c ≠ 48 ∧ c ≠ 49 ∧ c ≠ 50 ∧ c ≠ 51 ∧ c ≠ 52 ∧ c ≠ 53 ∧ c ≠ 54 ∧ c ≠ 55 ∧ c ≠ 56 ∧ c ≠ 57 ∧ c ≠ 116 ∧ c ≠ 102 ∧ c ≠ 110) := by omega
set_option maxRecDepth 100000 in
set_option maxHeartbeats 4000000 in
theorem reader_any5 (b : Nat) (s : ByteArray) (a : Nat) (w : World) (hs : s.size ≤ 1000000) (hc : w.cell? ⟨b, 0, none⟩ = some (.string s)) (ha : a ≤ s.size) : Calls Tryz.prog 149 #[.pointer (some ⟨b, 0, none⟩), .int .i64 a] w fun e w' => e = .returned (rdOf s a) ∧ w = w' := by
  have i2 : (0 : Int) ≤ (a : Int) := by omega
  by_cases hl : a < s.size
  · have u1 : decide (a < s.size) = true := decide_eq_true hl
    have j1 : (a : Int) < (s.size : Int) := by omega
    have j3 : ¬ (a : Int) = (s.size : Int) := by omega
    have u3 : ((a : Int) == (s.size : Int)) = false := beq_eq_false_iff_ne.2 j3
    have hx := bt_at s a hl
    have hnl : ¬ s.size ≤ a := by omega
    rcases firstByte (bt s a) with h | h | h | h | h | h | h | h | h | h | h | h | h | h | h | h | h | h | h | h | h | h
    rotate_left 21
    have HR := Lib.hid (show rdOf s a = .func (.func 175) #[] #[] by
      unfold rdOf
      have g1 : isMark (bt s a) = false := by unfold isMark; simp [h]
      have g2 : isDg (bt s a) = false := by rw [isDg_no]; omega
      rw [if_neg hnl, g1, g2]
      simp [h])
    have q123 : ((s[a].toNat : Int) == 123) = false := beq_eq_false_iff_ne.2 (by omega)
    have q125 : ((s[a].toNat : Int) == 125) = false := beq_eq_false_iff_ne.2 (by omega)
    have q91 : ((s[a].toNat : Int) == 91) = false := beq_eq_false_iff_ne.2 (by omega)
    have q93 : ((s[a].toNat : Int) == 93) = false := beq_eq_false_iff_ne.2 (by omega)
    have q58 : ((s[a].toNat : Int) == 58) = false := beq_eq_false_iff_ne.2 (by omega)
    have q44 : ((s[a].toNat : Int) == 44) = false := beq_eq_false_iff_ne.2 (by omega)
    have q34 : ((s[a].toNat : Int) == 34) = false := beq_eq_false_iff_ne.2 (by omega)
    have q45 : ((s[a].toNat : Int) == 45) = false := beq_eq_false_iff_ne.2 (by omega)
    have q48 : ((s[a].toNat : Int) == 48) = false := beq_eq_false_iff_ne.2 (by omega)
    have q49 : ((s[a].toNat : Int) == 49) = false := beq_eq_false_iff_ne.2 (by omega)
    have q50 : ((s[a].toNat : Int) == 50) = false := beq_eq_false_iff_ne.2 (by omega)
    have q51 : ((s[a].toNat : Int) == 51) = false := beq_eq_false_iff_ne.2 (by omega)
    have q52 : ((s[a].toNat : Int) == 52) = false := beq_eq_false_iff_ne.2 (by omega)
    have q53 : ((s[a].toNat : Int) == 53) = false := beq_eq_false_iff_ne.2 (by omega)
    have q54 : ((s[a].toNat : Int) == 54) = false := beq_eq_false_iff_ne.2 (by omega)
    have q55 : ((s[a].toNat : Int) == 55) = false := beq_eq_false_iff_ne.2 (by omega)
    have q56 : ((s[a].toNat : Int) == 56) = false := beq_eq_false_iff_ne.2 (by omega)
    have q57 : ((s[a].toNat : Int) == 57) = false := beq_eq_false_iff_ne.2 (by omega)
    have q116 : ((s[a].toNat : Int) == 116) = false := beq_eq_false_iff_ne.2 (by omega)
    have q102 : ((s[a].toNat : Int) == 102) = false := beq_eq_false_iff_ne.2 (by omega)
    have q110 : ((s[a].toNat : Int) == 110) = false := beq_eq_false_iff_ne.2 (by omega)
    generalize rdOf s a = v at *
    clear hx h
    go_enter Tryz.func149, Tryz.ntmps149
    go_wp2_with fail
    go_ret
    exact ⟨by rw [HR.out]; rfl, rfl⟩
    all_goals
      first
        | have HR := Lib.hid (show rdOf s a = .func (.func 171) #[] #[] by unfold rdOf; rw [if_neg hnl, h]; rfl)
        | have HR := Lib.hid (show rdOf s a = .func (.func 172) #[] #[] by unfold rdOf; rw [if_neg hnl, h]; rfl)
        | have HR := Lib.hid (show rdOf s a = .func (.func 173) #[] #[] by unfold rdOf; rw [if_neg hnl, h]; rfl)
        | have HR := Lib.hid (show rdOf s a = .func (.func 174) #[] #[] by unfold rdOf; rw [if_neg hnl, h]; rfl)
      have hv : (s[a].toNat : Int) = (bt s a : Nat) := by omega
      rw [h] at hv
      first
        | have q123 : ((s[a].toNat : Int) == 123) = true := by rw [hv]; rfl
        | have q123 : ((s[a].toNat : Int) == 123) = false := by rw [hv]; rfl
      first
        | have q125 : ((s[a].toNat : Int) == 125) = true := by rw [hv]; rfl
        | have q125 : ((s[a].toNat : Int) == 125) = false := by rw [hv]; rfl
      first
        | have q91 : ((s[a].toNat : Int) == 91) = true := by rw [hv]; rfl
        | have q91 : ((s[a].toNat : Int) == 91) = false := by rw [hv]; rfl
      first
        | have q93 : ((s[a].toNat : Int) == 93) = true := by rw [hv]; rfl
        | have q93 : ((s[a].toNat : Int) == 93) = false := by rw [hv]; rfl
      first
        | have q58 : ((s[a].toNat : Int) == 58) = true := by rw [hv]; rfl
        | have q58 : ((s[a].toNat : Int) == 58) = false := by rw [hv]; rfl
      first
        | have q44 : ((s[a].toNat : Int) == 44) = true := by rw [hv]; rfl
        | have q44 : ((s[a].toNat : Int) == 44) = false := by rw [hv]; rfl
      first
        | have q34 : ((s[a].toNat : Int) == 34) = true := by rw [hv]; rfl
        | have q34 : ((s[a].toNat : Int) == 34) = false := by rw [hv]; rfl
      first
        | have q45 : ((s[a].toNat : Int) == 45) = true := by rw [hv]; rfl
        | have q45 : ((s[a].toNat : Int) == 45) = false := by rw [hv]; rfl
      first
        | have q48 : ((s[a].toNat : Int) == 48) = true := by rw [hv]; rfl
        | have q48 : ((s[a].toNat : Int) == 48) = false := by rw [hv]; rfl
      first
        | have q49 : ((s[a].toNat : Int) == 49) = true := by rw [hv]; rfl
        | have q49 : ((s[a].toNat : Int) == 49) = false := by rw [hv]; rfl
      first
        | have q50 : ((s[a].toNat : Int) == 50) = true := by rw [hv]; rfl
        | have q50 : ((s[a].toNat : Int) == 50) = false := by rw [hv]; rfl
      first
        | have q51 : ((s[a].toNat : Int) == 51) = true := by rw [hv]; rfl
        | have q51 : ((s[a].toNat : Int) == 51) = false := by rw [hv]; rfl
      first
        | have q52 : ((s[a].toNat : Int) == 52) = true := by rw [hv]; rfl
        | have q52 : ((s[a].toNat : Int) == 52) = false := by rw [hv]; rfl
      first
        | have q53 : ((s[a].toNat : Int) == 53) = true := by rw [hv]; rfl
        | have q53 : ((s[a].toNat : Int) == 53) = false := by rw [hv]; rfl
      first
        | have q54 : ((s[a].toNat : Int) == 54) = true := by rw [hv]; rfl
        | have q54 : ((s[a].toNat : Int) == 54) = false := by rw [hv]; rfl
      first
        | have q55 : ((s[a].toNat : Int) == 55) = true := by rw [hv]; rfl
        | have q55 : ((s[a].toNat : Int) == 55) = false := by rw [hv]; rfl
      first
        | have q56 : ((s[a].toNat : Int) == 56) = true := by rw [hv]; rfl
        | have q56 : ((s[a].toNat : Int) == 56) = false := by rw [hv]; rfl
      first
        | have q57 : ((s[a].toNat : Int) == 57) = true := by rw [hv]; rfl
        | have q57 : ((s[a].toNat : Int) == 57) = false := by rw [hv]; rfl
      first
        | have q116 : ((s[a].toNat : Int) == 116) = true := by rw [hv]; rfl
        | have q116 : ((s[a].toNat : Int) == 116) = false := by rw [hv]; rfl
      first
        | have q102 : ((s[a].toNat : Int) == 102) = true := by rw [hv]; rfl
        | have q102 : ((s[a].toNat : Int) == 102) = false := by rw [hv]; rfl
      first
        | have q110 : ((s[a].toNat : Int) == 110) = true := by rw [hv]; rfl
        | have q110 : ((s[a].toNat : Int) == 110) = false := by rw [hv]; rfl
      generalize rdOf s a = v at *
      clear hx h hv
      go_enter Tryz.func149, Tryz.ntmps149
      go_wp2_with fail
      go_ret
      exact ⟨by rw [HR.out]; rfl, rfl⟩
  · obtain rfl : a = s.size := by omega
    have HR := Lib.hid (show rdOf s s.size = .func (.func 170) #[] #[] by unfold rdOf; rw [if_pos (Nat.le_refl _)])
    generalize rdOf s s.size = v at *
    go_enter Tryz.func149, Tryz.ntmps149
    go_wp2_with fail
    go_ret
    exact ⟨by rw [HR.out]; rfl, rfl⟩
end Go.Proofs.YtfiahpeajccinaaGreatDoor
namespace Go.Proofs.YtfiahpeajccinaaGreatDoor
open Go.RowKit
open Tk
set_option linter.unusedVariables false

/-- the library's error of a range lies where it lies -/
def RangeErr (w : World) : Prop := ∃ tp p, w.var? Tryz.prog "strconv.ErrRange" = some #[.iface tp p]
theorem RangeErr.on {w w' : World} (h : RangeErr w) (hb : Below w.heap.size w w') : RangeErr w' := by
  obtain ⟨a, b, h1⟩ := h
  exact ⟨a, b, W2.var_on h1 hb⟩
theorem below_put5 {B : Nat} {a w : World} {g : Nat} (h : Below B a w) (hg : B ≤ g) (v0 v1 v2 v3 v4 : Value) :
    Below B a (((((w.setCell ⟨g, 0, none⟩ v0).setCell ⟨g, 1, none⟩ v1).setCell ⟨g, 2, none⟩ v2).setCell ⟨g, 3, none⟩ v3).setCell ⟨g, 4, none⟩ v4) :=
  ((((h.setCell (p := ⟨g, 0, none⟩) hg v0).setCell (p := ⟨g, 1, none⟩) hg v1).setCell (p := ⟨g, 2, none⟩) hg v2).setCell (p := ⟨g, 3, none⟩) hg v3).setCell (p := ⟨g, 4, none⟩) hg v4
def zero5 : Array Value := #[.int .i64 0, .string ⟨#[]⟩, .int .i64 0, .int .i64 0, .int .i64 0]
theorem cell_lt5 {w : World} {b o : Nat} {v : Value} (h : w.cell? ⟨b, o, none⟩ = some v) : b < w.heap.size := by
  rcases Nat.lt_or_ge b w.heap.size with h1 | h1
  · exact h1
  · unfold World.cell? at h
    rw [Array.getElem?_eq_none h1] at h
    cases h
/-- the ways of a number's answer -/
theorem num_1 {s : ByteArray} {a : Nat} (h : intB s a = false) : numAns s a = .err (intE s a) 1 := by unfold numAns; rw [if_pos h]
theorem num_2 {s : ByteArray} {a : Nat} (h : intB s a = true) (h2 : fracB s (intE s a) = false) : numAns s a = .err (fracE s (intE s a)) 1 := by unfold numAns; rw [if_neg (by rw [h]; decide), if_pos h2]
theorem num_3 {s : ByteArray} {a : Nat} (h : intB s a = true) (h2 : fracB s (intE s a) = true) (h3 : expB s (fracE s (intE s a)) = false) : numAns s a = .err (expE s (fracE s (intE s a))) 1 := by unfold numAns; rw [if_neg (by rw [h]; decide), if_neg (by rw [h2]; decide), if_pos h3]
theorem num_4 {s : ByteArray} {a : Nat} (h : intB s a = true) (h2 : fracB s (intE s a) = true) (h3 : expB s (fracE s (intE s a)) = true) (h4 : intE s a < expE s (fracE s (intE s a))) : numAns s a = .err a 4 := by unfold numAns; rw [if_neg (by rw [h]; decide), if_neg (by rw [h2]; decide), if_neg (by rw [h3]; decide), if_pos h4]
theorem num_5 {s : ByteArray} {a : Nat} (h : intB s a = true) (h2 : fracB s (intE s a) = true) (h3 : expB s (fracE s (intE s a)) = true) (h4 : ¬ intE s a < expE s (fracE s (intE s a))) (h5 : ¬ Tk.In64 (De.numL (sub s a (intE s a)).data.toList)) : numAns s a = .err a 4 := by unfold numAns; rw [if_neg (by rw [h]; decide), if_neg (by rw [h2]; decide), if_neg (by rw [h3]; decide), if_neg h4, if_neg h5]
theorem num_6 {s : ByteArray} {a : Nat} (h : intB s a = true) (h2 : fracB s (intE s a) = true) (h3 : expB s (fracE s (intE s a)) = true) (h4 : ¬ intE s a < expE s (fracE s (intE s a))) (h5 : Tk.In64 (De.numL (sub s a (intE s a)).data.toList)) : numAns s a = .tok ⟨3, nix, De.numL (sub s a (intE s a)).data.toList, a, intE s a⟩ := by unfold numAns; rw [if_neg (by rw [h]; decide), if_neg (by rw [h2]; decide), if_neg (by rw [h3]; decide), if_neg h4, if_pos h5]
theorem intE_le {s : ByteArray} {a : Nat} (h : a ≤ s.size) : intE s a ≤ s.size := by
  have := signE_le h
  unfold intE
  split
  · rename_i h1
    have := lt_of_bt (s := s) (i := signE s a) (by omega); omega
  · exact span_le _ this
theorem fracE_le {s : ByteArray} {a : Nat} (h : a ≤ s.size) : fracE s a ≤ s.size := by
  unfold fracE
  split
  · rename_i h1
    have := lt_of_bt (s := s) (i := a) (by omega)
    exact span_le _ (by omega)
  · exact h
set_option maxRecDepth 100000 in
set_option maxHeartbeats 4000000 in
theorem num_any5 (b : Nat) (s : ByteArray) (a : Nat) (w : World) (hs : s.size ≤ 90000) (hc : w.cell? ⟨b, 0, none⟩ = some (.string s)) (ha : a ≤ s.size) (hr : RangeErr w) : Calls Tryz.prog 173 #[.pointer (some ⟨b, 0, none⟩), .int .i64 a] w fun e w' => e = .returned (numAns s a).val ∧ Below w.heap.size w w' := by
  have hb := cell_lt5 hc
  have h1 := intE_le ha
  have h2 := fracE_le h1
  have HN := Lib.hid (fun h => num_1 (s := s) (a := a) h)
  have HN2 := Lib.hid (fun h h2 => num_2 (s := s) (a := a) h h2)
  have HN3 := Lib.hid (fun h h2 h3 => num_3 (s := s) (a := a) h h2 h3)
  have HN4 := Lib.hid (fun h h2 h3 h4 => num_4 (s := s) (a := a) h h2 h3 h4)
  have HN5 := Lib.hid (fun h h2 h3 h4 h5 => num_5 (s := s) (a := a) h h2 h3 h4 h5)
  have HN6 := Lib.hid (fun h h2 h3 h4 h5 => num_6 (s := s) (a := a) h h2 h3 h4 h5)
  have HI := Lib.hid (fun w hc => int_any5 b s a w (by omega) hc ha)
  have HF := Lib.hid (fun w hc => frac_any5 b s (intE s a) w (by omega) hc h1)
  have HX := Lib.hid (fun w hc => exp_any5 b s (fracE s (intE s a)) w (by omega) hc h2)
  have HG := Lib.hid (fun h => num_form (s := s) (a := a) h)
  have hsub : sub s a (intE s a) = s.extract a (intE s a) := rfl
  rw [hsub] at HN5 HN6 HG
  have hsz : (s.extract a (intE s a)).size ≤ 100000 := by rw [ByteArray.size_extract]; omega
  have hge : a ≤ intE s a := by
    cases h : intB s a with
    | true => exact Nat.le_of_lt (num_form h).2.2
    | false =>
      unfold intE signE
      split <;> split <;> first | omega | exact Nat.le_trans (Nat.le_succ a) (span_ge _ _ _) | exact span_ge _ _ _
  have hge2 : intE s a ≤ fracE s (intE s a) := by
    unfold fracE
    split
    · exact Nat.le_trans (Nat.le_succ _) (span_ge _ _ _)
    · exact Nat.le_refl _
  clear hsub
  generalize expE s (fracE s (intE s a)) = X at *
  generalize expB s (fracE s (intE s a)) = xb at *
  generalize fracE s (intE s a) = F at *
  generalize fracB s (intE s a) = fb at *
  generalize intE s a = I at *
  generalize intB s a = ib at *
  generalize numAns s a = res at *
  have i1 : (0 : Int) ≤ (a : Int) := by omega
  have i2 : (a : Int) ≤ (I : Int) := by omega
  have i3 : (I : Int) ≤ (s.size : Int) := by omega
  go_enter Tryz.func173, Tryz.ntmps173
  go_wp2_with fail
  have hB : Blk (w.alloc (.cells #[.int .i64 0, .string ⟨#[]⟩, .int .i64 0, .int .i64 0, .int .i64 0] 168)) w.heap.size 168 #[.int .i64 0, .string ⟨#[]⟩, .int .i64 0, .int .i64 0, .int .i64 0] := Blk.new w _ _
  have hW : Below w.heap.size w (w.alloc (.cells #[.int .i64 0, .string ⟨#[]⟩, .int .i64 0, .int .i64 0, .int .i64 0] 168)) := (Below.refl _ _).alloc (Nat.le_refl _) _
  change Calls _ _ _ (w.alloc (.cells #[.int .i64 0, .string ⟨#[]⟩, .int .i64 0, .int .i64 0, .int .i64 0] 168)) _
  generalize (w.alloc (.cells #[.int .i64 0, .string ⟨#[]⟩, .int .i64 0, .int .i64 0, .int .i64 0] 168)) = W at *
  have hcW : W.cell? ⟨b, 0, none⟩ = some (.string s) := (hW.cell (p := ⟨b, 0, none⟩) hb).trans hc
  have HR := Lib.hid (hr.on hW)
  have HW := Lib.hid hW
  have HB := Lib.hid hB
  have c0 := hB.cell 0
  have c1 := hB.cell 1
  have c2 := hB.cell 2
  have c3 := hB.cell 3
  have c4 := hB.cell 4
  have f0 := hB.free 0
  have f1 := hB.free 1
  have f2 := hB.free 2
  have f3 := hB.free 3
  have f4 := hB.free 4
  clear hW hr hc
  refine (HI.out _ hcW).mono ?_
  rintro e w2 ⟨rfl, rfl⟩
  cases ib with
  | false =>
    have HE := Lib.hid (HN.out (by trivial))
    go_wp2_with fail
    refine bodyPost_ret (v := (Ans.err I 1).val) (by simp [results, Tryz.results173, go_sem, Ans.val, c0, c1, c2, c3, c4]) rfl ⟨by rw [HE.out], ?_⟩
    exact below_put5 HW.out (Nat.le_refl _) _ _ _ _ _
  | true =>
    go_wp2_with fail
    refine (HF.out _ hcW).mono ?_
    rintro e w2 ⟨rfl, rfl⟩
    cases fb with
    | false =>
      have HE := Lib.hid (HN2.out (by trivial) (by trivial))
      go_wp2_with fail
      refine bodyPost_ret (v := (Ans.err F 1).val) (by simp [results, Tryz.results173, go_sem, Ans.val, c0, c1, c2, c3, c4]) rfl ⟨by rw [HE.out], ?_⟩
      exact below_put5 HW.out (Nat.le_refl _) _ _ _ _ _
    | true =>
      go_wp2_with fail
      refine (HX.out _ hcW).mono ?_
      rintro e w2 ⟨rfl, rfl⟩
      cases xb with
      | false =>
        have HE := Lib.hid (HN3.out (by trivial) (by trivial) (by trivial))
        go_wp2_with fail
        refine bodyPost_ret (v := (Ans.err X 1).val) (by simp [results, Tryz.results173, go_sem, Ans.val, c0, c1, c2, c3, c4]) rfl ⟨by rw [HE.out], ?_⟩
        exact below_put5 HW.out (Nat.le_refl _) _ _ _ _ _
      | true =>
        by_cases hlt : I < X
        · have HE := Lib.hid (HN4.out (by trivial) (by trivial) (by trivial) hlt)
          have u1 : decide ((X : Int) > (I : Int)) = true := decide_eq_true (by omega)
          have u2 : decide ((I : Int) < (X : Int)) = true := decide_eq_true (by omega)
          have u3 : decide (I < X) = true := decide_eq_true hlt
          go_wp2_with fail
          refine bodyPost_ret (v := (Ans.err a 4).val) (by simp [results, Tryz.results173, go_sem, Ans.val, c0, c1, c2, c3, c4]) rfl ⟨by rw [HE.out], ?_⟩
          exact below_put5 HW.out (Nat.le_refl _) _ _ _ _ _
        · have u1 : decide ((X : Int) > (I : Int)) = false := decide_eq_false (by omega)
          have u2 : decide ((I : Int) < (X : Int)) = false := decide_eq_false (by omega)
          have u3 : decide (I < X) = false := decide_eq_false hlt
          have hg := HG.out (by trivial)
          have HS := Lib.hid hg.1
          by_cases h64 : Tk.In64 (De.numL (s.extract a I).data.toList)
          · have HE := Lib.hid (HN6.out (by trivial) (by trivial) (by trivial) hlt h64)
            have HK := Lib.hid (show In64 (De.numL (s.extract a I).data.toList) from ⟨h64.1, h64.2⟩)
            clear hg h64 HN HN2 HN3 HN4 HN5 HN6 HG
            go_wp2_with fail
            refine (W2.parse_ok _ _ (by omega) HS.out HK.out).mono ?_
            rintro e w3 ⟨rfl, hb3⟩
            have HW3 := Lib.hid (HW.out.trans (hb3.mono HW.out.size))
            have hB3 := HB.out.onto hb3
            have d0 := hB3.cell 0
            have d1 := hB3.cell 1
            have d2 := hB3.cell 2
            have d3 := hB3.cell 3
            have d4 := hB3.cell 4
            have e0 := hB3.free 0
            have e1 := hB3.free 1
            have e2 := hB3.free 2
            have e3 := hB3.free 3
            have e4 := hB3.free 4
            clear hb3 hB3
            generalize De.numL (s.extract a I).data.toList = n at *
            go_wp2_with fail
            refine bodyPost_ret (v := (Ans.tok ⟨3, nix, n, a, I⟩).val) (by simp [results, Tryz.results173, go_sem, Ans.val, nix, d0, d1, d2, d3, d4]) rfl ⟨by rw [HE.out], ?_⟩
            exact below_put5 HW3.out (Nat.le_refl _) _ _ _ _ _
          · have HE := Lib.hid (HN5.out (by trivial) (by trivial) (by trivial) hlt h64)
            have HK := Lib.hid (show ¬ In64 (De.numL (s.extract a I).data.toList) from fun h => h64 ⟨h.1, h.2⟩)
            clear hg h64 HN HN2 HN3 HN4 HN5 HN6 HG
            obtain ⟨tp, pv, hrv⟩ := HR.out
            have HRV := Lib.hid hrv
            clear hrv
            go_wp2_with fail
            refine (W2.parse_far _ tp pv _ (by omega) HS.out HK.out HRV.out).mono ?_
            rintro e w3 ⟨rfl, hb3⟩
            have HW3 := Lib.hid (HW.out.trans (hb3.mono HW.out.size))
            have hB3 := HB.out.onto hb3
            have d0 := hB3.cell 0
            have d1 := hB3.cell 1
            have d2 := hB3.cell 2
            have d3 := hB3.cell 3
            have d4 := hB3.cell 4
            have e0 := hB3.free 0
            have e1 := hB3.free 1
            have e2 := hB3.free 2
            have e3 := hB3.free 3
            have e4 := hB3.free 4
            clear hb3 hB3
            go_wp2_with fail
            refine bodyPost_ret (v := (Ans.err a 4).val) (by simp [results, Tryz.results173, go_sem, Ans.val, d0, d1, d2, d3, d4]) rfl ⟨by rw [HE.out], ?_⟩
            exact below_put5 HW3.out (Nat.le_refl _) _ _ _ _ _
end Go.Proofs.YtfiahpeajccinaaGreatDoor
namespace Go.Proofs.YtfiahpeajccinaaGreatDoor
open Go.RowKit
open Tk
set_option linter.unusedVariables false

def blankB : ByteArray := ⟨#[32, 9, 10, 13]⟩
theorem blank_has (c : UInt8) : blankB.data.toList.contains c = isBl c.toNat := by
  show List.contains [32, 9, 10, 13] c = _
  have key : ∀ k : UInt8, (c == k) = (c.toNat == k.toNat) := by
    intro k
    by_cases h : c = k
    · rw [h]; simp
    · have : c.toNat ≠ k.toNat := fun e => h (UInt8.toNat_inj.1 e)
      rw [beq_eq_false_iff_ne.2 h, beq_eq_false_iff_ne.2 this]
  simp only [List.contains_cons, List.contains_nil, key, Bool.or_false, isBl]
  simp [Bool.or_assoc]
theorem trim_span (s : ByteArray) (i : Nat) (hi : i ≤ s.size) : Lib.trimLeftS (s.extract i s.size).data.toList blankB.data.toList = s.data.toList.drop (span isBl s i) := by
  rw [show (s.extract i s.size).data.toList = (s.data.toList.drop i).take (s.size - i) from sub_list s i s.size]
  rw [List.take_of_length_le (by rw [List.length_drop, size_toList]; exact Nat.le_refl _)]
  have h1 := span_ge isBl s i
  have h2 := span_le isBl hi
  have hg : ∀ (k : Nat) (b : UInt8), s.data.toList[k]? = some b → b.toNat = bt s k := by
    intro k b hk
    unfold bt
    rw [List.getD_eq_getElem?_getD, hk]; rfl
  rw [Lib.trimLeftS_drop _ _ (span isBl s i - i) (by rw [List.length_drop, size_toList]; omega) ?_ ?_, List.drop_drop]
  · congr 1; omega
  · intro j b hj hb
    rw [List.getElem?_drop] at hb
    rw [blank_has, hg _ _ hb]
    exact span_in (i := i) (by omega) (by omega)
  · intro b hb
    rw [List.getElem?_drop, show i + (span isBl s i - i) = span isBl s i by omega] at hb
    rw [blank_has, hg _ _ hb]
    apply span_out
    rcases Nat.lt_or_ge (span isBl s i) s.size with h | h
    · exact h
    · rw [List.getElem?_eq_none (by rw [size_toList]; exact h)] at hb; cases hb
theorem trim_any (s : ByteArray) (i : Nat) (hi : i ≤ s.size) (w : World) :
    Calls Tryz.prog 127 #[.string (s.extract i s.size), .string blankB] w fun e w' => e = .returned (.string ⟨(s.data.toList.drop (span isBl s i)).toArray⟩) ∧ Below w.heap.size w w' := by
  have h := Any.strings_TrimLeft_laid Tryz.lays161 (by kernel_rfl) (s.extract i s.size) blankB w (by decide) (by
    intro j b hj
    have : b ∈ [32, 9, 10, 13] := List.mem_of_getElem? hj
    simp at this
    rcases this with rfl | rfl | rfl | rfl <;> decide)
  rw [trim_span s i hi] at h
  exact h
set_option maxRecDepth 100000 in
set_option maxHeartbeats 2000000 in
theorem blanks_any5 (b : Nat) (s : ByteArray) (i : Nat) (w : World) (hs : s.size ≤ 1000000) (hc : w.cell? ⟨b, 0, none⟩ = some (.string s)) (hc2 : w.cell? ⟨b, 1, none⟩ = some (.int .i64 i)) (hi : i ≤ s.size) : Calls Tryz.prog 148 #[.pointer (some ⟨b, 0, none⟩)] w fun e w' => e = .returned (.int .i64 (span isBl s i : Nat)) ∧ Below w.heap.size w w' := by
  have i2 : (0 : Int) ≤ (i : Int) := by omega
  have i1 : (i : Int) ≤ (s.size : Int) := by omega
  have hz := span_le isBl hi
  have HC := Lib.hid (fun w1 : World => trim_any s i hi w1)
  have hsz : (⟨(s.data.toList.drop (span isBl s i)).toArray⟩ : ByteArray).size = s.size - span isBl s i := by
    show (s.data.toList.drop (span isBl s i)).toArray.size = _
    rw [List.size_toArray, List.length_drop, size_toList]
  generalize (⟨(s.data.toList.drop (span isBl s i)).toArray⟩ : ByteArray) = t at *
  generalize span isBl s i = q at *
  have hbl : b < w.heap.size := by
    rcases Nat.lt_or_ge b w.heap.size with h | h
    · exact h
    · unfold World.cell? at hc; rw [Array.getElem?_eq_none h] at hc; cases hc
  go_enter Tryz.func148, Tryz.ntmps148
  go_wp2_with fail
  have HBW := Lib.hid (Below.refl w.heap.size w)
  have e1 : IntKind.i64.wrap ((s.size : Int) - (t.size : Int)) = (q : Int) := by rw [hsz]; rw [IntWalk.i64_in _ (by omega)]; omega
  clear hz hsz
  go_region_held3 (fun w' => w'.cell? ⟨b, 0, none⟩ = some (.string s) ∧ w'.cell? ⟨b, 1, none⟩ = some (.int .i64 i))
    (go_keep)
    (first
      | (go_at_call 127; refine (HC.out _).mono ?_
         rintro e w2 ⟨rfl, hb2⟩
         have hb3 : Below w.heap.size w w2 := (Below.refl w.heap.size w).drew.trans hb2
         have k0 : w2.cell? ⟨b, 0, none⟩ = some (.string s) := (hb3.cell (p := ⟨b, 0, none⟩) hbl).trans hc
         have k1 : w2.cell? ⟨b, 1, none⟩ = some (.int .i64 i) := (hb3.cell (p := ⟨b, 1, none⟩) hbl).trans hc2
         have HB3 := Lib.hid hb3
         clear hb2 hb3))
  go_wp2_with fail
  go_ret
  exact ⟨rfl, HB3.out⟩
end Go.Proofs.YtfiahpeajccinaaGreatDoor
namespace Go.Proofs.YtfiahpeajccinaaGreatDoor
open Go.RowKit
open Tk
set_option linter.unusedVariables false

theorem wordE_stop {s : ByteArray} {c : Nat} {r : List Nat} {i : Nat} (h : bt s i ≠ c) : wordE s (c :: r) i = i := by unfold wordE; rw [if_neg h]
theorem wordE_go {s : ByteArray} {c : Nat} {r : List Nat} {i : Nat} (h : bt s i = c) : wordE s (c :: r) i = wordE s r (i + 1) := by rw [wordE, if_pos h]
theorem word_ok {s : ByteArray} {a : Nat} {L : List Nat} {k : Int} (h1 : wordOf (bt s a) = L) (h2 : kindOf (bt s a) = k) (h : wordE s L a = a + L.length) : wordAns s a = .tok ⟨k, nix, 0, a, a + L.length⟩ := by unfold wordAns; rw [h1, h2, if_pos h]
theorem word_no {s : ByteArray} {a : Nat} {L : List Nat} (h1 : wordOf (bt s a) = L) {p : Nat} (h : wordE s L a = p) (hp : p < a + L.length) : wordAns s a = .err p 1 := by unfold wordAns; rw [h1, h, if_neg (by omega)]
theorem drop_at (L : List Nat) (k : Nat) (h : k < L.length) : L.drop k = L.getD k 0 :: L.drop (k + 1) := by
  rw [List.drop_eq_getElem_cons h, List.getD_eq_getElem?_getD, List.getElem?_eq_getElem h]; rfl
def wt : List Nat := [116, 114, 117, 101]
def wf : List Nat := [102, 97, 108, 115, 101]
def wn : List Nat := [110, 117, 108, 108]
theorem word_bd (L : List Nat) (h : L = wt ∨ L = wf ∨ L = wn) (k : Nat) (hk : k < L.length) : 0 < L.getD k 0 ∧ L.getD k 0 < 256 := by
  rcases h with rfl | rfl | rfl
  · rcases (by simp [wt] at hk; omega : k = 0 ∨ k = 1 ∨ k = 2 ∨ k = 3) with rfl | rfl | rfl | rfl <;> decide
  · rcases (by simp [wf] at hk; omega : k = 0 ∨ k = 1 ∨ k = 2 ∨ k = 3 ∨ k = 4) with rfl | rfl | rfl | rfl | rfl <;> decide
  · rcases (by simp [wn] at hk; omega : k = 0 ∨ k = 1 ∨ k = 2 ∨ k = 3) with rfl | rfl | rfl | rfl <;> decide
set_option maxRecDepth 100000 in
set_option maxHeartbeats 4000000 in
theorem word_t (b : Nat) (s : ByteArray) (a : Nat) (w : World) (hs : s.size ≤ 90000) (hc : w.cell? ⟨b, 0, none⟩ = some (.string s)) (ha : a < s.size) (hk : bt s a = 116) : Calls Tryz.prog 174 #[.pointer (some ⟨b, 0, none⟩), .int .i64 a] w fun e w' => e = .returned (wordAns s a).val ∧ Below w.heap.size w w' := by
  have hb := cell_lt5 hc
  have hx := bt_at s a ha
  have HO := Lib.hid (fun h => word_ok (s := s) (a := a) (L := wt) (k := 4) (by rw [hk]; rfl) (by rw [hk]; rfl) h)
  have HN := Lib.hid (fun p h hp => word_no (s := s) (a := a) (L := wt) (by rw [hk]; rfl) (p := p) h hp)
  have HL := Lib.hid (word_bd wt (by simp))
  have HD := Lib.hid (drop_at wt)
  have hn : wt.length = 4 := rfl
  have i1 : (a : Int) < (s.size : Int) := by omega
  have i2 : (0 : Int) ≤ (a : Int) := by omega
  have v : (s[a].toNat : Int) = 116 := by omega
  have v0 : ((s[a].toNat : Int) == 116) = true := beq_iff_eq.2 v
  generalize hres : wordAns s a = res at *
  clear hx hres hk
  go_enter Tryz.func174, Tryz.ntmps174
  go_upto_region 8 with fail
  have hB : Blk (w.alloc (.cells #[.int .i64 0, .string ⟨#[]⟩, .int .i64 0, .int .i64 0, .int .i64 0] 168)) w.heap.size 168 #[.int .i64 0, .string ⟨#[]⟩, .int .i64 0, .int .i64 0, .int .i64 0] := Blk.new w _ _
  have hW : Below w.heap.size w (w.alloc (.cells #[.int .i64 0, .string ⟨#[]⟩, .int .i64 0, .int .i64 0, .int .i64 0] 168)) := (Below.refl _ _).alloc (Nat.le_refl _) _
  change Code.wp _ _ _ _ (w.alloc (.cells #[.int .i64 0, .string ⟨#[]⟩, .int .i64 0, .int .i64 0, .int .i64 0] 168))
  generalize (w.alloc (.cells #[.int .i64 0, .string ⟨#[]⟩, .int .i64 0, .int .i64 0, .int .i64 0] 168)) = W at *
  have hcv := Lib.run_convert_string_bytes (P := Tryz.prog) W 9 72 5 (⟨#[116, 114, 117, 101]⟩ : ByteArray) (u := .string) Tryz.underlying9 Tryz.underlying72 Tryz.underlying5
  have hbc : ∀ k, k < wt.length → (Lib.bytesWorld W 5 (⟨#[116, 114, 117, 101]⟩ : ByteArray)).cell? ⟨W.heap.size, k, none⟩ = some (.int .u8 (wt.getD k 0 : Nat)) := fun k hk => by
    rw [Lib.bytesWorld_cell W 5 (⟨#[116, 114, 117, 101]⟩ : ByteArray) k (show k < 4 by rw [hn] at hk; exact hk)]
    have : ((⟨#[116, 114, 117, 101]⟩ : ByteArray).data.toList.getD k 0).toNat = wt.getD k 0 := by
      rw [hn] at hk
      rcases (by omega : k = 0 ∨ k = 1 ∨ k = 2 ∨ k = 3) with rfl | rfl | rfl | rfl <;> rfl
    rw [this]
  have hB1 := hB.onto (Lib.bytesWorld_below W 5 (⟨#[116, 114, 117, 101]⟩ : ByteArray))
  have hW1 := hW.trans ((Lib.bytesWorld_below W 5 (⟨#[116, 114, 117, 101]⟩ : ByteArray)).mono hW.size)
  have hsz : (⟨#[116, 114, 117, 101]⟩ : ByteArray).size = 4 := rfl
  rw [hsz] at hcv
  generalize grownCap W 4 0 5 = cap at hcv
  generalize Lib.bytesWorld W 5 (⟨#[116, 114, 117, 101]⟩ : ByteArray) = W1 at *
  generalize W.heap.size = G at *
  have hc1 : W1.cell? ⟨b, 0, none⟩ = some (.string s) := (hW1.cell (p := ⟨b, 0, none⟩) hb).trans hc
  have HW := Lib.hid hW1
  have HC := Lib.hid hbc
  have c0 := hB1.cell 0
  have c1 := hB1.cell 1
  have c2 := hB1.cell 2
  have c3 := hB1.cell 3
  have c4 := hB1.cell 4
  have f0 := hB1.free 0
  have f1 := hB1.free 1
  have f2 := hB1.free 2
  have f3 := hB1.free 3
  have f4 := hB1.free 4
  clear hW hW1 hB hB1 hbc hsz hc
  go_wp2_with fail
  go_loop [9, 26] (fun x y => ∃ k : Nat, k ≤ 4 ∧ a + k ≤ s.size ∧ wordE s wt a = wordE s (wt.drop k) (a + k) ∧ x = .int .i64 (a + k : Nat) ∧ y = .int .i64 k) (fun x y => 4 - (intOf y).toNat)
  case atStart => exact ⟨0, by omega, by omega, rfl, rfl, rfl⟩
  case round =>
    obtain ⟨k, h1, h2, h3, rfl, rfl⟩ := hrel
    have H3 := Lib.hid h3
    clear h3
    by_cases hlt : k < 4
    · have t1 : (k : Int) < 4 := by omega
      have t2 : decide ((k : Int) < 4) = true := decide_eq_true t1
      have t3 : (0 : Int) ≤ (k : Int) := by omega
      have hck := HC.out k (by rw [hn]; exact hlt)
      have hdr := HD.out k (by rw [hn]; exact hlt)
      have hbd := HL.out k (by rw [hn]; exact hlt)
      generalize wt.getD k 0 = ch at *
      have HDR := Lib.hid hdr
      clear hdr
      generalize hq : a + k = q at *
      have i3 : (0 : Int) ≤ (q : Int) := by omega
      by_cases hqs : q < s.size
      · have u1 : (q : Int) < (s.size : Int) := by omega
        have u2 : ((q : Int) == (s.size : Int)) = false := by rw [beq_eq_false_iff_ne]; omega
        have u3 : ¬ (q : Int) = (s.size : Int) := by omega
        have hy := bt_at s q hqs
        by_cases hh : bt s q = ch
        · have v1 : (s[q].toNat : Int) = (ch : Int) := by omega
          have v2 : ((s[q].toNat : Int) != (ch : Int)) = false := by simp [v1]
          have HG := Lib.hid (show wordE s wt a = wordE s (wt.drop (k + 1)) (q + 1) by rw [H3.out, HDR.out, wordE_go hh])
          clear hy hh
          go_wp2_with fail
          go_round
          case rel => exact ⟨k + 1, hlt, by omega, by rw [HG.out]; congr 1; omega, by go_num, by go_num⟩
          case measure => simp [intOf]; omega
        · have v1 : ¬ (s[q].toNat : Int) = (ch : Int) := by omega
          have v2 : ((s[q].toNat : Int) != (ch : Int)) = true := by simp [v1]
          have HE := Lib.hid (HN.out q (by rw [H3.out, HDR.out, wordE_stop hh]) (by rw [hn]; omega))
          clear hy hh
          go_wp2_with fail
          refine bodyPost_ret (v := (Ans.err q 1).val) (by simp [results, Tryz.results174, go_sem, Ans.val, c0, c1, c2, c3, c4]) rfl ⟨by rw [HE.out], ?_⟩
          exact below_put5 HW.out (Nat.le_refl _) _ _ _ _ _
      · obtain rfl : q = s.size := by omega
        have u2 : ((s.size : Int) == (s.size : Int)) = true := by simp
        have HE := Lib.hid (HN.out s.size (by rw [H3.out, HDR.out, wordE_stop (by rw [bt_end (Nat.le_refl _)]; omega)]) (by rw [hn]; omega))
        go_wp2_with fail
        refine bodyPost_ret (v := (Ans.err s.size 1).val) (by simp [results, Tryz.results174, go_sem, Ans.val, c0, c1, c2, c3, c4]) rfl ⟨by rw [HE.out], ?_⟩
        exact below_put5 HW.out (Nat.le_refl _) _ _ _ _ _
    · obtain rfl : k = 4 := by omega
      have HE := Lib.hid (show res = Ans.tok ⟨4, nix, 0, a, a + 4⟩ from HO.out (by rw [H3.out]; rfl))
      go_wp2_with fail
      refine bodyPost_ret (v := (Ans.tok ⟨4, nix, 0, a, a + 4⟩).val) (by simp [results, Tryz.results174, go_sem, Ans.val, nix, c0, c1, c2, c3, c4]) rfl ⟨by rw [HE.out], ?_⟩
      exact below_put5 HW.out (Nat.le_refl _) _ _ _ _ _
set_option maxRecDepth 100000 in
set_option maxHeartbeats 4000000 in
theorem word_f (b : Nat) (s : ByteArray) (a : Nat) (w : World) (hs : s.size ≤ 90000) (hc : w.cell? ⟨b, 0, none⟩ = some (.string s)) (ha : a < s.size) (hk : bt s a = 102) : Calls Tryz.prog 174 #[.pointer (some ⟨b, 0, none⟩), .int .i64 a] w fun e w' => e = .returned (wordAns s a).val ∧ Below w.heap.size w w' := by
  have hb := cell_lt5 hc
  have hx := bt_at s a ha
  have HO := Lib.hid (fun h => word_ok (s := s) (a := a) (L := wf) (k := 5) (by rw [hk]; rfl) (by rw [hk]; rfl) h)
  have HN := Lib.hid (fun p h hp => word_no (s := s) (a := a) (L := wf) (by rw [hk]; rfl) (p := p) h hp)
  have HL := Lib.hid (word_bd wf (by simp))
  have HD := Lib.hid (drop_at wf)
  have hn : wf.length = 5 := rfl
  have i1 : (a : Int) < (s.size : Int) := by omega
  have i2 : (0 : Int) ≤ (a : Int) := by omega
  have v : (s[a].toNat : Int) = 102 := by omega
  have v0 : ((s[a].toNat : Int) == 116) = false := by rw [v]; rfl
  have v9 : ((s[a].toNat : Int) == 102) = true := beq_iff_eq.2 v
  generalize hres : wordAns s a = res at *
  clear hx hres hk
  go_enter Tryz.func174, Tryz.ntmps174
  go_upto_region 8 with fail
  have hB : Blk (w.alloc (.cells #[.int .i64 0, .string ⟨#[]⟩, .int .i64 0, .int .i64 0, .int .i64 0] 168)) w.heap.size 168 #[.int .i64 0, .string ⟨#[]⟩, .int .i64 0, .int .i64 0, .int .i64 0] := Blk.new w _ _
  have hW : Below w.heap.size w (w.alloc (.cells #[.int .i64 0, .string ⟨#[]⟩, .int .i64 0, .int .i64 0, .int .i64 0] 168)) := (Below.refl _ _).alloc (Nat.le_refl _) _
  change Code.wp _ _ _ _ (w.alloc (.cells #[.int .i64 0, .string ⟨#[]⟩, .int .i64 0, .int .i64 0, .int .i64 0] 168))
  generalize (w.alloc (.cells #[.int .i64 0, .string ⟨#[]⟩, .int .i64 0, .int .i64 0, .int .i64 0] 168)) = W at *
  have hcv := Lib.run_convert_string_bytes (P := Tryz.prog) W 9 72 5 (⟨#[102, 97, 108, 115, 101]⟩ : ByteArray) (u := .string) Tryz.underlying9 Tryz.underlying72 Tryz.underlying5
  have hbc : ∀ k, k < wf.length → (Lib.bytesWorld W 5 (⟨#[102, 97, 108, 115, 101]⟩ : ByteArray)).cell? ⟨W.heap.size, k, none⟩ = some (.int .u8 (wf.getD k 0 : Nat)) := fun k hk => by
    rw [Lib.bytesWorld_cell W 5 (⟨#[102, 97, 108, 115, 101]⟩ : ByteArray) k (show k < 5 by rw [hn] at hk; exact hk)]
    have : ((⟨#[102, 97, 108, 115, 101]⟩ : ByteArray).data.toList.getD k 0).toNat = wf.getD k 0 := by
      rw [hn] at hk
      rcases (by omega : k = 0 ∨ k = 1 ∨ k = 2 ∨ k = 3 ∨ k = 4) with rfl | rfl | rfl | rfl | rfl <;> rfl
    rw [this]
  have hB1 := hB.onto (Lib.bytesWorld_below W 5 (⟨#[102, 97, 108, 115, 101]⟩ : ByteArray))
  have hW1 := hW.trans ((Lib.bytesWorld_below W 5 (⟨#[102, 97, 108, 115, 101]⟩ : ByteArray)).mono hW.size)
  have hsz : (⟨#[102, 97, 108, 115, 101]⟩ : ByteArray).size = 5 := rfl
  rw [hsz] at hcv
  generalize grownCap W 5 0 5 = cap at hcv
  generalize Lib.bytesWorld W 5 (⟨#[102, 97, 108, 115, 101]⟩ : ByteArray) = W1 at *
  generalize W.heap.size = G at *
  have hc1 : W1.cell? ⟨b, 0, none⟩ = some (.string s) := (hW1.cell (p := ⟨b, 0, none⟩) hb).trans hc
  have HW := Lib.hid hW1
  have HC := Lib.hid hbc
  have c0 := hB1.cell 0
  have c1 := hB1.cell 1
  have c2 := hB1.cell 2
  have c3 := hB1.cell 3
  have c4 := hB1.cell 4
  have f0 := hB1.free 0
  have f1 := hB1.free 1
  have f2 := hB1.free 2
  have f3 := hB1.free 3
  have f4 := hB1.free 4
  clear hW hW1 hB hB1 hbc hsz hc
  go_wp2_with fail
  go_loop [9, 26] (fun x y => ∃ k : Nat, k ≤ 5 ∧ a + k ≤ s.size ∧ wordE s wf a = wordE s (wf.drop k) (a + k) ∧ x = .int .i64 (a + k : Nat) ∧ y = .int .i64 k) (fun x y => 5 - (intOf y).toNat)
  case atStart => exact ⟨0, by omega, by omega, rfl, rfl, rfl⟩
  case round =>
    obtain ⟨k, h1, h2, h3, rfl, rfl⟩ := hrel
    have H3 := Lib.hid h3
    clear h3
    by_cases hlt : k < 5
    · have t1 : (k : Int) < 5 := by omega
      have t2 : decide ((k : Int) < 5) = true := decide_eq_true t1
      have t3 : (0 : Int) ≤ (k : Int) := by omega
      have hck := HC.out k (by rw [hn]; exact hlt)
      have hdr := HD.out k (by rw [hn]; exact hlt)
      have hbd := HL.out k (by rw [hn]; exact hlt)
      generalize wf.getD k 0 = ch at *
      have HDR := Lib.hid hdr
      clear hdr
      generalize hq : a + k = q at *
      have i3 : (0 : Int) ≤ (q : Int) := by omega
      by_cases hqs : q < s.size
      · have u1 : (q : Int) < (s.size : Int) := by omega
        have u2 : ((q : Int) == (s.size : Int)) = false := by rw [beq_eq_false_iff_ne]; omega
        have u3 : ¬ (q : Int) = (s.size : Int) := by omega
        have hy := bt_at s q hqs
        by_cases hh : bt s q = ch
        · have v1 : (s[q].toNat : Int) = (ch : Int) := by omega
          have v2 : ((s[q].toNat : Int) != (ch : Int)) = false := by simp [v1]
          have HG := Lib.hid (show wordE s wf a = wordE s (wf.drop (k + 1)) (q + 1) by rw [H3.out, HDR.out, wordE_go hh])
          clear hy hh
          go_wp2_with fail
          go_round
          case rel => exact ⟨k + 1, hlt, by omega, by rw [HG.out]; congr 1; omega, by go_num, by go_num⟩
          case measure => simp [intOf]; omega
        · have v1 : ¬ (s[q].toNat : Int) = (ch : Int) := by omega
          have v2 : ((s[q].toNat : Int) != (ch : Int)) = true := by simp [v1]
          have HE := Lib.hid (HN.out q (by rw [H3.out, HDR.out, wordE_stop hh]) (by rw [hn]; omega))
          clear hy hh
          go_wp2_with fail
          refine bodyPost_ret (v := (Ans.err q 1).val) (by simp [results, Tryz.results174, go_sem, Ans.val, c0, c1, c2, c3, c4]) rfl ⟨by rw [HE.out], ?_⟩
          exact below_put5 HW.out (Nat.le_refl _) _ _ _ _ _
      · obtain rfl : q = s.size := by omega
        have u2 : ((s.size : Int) == (s.size : Int)) = true := by simp
        have HE := Lib.hid (HN.out s.size (by rw [H3.out, HDR.out, wordE_stop (by rw [bt_end (Nat.le_refl _)]; omega)]) (by rw [hn]; omega))
        go_wp2_with fail
        refine bodyPost_ret (v := (Ans.err s.size 1).val) (by simp [results, Tryz.results174, go_sem, Ans.val, c0, c1, c2, c3, c4]) rfl ⟨by rw [HE.out], ?_⟩
        exact below_put5 HW.out (Nat.le_refl _) _ _ _ _ _
    · obtain rfl : k = 5 := by omega
      have HE := Lib.hid (show res = Ans.tok ⟨5, nix, 0, a, a + 5⟩ from HO.out (by rw [H3.out]; rfl))
      go_wp2_with fail
      refine bodyPost_ret (v := (Ans.tok ⟨5, nix, 0, a, a + 5⟩).val) (by simp [results, Tryz.results174, go_sem, Ans.val, nix, c0, c1, c2, c3, c4]) rfl ⟨by rw [HE.out], ?_⟩
      exact below_put5 HW.out (Nat.le_refl _) _ _ _ _ _
set_option maxRecDepth 100000 in
set_option maxHeartbeats 4000000 in
theorem word_n (b : Nat) (s : ByteArray) (a : Nat) (w : World) (hs : s.size ≤ 90000) (hc : w.cell? ⟨b, 0, none⟩ = some (.string s)) (ha : a < s.size) (hk : bt s a = 110) : Calls Tryz.prog 174 #[.pointer (some ⟨b, 0, none⟩), .int .i64 a] w fun e w' => e = .returned (wordAns s a).val ∧ Below w.heap.size w w' := by
  have hb := cell_lt5 hc
  have hx := bt_at s a ha
  have HO := Lib.hid (fun h => word_ok (s := s) (a := a) (L := wn) (k := 6) (by rw [hk]; rfl) (by rw [hk]; rfl) h)
  have HN := Lib.hid (fun p h hp => word_no (s := s) (a := a) (L := wn) (by rw [hk]; rfl) (p := p) h hp)
  have HL := Lib.hid (word_bd wn (by simp))
  have HD := Lib.hid (drop_at wn)
  have hn : wn.length = 4 := rfl
  have i1 : (a : Int) < (s.size : Int) := by omega
  have i2 : (0 : Int) ≤ (a : Int) := by omega
  have v : (s[a].toNat : Int) = 110 := by omega
  have v0 : ((s[a].toNat : Int) == 116) = false := by rw [v]; rfl
  have v9 : ((s[a].toNat : Int) == 102) = false := by rw [v]; rfl
  generalize hres : wordAns s a = res at *
  clear hx hres hk
  go_enter Tryz.func174, Tryz.ntmps174
  go_upto_region 8 with fail
  have hB : Blk (w.alloc (.cells #[.int .i64 0, .string ⟨#[]⟩, .int .i64 0, .int .i64 0, .int .i64 0] 168)) w.heap.size 168 #[.int .i64 0, .string ⟨#[]⟩, .int .i64 0, .int .i64 0, .int .i64 0] := Blk.new w _ _
  have hW : Below w.heap.size w (w.alloc (.cells #[.int .i64 0, .string ⟨#[]⟩, .int .i64 0, .int .i64 0, .int .i64 0] 168)) := (Below.refl _ _).alloc (Nat.le_refl _) _
  change Code.wp _ _ _ _ (w.alloc (.cells #[.int .i64 0, .string ⟨#[]⟩, .int .i64 0, .int .i64 0, .int .i64 0] 168))
  generalize (w.alloc (.cells #[.int .i64 0, .string ⟨#[]⟩, .int .i64 0, .int .i64 0, .int .i64 0] 168)) = W at *
  have hcv := Lib.run_convert_string_bytes (P := Tryz.prog) W 9 72 5 (⟨#[110, 117, 108, 108]⟩ : ByteArray) (u := .string) Tryz.underlying9 Tryz.underlying72 Tryz.underlying5
  have hbc : ∀ k, k < wn.length → (Lib.bytesWorld W 5 (⟨#[110, 117, 108, 108]⟩ : ByteArray)).cell? ⟨W.heap.size, k, none⟩ = some (.int .u8 (wn.getD k 0 : Nat)) := fun k hk => by
    rw [Lib.bytesWorld_cell W 5 (⟨#[110, 117, 108, 108]⟩ : ByteArray) k (show k < 4 by rw [hn] at hk; exact hk)]
    have : ((⟨#[110, 117, 108, 108]⟩ : ByteArray).data.toList.getD k 0).toNat = wn.getD k 0 := by
      rw [hn] at hk
      rcases (by omega : k = 0 ∨ k = 1 ∨ k = 2 ∨ k = 3) with rfl | rfl | rfl | rfl <;> rfl
    rw [this]
  have hB1 := hB.onto (Lib.bytesWorld_below W 5 (⟨#[110, 117, 108, 108]⟩ : ByteArray))
  have hW1 := hW.trans ((Lib.bytesWorld_below W 5 (⟨#[110, 117, 108, 108]⟩ : ByteArray)).mono hW.size)
  have hsz : (⟨#[110, 117, 108, 108]⟩ : ByteArray).size = 4 := rfl
  rw [hsz] at hcv
  generalize grownCap W 4 0 5 = cap at hcv
  generalize Lib.bytesWorld W 5 (⟨#[110, 117, 108, 108]⟩ : ByteArray) = W1 at *
  generalize W.heap.size = G at *
  have hc1 : W1.cell? ⟨b, 0, none⟩ = some (.string s) := (hW1.cell (p := ⟨b, 0, none⟩) hb).trans hc
  have HW := Lib.hid hW1
  have HC := Lib.hid hbc
  have c0 := hB1.cell 0
  have c1 := hB1.cell 1
  have c2 := hB1.cell 2
  have c3 := hB1.cell 3
  have c4 := hB1.cell 4
  have f0 := hB1.free 0
  have f1 := hB1.free 1
  have f2 := hB1.free 2
  have f3 := hB1.free 3
  have f4 := hB1.free 4
  clear hW hW1 hB hB1 hbc hsz hc
  go_wp2_with fail
  go_loop [9, 26] (fun x y => ∃ k : Nat, k ≤ 4 ∧ a + k ≤ s.size ∧ wordE s wn a = wordE s (wn.drop k) (a + k) ∧ x = .int .i64 (a + k : Nat) ∧ y = .int .i64 k) (fun x y => 4 - (intOf y).toNat)
  case atStart => exact ⟨0, by omega, by omega, rfl, rfl, rfl⟩
  case round =>
    obtain ⟨k, h1, h2, h3, rfl, rfl⟩ := hrel
    have H3 := Lib.hid h3
    clear h3
    by_cases hlt : k < 4
    · have t1 : (k : Int) < 4 := by omega
      have t2 : decide ((k : Int) < 4) = true := decide_eq_true t1
      have t3 : (0 : Int) ≤ (k : Int) := by omega
      have hck := HC.out k (by rw [hn]; exact hlt)
      have hdr := HD.out k (by rw [hn]; exact hlt)
      have hbd := HL.out k (by rw [hn]; exact hlt)
      generalize wn.getD k 0 = ch at *
      have HDR := Lib.hid hdr
      clear hdr
      generalize hq : a + k = q at *
      have i3 : (0 : Int) ≤ (q : Int) := by omega
      by_cases hqs : q < s.size
      · have u1 : (q : Int) < (s.size : Int) := by omega
        have u2 : ((q : Int) == (s.size : Int)) = false := by rw [beq_eq_false_iff_ne]; omega
        have u3 : ¬ (q : Int) = (s.size : Int) := by omega
        have hy := bt_at s q hqs
        by_cases hh : bt s q = ch
        · have v1 : (s[q].toNat : Int) = (ch : Int) := by omega
          have v2 : ((s[q].toNat : Int) != (ch : Int)) = false := by simp [v1]
          have HG := Lib.hid (show wordE s wn a = wordE s (wn.drop (k + 1)) (q + 1) by rw [H3.out, HDR.out, wordE_go hh])
          clear hy hh
          go_wp2_with fail
          go_round
          case rel => exact ⟨k + 1, hlt, by omega, by rw [HG.out]; congr 1; omega, by go_num, by go_num⟩
          case measure => simp [intOf]; omega
        · have v1 : ¬ (s[q].toNat : Int) = (ch : Int) := by omega
          have v2 : ((s[q].toNat : Int) != (ch : Int)) = true := by simp [v1]
          have HE := Lib.hid (HN.out q (by rw [H3.out, HDR.out, wordE_stop hh]) (by rw [hn]; omega))
          clear hy hh
          go_wp2_with fail
          refine bodyPost_ret (v := (Ans.err q 1).val) (by simp [results, Tryz.results174, go_sem, Ans.val, c0, c1, c2, c3, c4]) rfl ⟨by rw [HE.out], ?_⟩
          exact below_put5 HW.out (Nat.le_refl _) _ _ _ _ _
      · obtain rfl : q = s.size := by omega
        have u2 : ((s.size : Int) == (s.size : Int)) = true := by simp
        have HE := Lib.hid (HN.out s.size (by rw [H3.out, HDR.out, wordE_stop (by rw [bt_end (Nat.le_refl _)]; omega)]) (by rw [hn]; omega))
        go_wp2_with fail
        refine bodyPost_ret (v := (Ans.err s.size 1).val) (by simp [results, Tryz.results174, go_sem, Ans.val, c0, c1, c2, c3, c4]) rfl ⟨by rw [HE.out], ?_⟩
        exact below_put5 HW.out (Nat.le_refl _) _ _ _ _ _
    · obtain rfl : k = 4 := by omega
      have HE := Lib.hid (show res = Ans.tok ⟨6, nix, 0, a, a + 4⟩ from HO.out (by rw [H3.out]; rfl))
      go_wp2_with fail
      refine bodyPost_ret (v := (Ans.tok ⟨6, nix, 0, a, a + 4⟩).val) (by simp [results, Tryz.results174, go_sem, Ans.val, nix, c0, c1, c2, c3, c4]) rfl ⟨by rw [HE.out], ?_⟩
      exact below_put5 HW.out (Nat.le_refl _) _ _ _ _ _
theorem word_any5 (b : Nat) (s : ByteArray) (a : Nat) (w : World) (hs : s.size ≤ 90000) (hc : w.cell? ⟨b, 0, none⟩ = some (.string s)) (ha : a < s.size) (hk : bt s a = 116 ∨ bt s a = 102 ∨ bt s a = 110) : Calls Tryz.prog 174 #[.pointer (some ⟨b, 0, none⟩), .int .i64 a] w fun e w' => e = .returned (wordAns s a).val ∧ Below w.heap.size w w' := by
  rcases hk with h | h | h
  · exact word_t b s a w hs hc ha h
  · exact word_f b s a w hs hc ha h
  · exact word_n b s a w hs hc ha h
end Go.Proofs.YtfiahpeajccinaaGreatDoor
