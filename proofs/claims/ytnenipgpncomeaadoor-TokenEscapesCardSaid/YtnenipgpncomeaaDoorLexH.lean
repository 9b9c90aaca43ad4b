/- The lexer's reader of a number: its contract. -/
import Derived.Test.YtnenipgpncomeaaDoorLexC
import Derived.Test.YtnenipgpncomeaaDoorParse
import Derived.Test.YtnenipgpncomeaaDoorItoa
namespace Go.Proofs.YtnenipgpncomeaaDoor
open Go.RowKit
open Tk
set_option linter.unusedVariables false

/-- the library's error of a range lies where it lies -/
def RangeErr (w : World) : Prop := ∃ tp p, w.var? Tryd.prog "strconv.ErrRange" = some #[.iface tp p]
theorem RangeErr.on {w w' : World} (h : RangeErr w) (hb : Below w.heap.size w w') : RangeErr w' := by
  obtain ⟨a, b, h1⟩ := h
  exact ⟨a, b, W2.var_on h1 hb⟩
theorem below_put5 {B : Nat} {a w : World} {g : Nat} (h : Below B a w) (hg : B ≤ g) (v0 v1 v2 v3 v4 : Value) :
    Below B a (((((w.setCell ⟨g, 0, none⟩ v0).setCell ⟨g, 1, none⟩ v1).setCell ⟨g, 2, none⟩ v2).setCell ⟨g, 3, none⟩ v3).setCell ⟨g, 4, none⟩ v4) :=
  ((((h.setCell (p := ⟨g, 0, none⟩) hg v0).setCell (p := ⟨g, 1, none⟩) hg v1).setCell (p := ⟨g, 2, none⟩) hg v2).setCell (p := ⟨g, 3, none⟩) hg v3).setCell (p := ⟨g, 4, none⟩) hg v4
def zero5 : Array Value := #[.int .i64 0, .string ⟨#[]⟩, .int .i64 0, .int .i64 0, .int .i64 0]
theorem cell_lt5 {w : World} {b o : Nat} {v : Value} (h : w.cell? ⟨b, o, none⟩ = some v) : b < w.heap.size := by
  rcases Nat.lt_or_ge b w.heap.size with h1 | h1
  · exact h1
  · unfold World.cell? at h
    rw [Array.getElem?_eq_none h1] at h
    cases h
/-- the ways of a number's answer -/
theorem num_1 {s : ByteArray} {a : Nat} (h : intB s a = false) : numAns s a = .err (intE s a) 1 := by unfold numAns; rw [if_pos h]
theorem num_2 {s : ByteArray} {a : Nat} (h : intB s a = true) (h2 : fracB s (intE s a) = false) : numAns s a = .err (fracE s (intE s a)) 1 := by unfold numAns; rw [if_neg (by rw [h]; decide), if_pos h2]
theorem num_3 {s : ByteArray} {a : Nat} (h : intB s a = true) (h2 : fracB s (intE s a) = true) (h3 : expB s (fracE s (intE s a)) = false) : numAns s a = .err (expE s (fracE s (intE s a))) 1 := by unfold numAns; rw [if_neg (by rw [h]; decide), if_neg (by rw [h2]; decide), if_pos h3]
theorem num_4 {s : ByteArray} {a : Nat} (h : intB s a = true) (h2 : fracB s (intE s a) = true) (h3 : expB s (fracE s (intE s a)) = true) (h4 : intE s a < expE s (fracE s (intE s a))) : numAns s a = .err a 4 := by unfold numAns; rw [if_neg (by rw [h]; decide), if_neg (by rw [h2]; decide), if_neg (by rw [h3]; decide), if_pos h4]
theorem num_5 {s : ByteArray} {a : Nat} (h : intB s a = true) (h2 : fracB s (intE s a) = true) (h3 : expB s (fracE s (intE s a)) = true) (h4 : ¬ intE s a < expE s (fracE s (intE s a))) (h5 : ¬ Tk.In64 (De.numL (sub s a (intE s a)).data.toList)) : numAns s a = .err a 4 := by unfold numAns; rw [if_neg (by rw [h]; decide), if_neg (by rw [h2]; decide), if_neg (by rw [h3]; decide), if_neg h4, if_neg h5]
theorem num_6 {s : ByteArray} {a : Nat} (h : intB s a = true) (h2 : fracB s (intE s a) = true) (h3 : expB s (fracE s (intE s a)) = true) (h4 : ¬ intE s a < expE s (fracE s (intE s a))) (h5 : Tk.In64 (De.numL (sub s a (intE s a)).data.toList)) : numAns s a = .tok ⟨3, nix, De.numL (sub s a (intE s a)).data.toList, a, intE s a⟩ := by unfold numAns; rw [if_neg (by rw [h]; decide), if_neg (by rw [h2]; decide), if_neg (by rw [h3]; decide), if_neg h4, if_pos h5]
theorem intE_le {s : ByteArray} {a : Nat} (h : a ≤ s.size) : intE s a ≤ s.size := by
  have := signE_le h
  unfold intE
  split
  · rename_i h1
    have := lt_of_bt (s := s) (i := signE s a) (by omega); omega
  · exact span_le _ this
theorem fracE_le {s : ByteArray} {a : Nat} (h : a ≤ s.size) : fracE s a ≤ s.size := by
  unfold fracE
  split
  · rename_i h1
    have := lt_of_bt (s := s) (i := a) (by omega)
    exact span_le _ (by omega)
  · exact h
set_option maxRecDepth 100000 in
set_option maxHeartbeats 4000000 in
theorem num_any5 (b : Nat) (s : ByteArray) (a : Nat) (w : World) (hs : s.size ≤ 90000) (hc : w.cell? ⟨b, 0, none⟩ = some (.string s)) (ha : a ≤ s.size) (hr : RangeErr w) : Calls Tryd.prog 28 #[.pointer (some ⟨b, 0, none⟩), .int .i64 a] w fun e w' => e = .returned (numAns s a).val ∧ Below w.heap.size w w' := by
  have hb := cell_lt5 hc
  have h1 := intE_le ha
  have h2 := fracE_le h1
  have HN := Lib.hid (fun h => num_1 (s := s) (a := a) h)
  have HN2 := Lib.hid (fun h h2 => num_2 (s := s) (a := a) h h2)
  have HN3 := Lib.hid (fun h h2 h3 => num_3 (s := s) (a := a) h h2 h3)
  have HN4 := Lib.hid (fun h h2 h3 h4 => num_4 (s := s) (a := a) h h2 h3 h4)
  have HN5 := Lib.hid (fun h h2 h3 h4 h5 => num_5 (s := s) (a := a) h h2 h3 h4 h5)
  have HN6 := Lib.hid (fun h h2 h3 h4 h5 => num_6 (s := s) (a := a) h h2 h3 h4 h5)
  have HI := Lib.hid (fun w hc => int_any5 b s a w (by omega) hc ha)
  have HF := Lib.hid (fun w hc => frac_any5 b s (intE s a) w (by omega) hc h1)
  have HX := Lib.hid (fun w hc => exp_any5 b s (fracE s (intE s a)) w (by omega) hc h2)
  have HG := Lib.hid (fun h => num_form (s := s) (a := a) h)
  have hsub : sub s a (intE s a) = s.extract a (intE s a) := rfl
  rw [hsub] at HN5 HN6 HG
  have hsz : (s.extract a (intE s a)).size ≤ 100000 := by rw [ByteArray.size_extract]; omega
  have hge : a ≤ intE s a := by
    cases h : intB s a with
    | true => exact Nat.le_of_lt (num_form h).2.2
    | false =>
      unfold intE signE
      split <;> split <;> first | omega | exact Nat.le_trans (Nat.le_succ a) (span_ge _ _ _) | exact span_ge _ _ _
  have hge2 : intE s a ≤ fracE s (intE s a) := by
    unfold fracE
    split
    · exact Nat.le_trans (Nat.le_succ _) (span_ge _ _ _)
    · exact Nat.le_refl _
  clear hsub
  generalize expE s (fracE s (intE s a)) = X at *
  generalize expB s (fracE s (intE s a)) = xb at *
  generalize fracE s (intE s a) = F at *
  generalize fracB s (intE s a) = fb at *
  generalize intE s a = I at *
  generalize intB s a = ib at *
  generalize numAns s a = res at *
  have i1 : (0 : Int) ≤ (a : Int) := by omega
  have i2 : (a : Int) ≤ (I : Int) := by omega
  have i3 : (I : Int) ≤ (s.size : Int) := by omega
  go_enter Tryd.func28, Tryd.ntmps28
  go_wp2_with fail
  have hB : Blk (w.alloc (.cells #[.int .i64 0, .string ⟨#[]⟩, .int .i64 0, .int .i64 0, .int .i64 0] 28)) w.heap.size 28 #[.int .i64 0, .string ⟨#[]⟩, .int .i64 0, .int .i64 0, .int .i64 0] := Blk.new w _ _
  have hW : Below w.heap.size w (w.alloc (.cells #[.int .i64 0, .string ⟨#[]⟩, .int .i64 0, .int .i64 0, .int .i64 0] 28)) := (Below.refl _ _).alloc (Nat.le_refl _) _
  change Calls _ _ _ (w.alloc (.cells #[.int .i64 0, .string ⟨#[]⟩, .int .i64 0, .int .i64 0, .int .i64 0] 28)) _
  generalize (w.alloc (.cells #[.int .i64 0, .string ⟨#[]⟩, .int .i64 0, .int .i64 0, .int .i64 0] 28)) = W at *
  have hcW : W.cell? ⟨b, 0, none⟩ = some (.string s) := (hW.cell (p := ⟨b, 0, none⟩) hb).trans hc
  have HR := Lib.hid (hr.on hW)
  have HW := Lib.hid hW
  have HB := Lib.hid hB
  have c0 := hB.cell 0
  have c1 := hB.cell 1
  have c2 := hB.cell 2
  have c3 := hB.cell 3
  have c4 := hB.cell 4
  have f0 := hB.free 0
  have f1 := hB.free 1
  have f2 := hB.free 2
  have f3 := hB.free 3
  have f4 := hB.free 4
  clear hW hr hc
  refine (HI.out _ hcW).mono ?_
  rintro e w2 ⟨rfl, rfl⟩
  cases ib with
  | false =>
    have HE := Lib.hid (HN.out (by trivial))
    go_wp2_with fail
    refine bodyPost_ret (v := (Ans.err I 1).val) (by simp [results, Tryd.results28, go_sem, Ans.val, c0, c1, c2, c3, c4]) rfl ⟨by rw [HE.out], ?_⟩
    exact below_put5 HW.out (Nat.le_refl _) _ _ _ _ _
  | true =>
    go_wp2_with fail
    refine (HF.out _ hcW).mono ?_
    rintro e w2 ⟨rfl, rfl⟩
    cases fb with
    | false =>
      have HE := Lib.hid (HN2.out (by trivial) (by trivial))
      go_wp2_with fail
      refine bodyPost_ret (v := (Ans.err F 1).val) (by simp [results, Tryd.results28, go_sem, Ans.val, c0, c1, c2, c3, c4]) rfl ⟨by rw [HE.out], ?_⟩
      exact below_put5 HW.out (Nat.le_refl _) _ _ _ _ _
    | true =>
      go_wp2_with fail
      refine (HX.out _ hcW).mono ?_
      rintro e w2 ⟨rfl, rfl⟩
      cases xb with
      | false =>
        have HE := Lib.hid (HN3.out (by trivial) (by trivial) (by trivial))
        go_wp2_with fail
        refine bodyPost_ret (v := (Ans.err X 1).val) (by simp [results, Tryd.results28, go_sem, Ans.val, c0, c1, c2, c3, c4]) rfl ⟨by rw [HE.out], ?_⟩
        exact below_put5 HW.out (Nat.le_refl _) _ _ _ _ _
      | true =>
        by_cases hlt : I < X
        · have HE := Lib.hid (HN4.out (by trivial) (by trivial) (by trivial) hlt)
          have u1 : decide ((X : Int) > (I : Int)) = true := decide_eq_true (by omega)
          have u2 : decide ((I : Int) < (X : Int)) = true := decide_eq_true (by omega)
          have u3 : decide (I < X) = true := decide_eq_true hlt
          go_wp2_with fail
          refine bodyPost_ret (v := (Ans.err a 4).val) (by simp [results, Tryd.results28, go_sem, Ans.val, c0, c1, c2, c3, c4]) rfl ⟨by rw [HE.out], ?_⟩
          exact below_put5 HW.out (Nat.le_refl _) _ _ _ _ _
        · have u1 : decide ((X : Int) > (I : Int)) = false := decide_eq_false (by omega)
          have u2 : decide ((I : Int) < (X : Int)) = false := decide_eq_false (by omega)
          have u3 : decide (I < X) = false := decide_eq_false hlt
          have hg := HG.out (by trivial)
          have HS := Lib.hid hg.1
          by_cases h64 : Tk.In64 (De.numL (s.extract a I).data.toList)
          · have HE := Lib.hid (HN6.out (by trivial) (by trivial) (by trivial) hlt h64)
            have HK := Lib.hid (show In64 (De.numL (s.extract a I).data.toList) from ⟨h64.1, h64.2⟩)
            clear hg h64 HN HN2 HN3 HN4 HN5 HN6 HG
            go_wp2_with fail
            refine (W2.parse_ok _ _ (by omega) HS.out HK.out).mono ?_
            rintro e w3 ⟨rfl, hb3⟩
            have HW3 := Lib.hid (HW.out.trans (hb3.mono HW.out.size))
            have hB3 := HB.out.onto hb3
            have d0 := hB3.cell 0
            have d1 := hB3.cell 1
            have d2 := hB3.cell 2
            have d3 := hB3.cell 3
            have d4 := hB3.cell 4
            have e0 := hB3.free 0
            have e1 := hB3.free 1
            have e2 := hB3.free 2
            have e3 := hB3.free 3
            have e4 := hB3.free 4
            clear hb3 hB3
            generalize De.numL (s.extract a I).data.toList = n at *
            go_wp2_with fail
            refine bodyPost_ret (v := (Ans.tok ⟨3, nix, n, a, I⟩).val) (by simp [results, Tryd.results28, go_sem, Ans.val, nix, d0, d1, d2, d3, d4]) rfl ⟨by rw [HE.out], ?_⟩
            exact below_put5 HW3.out (Nat.le_refl _) _ _ _ _ _
          · have HE := Lib.hid (HN5.out (by trivial) (by trivial) (by trivial) hlt h64)
            have HK := Lib.hid (show ¬ In64 (De.numL (s.extract a I).data.toList) from fun h => h64 ⟨h.1, h.2⟩)
            clear hg h64 HN HN2 HN3 HN4 HN5 HN6 HG
            obtain ⟨tp, pv, hrv⟩ := HR.out
            have HRV := Lib.hid hrv
            clear hrv
            go_wp2_with fail
            refine (W2.parse_far _ tp pv _ (by omega) HS.out HK.out HRV.out).mono ?_
            rintro e w3 ⟨rfl, hb3⟩
            have HW3 := Lib.hid (HW.out.trans (hb3.mono HW.out.size))
            have hB3 := HB.out.onto hb3
            have d0 := hB3.cell 0
            have d1 := hB3.cell 1
            have d2 := hB3.cell 2
            have d3 := hB3.cell 3
            have d4 := hB3.cell 4
            have e0 := hB3.free 0
            have e1 := hB3.free 1
            have e2 := hB3.free 2
            have e3 := hB3.free 3
            have e4 := hB3.free 4
            clear hb3 hB3
            go_wp2_with fail
            refine bodyPost_ret (v := (Ans.err a 4).val) (by simp [results, Tryd.results28, go_sem, Ans.val, d0, d1, d2, d3, d4]) rfl ⟨by rw [HE.out], ?_⟩
            exact below_put5 HW3.out (Nat.le_refl _) _ _ _ _ _
end Go.Proofs.YtnenipgpncomeaaDoor
