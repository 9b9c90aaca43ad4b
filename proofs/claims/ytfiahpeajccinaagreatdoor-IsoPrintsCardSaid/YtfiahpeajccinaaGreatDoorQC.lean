/- The reference's Next: its contract. -/
import Derived.Test.YtfiahpeajccinaaGreatDoorQB
import Derived.Test.YtfiahpeajccinaaGreatDoorPD
import Derived.Test.YtfiahpeajccinaaGreatDoorPF
import Derived.Test.YtfiahpeajccinaaGreatDoorPA
import Derived.Test.YtfiahpeajccinaaGreatDoorQR
import Derived.Test.YtfiahpeajccinaaGreatDoorQA
import Derived.BigQuiet
namespace Go.Proofs.YtfiahpeajccinaaGreatDoor
open Go.RowKit
open Tk
open Pl
set_option linter.unusedVariables false

def markN (k : Nat) : Nat := [123, 125, 91, 93, 58, 44].getD k 0
def marksB : ByteArray := ⟨#[123, 125, 91, 93, 58, 44]⟩
theorem mark_at (k : Nat) (h : k < 6) (h' : k < marksB.size) : (marksB[k]'h').toNat = markN k := by
  rcases (by omega : k = 0 ∨ k = 1 ∨ k = 2 ∨ k = 3 ∨ k = 4 ∨ k = 5) with rfl | rfl | rfl | rfl | rfl | rfl <;> rfl
theorem mark_one (k : Nat) (h : k < 6) : marksB.extract k (k + 1) = Tk.one (markN k) := by
  rcases (by omega : k = 0 ∨ k = 1 ∨ k = 2 ∨ k = 3 ∨ k = 4 ∨ k = 5) with rfl | rfl | rfl | rfl | rfl | rfl <;> rfl
theorem mark_hit {c k : Nat} (h : k < 6) (hc : c = markN k) : isMark c = true := by
  subst hc
  rcases (by omega : k = 0 ∨ k = 1 ∨ k = 2 ∨ k = 3 ∨ k = 4 ∨ k = 5) with rfl | rfl | rfl | rfl | rfl | rfl <;> rfl
theorem mark_none {c : Nat} (h : ∀ j, j < 6 → c ≠ markN j) : isMark c = false := by
  have h0 := h 0 (by omega); have h1 := h 1 (by omega); have h2 := h 2 (by omega); have h3 := h 3 (by omega); have h4 := h 4 (by omega); have h5 := h 5 (by omega)
  simp only [markN, List.getD_cons_zero, List.getD_cons_succ] at h0 h1 h2 h3 h4 h5
  unfold isMark
  simp [h0, h1, h2, h3, h4, h5]
theorem rb_yes' {s : ByteArray} {a : Nat} {c x : Int} (hx : x = (a : Int)) (h : (bt s a : Int) = c) (w : World) (hs : s.size ≤ 1000000) (hc : 0 < c) (hc2 : c < 256) :
    Calls Tryz.prog 103 #[.string s, .int .i64 x, .int .u8 c] w fun e w' => e = .returned (.bool true) ∧ w = w' := by
  subst hx; exact rb_yes h w hs hc hc2
theorem rb_no' {s : ByteArray} {a : Nat} {c x : Int} (hx : x = (a : Int)) (h : ¬ (bt s a : Int) = c) (w : World) (hs : s.size ≤ 1000000) (hc : 0 < c) (hc2 : c < 256) :
    Calls Tryz.prog 103 #[.string s, .int .i64 x, .int .u8 c] w fun e w' => e = .returned (.bool false) ∧ w = w' := by
  subst hx; exact rb_no h w hs hc hc2
theorem ans_end {s : ByteArray} {a : Nat} (h : s.size ≤ a) : ansAt s a = .tok ⟨0, nix, 0, a, a⟩ := by unfold ansAt; rw [if_pos h]
theorem ans_mark {s : ByteArray} {a : Nat} (h : a < s.size) (k : isMark (bt s a) = true) : ansAt s a = .tok ⟨1, Tk.one (bt s a), 0, a, a + 1⟩ := by unfold ansAt; rw [if_neg (by omega), if_pos k]
theorem ans_str {s : ByteArray} {a : Nat} (h : a < s.size) (k : bt s a = 34) : ansAt s a = strAns s a := by unfold ansAt; rw [if_neg (by omega), if_neg (by rw [k]; decide), if_pos k]
theorem ans_num {s : ByteArray} {a : Nat} (h : a < s.size) (m : isMark (bt s a) = false) (k : bt s a ≠ 34) (j : bt s a = 45 ∨ isDg (bt s a) = true) : ansAt s a = numAns s a := by unfold ansAt; rw [if_neg (by omega), if_neg (by rw [m]; decide), if_neg k, if_pos j]
theorem ans_word {s : ByteArray} {a : Nat} (h : a < s.size) (m : isMark (bt s a) = false) (k : bt s a ≠ 34) (j : ¬ (bt s a = 45 ∨ isDg (bt s a) = true)) (i : bt s a = 116 ∨ bt s a = 102 ∨ bt s a = 110) : ansAt s a = wordAns s a := by unfold ansAt; rw [if_neg (by omega), if_neg (by rw [m]; decide), if_neg k, if_neg j, if_pos i]
theorem ans_none {s : ByteArray} {a : Nat} (h : a < s.size) (m : isMark (bt s a) = false) (k : bt s a ≠ 34) (j : ¬ (bt s a = 45 ∨ isDg (bt s a) = true)) (i : ¬ (bt s a = 116 ∨ bt s a = 102 ∨ bt s a = 110)) : ansAt s a = .err a 1 := by unfold ansAt; rw [if_neg (by omega), if_neg (by rw [m]; decide), if_neg k, if_neg j, if_neg i]
theorem numR_bad {s : ByteArray} {a : Nat} (h : (numR s a).2.2 = false) : numAns s a = .err (numR s a).1 1 := by
  cases h1 : intB s a with
  | false => rw [numR_1 h1, num_1 h1]
  | true =>
    cases h2 : fracB s (intE s a) with
    | false => rw [numR_2 h1 h2, num_2 h1 h2]
    | true =>
      cases h3 : expB s (fracE s (intE s a)) with
      | false => rw [numR_3 h1 h2 h3, num_3 h1 h2 h3]
      | true => rw [numR_4 h1 h2 h3] at h; cases h
theorem numR_all {s : ByteArray} {a : Nat} (h : (numR s a).2.2 = true) : intB s a = true ∧ fracB s (intE s a) = true ∧ expB s (fracE s (intE s a)) = true := by
  cases h1 : intB s a with
  | false => rw [numR_1 h1] at h; cases h
  | true =>
    cases h2 : fracB s (intE s a) with
    | false => rw [numR_2 h1 h2] at h; cases h
    | true =>
      cases h3 : expB s (fracE s (intE s a)) with
      | false => rw [numR_3 h1 h2 h3] at h; cases h
      | true => exact ⟨rfl, rfl, rfl⟩
theorem numR_frac {s : ByteArray} {a : Nat} (h : (numR s a).2.2 = true) (hp : (numR s a).2.1 = false) : numAns s a = .err a 4 := by
  obtain ⟨h1, h2, h3⟩ := numR_all h
  refine num_4 h1 h2 h3 ?_
  rw [numR_4 h1 h2 h3] at hp
  simp only [Bool.and_eq_false_iff, Bool.not_eq_false', beq_iff_eq] at hp
  have hF : intE s a ≤ fracE s (intE s a) := by
    unfold fracE
    split
    · exact Nat.le_trans (Nat.le_succ _) (span_ge _ _ _)
    · exact Nat.le_refl _
  have hX : fracE s (intE s a) ≤ expE s (fracE s (intE s a)) := by
    unfold expE
    split
    · refine Nat.le_trans ?_ (span_ge _ _ _)
      unfold expS
      split <;> omega
    · exact Nat.le_refl _
  rcases hp with hp | hp
  · have : intE s a < fracE s (intE s a) := by
      unfold fracE
      rw [if_pos hp]
      exact Nat.lt_of_lt_of_le (Nat.lt_succ_self _) (span_ge _ _ _)
    omega
  · have : fracE s (intE s a) < expE s (fracE s (intE s a)) := by
      unfold expE
      rw [if_pos hp]
      refine Nat.lt_of_lt_of_le ?_ (span_ge _ _ _)
      unfold expS
      split <;> omega
    omega
theorem numR_int {s : ByteArray} {a : Nat} (h : (numR s a).2.2 = true) (hp : (numR s a).2.1 = true) : (numR s a).1 = intE s a ∧ intB s a = true ∧ numAns s a = if Tk.In64 (De.numL (sub s a (intE s a)).data.toList) then .tok ⟨3, nix, De.numL (sub s a (intE s a)).data.toList, a, intE s a⟩ else .err a 4 := by
  obtain ⟨h1, h2, h3⟩ := numR_all h
  rw [numR_4 h1 h2 h3] at hp
  simp only [Bool.and_eq_true, Bool.not_eq_true', beq_eq_false_iff_ne] at hp
  have hF : fracE s (intE s a) = intE s a := by unfold fracE; rw [if_neg hp.1]
  have hX : expE s (fracE s (intE s a)) = fracE s (intE s a) := by unfold expE; rw [hp.2]; rfl
  refine ⟨by rw [numR_4 h1 h2 h3]; show expE s (fracE s (intE s a)) = _; rw [hX, hF], h1, ?_⟩
  unfold numAns
  rw [if_neg (by rw [h1]; decide), if_neg (by rw [h2]; decide), if_neg (by rw [h3]; decide), if_neg (by rw [hX, hF]; omega)]
theorem str_ok {s : ByteArray} {a : Nat} {l : List Int} {e : Nat} (ha : a < s.size) (h : str s (a + 1) [] = .pts l e) : (∀ x ∈ l, pt x = true) ∧ l.length ≤ s.size := by
  have h1 := strF_pts _ _ _ _ _ (by omega) h
  refine ⟨h1.2.2 (fun x hx => by cases hx), ?_⟩
  have key : ∀ n p acc l e, p ≤ s.size → acc.length ≤ p → strF s n p acc = .pts l e → l.length ≤ s.size := by
    intro n
    induction n with
    | zero => intro p acc l e _ _ h; unfold strF at h; cases h
    | succ n ih =>
      intro p acc l e hp hl h
      unfold strF at h
      split at h
      · injection h with h1 h2
        subst h1
        omega
      · split at h
        · rename_i m e' hc
          obtain ⟨-, h2, h3⟩ := chAt_pt hc
          exact ih _ _ _ _ h3 (by rw [List.length_append, List.length_singleton]; omega) h
        · cases h
  exact key _ _ _ _ _ (by omega) (Nat.zero_le _) h
theorem strAns_pts5 {s : ByteArray} {a : Nat} {l : List Int} {e : Nat} (h : str s (a + 1) [] = .pts l e) : strAns s a = .tok ⟨2, textOf l, 0, a, e⟩ := by unfold strAns; rw [h]
theorem strAns_bad5 {s : ByteArray} {a : Nat} {q : Nat} {c : Int} (h : str s (a + 1) [] = .bad q c) : strAns s a = .err q c := by unfold strAns; rw [h]
theorem str_code {s : ByteArray} {q p : Nat} {c : Int} (h : str s (q + 1) [] = .bad p c) : c = 1 ∨ c = 2 ∨ c = 3 := by
  have key : ∀ n p acc q c, strF s n p acc = .bad q c → c = 1 ∨ c = 2 ∨ c = 3 := by
    intro n
    induction n with
    | zero => intro p acc q c h; unfold strF at h; injection h with _ h; omega
    | succ n ih =>
      intro p acc q c h
      unfold strF at h
      split at h
      · cases h
      · split at h
        · exact ih _ _ _ _ h
        · rename_i q' c' hc
          injection h with _ h
          subst h
          exact chAt_err hc
  exact key _ _ _ _ _ h
set_option maxRecDepth 100000 in
set_option maxHeartbeats 16000000 in
theorem rnext_far (s : ByteArray) (a : Nat) (w : World) (hs : s.size ≤ 20000) (hd : s.size ≤ a + 2600) (ha : a ≤ s.size) : Calls Tryz.prog 67 #[.string s, .int .i64 a] w fun e w' => e = .returned (next s a).val ∧ Below w.heap.size w w' := by
  have hs2 : s.size ≤ 1000000 := by omega
  have hq := span_le isBl ha
  have hqa := span_ge isBl s a
  have HNX := Lib.hid (show next s a = ansAt s (span isBl s a) from rfl)
  have HBL := Lib.hid (fun w => rblanks_any s a w hs2 (by omega))
  generalize span isBl s a = q at *
  generalize next s a = nx at *
  go_enter Tryz.func67, Tryz.ntmps67
  go_wp2_with fail
  have hB : Blk (w.alloc (.cells #[.int .i64 0, .string ⟨#[]⟩, .int .i64 0, .int .i64 0, .int .i64 0] 108)) w.heap.size 108 #[.int .i64 0, .string ⟨#[]⟩, .int .i64 0, .int .i64 0, .int .i64 0] := Blk.new w _ _
  have hW : Below w.heap.size w (w.alloc (.cells #[.int .i64 0, .string ⟨#[]⟩, .int .i64 0, .int .i64 0, .int .i64 0] 108)) := (Below.refl _ _).alloc (Nat.le_refl _) _
  change Calls _ _ _ (w.alloc (.cells #[.int .i64 0, .string ⟨#[]⟩, .int .i64 0, .int .i64 0, .int .i64 0] 108)) _
  generalize (w.alloc (.cells #[.int .i64 0, .string ⟨#[]⟩, .int .i64 0, .int .i64 0, .int .i64 0] 108)) = W at *
  have HW := Lib.hid hW
  have HB := Lib.hid hB
  clear hW hB
  refine (HBL.out _).mono ?_
  rintro e w2 ⟨rfl, rfl⟩
  by_cases hl : q < s.size
  · have g1 : decide ((q : Int) ≥ (s.size : Int)) = false := decide_eq_false (by omega)
    have g2 : decide ((s.size : Int) ≤ (q : Int)) = false := decide_eq_false (by omega)
    have g3 : ¬ (s.size : Int) ≤ (q : Int) := by omega
    have i1 : (q : Int) < (s.size : Int) := by omega
    have i2 : (0 : Int) ≤ (q : Int) := by omega
    have HX := Lib.hid (bt_at s q hl)
    go_wp2_with fail
    go_loopw [8] (fun x wr => ∃ k : Nat, k ≤ 6 ∧ x = .int .i64 k ∧ (∀ j, j < k → bt s q ≠ markN j) ∧ Below w.heap.size w wr ∧ Blk wr w.heap.size 108 #[.int .i64 0, .string ⟨#[]⟩, .int .i64 0, .int .i64 0, .int .i64 0]) (fun x _ => 6 - (intOf x).toNat)
    case atStart => exact ⟨0, by omega, rfl, fun j h => absurd h (by omega), HW.out, HB.out⟩
    case round =>
      obtain ⟨k, hk, rfl, hno, hbel, hbox⟩ := hrel
      have HNO := Lib.hid hno
      have HBEL := Lib.hid hbel
      have HBOX := Lib.hid hbox
      clear hno hbel hbox
      by_cases hlt : k < 6
      · skip
        have t1 : (k : Int) < 6 := by omega
        have t2 : decide ((k : Int) < 6) = true := decide_eq_true t1
        have i3 : (0 : Int) ≤ (k : Int) := by omega
        have MA := Lib.hid (show ∀ h' : k < (⟨#[123, 125, 91, 93, 58, 44]⟩ : ByteArray).size, ((⟨#[123, 125, 91, 93, 58, 44]⟩ : ByteArray)[k]'h').toNat = markN k from fun h' => mark_at k hlt h')
        have HM1 := Lib.hid (show (⟨#[123, 125, 91, 93, 58, 44]⟩ : ByteArray).extract k (k + 1) = Tk.one (markN k) from mark_one k hlt)
        by_cases hc : bt s q = markN k
        · have HE := Lib.hid ((ans_mark hl (mark_hit hlt hc)).trans (by rw [hc]))
          have v1 : ((s[q].toNat : Int) == (((⟨#[123, 125, 91, 93, 58, 44]⟩ : ByteArray)[k]'(by show k < 6; omega)).toNat : Int)) = true := by
            rw [beq_iff_eq, MA.out, ← hc]
            have := HX.out
            omega
          clear hc
          go_upto_region 8 with fail
          go_quiet (fail)
          rename_i nq
          have HB2 := Lib.hid (below_drewN HBEL.out nq)
          have hX2 : Blk (wr.drewN nq) w.heap.size 108 #[.int .i64 0, .string ⟨#[]⟩, .int .i64 0, .int .i64 0, .int .i64 0] := HBOX.out
          generalize wr.drewN nq = W2 at *
          have i4 : (k : Int) + 1 ≤ 6 := by omega
          have c0 := hX2.cell 0
          have c1 := hX2.cell 1
          have c2 := hX2.cell 2
          have c3 := hX2.cell 3
          have c4 := hX2.cell 4
          have f0 := hX2.free 0
          have f1 := hX2.free 1
          have f2 := hX2.free 2
          have f3 := hX2.free 3
          have f4 := hX2.free 4
          go_wp2_with fail
          refine bodyPost_ret (v := (Ans.tok ⟨1, Tk.one (markN k), 0, q, q + 1⟩).val) (by simp [results, Tryz.results67, go_sem, Ans.val, HM1.out, c0, c1, c2, c3, c4]) rfl ⟨by rw [HNX.out, HE.out], ?_⟩
          exact below_put5 HB2.out (Nat.le_refl _) _ _ _ _ _
        · have v1 : ((s[q].toNat : Int) == (((⟨#[123, 125, 91, 93, 58, 44]⟩ : ByteArray)[k]'(by show k < 6; omega)).toNat : Int)) = false := by
            rw [beq_eq_false_iff_ne, MA.out]
            have := HX.out
            omega
          have HN2 := Lib.hid (show ∀ j, j < k + 1 → bt s q ≠ markN j from fun j hj => by
            rcases Nat.lt_or_ge j k with h | h
            · exact HNO.out j h
            · obtain rfl : j = k := by omega
              exact hc)
          clear hc
          go_upto_region 8 with fail
          go_quiet (fail)
          rename_i nq
          have HB2 := Lib.hid (below_drewN HBEL.out nq)
          have hX2 : Blk (wr.drewN nq) w.heap.size 108 #[.int .i64 0, .string ⟨#[]⟩, .int .i64 0, .int .i64 0, .int .i64 0] := HBOX.out
          have HX2 := Lib.hid hX2
          generalize wr.drewN nq = W2 at *
          clear hX2
          go_wp2_with fail
          go_roundw
          case rel => exact ⟨k + 1, by omega, by go_num, HN2.out, HB2.out, HX2.out⟩
          case measure => simp [intOf]; omega
      · obtain rfl : k = 6 := by omega
        have hm := mark_none HNO.out
        clear HNO
        by_cases h34 : bt s q = 34
        · skip
          have v1 : (s[q].toNat : Int) = 34 := by have := HX.out; omega
          have v2 : ((s[q].toNat : Int) == 34) = true := beq_iff_eq.2 v1
          have HA := Lib.hid (ans_str hl h34)
          have HT := Lib.hid (fun w => rtext5_any s q w (by omega) hl)
          have HOK := Lib.hid (fun l e h => str_ok (l := l) (e := e) hl h)
          have HP := Lib.hid (fun l e h => HA.out.trans (strAns_pts5 (s := s) (a := q) (l := l) (e := e) h))
          have HN := Lib.hid (fun p c h => HA.out.trans (strAns_bad5 (s := s) (a := q) (q := p) (c := c) h))
          generalize hst : str s (q + 1) [] = st at *
          have HCODE := Lib.hid (fun p c h => str_code (s := s) (q := q) (p := p) (c := c) (hst.trans h))
          clear h34 hm hst
          go_wp2_with fail
          refine (HT.out _).mono ?_
          rintro e w3 ⟨hcase, hb3⟩
          have HB3 := Lib.hid (HBEL.out.trans (hb3.mono HBEL.out.size))
          have HX3 := Lib.hid (HBOX.out.onto hb3)
          clear hb3
          cases st with
          | bad p c =>
            obtain rfl := hcase
            have HE := Lib.hid (HN.out p c rfl)
            have hc0 := HCODE.out p c rfl
            have v3 : (c != 0) = true := by rw [bne_iff_ne]; omega
            have v4 : ¬ c = 0 := by omega
            have hX3 := HX3.out
            have c0 := hX3.cell 0
            have c1 := hX3.cell 1
            have c2 := hX3.cell 2
            have c3 := hX3.cell 3
            have c4 := hX3.cell 4
            have f0 := hX3.free 0
            have f1 := hX3.free 1
            have f2 := hX3.free 2
            have f3 := hX3.free 3
            have f4 := hX3.free 4
            clear hX3 hc0
            go_wp2_with fail
            refine bodyPost_ret (v := (Ans.err p c).val) (by simp [results, Tryz.results67, go_sem, Ans.val, c0, c1, c2, c3, c4]) rfl ⟨by rw [HNX.out, HE.out], ?_⟩
            exact below_put5 HB3.out (Nat.le_refl _) _ _ _ _ _
          | pts l e =>
            obtain ⟨A, c, rfl, hrd⟩ := hcase
            have HE := Lib.hid (HP.out l e rfl)
            have HRD := Lib.hid hrd
            have HO := HOK.out l e rfl
            have HPT := Lib.hid HO.1
            have hlen := HO.2
            clear hrd HO
            go_wp2_with fail
            refine (rtext_any l A c _ (by omega) HRD.out HPT.out).mono ?_
            rintro e0 w4 ⟨rfl, hb4⟩
            have HB4 := Lib.hid (HB3.out.trans (hb4.mono HB3.out.size))
            have hX4 := HX3.out.onto hb4
            have c0 := hX4.cell 0
            have c1 := hX4.cell 1
            have c2 := hX4.cell 2
            have c3 := hX4.cell 3
            have c4 := hX4.cell 4
            have f0 := hX4.free 0
            have f1 := hX4.free 1
            have f2 := hX4.free 2
            have f3 := hX4.free 3
            have f4 := hX4.free 4
            clear hX4 hb4
            go_wp2_with fail
            refine bodyPost_ret (v := (Ans.tok ⟨2, textOf l, 0, q, e⟩).val) (by simp [results, Tryz.results67, go_sem, Ans.val, textOf, c0, c1, c2, c3, c4]) rfl ⟨by rw [HNX.out, HE.out], ?_⟩
            exact below_put5 HB4.out (Nat.le_refl _) _ _ _ _ _
        · have v1 : ¬ (s[q].toNat : Int) = 34 := by have := HX.out; omega
          have v2 : ((s[q].toNat : Int) == 34) = false := beq_eq_false_iff_ne.2 v1
          by_cases hnum : bt s q = 45 ∨ isDg (bt s q) = true
          · skip
            have HA := Lib.hid (ans_num hl hm h34 hnum)
            have HNU := Lib.hid (fun w => rnumber_any s q w (by omega) (Nat.le_of_lt hl))
            have N1 := Lib.hid (fun h => HA.out.trans (numR_bad (s := s) (a := q) h))
            have N2 := Lib.hid (fun h h2 => HA.out.trans (numR_frac (s := s) (a := q) h h2))
            have N3 := Lib.hid (fun h h2 => numR_int (s := s) (a := q) h h2)
            have NF := Lib.hid (fun h => num_form (s := s) (a := q) h)
            have HD := Lib.hid (fun w => rdg_any s q w hs2)
            clear h34 hm
            by_cases h45 : bt s q = 45
            · skip
              have v3 : (s[q].toNat : Int) = 45 := by have := HX.out; omega
              have v4 : ((s[q].toNat : Int) == 45) = true := beq_iff_eq.2 v3
              clear hnum h45
              go_wp2_with fail
              refine (HNU.out _).mono ?_
              rintro e w4 ⟨rfl, rfl⟩
              cases hok : (numR s q).2.2 with
              | false =>
                have HE := Lib.hid (N1.out hok)
                have hX2 := HBOX.out
                have c0 := hX2.cell 0
                have c1 := hX2.cell 1
                have c2 := hX2.cell 2
                have c3 := hX2.cell 3
                have c4 := hX2.cell 4
                have f0 := hX2.free 0
                have f1 := hX2.free 1
                have f2 := hX2.free 2
                have f3 := hX2.free 3
                have f4 := hX2.free 4
                clear hX2 hok
                generalize (numR s q).1 = E at *
                generalize (numR s q).2.1 = PL at *
                go_wp2_with fail
                refine bodyPost_ret (v := (Ans.err E 1).val) (by simp [results, Tryz.results67, go_sem, Ans.val, c0, c1, c2, c3, c4]) rfl ⟨by rw [HNX.out, HE.out], ?_⟩
                exact below_put5 HBEL.out (Nat.le_refl _) _ _ _ _ _
              | true =>
                cases hpl : (numR s q).2.1 with
                | false =>
                  have HE := Lib.hid (N2.out hok hpl)
                  have hX2 := HBOX.out
                  have c0 := hX2.cell 0
                  have c1 := hX2.cell 1
                  have c2 := hX2.cell 2
                  have c3 := hX2.cell 3
                  have c4 := hX2.cell 4
                  have f0 := hX2.free 0
                  have f1 := hX2.free 1
                  have f2 := hX2.free 2
                  have f3 := hX2.free 3
                  have f4 := hX2.free 4
                  clear hX2 hok hpl
                  generalize (numR s q).1 = E at *
                  go_wp2_with fail
                  refine bodyPost_ret (v := (Ans.err q 4).val) (by simp [results, Tryz.results67, go_sem, Ans.val, c0, c1, c2, c3, c4]) rfl ⟨by rw [HNX.out, HE.out], ?_⟩
                  exact below_put5 HBEL.out (Nat.le_refl _) _ _ _ _ _
                | true =>
                  obtain ⟨n1, n2, n3⟩ := N3.out hok hpl
                  obtain ⟨m1, m2, m3⟩ := NF.out n2
                  have HFORM := Lib.hid m1
                  rw [n1]
                  have hsub : sub s q (intE s q) = s.extract q (intE s q) := rfl
                  rw [hsub] at n3 HFORM
                  have hsz : (s.extract q (intE s q)).size ≤ 2600 := by rw [ByteArray.size_extract]; omega
                  clear hok hpl n1 n2 m1 hsub N1 N2 N3 NF HNU
                  generalize intE s q = I at *
                  have i4 : (q : Int) ≤ (I : Int) := by omega
                  have i5 : (I : Int) ≤ (s.size : Int) := by omega
                  by_cases h64 : Tk.In64 (De.numL (s.extract q I).data.toList)
                  · have HE := Lib.hid (HA.out.trans (n3.trans (if_pos h64)))
                    have H64 := Lib.hid (show In64 (De.numL (s.extract q I).data.toList) from ⟨h64.1, h64.2⟩)
                    clear n3 h64
                    go_wp2_with fail
                    refine (W2.rparse_ok _ _ hsz HFORM.out H64.out).mono ?_
                    rintro e w5 ⟨b5, A5, n5, c5, rfl, hnz, hb5⟩
                    have HB5 := Lib.hid (HBEL.out.trans (hb5.mono HBEL.out.size))
                    have HX5 := Lib.hid (HBOX.out.onto hb5)
                    have HNZ := Lib.hid hnz
                    clear hnz hb5
                    go_upto_region 22 with fail
                    have hb6 : Below w5.heap.size w5 (w5.alloc (.cells #[.bool b5, .slice A5 n5 c5] 85)) := (Below.refl _ _).alloc (Nat.le_refl _) _
                    have hk6 : Blk (w5.alloc (.cells #[.bool b5, .slice A5 n5 c5] 85)) w5.heap.size 85 #[.bool b5, .slice A5 n5 c5] := Blk.new w5 _ _
                    have hnz6 : W2.Nz (w5.alloc (.cells #[.bool b5, .slice A5 n5 c5] 85)) (w5.alloc (.cells #[.bool b5, .slice A5 n5 c5] 85)).heap.size (.agg #[.bool b5, .slice A5 n5 c5]) (De.numL (s.extract q I).data.toList) := W2.Nz.on HNZ.out hb6
                    change Code.wp _ _ _ _ (w5.alloc (.cells #[.bool b5, .slice A5 n5 c5] 85))
                    generalize (w5.alloc (.cells #[.bool b5, .slice A5 n5 c5] 85)) = W6 at *
                    have HB6 := Lib.hid (HB5.out.trans (hb6.mono HB5.out.size))
                    have HX6 := Lib.hid (HX5.out.onto hb6)
                    have HNZ6 := Lib.hid hnz6
                    have d0 := hk6.cell 0
                    have d1 := hk6.cell 1
                    clear hb6 hk6 hnz6 HNZ HX5 HB5
                    generalize w5.heap.size = K6 at *
                    generalize De.numL (s.extract q I).data.toList = n at *
                    go_wp2_with fail
                    refine (W2.int_any _ n _ HNZ6.out H64.out).mono ?_
                    rintro e w7 ⟨rfl, hb7⟩
                    have HB7 := Lib.hid (HB6.out.trans (hb7.mono HB6.out.size))
                    have hX7 := HX6.out.onto hb7
                    have c0 := hX7.cell 0
                    have c1 := hX7.cell 1
                    have c2 := hX7.cell 2
                    have c3 := hX7.cell 3
                    have c4 := hX7.cell 4
                    have f0 := hX7.free 0
                    have f1 := hX7.free 1
                    have f2 := hX7.free 2
                    have f3 := hX7.free 3
                    have f4 := hX7.free 4
                    clear hX7 hb7
                    go_wp2_with fail
                    refine bodyPost_ret (v := (Ans.tok ⟨3, nix, n, q, I⟩).val) (by simp [results, Tryz.results67, go_sem, Ans.val, nix, c0, c1, c2, c3, c4]) rfl ⟨by rw [HNX.out, HE.out], ?_⟩
                    exact below_put5 HB7.out (Nat.le_refl _) _ _ _ _ _
                  · have HE := Lib.hid (HA.out.trans (n3.trans (if_neg h64)))
                    have H64 := Lib.hid (show ¬ In64 (De.numL (s.extract q I).data.toList) from fun h => h64 ⟨h.1, h.2⟩)
                    clear n3 h64
                    go_wp2_with fail
                    refine (W2.rparse_far _ _ hsz HFORM.out H64.out).mono ?_
                    rintro e w5 ⟨rfl, hb5⟩
                    have HB5 := Lib.hid (HBEL.out.trans (hb5.mono HBEL.out.size))
                    have HX5 := Lib.hid (HBOX.out.onto hb5)
                    clear hb5
                    go_upto_region 22 with fail
                    have hb6 : Below w5.heap.size w5 (w5.alloc (.cells #[.bool false, .slice none 0 0] 85)) := (Below.refl _ _).alloc (Nat.le_refl _) _
                    change Code.wp _ _ _ _ (w5.alloc (.cells #[.bool false, .slice none 0 0] 85))
                    generalize (w5.alloc (.cells #[.bool false, .slice none 0 0] 85)) = W6 at *
                    have HB6 := Lib.hid (HB5.out.trans (hb6.mono HB5.out.size))
                    have hX6 := HX5.out.onto hb6
                    have c0 := hX6.cell 0
                    have c1 := hX6.cell 1
                    have c2 := hX6.cell 2
                    have c3 := hX6.cell 3
                    have c4 := hX6.cell 4
                    have f0 := hX6.free 0
                    have f1 := hX6.free 1
                    have f2 := hX6.free 2
                    have f3 := hX6.free 3
                    have f4 := hX6.free 4
                    clear hX6 hb6 HX5 HB5
                    generalize w5.heap.size = K6 at *
                    go_wp2_with fail
                    refine bodyPost_ret (v := (Ans.err q 4).val) (by simp [results, Tryz.results67, go_sem, Ans.val, c0, c1, c2, c3, c4]) rfl ⟨by rw [HNX.out, HE.out], ?_⟩
                    exact below_put5 HB6.out (Nat.le_refl _) _ _ _ _ _
            · skip
              have v3 : ¬ (s[q].toNat : Int) = 45 := by have := HX.out; omega
              have v4 : ((s[q].toNat : Int) == 45) = false := beq_eq_false_iff_ne.2 v3
              have HDG := Lib.hid (hnum.resolve_left h45)
              clear hnum h45
              go_wp2_with fail
              refine (rdg_yes HDG.out _ hs2).mono ?_
              rintro e w3 ⟨rfl, rfl⟩
              go_wp2_with fail
              refine (HNU.out _).mono ?_
              rintro e w4 ⟨rfl, rfl⟩
              cases hok : (numR s q).2.2 with
              | false =>
                have HE := Lib.hid (N1.out hok)
                have hX2 := HBOX.out
                have c0 := hX2.cell 0
                have c1 := hX2.cell 1
                have c2 := hX2.cell 2
                have c3 := hX2.cell 3
                have c4 := hX2.cell 4
                have f0 := hX2.free 0
                have f1 := hX2.free 1
                have f2 := hX2.free 2
                have f3 := hX2.free 3
                have f4 := hX2.free 4
                clear hX2 hok
                generalize (numR s q).1 = E at *
                generalize (numR s q).2.1 = PL at *
                go_wp2_with fail
                refine bodyPost_ret (v := (Ans.err E 1).val) (by simp [results, Tryz.results67, go_sem, Ans.val, c0, c1, c2, c3, c4]) rfl ⟨by rw [HNX.out, HE.out], ?_⟩
                exact below_put5 HBEL.out (Nat.le_refl _) _ _ _ _ _
              | true =>
                cases hpl : (numR s q).2.1 with
                | false =>
                  have HE := Lib.hid (N2.out hok hpl)
                  have hX2 := HBOX.out
                  have c0 := hX2.cell 0
                  have c1 := hX2.cell 1
                  have c2 := hX2.cell 2
                  have c3 := hX2.cell 3
                  have c4 := hX2.cell 4
                  have f0 := hX2.free 0
                  have f1 := hX2.free 1
                  have f2 := hX2.free 2
                  have f3 := hX2.free 3
                  have f4 := hX2.free 4
                  clear hX2 hok hpl
                  generalize (numR s q).1 = E at *
                  go_wp2_with fail
                  refine bodyPost_ret (v := (Ans.err q 4).val) (by simp [results, Tryz.results67, go_sem, Ans.val, c0, c1, c2, c3, c4]) rfl ⟨by rw [HNX.out, HE.out], ?_⟩
                  exact below_put5 HBEL.out (Nat.le_refl _) _ _ _ _ _
                | true =>
                  obtain ⟨n1, n2, n3⟩ := N3.out hok hpl
                  obtain ⟨m1, m2, m3⟩ := NF.out n2
                  have HFORM := Lib.hid m1
                  rw [n1]
                  have hsub : sub s q (intE s q) = s.extract q (intE s q) := rfl
                  rw [hsub] at n3 HFORM
                  have hsz : (s.extract q (intE s q)).size ≤ 2600 := by rw [ByteArray.size_extract]; omega
                  clear hok hpl n1 n2 m1 hsub N1 N2 N3 NF HNU
                  generalize intE s q = I at *
                  have i4 : (q : Int) ≤ (I : Int) := by omega
                  have i5 : (I : Int) ≤ (s.size : Int) := by omega
                  by_cases h64 : Tk.In64 (De.numL (s.extract q I).data.toList)
                  · have HE := Lib.hid (HA.out.trans (n3.trans (if_pos h64)))
                    have H64 := Lib.hid (show In64 (De.numL (s.extract q I).data.toList) from ⟨h64.1, h64.2⟩)
                    clear n3 h64
                    go_wp2_with fail
                    refine (W2.rparse_ok _ _ hsz HFORM.out H64.out).mono ?_
                    rintro e w5 ⟨b5, A5, n5, c5, rfl, hnz, hb5⟩
                    have HB5 := Lib.hid (HBEL.out.trans (hb5.mono HBEL.out.size))
                    have HX5 := Lib.hid (HBOX.out.onto hb5)
                    have HNZ := Lib.hid hnz
                    clear hnz hb5
                    go_upto_region 22 with fail
                    have hb6 : Below w5.heap.size w5 (w5.alloc (.cells #[.bool b5, .slice A5 n5 c5] 85)) := (Below.refl _ _).alloc (Nat.le_refl _) _
                    have hk6 : Blk (w5.alloc (.cells #[.bool b5, .slice A5 n5 c5] 85)) w5.heap.size 85 #[.bool b5, .slice A5 n5 c5] := Blk.new w5 _ _
                    have hnz6 : W2.Nz (w5.alloc (.cells #[.bool b5, .slice A5 n5 c5] 85)) (w5.alloc (.cells #[.bool b5, .slice A5 n5 c5] 85)).heap.size (.agg #[.bool b5, .slice A5 n5 c5]) (De.numL (s.extract q I).data.toList) := W2.Nz.on HNZ.out hb6
                    change Code.wp _ _ _ _ (w5.alloc (.cells #[.bool b5, .slice A5 n5 c5] 85))
                    generalize (w5.alloc (.cells #[.bool b5, .slice A5 n5 c5] 85)) = W6 at *
                    have HB6 := Lib.hid (HB5.out.trans (hb6.mono HB5.out.size))
                    have HX6 := Lib.hid (HX5.out.onto hb6)
                    have HNZ6 := Lib.hid hnz6
                    have d0 := hk6.cell 0
                    have d1 := hk6.cell 1
                    clear hb6 hk6 hnz6 HNZ HX5 HB5
                    generalize w5.heap.size = K6 at *
                    generalize De.numL (s.extract q I).data.toList = n at *
                    go_wp2_with fail
                    refine (W2.int_any _ n _ HNZ6.out H64.out).mono ?_
                    rintro e w7 ⟨rfl, hb7⟩
                    have HB7 := Lib.hid (HB6.out.trans (hb7.mono HB6.out.size))
                    have hX7 := HX6.out.onto hb7
                    have c0 := hX7.cell 0
                    have c1 := hX7.cell 1
                    have c2 := hX7.cell 2
                    have c3 := hX7.cell 3
                    have c4 := hX7.cell 4
                    have f0 := hX7.free 0
                    have f1 := hX7.free 1
                    have f2 := hX7.free 2
                    have f3 := hX7.free 3
                    have f4 := hX7.free 4
                    clear hX7 hb7
                    go_wp2_with fail
                    refine bodyPost_ret (v := (Ans.tok ⟨3, nix, n, q, I⟩).val) (by simp [results, Tryz.results67, go_sem, Ans.val, nix, c0, c1, c2, c3, c4]) rfl ⟨by rw [HNX.out, HE.out], ?_⟩
                    exact below_put5 HB7.out (Nat.le_refl _) _ _ _ _ _
                  · have HE := Lib.hid (HA.out.trans (n3.trans (if_neg h64)))
                    have H64 := Lib.hid (show ¬ In64 (De.numL (s.extract q I).data.toList) from fun h => h64 ⟨h.1, h.2⟩)
                    clear n3 h64
                    go_wp2_with fail
                    refine (W2.rparse_far _ _ hsz HFORM.out H64.out).mono ?_
                    rintro e w5 ⟨rfl, hb5⟩
                    have HB5 := Lib.hid (HBEL.out.trans (hb5.mono HBEL.out.size))
                    have HX5 := Lib.hid (HBOX.out.onto hb5)
                    clear hb5
                    go_upto_region 22 with fail
                    have hb6 : Below w5.heap.size w5 (w5.alloc (.cells #[.bool false, .slice none 0 0] 85)) := (Below.refl _ _).alloc (Nat.le_refl _) _
                    change Code.wp _ _ _ _ (w5.alloc (.cells #[.bool false, .slice none 0 0] 85))
                    generalize (w5.alloc (.cells #[.bool false, .slice none 0 0] 85)) = W6 at *
                    have HB6 := Lib.hid (HB5.out.trans (hb6.mono HB5.out.size))
                    have hX6 := HX5.out.onto hb6
                    have c0 := hX6.cell 0
                    have c1 := hX6.cell 1
                    have c2 := hX6.cell 2
                    have c3 := hX6.cell 3
                    have c4 := hX6.cell 4
                    have f0 := hX6.free 0
                    have f1 := hX6.free 1
                    have f2 := hX6.free 2
                    have f3 := hX6.free 3
                    have f4 := hX6.free 4
                    clear hX6 hb6 HX5 HB5
                    generalize w5.heap.size = K6 at *
                    go_wp2_with fail
                    refine bodyPost_ret (v := (Ans.err q 4).val) (by simp [results, Tryz.results67, go_sem, Ans.val, c0, c1, c2, c3, c4]) rfl ⟨by rw [HNX.out, HE.out], ?_⟩
                    exact below_put5 HB6.out (Nat.le_refl _) _ _ _ _ _
          · skip
            have h45 : bt s q ≠ 45 := fun e => hnum (.inl e)
            have hdg : isDg (bt s q) = false := by
              cases h : isDg (bt s q) with
              | true => exact absurd (Or.inr h) hnum
              | false => rfl
            have v3 : ¬ (s[q].toNat : Int) = 45 := by have := HX.out; omega
            have v4 : ((s[q].toNat : Int) == 45) = false := beq_eq_false_iff_ne.2 v3
            have HDG := Lib.hid hdg
            have HWD := Lib.hid (fun h => ans_word hl hm h34 hnum h)
            have HNONE := Lib.hid (fun h => ans_none hl hm h34 hnum h)
            clear h34 hm hnum h45 hdg
            go_wp2_with fail
            refine (rdg_no HDG.out _ hs2).mono ?_
            rintro e w3 ⟨rfl, rfl⟩
            go_upto_region 26 with fail
            have hb4 : Below wr.heap.size wr (wr.alloc (.cells #[.string ⟨#[116, 114, 117, 101]⟩, .string ⟨#[102, 97, 108, 115, 101]⟩, .string ⟨#[110, 117, 108, 108]⟩] 155)) := (Below.refl _ _).alloc (Nat.le_refl _) _
            have hk4 : Blk (wr.alloc (.cells #[.string ⟨#[116, 114, 117, 101]⟩, .string ⟨#[102, 97, 108, 115, 101]⟩, .string ⟨#[110, 117, 108, 108]⟩] 155)) wr.heap.size 155 #[.string ⟨#[116, 114, 117, 101]⟩, .string ⟨#[102, 97, 108, 115, 101]⟩, .string ⟨#[110, 117, 108, 108]⟩] := Blk.new wr _ _
            change Code.wp _ _ _ _ (wr.alloc (.cells #[.string ⟨#[116, 114, 117, 101]⟩, .string ⟨#[102, 97, 108, 115, 101]⟩, .string ⟨#[110, 117, 108, 108]⟩] 155))
            generalize (wr.alloc (.cells #[.string ⟨#[116, 114, 117, 101]⟩, .string ⟨#[102, 97, 108, 115, 101]⟩, .string ⟨#[110, 117, 108, 108]⟩] 155)) = W4 at *
            have HB4 := Lib.hid (HBEL.out.trans (hb4.mono HBEL.out.size))
            have HX4 := Lib.hid (HBOX.out.onto hb4)
            have HK4 := Lib.hid hk4
            clear hb4 hk4 HBEL HBOX
            generalize wr.heap.size = K4 at *
            go_wp2_with fail
            go_loopw [115] (fun x wr => ∃ k : Nat, k ≤ 3 ∧ x = .int .i64 k ∧ (1 ≤ k → bt s q ≠ 116) ∧ (2 ≤ k → bt s q ≠ 102) ∧ (3 ≤ k → bt s q ≠ 110) ∧ Below w.heap.size w wr ∧ Blk wr w.heap.size 108 #[.int .i64 0, .string ⟨#[]⟩, .int .i64 0, .int .i64 0, .int .i64 0] ∧ Blk wr K4 155 #[.string ⟨#[116, 114, 117, 101]⟩, .string ⟨#[102, 97, 108, 115, 101]⟩, .string ⟨#[110, 117, 108, 108]⟩]) (fun x _ => 3 - (intOf x).toNat)
            case atStart => exact ⟨0, by omega, rfl, fun h => by omega, fun h => by omega, fun h => by omega, HB4.out, HX4.out, HK4.out⟩
            case round =>
              obtain ⟨k, hk, hx0, n1, n2, n3, hbel5, hbox5, hwd5⟩ := hrel
              have M1 := Lib.hid n1
              have M2 := Lib.hid n2
              have M3 := Lib.hid n3
              have HB5 := Lib.hid hbel5
              have HX5 := Lib.hid hbox5
              have HK5 := Lib.hid hwd5
              have d0 := hwd5.cell 0
              have d1 := hwd5.cell 1
              have d2 := hwd5.cell 2
              clear n1 n2 n3 hbel5 hbox5 hwd5 HB4 HX4 HK4
              rcases (by omega : k = 0 ∨ k = 1 ∨ k = 2 ∨ k = 3) with rfl | rfl | rfl | rfl
              · skip
                have hx1 : u115 = .int .i64 0 := hx0
                clear hx0
                subst hx1
                by_cases hc : bt s q = 116
                · have v5 : (s[q].toNat : Int) = 116 := by have := HX.out; omega
                  have v6 : ((s[q].toNat : Int) != 116) = false := by rw [v5]; rfl
                  have v7 : ((s[q].toNat : Int) != (((⟨#[116, 114, 117, 101]⟩ : ByteArray)[0]'(by show 0 < 4; omega)).toNat : Int)) = false := by rw [v5]; rfl
                  have HA := Lib.hid (HWD.out (by omega))
                  have HO := Lib.hid (fun h => HA.out.trans (word_ok (s := s) (a := q) (L := wt) (k := 4) (by rw [hc]; rfl) (by rw [hc]; rfl) h))
                  have HN := Lib.hid (fun p h hp => HA.out.trans (word_no (s := s) (a := q) (L := wt) (by rw [hc]; rfl) (p := p) h hp))
                  have HLB := Lib.hid (word_bd wt (by simp))
                  have HDR := Lib.hid (drop_at wt)
                  have hn : wt.length = 4 := rfl
                  clear hc HWD HNONE M1 M2 M3 HA v5
                  go_upto_region 29 with fail
                  go_quiet (fail)
                  try simp only [v7, v6]
                  rename_i nq
                  have HB6 := Lib.hid (below_drewN HB5.out nq)
                  have hX6 : Blk (wr.drewN nq) w.heap.size 108 #[.int .i64 0, .string ⟨#[]⟩, .int .i64 0, .int .i64 0, .int .i64 0] := HX5.out
                  have hK6 : Blk (wr.drewN nq) K4 155 #[.string ⟨#[116, 114, 117, 101]⟩, .string ⟨#[102, 97, 108, 115, 101]⟩, .string ⟨#[110, 117, 108, 108]⟩] := HK5.out
                  have HX6 := Lib.hid hX6
                  generalize wr.drewN nq = W6 at *
                  clear d0 d1 d2
                  have d0 := hK6.cell 0
                  have c0 := hX6.cell 0
                  have c1 := hX6.cell 1
                  have c2 := hX6.cell 2
                  have c3 := hX6.cell 3
                  have c4 := hX6.cell 4
                  have f0 := hX6.free 0
                  have f1 := hX6.free 1
                  have f2 := hX6.free 2
                  have f3 := hX6.free 3
                  have f4 := hX6.free 4
                  clear hX6 hK6 HX5 HK5 HB5
                  go_wp2_with fail
                  go_loopw [19] (fun y wz => ∃ m : Nat, m ≤ 4 ∧ q + m ≤ s.size ∧ wordE s wt q = wordE s (wt.drop m) (q + m) ∧ y = .int .i64 m ∧ wz = W6) (fun y _ => 4 - (intOf y).toNat)
                  case atStart => exact ⟨0, by omega, by omega, rfl, rfl, rfl⟩
                  case round =>
                    obtain ⟨m, h1, h2, h3, rfl, rfl⟩ := hrel
                    have H3 := Lib.hid h3
                    clear h3
                    by_cases hlt : m < 4
                    · have t1 : (m : Int) < 4 := by omega
                      have t2 : decide ((m : Int) < 4) = true := decide_eq_true t1
                      have t3 : (0 : Int) ≤ (m : Int) := by omega
                      have WA := Lib.hid (show ∀ h' : m < (⟨#[116, 114, 117, 101]⟩ : ByteArray).size, ((⟨#[116, 114, 117, 101]⟩ : ByteArray)[m]'h').toNat = wt.getD m 0 from fun h' => by
                        rcases (by omega : m = 0 ∨ m = 1 ∨ m = 2 ∨ m = 3) with rfl | rfl | rfl | rfl <;> rfl)
                      have hdr := HDR.out m (by rw [hn]; exact hlt)
                      have hbd := HLB.out m (by rw [hn]; exact hlt)
                      generalize wt.getD m 0 = ch at *
                      have HDRm := Lib.hid hdr
                      clear hdr
                      by_cases hh : bt s (q + m) = ch
                      · have HG := Lib.hid (show wordE s wt q = wordE s (wt.drop (m + 1)) (q + (m + 1)) by rw [H3.out, HDRm.out, wordE_go hh]; rfl)
                        have hqm : q + m < s.size := lt_of_bt (by omega)
                        have HH := Lib.hid hh
                        clear hh
                        go_wp2_with fail
                        refine (rb_yes' (a := q + m) (c := (((⟨#[116, 114, 117, 101]⟩ : ByteArray)[m]'(by show m < 4; omega)).toNat : Int)) (by omega) (by have h9 := WA.out (by show m < 4; omega); have h8 := HH.out; omega) _ hs2 (by have h9 := WA.out (by show m < 4; omega); omega) (by have h9 := WA.out (by show m < 4; omega); omega)).mono ?_
                        rintro e w7 ⟨rfl, rfl⟩
                        go_wp2_with fail
                        go_roundw
                        case rel => exact ⟨m + 1, hlt, by omega, HG.out, by go_num, by trivial⟩
                        case measure => simp [intOf]; omega
                      · have HE := Lib.hid (HN.out (q + m) (by rw [H3.out, HDRm.out, wordE_stop hh]) (by rw [hn]; omega))
                        have HH := Lib.hid hh
                        clear hh
                        go_wp2_with fail
                        refine (rb_no' (a := q + m) (c := (((⟨#[116, 114, 117, 101]⟩ : ByteArray)[m]'(by show m < 4; omega)).toNat : Int)) (by omega) (by have h9 := WA.out (by show m < 4; omega); have h8 := HH.out; omega) _ hs2 (by have h9 := WA.out (by show m < 4; omega); omega) (by have h9 := WA.out (by show m < 4; omega); omega)).mono ?_
                        rintro e w7 ⟨rfl, rfl⟩
                        go_wp2_with fail
                        refine bodyPost_ret (v := (Ans.err (q + m) 1).val) (by simp [results, Tryz.results67, go_sem, Ans.val, c0, c1, c2, c3, c4]) rfl ⟨by rw [HNX.out, HE.out], ?_⟩
                        exact below_put5 HB6.out (Nat.le_refl _) _ _ _ _ _
                    · obtain rfl : m = 4 := by omega
                      have HE := Lib.hid (show ansAt s q = .tok ⟨4, nix, 0, q, q + 4⟩ from HO.out (by rw [H3.out]; rfl))
                      go_wp2_with fail
                      refine bodyPost_ret (v := (Ans.tok ⟨4, nix, 0, q, q + 4⟩).val) (by simp [results, Tryz.results67, go_sem, Ans.val, nix, c0, c1, c2, c3, c4]) rfl ⟨by rw [HNX.out, HE.out], ?_⟩
                      exact below_put5 HB6.out (Nat.le_refl _) _ _ _ _ _
                · have v5 : ¬ (s[q].toNat : Int) = 116 := by have := HX.out; omega
                  have v6 : ((s[q].toNat : Int) != 116) = true := by rw [bne_iff_ne]; exact v5
                  have v7 : ((s[q].toNat : Int) != (((⟨#[116, 114, 117, 101]⟩ : ByteArray)[0]'(by show 0 < 4; omega)).toNat : Int)) = true := v6
                  have HC := Lib.hid hc
                  clear hc v5
                  go_upto_region 29 with fail
                  go_quiet (fail)
                  try simp only [v7, v6]
                  rename_i nq
                  have HB6 := Lib.hid (below_drewN HB5.out nq)
                  have HX6 := Lib.hid (show Blk (wr.drewN nq) w.heap.size 108 #[.int .i64 0, .string ⟨#[]⟩, .int .i64 0, .int .i64 0, .int .i64 0] from HX5.out)
                  have HK6 := Lib.hid (show Blk (wr.drewN nq) K4 155 #[.string ⟨#[116, 114, 117, 101]⟩, .string ⟨#[102, 97, 108, 115, 101]⟩, .string ⟨#[110, 117, 108, 108]⟩] from HK5.out)
                  generalize wr.drewN nq = W6 at *
                  clear d0 d1 d2
                  go_wp2_with fail
                  go_roundw
                  case rel => exact ⟨1, by omega, rfl, fun _ => HC.out, fun h => absurd h (by omega), fun h => absurd h (by omega), HB6.out, HX6.out, HK6.out⟩
                  case measure => simp [intOf]
              · skip
                have hx1 : u115 = .int .i64 1 := hx0
                clear hx0
                subst hx1
                by_cases hc : bt s q = 102
                · have v5 : (s[q].toNat : Int) = 102 := by have := HX.out; omega
                  have v6 : ((s[q].toNat : Int) != 102) = false := by rw [v5]; rfl
                  have v7 : ((s[q].toNat : Int) != (((⟨#[102, 97, 108, 115, 101]⟩ : ByteArray)[0]'(by show 0 < 5; omega)).toNat : Int)) = false := by rw [v5]; rfl
                  have HA := Lib.hid (HWD.out (by omega))
                  have HO := Lib.hid (fun h => HA.out.trans (word_ok (s := s) (a := q) (L := wf) (k := 5) (by rw [hc]; rfl) (by rw [hc]; rfl) h))
                  have HN := Lib.hid (fun p h hp => HA.out.trans (word_no (s := s) (a := q) (L := wf) (by rw [hc]; rfl) (p := p) h hp))
                  have HLB := Lib.hid (word_bd wf (by simp))
                  have HDR := Lib.hid (drop_at wf)
                  have hn : wf.length = 5 := rfl
                  clear hc HWD HNONE M1 M2 M3 HA v5
                  go_upto_region 29 with fail
                  go_quiet (fail)
                  try simp only [v7, v6]
                  rename_i nq
                  have HB6 := Lib.hid (below_drewN HB5.out nq)
                  have hX6 : Blk (wr.drewN nq) w.heap.size 108 #[.int .i64 0, .string ⟨#[]⟩, .int .i64 0, .int .i64 0, .int .i64 0] := HX5.out
                  have hK6 : Blk (wr.drewN nq) K4 155 #[.string ⟨#[116, 114, 117, 101]⟩, .string ⟨#[102, 97, 108, 115, 101]⟩, .string ⟨#[110, 117, 108, 108]⟩] := HK5.out
                  have HX6 := Lib.hid hX6
                  generalize wr.drewN nq = W6 at *
                  clear d0 d1 d2
                  have d0 := hK6.cell 1
                  have c0 := hX6.cell 0
                  have c1 := hX6.cell 1
                  have c2 := hX6.cell 2
                  have c3 := hX6.cell 3
                  have c4 := hX6.cell 4
                  have f0 := hX6.free 0
                  have f1 := hX6.free 1
                  have f2 := hX6.free 2
                  have f3 := hX6.free 3
                  have f4 := hX6.free 4
                  clear hX6 hK6 HX5 HK5 HB5
                  go_wp2_with fail
                  go_loopw [19] (fun y wz => ∃ m : Nat, m ≤ 5 ∧ q + m ≤ s.size ∧ wordE s wf q = wordE s (wf.drop m) (q + m) ∧ y = .int .i64 m ∧ wz = W6) (fun y _ => 5 - (intOf y).toNat)
                  case atStart => exact ⟨0, by omega, by omega, rfl, rfl, rfl⟩
                  case round =>
                    obtain ⟨m, h1, h2, h3, rfl, rfl⟩ := hrel
                    have H3 := Lib.hid h3
                    clear h3
                    by_cases hlt : m < 5
                    · have t1 : (m : Int) < 5 := by omega
                      have t2 : decide ((m : Int) < 5) = true := decide_eq_true t1
                      have t3 : (0 : Int) ≤ (m : Int) := by omega
                      have WA := Lib.hid (show ∀ h' : m < (⟨#[102, 97, 108, 115, 101]⟩ : ByteArray).size, ((⟨#[102, 97, 108, 115, 101]⟩ : ByteArray)[m]'h').toNat = wf.getD m 0 from fun h' => by
                        rcases (by omega : m = 0 ∨ m = 1 ∨ m = 2 ∨ m = 3 ∨ m = 4) with rfl | rfl | rfl | rfl | rfl <;> rfl)
                      have hdr := HDR.out m (by rw [hn]; exact hlt)
                      have hbd := HLB.out m (by rw [hn]; exact hlt)
                      generalize wf.getD m 0 = ch at *
                      have HDRm := Lib.hid hdr
                      clear hdr
                      by_cases hh : bt s (q + m) = ch
                      · have HG := Lib.hid (show wordE s wf q = wordE s (wf.drop (m + 1)) (q + (m + 1)) by rw [H3.out, HDRm.out, wordE_go hh]; rfl)
                        have hqm : q + m < s.size := lt_of_bt (by omega)
                        have HH := Lib.hid hh
                        clear hh
                        go_wp2_with fail
                        refine (rb_yes' (a := q + m) (c := (((⟨#[102, 97, 108, 115, 101]⟩ : ByteArray)[m]'(by show m < 5; omega)).toNat : Int)) (by omega) (by have h9 := WA.out (by show m < 5; omega); have h8 := HH.out; omega) _ hs2 (by have h9 := WA.out (by show m < 5; omega); omega) (by have h9 := WA.out (by show m < 5; omega); omega)).mono ?_
                        rintro e w7 ⟨rfl, rfl⟩
                        go_wp2_with fail
                        go_roundw
                        case rel => exact ⟨m + 1, hlt, by omega, HG.out, by go_num, by trivial⟩
                        case measure => simp [intOf]; omega
                      · have HE := Lib.hid (HN.out (q + m) (by rw [H3.out, HDRm.out, wordE_stop hh]) (by rw [hn]; omega))
                        have HH := Lib.hid hh
                        clear hh
                        go_wp2_with fail
                        refine (rb_no' (a := q + m) (c := (((⟨#[102, 97, 108, 115, 101]⟩ : ByteArray)[m]'(by show m < 5; omega)).toNat : Int)) (by omega) (by have h9 := WA.out (by show m < 5; omega); have h8 := HH.out; omega) _ hs2 (by have h9 := WA.out (by show m < 5; omega); omega) (by have h9 := WA.out (by show m < 5; omega); omega)).mono ?_
                        rintro e w7 ⟨rfl, rfl⟩
                        go_wp2_with fail
                        refine bodyPost_ret (v := (Ans.err (q + m) 1).val) (by simp [results, Tryz.results67, go_sem, Ans.val, c0, c1, c2, c3, c4]) rfl ⟨by rw [HNX.out, HE.out], ?_⟩
                        exact below_put5 HB6.out (Nat.le_refl _) _ _ _ _ _
                    · obtain rfl : m = 5 := by omega
                      have HE := Lib.hid (show ansAt s q = .tok ⟨5, nix, 0, q, q + 5⟩ from HO.out (by rw [H3.out]; rfl))
                      go_wp2_with fail
                      refine bodyPost_ret (v := (Ans.tok ⟨5, nix, 0, q, q + 5⟩).val) (by simp [results, Tryz.results67, go_sem, Ans.val, nix, c0, c1, c2, c3, c4]) rfl ⟨by rw [HNX.out, HE.out], ?_⟩
                      exact below_put5 HB6.out (Nat.le_refl _) _ _ _ _ _
                · have v5 : ¬ (s[q].toNat : Int) = 102 := by have := HX.out; omega
                  have v6 : ((s[q].toNat : Int) != 102) = true := by rw [bne_iff_ne]; exact v5
                  have v7 : ((s[q].toNat : Int) != (((⟨#[102, 97, 108, 115, 101]⟩ : ByteArray)[0]'(by show 0 < 5; omega)).toNat : Int)) = true := v6
                  have HC := Lib.hid hc
                  clear hc v5
                  go_upto_region 29 with fail
                  go_quiet (fail)
                  try simp only [v7, v6]
                  rename_i nq
                  have HB6 := Lib.hid (below_drewN HB5.out nq)
                  have HX6 := Lib.hid (show Blk (wr.drewN nq) w.heap.size 108 #[.int .i64 0, .string ⟨#[]⟩, .int .i64 0, .int .i64 0, .int .i64 0] from HX5.out)
                  have HK6 := Lib.hid (show Blk (wr.drewN nq) K4 155 #[.string ⟨#[116, 114, 117, 101]⟩, .string ⟨#[102, 97, 108, 115, 101]⟩, .string ⟨#[110, 117, 108, 108]⟩] from HK5.out)
                  generalize wr.drewN nq = W6 at *
                  clear d0 d1 d2
                  go_wp2_with fail
                  go_roundw
                  case rel => exact ⟨2, by omega, rfl, fun _ => M1.out (by omega), fun _ => HC.out, fun h => absurd h (by omega), HB6.out, HX6.out, HK6.out⟩
                  case measure => simp [intOf]
              · skip
                have hx1 : u115 = .int .i64 2 := hx0
                clear hx0
                subst hx1
                by_cases hc : bt s q = 110
                · have v5 : (s[q].toNat : Int) = 110 := by have := HX.out; omega
                  have v6 : ((s[q].toNat : Int) != 110) = false := by rw [v5]; rfl
                  have v7 : ((s[q].toNat : Int) != (((⟨#[110, 117, 108, 108]⟩ : ByteArray)[0]'(by show 0 < 4; omega)).toNat : Int)) = false := by rw [v5]; rfl
                  have HA := Lib.hid (HWD.out (by omega))
                  have HO := Lib.hid (fun h => HA.out.trans (word_ok (s := s) (a := q) (L := wn) (k := 6) (by rw [hc]; rfl) (by rw [hc]; rfl) h))
                  have HN := Lib.hid (fun p h hp => HA.out.trans (word_no (s := s) (a := q) (L := wn) (by rw [hc]; rfl) (p := p) h hp))
                  have HLB := Lib.hid (word_bd wn (by simp))
                  have HDR := Lib.hid (drop_at wn)
                  have hn : wn.length = 4 := rfl
                  clear hc HWD HNONE M1 M2 M3 HA v5
                  go_upto_region 29 with fail
                  go_quiet (fail)
                  try simp only [v7, v6]
                  rename_i nq
                  have HB6 := Lib.hid (below_drewN HB5.out nq)
                  have hX6 : Blk (wr.drewN nq) w.heap.size 108 #[.int .i64 0, .string ⟨#[]⟩, .int .i64 0, .int .i64 0, .int .i64 0] := HX5.out
                  have hK6 : Blk (wr.drewN nq) K4 155 #[.string ⟨#[116, 114, 117, 101]⟩, .string ⟨#[102, 97, 108, 115, 101]⟩, .string ⟨#[110, 117, 108, 108]⟩] := HK5.out
                  have HX6 := Lib.hid hX6
                  generalize wr.drewN nq = W6 at *
                  clear d0 d1 d2
                  have d0 := hK6.cell 2
                  have c0 := hX6.cell 0
                  have c1 := hX6.cell 1
                  have c2 := hX6.cell 2
                  have c3 := hX6.cell 3
                  have c4 := hX6.cell 4
                  have f0 := hX6.free 0
                  have f1 := hX6.free 1
                  have f2 := hX6.free 2
                  have f3 := hX6.free 3
                  have f4 := hX6.free 4
                  clear hX6 hK6 HX5 HK5 HB5
                  go_wp2_with fail
                  go_loopw [19] (fun y wz => ∃ m : Nat, m ≤ 4 ∧ q + m ≤ s.size ∧ wordE s wn q = wordE s (wn.drop m) (q + m) ∧ y = .int .i64 m ∧ wz = W6) (fun y _ => 4 - (intOf y).toNat)
                  case atStart => exact ⟨0, by omega, by omega, rfl, rfl, rfl⟩
                  case round =>
                    obtain ⟨m, h1, h2, h3, rfl, rfl⟩ := hrel
                    have H3 := Lib.hid h3
                    clear h3
                    by_cases hlt : m < 4
                    · have t1 : (m : Int) < 4 := by omega
                      have t2 : decide ((m : Int) < 4) = true := decide_eq_true t1
                      have t3 : (0 : Int) ≤ (m : Int) := by omega
                      have WA := Lib.hid (show ∀ h' : m < (⟨#[110, 117, 108, 108]⟩ : ByteArray).size, ((⟨#[110, 117, 108, 108]⟩ : ByteArray)[m]'h').toNat = wn.getD m 0 from fun h' => by
                        rcases (by omega : m = 0 ∨ m = 1 ∨ m = 2 ∨ m = 3) with rfl | rfl | rfl | rfl <;> rfl)
                      have hdr := HDR.out m (by rw [hn]; exact hlt)
                      have hbd := HLB.out m (by rw [hn]; exact hlt)
                      generalize wn.getD m 0 = ch at *
                      have HDRm := Lib.hid hdr
                      clear hdr
                      by_cases hh : bt s (q + m) = ch
                      · have HG := Lib.hid (show wordE s wn q = wordE s (wn.drop (m + 1)) (q + (m + 1)) by rw [H3.out, HDRm.out, wordE_go hh]; rfl)
                        have hqm : q + m < s.size := lt_of_bt (by omega)
                        have HH := Lib.hid hh
                        clear hh
                        go_wp2_with fail
                        refine (rb_yes' (a := q + m) (c := (((⟨#[110, 117, 108, 108]⟩ : ByteArray)[m]'(by show m < 4; omega)).toNat : Int)) (by omega) (by have h9 := WA.out (by show m < 4; omega); have h8 := HH.out; omega) _ hs2 (by have h9 := WA.out (by show m < 4; omega); omega) (by have h9 := WA.out (by show m < 4; omega); omega)).mono ?_
                        rintro e w7 ⟨rfl, rfl⟩
                        go_wp2_with fail
                        go_roundw
                        case rel => exact ⟨m + 1, hlt, by omega, HG.out, by go_num, by trivial⟩
                        case measure => simp [intOf]; omega
                      · have HE := Lib.hid (HN.out (q + m) (by rw [H3.out, HDRm.out, wordE_stop hh]) (by rw [hn]; omega))
                        have HH := Lib.hid hh
                        clear hh
                        go_wp2_with fail
                        refine (rb_no' (a := q + m) (c := (((⟨#[110, 117, 108, 108]⟩ : ByteArray)[m]'(by show m < 4; omega)).toNat : Int)) (by omega) (by have h9 := WA.out (by show m < 4; omega); have h8 := HH.out; omega) _ hs2 (by have h9 := WA.out (by show m < 4; omega); omega) (by have h9 := WA.out (by show m < 4; omega); omega)).mono ?_
                        rintro e w7 ⟨rfl, rfl⟩
                        go_wp2_with fail
                        refine bodyPost_ret (v := (Ans.err (q + m) 1).val) (by simp [results, Tryz.results67, go_sem, Ans.val, c0, c1, c2, c3, c4]) rfl ⟨by rw [HNX.out, HE.out], ?_⟩
                        exact below_put5 HB6.out (Nat.le_refl _) _ _ _ _ _
                    · obtain rfl : m = 4 := by omega
                      have HE := Lib.hid (show ansAt s q = .tok ⟨6, nix, 0, q, q + 4⟩ from HO.out (by rw [H3.out]; rfl))
                      go_wp2_with fail
                      refine bodyPost_ret (v := (Ans.tok ⟨6, nix, 0, q, q + 4⟩).val) (by simp [results, Tryz.results67, go_sem, Ans.val, nix, c0, c1, c2, c3, c4]) rfl ⟨by rw [HNX.out, HE.out], ?_⟩
                      exact below_put5 HB6.out (Nat.le_refl _) _ _ _ _ _
                · have v5 : ¬ (s[q].toNat : Int) = 110 := by have := HX.out; omega
                  have v6 : ((s[q].toNat : Int) != 110) = true := by rw [bne_iff_ne]; exact v5
                  have v7 : ((s[q].toNat : Int) != (((⟨#[110, 117, 108, 108]⟩ : ByteArray)[0]'(by show 0 < 4; omega)).toNat : Int)) = true := v6
                  have HC := Lib.hid hc
                  clear hc v5
                  go_upto_region 29 with fail
                  go_quiet (fail)
                  try simp only [v7, v6]
                  rename_i nq
                  have HB6 := Lib.hid (below_drewN HB5.out nq)
                  have HX6 := Lib.hid (show Blk (wr.drewN nq) w.heap.size 108 #[.int .i64 0, .string ⟨#[]⟩, .int .i64 0, .int .i64 0, .int .i64 0] from HX5.out)
                  have HK6 := Lib.hid (show Blk (wr.drewN nq) K4 155 #[.string ⟨#[116, 114, 117, 101]⟩, .string ⟨#[102, 97, 108, 115, 101]⟩, .string ⟨#[110, 117, 108, 108]⟩] from HK5.out)
                  generalize wr.drewN nq = W6 at *
                  clear d0 d1 d2
                  go_wp2_with fail
                  go_roundw
                  case rel => exact ⟨3, by omega, rfl, fun _ => M1.out (by omega), fun _ => M2.out (by omega), fun _ => HC.out, HB6.out, HX6.out, HK6.out⟩
                  case measure => simp [intOf]
              · skip
                have hx1 : u115 = .int .i64 3 := hx0
                clear hx0
                subst hx1
                have HE := Lib.hid (HNONE.out (fun h => by rcases h with h | h | h; exact M1.out (by omega) h; exact M2.out (by omega) h; exact M3.out (by omega) h))
                have hX6 := HX5.out
                have c0 := hX6.cell 0
                have c1 := hX6.cell 1
                have c2 := hX6.cell 2
                have c3 := hX6.cell 3
                have c4 := hX6.cell 4
                have f0 := hX6.free 0
                have f1 := hX6.free 1
                have f2 := hX6.free 2
                have f3 := hX6.free 3
                have f4 := hX6.free 4
                clear d0 d1 d2 hX6
                go_wp2_with fail
                refine bodyPost_ret (v := (Ans.err q 1).val) (by simp [results, Tryz.results67, go_sem, Ans.val, c0, c1, c2, c3, c4]) rfl ⟨by rw [HNX.out, HE.out], ?_⟩
                exact below_put5 HB5.out (Nat.le_refl _) _ _ _ _ _
  · skip
    obtain rfl : q = s.size := by omega
    have HE := Lib.hid (ans_end (s := s) (Nat.le_refl s.size))
    have g1 : decide ((s.size : Int) ≥ (s.size : Int)) = true := decide_eq_true (by omega)
    have g2 : decide ((s.size : Int) ≤ (s.size : Int)) = true := decide_eq_true (by omega)
    have hX2 := HB.out
    have c0 := hX2.cell 0
    have c1 := hX2.cell 1
    have c2 := hX2.cell 2
    have c3 := hX2.cell 3
    have c4 := hX2.cell 4
    have f0 := hX2.free 0
    have f1 := hX2.free 1
    have f2 := hX2.free 2
    have f3 := hX2.free 3
    have f4 := hX2.free 4
    go_wp2_with fail
    refine bodyPost_ret (v := (Ans.tok ⟨0, nix, 0, s.size, s.size⟩).val) (by simp [results, Tryz.results67, go_sem, Ans.val, nix, c0, c1, c2, c3, c4]) rfl ⟨by rw [HNX.out, HE.out], ?_⟩
    exact below_put5 HW.out (Nat.le_refl _) _ _ _ _ _
/-- the same of a short text -/
theorem rnext_any (s : ByteArray) (a : Nat) (w : World) (hs : s.size ≤ 400) (ha : a ≤ s.size) : Calls Tryz.prog 67 #[.string s, .int .i64 a] w fun e w' => e = .returned (next s a).val ∧ Below w.heap.size w w' :=
  rnext_far s a w (by omega) (by omega) ha
end Go.Proofs.YtfiahpeajccinaaGreatDoor
