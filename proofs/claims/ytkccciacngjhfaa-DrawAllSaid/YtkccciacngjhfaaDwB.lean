/- The order of sequences: cmp.Compare, slices.Compare, Order, and the reference's Less. -/
import Derived.Test.YtkccciacngjhfaaDwA
import Derived.Deep.RegionHeld3
import Derived.Deep.DrawnRows
namespace Go.Proofs.Ytkccciacngjhfaa
open Go.RowKit
attribute [local go_sem ↓] Go.wp_at_zero Go.wp_at_succ

def lexI : List Int → List Int → Int
  | a :: l, b :: m => if a < b then -1 else if b < a then 1 else lexI l m
  | _, _ => 0
/-- the order of sequences -/
def ordI (l m : List Int) : Int := if l.length < m.length then -1 else if m.length < l.length then 1 else lexI l m
theorem drop_getD {l : List Int} {k : Nat} (h : k < l.length) : l.drop k = l.getD k 0 :: l.drop (k + 1) := by
  rw [List.getD_eq_getElem?_getD, List.getElem?_eq_getElem h]
  simp
theorem lex_at {l m : List Int} {k : Nat} (h : k < l.length) (h2 : k < m.length) : lexI (l.drop k) (m.drop k) = if l.getD k 0 < m.getD k 0 then -1 else if m.getD k 0 < l.getD k 0 then 1 else lexI (l.drop (k + 1)) (m.drop (k + 1)) := by
  rw [drop_getD h, drop_getD h2]; rfl
theorem lexI_swap : ∀ l m : List Int, lexI m l = - lexI l m
  | a :: l, b :: m => by
    have ih := lexI_swap l m
    by_cases h1 : a < b
    · have h3 : ¬ b < a := by omega
      simp [lexI, h1, h3]
    · by_cases h2 : b < a
      · simp [lexI, h1, h2]
      · simp [lexI, h1, h2, ih]
  | [], [] => rfl
  | [], _ :: _ => rfl
  | _ :: _, [] => rfl
theorem lexI_three (l m : List Int) : lexI l m = -1 ∨ lexI l m = 0 ∨ lexI l m = 1 := by
  induction l generalizing m with
  | nil => right; left; cases m <;> rfl
  | cons a l ih =>
    cases m with
    | nil => right; left; rfl
    | cons b m =>
      unfold lexI
      split
      · left; rfl
      · split
        · right; right; rfl
        · exact ih m
theorem lexI_zero : ∀ l m : List Int, l.length = m.length → lexI l m = 0 → l = m
  | a :: l, b :: m, hl, h => by
    unfold lexI at h
    split at h
    · cases h
    · split at h
      · cases h
      · rw [lexI_zero l m (by simpa using hl) h, show a = b by omega]
  | [], [], _, _ => rfl
  | [], _ :: _, hl, _ => by simp at hl
  | _ :: _, [], hl, _ => by simp at hl
theorem lexI_trans : ∀ l m n : List Int, l.length = m.length → m.length = n.length → lexI l m ≤ 0 → lexI m n ≤ 0 → lexI l n ≤ 0
  | a :: l, b :: m, c :: n, h1, h2, h3, h4 => by
    have ih := lexI_trans l m n (by simpa using h1) (by simpa using h2)
    unfold lexI at h3 h4 ⊢
    by_cases x1 : a < b
    · by_cases y1 : b < c
      · rw [if_pos (by omega)]; omega
      · by_cases y2 : c < b
        · rw [if_neg y1, if_pos y2] at h4; omega
        · rw [if_pos (by omega)]; omega
    · by_cases x2 : b < a
      · rw [if_neg x1, if_pos x2] at h3; omega
      · rw [if_neg x1, if_neg x2] at h3
        by_cases y1 : b < c
        · rw [if_pos (by omega)]; omega
        · by_cases y2 : c < b
          · rw [if_neg y1, if_pos y2] at h4; omega
          · rw [if_neg y1, if_neg y2] at h4
            rw [if_neg (by omega), if_neg (by omega)]
            exact ih h3 h4
  | [], m, n, _, _, _, _ => by cases n <;> simp [lexI]
  | _ :: _, [], _, h1, _, _, _ => by simp at h1
  | _ :: _, _ :: _, [], _, h2, _, _ => by simp at h2
theorem ordI_swap (l m : List Int) : ordI m l = - ordI l m := by
  by_cases h1 : l.length < m.length
  · have h3 : ¬ m.length < l.length := by omega
    simp [ordI, h1, h3]
  · by_cases h2 : m.length < l.length
    · simp [ordI, h1, h2]
    · simp [ordI, h1, h2, lexI_swap l m]
theorem ordI_three (l m : List Int) : ordI l m = -1 ∨ ordI l m = 0 ∨ ordI l m = 1 := by
  unfold ordI
  split
  · left; rfl
  · split
    · right; right; rfl
    · exact lexI_three l m
theorem ordI_trans (l m n : List Int) (h1 : ordI l m ≤ 0) (h2 : ordI m n ≤ 0) : ordI l n ≤ 0 := by
  unfold ordI at h1 h2 ⊢
  by_cases x1 : l.length < m.length
  · by_cases y1 : m.length < n.length
    · rw [if_pos (by omega)]; omega
    · by_cases y2 : n.length < m.length
      · rw [if_neg y1, if_pos y2] at h2; omega
      · rw [if_pos (by omega)]; omega
  · by_cases x2 : m.length < l.length
    · rw [if_neg x1, if_pos x2] at h1; omega
    · rw [if_neg x1, if_neg x2] at h1
      by_cases y1 : m.length < n.length
      · rw [if_pos (by omega)]; omega
      · by_cases y2 : n.length < m.length
        · rw [if_neg y1, if_pos y2] at h2; omega
        · rw [if_neg y1, if_neg y2] at h2
          rw [if_neg (by omega), if_neg (by omega)]
          exact lexI_trans l m n (by omega) (by omega) h1 h2
theorem ordI_zero {l m : List Int} (h : ordI l m = 0) : l = m := by
  unfold ordI at h
  by_cases x1 : l.length < m.length
  · rw [if_pos x1] at h; cases h
  · by_cases x2 : m.length < l.length
    · rw [if_neg x1, if_pos x2] at h; cases h
    · rw [if_neg x1, if_neg x2] at h
      exact lexI_zero l m (by omega) h
/-- is l ahead of m? -/
def lessI (l m : List Int) : Bool := decide (ordI l m < 0)

def cmpZ (a b : Int) : Int := if a < b then -1 else if b < a then 1 else 0
theorem cmpZ_lt {a b : Int} (h : a < b) : cmpZ a b = -1 := if_pos h
theorem cmpZ_gt {a b : Int} (h : b < a) : cmpZ a b = 1 := by unfold cmpZ; rw [if_neg (by omega), if_pos h]
theorem cmpZ_eq {a b : Int} (h : a = b) : cmpZ a b = 0 := by unfold cmpZ; rw [if_neg (by omega), if_neg (by omega)]
theorem nanI_any (a : Int) (w : World) : Calls Try.prog 28 #[.int .i64 a] w fun e w' => e = .returned (.bool false) ∧ w = w' := by
  have t0 : (a != a) = false := by simp
  go_enter Try.func28, Try.ntmps28
  go_wp2
  go_ret
  exact ⟨rfl, rfl⟩
theorem cmpI_any (a b : Int) (w : World) : Calls Try.prog 21 #[.int .i64 a, .int .i64 b] w fun e w' => e = .returned (.int .i64 (cmpZ a b)) ∧ w = w' := by
  rcases (by omega : a < b ∨ (¬ a < b ∧ b < a) ∨ (¬ a < b ∧ ¬ b < a)) with h1 | ⟨h1, h2⟩ | ⟨h1, h2⟩
  all_goals
    go_enter Try.func21, Try.ntmps21
    go_wp2_with fail
    refine (nanI_any a _).mono ?_
    rintro e w' ⟨rfl, rfl⟩
    go_wp2_with fail
    refine (nanI_any b _).mono ?_
    rintro e w' ⟨rfl, rfl⟩
    go_wp2_with fail
    go_ret
  · exact ⟨r_int (cmpZ_lt h1).symm, rfl⟩
  · exact ⟨r_int (cmpZ_gt h2).symm, rfl⟩
  · exact ⟨r_int (cmpZ_eq (by omega)).symm, rfl⟩

set_option maxRecDepth 100000 in
set_option maxHeartbeats 2000000 in
theorem scmp_any (l m : List Int) (A C : Option Addr) (c d : Nat) (w : World) (ll : l.length ≤ 1000000) (he : l.length = m.length) (rl : RI w w.heap.size A l) (rm : RI w w.heap.size C m) :
    Calls Try.prog 22 #[.slice A l.length c, .slice C m.length d] w fun e w' => e = .returned (.int .i64 (lexI l m)) ∧ w = w' := by
  have Rl := Lib.hid rl
  have Rm := Lib.hid rm
  have t9 : decide ((l.length : Int) < (m.length : Int)) = false := decide_eq_false (by omega)
  have t8 : decide (l.length < m.length) = false := decide_eq_false (by omega)
  have He := Lib.hid he
  clear rl rm he
  go_enter Try.func22, Try.ntmps22
  go_wp2_with fail
  go_loop [5, 6, 7, 8, 11] (fun _ _ _ _ i => ∃ k : Nat, k ≤ l.length ∧ i = .int .i64 k ∧ lexI l m = lexI (l.drop k) (m.drop k)) (fun _ _ _ _ i => l.length - (intOf i).toNat)
  case atStart => exact ⟨0, Nat.zero_le _, rfl, by simp⟩
  case round =>
    obtain ⟨k, hk, rfl, hx⟩ := hrel
    by_cases hlt : k < l.length
    · have hlm : k < m.length := by have := He.out; omega
      have u1 : decide (k < l.length) = true := decide_eq_true hlt
      have u2 : decide ((m.length : Int) ≤ (k : Int)) = false := decide_eq_false (by omega)
      obtain ⟨b1, o1, rfl, hb1, c1⟩ := Rl.out.at_ hlt
      obtain ⟨b2, o2, rfl, hb2, c2⟩ := Rm.out.at_ hlm
      have e1 := c1 k hlt
      have e2 := c2 k hlm
      have HX := Lib.hid (hx.trans (lex_at hlt hlm))
      clear c1 c2 hx
      generalize l.getD k 0 = x at *
      generalize m.getD k 0 = y at *
      go_wp2_with fail
      refine (cmpI_any x y _).mono ?_
      rintro e w' ⟨rfl, rfl⟩
      rcases (by omega : x < y ∨ (¬ x < y ∧ y < x) ∨ (¬ x < y ∧ ¬ y < x)) with h1 | ⟨h1, h2⟩ | ⟨h1, h2⟩
      · have HR := Lib.hid (show lexI l m = -1 by rw [HX.out, if_pos h1])
        rw [cmpZ_lt h1]
        clear h1
        go_wp2_with fail
        go_ret
        exact ⟨r_int HR.out.symm, rfl⟩
      · have HR := Lib.hid (show lexI l m = 1 by rw [HX.out, if_neg h1, if_pos h2])
        rw [cmpZ_gt h2]
        clear h1 h2
        go_wp2_with fail
        go_ret
        exact ⟨r_int HR.out.symm, rfl⟩
      · have HR := Lib.hid (show lexI l m = lexI (l.drop (k + 1)) (m.drop (k + 1)) by rw [HX.out, if_neg h1, if_neg h2])
        rw [cmpZ_eq (show x = y by omega)]
        clear h1 h2
        go_wp2_with fail
        go_round
        case rel => exact ⟨k + 1, by omega, by go_num, HR.out⟩
        case measure => simp [intOf]; omega
    · obtain rfl : l.length = k := by omega
      have HR := Lib.hid (show lexI l m = 0 by rw [hx, List.drop_length]; cases m.drop l.length <;> rfl)
      clear hx
      go_wp2_with fail
      go_ret
      exact ⟨r_int HR.out.symm, rfl⟩

theorem dorder_any (l m : List Int) (A C : Option Addr) (c d : Nat) (w : World) (ll : l.length ≤ 1000000) (rl : RI w w.heap.size A l) (rm : RI w w.heap.size C m) :
    Calls Try.prog 12 #[.slice A l.length c, .slice C m.length d] w fun e w' => e = .returned (.int .i64 (ordI l m)) ∧ w = w' := by
  by_cases he : l.length = m.length
  · have t0 : ((l.length : Int) != (m.length : Int)) = false := by simp [he]
    have HR := Lib.hid (show lexI l m = ordI l m by unfold ordI; rw [if_neg (by omega), if_neg (by omega)])
    have H := Lib.hid (scmp_any l m A C c d w ll he rl rm)
    clear he rl rm
    go_enter Try.func12, Try.ntmps12
    go_wp2_with fail
    refine H.out.mono ?_
    rintro e w' ⟨rfl, rfl⟩
    go_wp2_with fail
    go_ret
    exact ⟨r_int HR.out, rfl⟩
  · have t0 : ((l.length : Int) != (m.length : Int)) = true := by simp; omega
    have HR := Lib.hid (show cmpZ (l.length : Int) (m.length : Int) = ordI l m by
      unfold ordI cmpZ
      by_cases h : l.length < m.length
      · rw [if_pos (show (l.length : Int) < m.length by omega), if_pos h]
      · rw [if_neg (show ¬ (l.length : Int) < m.length by omega), if_pos (by omega), if_neg h, if_pos (by omega)])
    clear he rl rm
    go_enter Try.func12, Try.ntmps12
    go_wp2_with fail
    refine (cmpI_any _ _ _).mono ?_
    rintro e w' ⟨rfl, rfl⟩
    go_wp2_with fail
    go_ret
    exact ⟨r_int HR.out, rfl⟩

set_option maxRecDepth 100000 in
set_option maxHeartbeats 2000000 in
theorem rlessI_any (l m : List Int) (A C : Option Addr) (c d : Nat) (w : World) (ll : l.length ≤ 1000000) (rl : RI w w.heap.size A l) (rm : RI w w.heap.size C m) :
    Calls Try.prog 11 #[.slice A l.length c, .slice C m.length d] w fun e w' => e = .returned (.bool (lessI l m)) ∧ Below w.heap.size w w' := by
  by_cases he : l.length = m.length
  · have t0 : ((l.length : Int) != (m.length : Int)) = false := by simp [he]
    have HO := Lib.hid (show ordI l m = lexI l m by unfold ordI; rw [if_neg (by omega), if_neg (by omega)])
    have Rl := Lib.hid rl
    have Rm := Lib.hid rm
    have He := Lib.hid he
    clear rl rm he
    go_enter Try.func11, Try.ntmps11
    go_wp2_with fail
    go_loopw [5, 18] (fun _ i wr => ∃ (k q : Nat), k ≤ l.length ∧ i = .int .i64 k ∧ lexI l m = lexI (l.drop k) (m.drop k) ∧ wr = w.drewN q) (fun _ i _ => l.length - (intOf i).toNat)
    case atStart => exact ⟨0, 0, Nat.zero_le _, rfl, by simp, rfl⟩
    case round =>
      obtain ⟨k, q, hk, rfl, hx, rfl⟩ := hrel
      by_cases hlt : k < l.length
      · have hlm : k < m.length := by have := He.out; omega
        have u1 : decide (k < l.length) = true := decide_eq_true hlt
        have hlm' : (k : Int) < m.length := by omega
        obtain ⟨b1, o1, rfl, hb1, c1⟩ := Rl.out.at_ hlt
        obtain ⟨b2, o2, rfl, hb2, c2⟩ := Rm.out.at_ hlm
        have e1 := c1 k hlt
        have e2 := c2 k hlm
        have HX := Lib.hid (hx.trans (lex_at hlt hlm))
        clear c1 c2 hx
        generalize l.getD k 0 = x at *
        generalize m.getD k 0 = y at *
        by_cases hxy : x = y
        · have t1 : (x != y) = false := by simp; exact hxy
          have HR := Lib.hid (show lexI l m = lexI (l.drop (k + 1)) (m.drop (k + 1)) by rw [HX.out, if_neg (by omega), if_neg (by omega)])
          clear hxy
          go_wp2_with fail
          go_quiet (fail)
          go_wp2_with fail
          go_roundw
          case rel => exact ⟨k + 1, _, by omega, by go_num, HR.out, rfl⟩
          case measure => simp [intOf]; omega
        · have t1 : (x != y) = true := by simp; exact hxy
          by_cases hlt2 : x < y
          · have t2 : decide (x < y) = true := decide_eq_true hlt2
            have HR := Lib.hid (show lessI l m = true by unfold lessI; rw [HO.out, HX.out, if_pos hlt2]; rfl)
            clear hxy
            go_wp2_with fail
            go_quiet (fail)
            go_wp2_with fail
            go_quiet (fail)
            go_wp2_with fail
            go_ret
            exact ⟨r_bool HR.out.symm, by repeat (first | exact Below.refl _ _ | apply below_drewN)⟩
          · have t2 : decide (x < y) = false := decide_eq_false hlt2
            have HR := Lib.hid (show lessI l m = false by unfold lessI; rw [HO.out, HX.out, if_neg hlt2, if_pos (by omega)]; rfl)
            clear hxy
            go_wp2_with fail
            go_quiet (fail)
            go_wp2_with fail
            go_quiet (fail)
            go_wp2_with fail
            go_ret
            exact ⟨r_bool HR.out.symm, by repeat (first | exact Below.refl _ _ | apply below_drewN)⟩
      · obtain rfl : l.length = k := by omega
        have HR := Lib.hid (show lessI l m = false by unfold lessI; rw [HO.out, hx, List.drop_length]; cases m.drop l.length <;> rfl)
        clear hx
        go_wp2_with fail
        go_ret
        exact ⟨r_bool HR.out.symm, below_drewN (Below.refl _ _) _⟩
  · have t0 : ((l.length : Int) != (m.length : Int)) = true := by simp; omega
    have HR := Lib.hid (show decide ((l.length : Int) < (m.length : Int)) = lessI l m by
      unfold lessI ordI
      by_cases h : l.length < m.length
      · rw [if_pos h, decide_eq_true (by omega)]; rfl
      · rw [if_neg h, if_pos (by omega), decide_eq_false (by omega)]; rfl)
    clear he rl rm
    go_enter Try.func11, Try.ntmps11
    go_wp2_with fail
    go_ret
    exact ⟨by first | exact r_bool HR.out | (rw [← HR.out]; simp), Below.refl _ _⟩
end Go.Proofs.Ytkccciacngjhfaa
