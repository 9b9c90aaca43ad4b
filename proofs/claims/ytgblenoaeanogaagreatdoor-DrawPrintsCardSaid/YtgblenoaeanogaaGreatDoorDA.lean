/- Ints in rows; is any of them of a kind (slices.IndexFunc and ContainsFunc at a function value); Good of both; cmp.Compare, slices.Compare, Order, and the reference's Less. The order of sequences: cmp.Compare, slices.Compare, Order, and the reference's Less. Are two sequences the same: the reference's Same, the law's Is. -/
import Derived.Test.YtgblenoaeanogaaGreatDoorMB
import Derived.Test.YtgblenoaeanogaaGreatDoorRows
import Derived.Shelf.Abstract
import Derived.Deep.RegionHeld3
import Derived.Deep.DrawnRows
set_option linter.unusedVariables false
set_option maxRecDepth 100000
set_option maxHeartbeats 8000000
open Go.Lib (hid)
namespace Go.Proofs.YtgblenoaeanogaaGreatDoor
open Go.RowKit
def RI (w : World) (B : Nat) (A : Option Addr) (l : List Int) : Prop :=
 l ≠ [] → ∃ b o, A = some ⟨b, o, none⟩ ∧ b < B ∧ ∀ i, i < l.length → w.cell? ⟨b, o + i, none⟩ = some (.int .i64 (l.getD i 0))
theorem RI.below {w w' : World} {B B' : Nat} {A : Option Addr} {l : List Int} (h : RI w B A l) (hb : Below B' w w') (hB : B ≤ B') : RI w' B A l := by
 intro hn
 obtain ⟨b, o, e, hlt, hc⟩ := h hn
 exact ⟨b, o, e, hlt, fun i hi => (hb.cell (p := ⟨b, o + i, none⟩) (by show b < B'; omega)).trans (hc i hi)⟩
theorem RI.more {w : World} {B B' : Nat} {A : Option Addr} {l : List Int} (h : RI w B A l) (hB : B ≤ B') : RI w B' A l := by
 intro hn
 obtain ⟨b, o, e, hlt, hc⟩ := h hn
 exact ⟨b, o, e, by omega, hc⟩
theorem RI.onto {w w' : World} {A : Option Addr} {l : List Int} (h : RI w w.heap.size A l) (hb : Below w.heap.size w w') : RI w' w'.heap.size A l := (h.below hb (Nat.le_refl _)).more hb.size
theorem RI.nil (w : World) (B : Nat) (A : Option Addr) : RI w B A [] := fun h => absurd rfl h
theorem RI.at_ {w : World} {B : Nat} {A : Option Addr} {l : List Int} (h : RI w B A l) {k : Nat} (hk : k < l.length) : ∃ b o, A = some ⟨b, o, none⟩ ∧ b < B ∧ ∀ i, i < l.length → w.cell? ⟨b, o + i, none⟩ = some (.int .i64 (l.getD i 0)) :=
 h (by rintro rfl; simp at hk)
theorem any_take {p : Int → Bool} {l : List Int} {k : Nat} (hk : k < l.length) : (l.take (k + 1)).any p = ((l.take k).any p || p (l.getD k 0)) := by
 rw [List.take_add_one, List.getD_eq_getElem?_getD, List.getElem?_eq_getElem hk, List.any_append]
 simp
theorem any_at {p : Int → Bool} {l : List Int} {k : Nat} (hk : k < l.length) (h : p (l.getD k 0) = true) : l.any p = true := by
 rw [List.getD_eq_getElem?_getD, List.getElem?_eq_getElem hk] at h
 exact List.any_eq_true.2 ⟨_, List.getElem_mem hk, h⟩
theorem r_int {k : IntKind} {a b : Int} (h : a = b) : Ending.returned (.int k a) = .returned (.int k b) := by rw [h]
theorem r_bool {a b : Bool} (h : a = b) : Ending.returned (.bool a) = .returned (.bool b) := by rw [h]
def isD (n : Int) : Bool := decide (0 ≤ n) && decide (n < 4294967296)
theorem nodraw_any (n : Int) (w : World) : Calls Tryz.prog 29 #[.int .i64 n] w fun e w' => e = .returned (.bool (!isD n)) ∧ w = w' := by
 by_cases a : n < 0
 ·
  go_enter Tryz.func29, Tryz.ntmps29
  go_wp2
  go_ret
  exact ⟨r_bool (by simp [isD]; omega), rfl⟩
 ·
  by_cases b : 4294967296 ≤ n
  ·
   go_enter Tryz.func29, Tryz.ntmps29
   go_wp2
   go_ret
   exact ⟨r_bool (by simp [isD]; omega), rfl⟩
  ·
   go_enter Tryz.func29, Tryz.ntmps29
   go_wp2
   go_ret
   exact ⟨r_bool (by simp [isD]; omega), rfl⟩
theorem idxfunc_any (f : Nat) (p : Int → Bool) (hen : ∀ args w, (callFunc f args).run Tryz.prog w = .ok (.enter f args) w)
 (hf : ∀ (n : Int) (w : World), Calls Tryz.prog f #[.int .i64 n] w fun e w' => e = .returned (.bool (p n)) ∧ w = w')
 (l : List Int) (A : Option Addr) (c : Nat) (w : World) (ll : l.length ≤ 1000000) (hr : RI w w.heap.size A l) :
 Calls Tryz.prog 41 #[.slice A l.length c, .func (.func f) #[] #[]] w fun e w' => (∃ r : Int, e = .returned (.int .i64 r) ∧ (decide (0 ≤ r) = l.any p)) ∧ w = w' := by
 have Hr := hid hr
 have HF := hid hf
 clear hr hf
 go_enter Tryz.func41, Tryz.ntmps41
 go_wp2_with fail
 go_loop [5, 8] (fun _ i => ∃ k : Nat, k ≤ l.length ∧ i = .int .i64 k ∧ (l.take k).any p = false) (fun _ i => l.length - (intOf i).toNat)
 case atStart => exact ⟨0, Nat.zero_le _, rfl, by simp⟩
 case round =>
  obtain ⟨k, hk, rfl, hno⟩ := hrel
  by_cases hlt : k < l.length
  ·
   have u1 : decide (k < l.length) = true := decide_eq_true hlt
   obtain ⟨b1, o1, rfl, hb1, c1⟩ := Hr.out.at_ hlt
   have e1 := c1 k hlt
   clear c1
   have HN := hid (any_take (p := p) hlt)
   have HA := hid (any_at (p := p) hlt)
   have HNO := hid hno
   clear hno
   generalize l.getD k 0 = n at *
   go_wp2_with fail
   refine (HF.out n _).mono ?_
   rintro e w' ⟨rfl, rfl⟩
   cases hp : p n
   ·
    go_wp2_with fail
    go_round
    case rel => exact ⟨k + 1, by omega, by go_num, by rw [HN.out, HNO.out, hp]; rfl⟩
    case measure => simp [intOf]; omega
   ·
    go_wp2_with fail
    go_ret
    exact ⟨⟨k, rfl, by rw [HA.out hp]; simp⟩, rfl⟩
  ·
   obtain rfl : l.length = k := by omega
   rw [List.take_length] at hno
   have HNO := hid hno
   clear hno
   go_wp2_with fail
   go_ret
   exact ⟨⟨-1, rfl, by rw [HNO.out]; decide⟩, rfl⟩
theorem contfunc_any (f : Nat) (p : Int → Bool) (hen : ∀ args w, (callFunc f args).run Tryz.prog w = .ok (.enter f args) w)
 (hf : ∀ (n : Int) (w : World), Calls Tryz.prog f #[.int .i64 n] w fun e w' => e = .returned (.bool (p n)) ∧ w = w')
 (l : List Int) (A : Option Addr) (c : Nat) (w : World) (ll : l.length ≤ 1000000) (hr : RI w w.heap.size A l) :
 Calls Tryz.prog 28 #[.slice A l.length c, .func (.func f) #[] #[]] w fun e w' => e = .returned (.bool (l.any p)) ∧ w = w' := by
 have H := hid (idxfunc_any f p hen hf l A c w ll hr)
 clear hr hf
 go_enter Tryz.func28, Tryz.ntmps28
 go_wp2_with fail
 refine H.out.mono ?_
 rintro e w' ⟨⟨r, rfl, hr⟩, rfl⟩
 have HR := hid hr
 clear hr
 go_wp2
 go_ret
 exact ⟨r_bool HR.out, rfl⟩
theorem nodraws_any (l : List Int) (A : Option Addr) (c : Nat) (w : World) (ll : l.length ≤ 1000000) (hr : RI w w.heap.size A l) :
 Calls Tryz.prog 28 #[.slice A l.length c, .func (.func 29) #[] #[]] w fun e w' => e = .returned (.bool (l.any fun n => !isD n)) ∧ w = w' :=
 contfunc_any _ _ (Go.Proofs.enters_of Tryz.func29 (by kernel_rfl) rfl) (fun n w => nodraw_any n w) l A c w ll hr
def goodD (l : List Int) : Bool := decide (l.length ≤ 4096) && !(l.any fun n => !isD n)
theorem dgood_any (l : List Int) (A : Option Addr) (c : Nat) (w : World) (ll : l.length ≤ 1000000) (hr : RI w w.heap.size A l) :
 Calls Tryz.prog 14 #[.slice A l.length c] w fun e w' => e = .returned (.bool (goodD l)) ∧ w = w' := by
 have H := hid (nodraws_any l A c w ll hr)
 clear hr
 by_cases h : l.length ≤ 4096
 ·
  have t0 : decide ((l.length : Int) ≤ 4096) = true := decide_eq_true (by omega)
  have HG := hid (show goodD l = !(l.any fun n => !isD n) by unfold goodD; rw [decide_eq_true h]; rfl)
  generalize (l.any fun n => !isD n) = q at *
  generalize goodD l = g at *
  go_enter Tryz.func14, Tryz.ntmps14
  go_wp2_with fail
  refine H.out.mono ?_
  rintro e w' ⟨rfl, rfl⟩
  go_wp2_with fail
  go_ret
  exact ⟨r_bool HG.out.symm, rfl⟩
 ·
  have t0 : decide ((l.length : Int) ≤ 4096) = false := decide_eq_false (by omega)
  have HG := hid (show goodD l = false by unfold goodD; rw [decide_eq_false h]; rfl)
  generalize goodD l = g at *
  go_enter Tryz.func14, Tryz.ntmps14
  go_wp2_with fail
  go_ret
  exact ⟨r_bool HG.out.symm, rfl⟩
theorem rgoodD_any (l : List Int) (A : Option Addr) (c : Nat) (w : World) (ll : l.length ≤ 1000000) (hr : RI w w.heap.size A l) :
 Calls Tryz.prog 10 #[.slice A l.length c] w fun e w' => e = .returned (.bool (goodD l)) ∧ w = w' := by
 have Hr := hid hr
 clear hr
 go_enter Tryz.func10, Tryz.ntmps10
 go_wp2_with fail
 go_loop [3, 6] (fun _ i => ∃ k : Nat, k ≤ l.length ∧ i = .int .i64 k ∧ (l.take k).any (fun n => !isD n) = false) (fun _ i => l.length - (intOf i).toNat)
 case atStart => exact ⟨0, Nat.zero_le _, rfl, by simp⟩
 case round =>
  obtain ⟨k, hk, rfl, hno⟩ := hrel
  by_cases hlt : k < l.length
  ·
   have u1 : decide (k < l.length) = true := decide_eq_true hlt
   obtain ⟨b1, o1, rfl, hb1, c1⟩ := Hr.out.at_ hlt
   have e1 := c1 k hlt
   clear c1
   have HN := hid (any_take (p := fun n => !isD n) hlt)
   have HA := hid (any_at (p := fun n => !isD n) hlt)
   have HNO := hid hno
   clear hno
   generalize l.getD k 0 = n at *
   rcases (by omega : n < 0 ∨ (0 ≤ n ∧ 4294967296 ≤ n) ∨ (0 ≤ n ∧ n < 4294967296)) with h1 | ⟨h1, h2⟩ | ⟨h1, h2⟩
   ·
    have HG := hid (show goodD l = false by unfold goodD; rw [HA.out (by simp [isD]; omega)]; simp)
    go_wp2_with fail
    go_ret
    exact ⟨r_bool HG.out.symm, rfl⟩
   ·
    have t1 : decide (n < 0) = false := decide_eq_false (by omega)
    have HG := hid (show goodD l = false by unfold goodD; rw [HA.out (by simp [isD]; omega)]; simp)
    go_wp2_with fail
    go_ret
    exact ⟨r_bool HG.out.symm, rfl⟩
   ·
    have t1 : decide (n < 0) = false := decide_eq_false (by omega)
    have t2 : decide (4294967296 ≤ n) = false := decide_eq_false (by omega)
    go_wp2_with fail
    go_round
    case rel => exact ⟨k + 1, by omega, by go_num, by rw [HN.out, HNO.out]; simp [isD]; omega⟩
    case measure => simp [intOf]; omega
  ·
   obtain rfl : l.length = k := by omega
   rw [List.take_length] at hno
   have HG := hid (show decide ((l.length : Int) ≤ 4096) = goodD l by
    unfold goodD
    rw [hno]
    by_cases h : l.length ≤ 4096
    · rw [decide_eq_true h, decide_eq_true (by omega)]; rfl
    · rw [decide_eq_false h, decide_eq_false (by omega)]; rfl)
   clear hno
   go_wp2_with fail
   go_ret
   exact ⟨by first | exact r_bool HG.out | exact r_bool (by rw [← HG.out]; simp) | exact r_bool (by rw [← HG.out]; exact decide_eq_decide.2 (by omega)), rfl⟩
open Go.RowKit
attribute [local go_sem ↓] Go.wp_at_zero Go.wp_at_succ
def lexI : List Int → List Int → Int
 | a :: l, b :: m => if a < b then -1 else if b < a then 1 else lexI l m
 | _, _ => 0
def ordI (l m : List Int) : Int := if l.length < m.length then -1 else if m.length < l.length then 1 else lexI l m
theorem drop_getD {l : List Int} {k : Nat} (h : k < l.length) : l.drop k = l.getD k 0 :: l.drop (k + 1) := by
 rw [List.getD_eq_getElem?_getD, List.getElem?_eq_getElem h]
 simp
theorem lex_at {l m : List Int} {k : Nat} (h : k < l.length) (h2 : k < m.length) : lexI (l.drop k) (m.drop k) = if l.getD k 0 < m.getD k 0 then -1 else if m.getD k 0 < l.getD k 0 then 1 else lexI (l.drop (k + 1)) (m.drop (k + 1)) := by
 rw [drop_getD h, drop_getD h2]; rfl
def lessI (l m : List Int) : Bool := decide (ordI l m < 0)
def cmpZ (a b : Int) : Int := if a < b then -1 else if b < a then 1 else 0
theorem cmpZ_lt {a b : Int} (h : a < b) : cmpZ a b = -1 := if_pos h
theorem cmpZ_gt {a b : Int} (h : b < a) : cmpZ a b = 1 := by unfold cmpZ; rw [if_neg (by omega), if_pos h]
theorem cmpZ_eq {a b : Int} (h : a = b) : cmpZ a b = 0 := by unfold cmpZ; rw [if_neg (by omega), if_neg (by omega)]
theorem nanI_any (a : Int) (w : World) : Calls Tryz.prog 40 #[.int .i64 a] w fun e w' => e = .returned (.bool false) ∧ w = w' := by
 have t0 : (a != a) = false := by simp
 go_enter Tryz.func40, Tryz.ntmps40
 go_wp2
 go_ret
 exact ⟨rfl, rfl⟩
theorem cmpI_any (a b : Int) (w : World) : Calls Tryz.prog 26 #[.int .i64 a, .int .i64 b] w fun e w' => e = .returned (.int .i64 (cmpZ a b)) ∧ w = w' := by
 rcases (by omega : a < b ∨ (¬ a < b ∧ b < a) ∨ (¬ a < b ∧ ¬ b < a)) with h1 | ⟨h1, h2⟩ | ⟨h1, h2⟩
 all_goals
  go_enter Tryz.func26, Tryz.ntmps26
  go_wp2_with fail
  refine (nanI_any a _).mono ?_
  rintro e w' ⟨rfl, rfl⟩
  go_wp2_with fail
  refine (nanI_any b _).mono ?_
  rintro e w' ⟨rfl, rfl⟩
  go_wp2_with fail
  go_ret
 · exact ⟨r_int (cmpZ_lt h1).symm, rfl⟩
 · exact ⟨r_int (cmpZ_gt h2).symm, rfl⟩
 · exact ⟨r_int (cmpZ_eq (by omega)).symm, rfl⟩
theorem scmp_any (l m : List Int) (A C : Option Addr) (c d : Nat) (w : World) (ll : l.length ≤ 1000000) (he : l.length = m.length) (rl : RI w w.heap.size A l) (rm : RI w w.heap.size C m) :
 Calls Tryz.prog 27 #[.slice A l.length c, .slice C m.length d] w fun e w' => e = .returned (.int .i64 (lexI l m)) ∧ w = w' := by
 have Rl := hid rl
 have Rm := hid rm
 have t9 : decide ((l.length : Int) < (m.length : Int)) = false := decide_eq_false (by omega)
 have t8 : decide (l.length < m.length) = false := decide_eq_false (by omega)
 have He := hid he
 clear rl rm he
 go_enter Tryz.func27, Tryz.ntmps27
 go_wp2_with fail
 go_loop [5, 6, 7, 8, 11] (fun _ _ _ _ i => ∃ k : Nat, k ≤ l.length ∧ i = .int .i64 k ∧ lexI l m = lexI (l.drop k) (m.drop k)) (fun _ _ _ _ i => l.length - (intOf i).toNat)
 case atStart => exact ⟨0, Nat.zero_le _, rfl, by simp⟩
 case round =>
  obtain ⟨k, hk, rfl, hx⟩ := hrel
  by_cases hlt : k < l.length
  ·
   have hlm : k < m.length := by have := He.out; omega
   have u1 : decide (k < l.length) = true := decide_eq_true hlt
   have u2 : decide ((m.length : Int) ≤ (k : Int)) = false := decide_eq_false (by omega)
   obtain ⟨b1, o1, rfl, hb1, c1⟩ := Rl.out.at_ hlt
   obtain ⟨b2, o2, rfl, hb2, c2⟩ := Rm.out.at_ hlm
   have e1 := c1 k hlt
   have e2 := c2 k hlm
   have HX := hid (hx.trans (lex_at hlt hlm))
   clear c1 c2 hx
   generalize l.getD k 0 = x at *
   generalize m.getD k 0 = y at *
   go_wp2_with fail
   refine (cmpI_any x y _).mono ?_
   rintro e w' ⟨rfl, rfl⟩
   rcases (by omega : x < y ∨ (¬ x < y ∧ y < x) ∨ (¬ x < y ∧ ¬ y < x)) with h1 | ⟨h1, h2⟩ | ⟨h1, h2⟩
   ·
    have HR := hid (show lexI l m = -1 by rw [HX.out, if_pos h1])
    rw [cmpZ_lt h1]
    clear h1
    go_wp2_with fail
    go_ret
    exact ⟨r_int HR.out.symm, rfl⟩
   ·
    have HR := hid (show lexI l m = 1 by rw [HX.out, if_neg h1, if_pos h2])
    rw [cmpZ_gt h2]
    clear h1 h2
    go_wp2_with fail
    go_ret
    exact ⟨r_int HR.out.symm, rfl⟩
   ·
    have HR := hid (show lexI l m = lexI (l.drop (k + 1)) (m.drop (k + 1)) by rw [HX.out, if_neg h1, if_neg h2])
    rw [cmpZ_eq (show x = y by omega)]
    clear h1 h2
    go_wp2_with fail
    go_round
    case rel => exact ⟨k + 1, by omega, by go_num, HR.out⟩
    case measure => simp [intOf]; omega
  ·
   obtain rfl : l.length = k := by omega
   have HR := hid (show lexI l m = 0 by rw [hx, List.drop_length]; cases m.drop l.length <;> rfl)
   clear hx
   go_wp2_with fail
   go_ret
   exact ⟨r_int HR.out.symm, rfl⟩
theorem dorder_any (l m : List Int) (A C : Option Addr) (c d : Nat) (w : World) (ll : l.length ≤ 1000000) (rl : RI w w.heap.size A l) (rm : RI w w.heap.size C m) :
 Calls Tryz.prog 13 #[.slice A l.length c, .slice C m.length d] w fun e w' => e = .returned (.int .i64 (ordI l m)) ∧ w = w' := by
 by_cases he : l.length = m.length
 ·
  have t0 : ((l.length : Int) != (m.length : Int)) = false := by simp [he]
  have HR := hid (show lexI l m = ordI l m by unfold ordI; rw [if_neg (by omega), if_neg (by omega)])
  have H := hid (scmp_any l m A C c d w ll he rl rm)
  clear he rl rm
  go_enter Tryz.func13, Tryz.ntmps13
  go_wp2_with fail
  refine H.out.mono ?_
  rintro e w' ⟨rfl, rfl⟩
  go_wp2_with fail
  go_ret
  exact ⟨r_int HR.out, rfl⟩
 ·
  have t0 : ((l.length : Int) != (m.length : Int)) = true := by simp; omega
  have HR := hid (show cmpZ (l.length : Int) (m.length : Int) = ordI l m by
   unfold ordI cmpZ
   by_cases h : l.length < m.length
   · rw [if_pos (show (l.length : Int) < m.length by omega), if_pos h]
   · rw [if_neg (show ¬ (l.length : Int) < m.length by omega), if_pos (by omega), if_neg h, if_pos (by omega)])
  clear he rl rm
  go_enter Tryz.func13, Tryz.ntmps13
  go_wp2_with fail
  refine (cmpI_any _ _ _).mono ?_
  rintro e w' ⟨rfl, rfl⟩
  go_wp2_with fail
  go_ret
  exact ⟨r_int HR.out, rfl⟩
theorem rlessI_any (l m : List Int) (A C : Option Addr) (c d : Nat) (w : World) (ll : l.length ≤ 1000000) (rl : RI w w.heap.size A l) (rm : RI w w.heap.size C m) :
 Calls Tryz.prog 35 #[.slice A l.length c, .slice C m.length d] w fun e w' => e = .returned (.bool (lessI l m)) ∧ Below w.heap.size w w' := by
 by_cases he : l.length = m.length
 ·
  have t0 : ((l.length : Int) != (m.length : Int)) = false := by simp [he]
  have HO := hid (show ordI l m = lexI l m by unfold ordI; rw [if_neg (by omega), if_neg (by omega)])
  have Rl := hid rl
  have Rm := hid rm
  have He := hid he
  clear rl rm he
  go_enter Tryz.func35, Tryz.ntmps35
  go_wp2_with fail
  go_loopw [5, 18] (fun _ i wr => ∃ (k q : Nat), k ≤ l.length ∧ i = .int .i64 k ∧ lexI l m = lexI (l.drop k) (m.drop k) ∧ wr = w.drewN q) (fun _ i _ => l.length - (intOf i).toNat)
  case atStart => exact ⟨0, 0, Nat.zero_le _, rfl, by simp, rfl⟩
  case round =>
   obtain ⟨k, q, hk, rfl, hx, rfl⟩ := hrel
   by_cases hlt : k < l.length
   ·
    have hlm : k < m.length := by have := He.out; omega
    have u1 : decide (k < l.length) = true := decide_eq_true hlt
    have hlm' : (k : Int) < m.length := by omega
    obtain ⟨b1, o1, rfl, hb1, c1⟩ := Rl.out.at_ hlt
    obtain ⟨b2, o2, rfl, hb2, c2⟩ := Rm.out.at_ hlm
    have e1 := c1 k hlt
    have e2 := c2 k hlm
    have HX := hid (hx.trans (lex_at hlt hlm))
    clear c1 c2 hx
    generalize l.getD k 0 = x at *
    generalize m.getD k 0 = y at *
    by_cases hxy : x = y
    ·
     have t1 : (x != y) = false := by simp; exact hxy
     have HR := hid (show lexI l m = lexI (l.drop (k + 1)) (m.drop (k + 1)) by rw [HX.out, if_neg (by omega), if_neg (by omega)])
     clear hxy
     go_wp2_with fail
     go_quiet (fail)
     go_wp2_with fail
     go_roundw
     case rel => exact ⟨k + 1, _, by omega, by go_num, HR.out, rfl⟩
     case measure => simp [intOf]; omega
    ·
     have t1 : (x != y) = true := by simp; exact hxy
     by_cases hlt2 : x < y
     ·
      have t2 : decide (x < y) = true := decide_eq_true hlt2
      have HR := hid (show lessI l m = true by unfold lessI; rw [HO.out, HX.out, if_pos hlt2]; rfl)
      clear hxy
      go_wp2_with fail
      go_quiet (fail)
      go_wp2_with fail
      go_quiet (fail)
      go_wp2_with fail
      go_ret
      exact ⟨r_bool HR.out.symm, by repeat (first | exact Below.refl _ _ | apply below_drewN)⟩
     ·
      have t2 : decide (x < y) = false := decide_eq_false hlt2
      have HR := hid (show lessI l m = false by unfold lessI; rw [HO.out, HX.out, if_neg hlt2, if_pos (by omega)]; rfl)
      clear hxy
      go_wp2_with fail
      go_quiet (fail)
      go_wp2_with fail
      go_quiet (fail)
      go_wp2_with fail
      go_ret
      exact ⟨r_bool HR.out.symm, by repeat (first | exact Below.refl _ _ | apply below_drewN)⟩
   ·
    obtain rfl : l.length = k := by omega
    have HR := hid (show lessI l m = false by unfold lessI; rw [HO.out, hx, List.drop_length]; cases m.drop l.length <;> rfl)
    clear hx
    go_wp2_with fail
    go_ret
    exact ⟨r_bool HR.out.symm, below_drewN (Below.refl _ _) _⟩
 ·
  have t0 : ((l.length : Int) != (m.length : Int)) = true := by simp; omega
  have HR := hid (show decide ((l.length : Int) < (m.length : Int)) = lessI l m by
   unfold lessI ordI
   by_cases h : l.length < m.length
   · rw [if_pos h, decide_eq_true (by omega)]; rfl
   · rw [if_neg h, if_pos (by omega), decide_eq_false (by omega)]; rfl)
  clear he rl rm
  go_enter Tryz.func35, Tryz.ntmps35
  go_wp2_with fail
  go_ret
  exact ⟨by first | exact r_bool HR.out | (rw [← HR.out]; simp), Below.refl _ _⟩
open Go.RowKit
attribute [local go_sem ↓] Go.wp_at_zero Go.wp_at_succ
theorem lexI_self : ∀ l : List Int, lexI l l = 0
 | [] => rfl
 | a :: l => by
  have ih := lexI_self l
  unfold lexI
  rw [if_neg (by omega), if_neg (by omega)]
  exact ih
theorem lessI_self (l : List Int) : lessI l l = false := by
 unfold lessI ordI
 rw [if_neg (by omega), if_neg (by omega), lexI_self]
 rfl
theorem rsameI_any (l : List Int) (A C : Option Addr) (c d : Nat) (w : World) (ll : l.length ≤ 1000000) (rl : RI w w.heap.size A l) (rm : RI w w.heap.size C l) :
 Calls Tryz.prog 20 #[.slice A l.length c, .slice C l.length d] w fun e w' => e = .returned (.bool true) ∧ Below w.heap.size w w' := by
 have Rl := hid rl
 have Rm := hid rm
 clear rl rm
 go_enter Tryz.func20, Tryz.ntmps20
 go_wp2_with fail
 refine (rlessI_any l l A C c d _ ll Rl.out Rm.out).mono ?_
 rintro e w1 ⟨rfl, hb1⟩
 rw [lessI_self]
 have H1 := hid hb1
 have Rl1 := hid (Rl.out.onto hb1)
 have Rm1 := hid (Rm.out.onto hb1)
 clear hb1
 go_wp2_with fail
 refine (rlessI_any l l C A d c _ ll Rm1.out Rl1.out).mono ?_
 rintro e w2 ⟨rfl, hb2⟩
 rw [lessI_self]
 have H2 := hid (H1.out.trans (hb2.mono H1.out.size))
 clear hb2
 go_wp2_with fail
 go_ret
 exact ⟨rfl, H2.out⟩
theorem lisI_any (l : List Int) (A C : Option Addr) (c d : Nat) (w : World) (ll : l.length ≤ 1000000) (rl : RI w w.heap.size A l) (rm : RI w w.heap.size C l) :
 Calls Tryz.prog 9 #[.slice A l.length c, .slice C l.length d] w fun e w' => e = .returned (.bool true) ∧ Below w.heap.size w w' := by
 have H := hid (rsameI_any l A C c d w ll rl rm)
 clear rl rm
 go_enter Tryz.func9, Tryz.ntmps9
 go_wp2_with fail
 refine H.out.mono ?_
 rintro e w1 ⟨rfl, hb1⟩
 have H1 := hid hb1
 clear hb1
 go_wp2_with fail
 go_ret
 exact ⟨rfl, H1.out⟩
end Go.Proofs.YtgblenoaeanogaaGreatDoor
