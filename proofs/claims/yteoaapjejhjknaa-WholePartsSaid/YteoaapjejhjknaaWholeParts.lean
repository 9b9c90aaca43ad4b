/- WholeParts: any integer is another one times what it is divided by it, and what is left, which is nearer to 0 than that one, on the side of the first one; by 0 none is divided. No conditions: any two int64. -/
import Derived.Test.YteoaapjejhjknaaRows
import Derived.WalkKit
import Derived.ProofKit
import Derived.OpenShut
import Derived.Below
import Derived.Test.YteoaapjejhjknaaMul
import Derived.Test.YteoaapjejhjknaaSame
namespace Go.Proofs.Yteoaapjejhjknaa.wholeParts
open Go.ChangeShapes Go.WideShapes Go.ChangeAt Go.RowKit
open Fg
set_option linter.unusedVariables false      -- a walk need not use every 'w<i>' (that an integer argument fits its kind)

theorem own : ownKnob Try.prog.godebug = none := by kernel_rfl

attribute [local go_sem ↓] Go.wp_at_zero Go.wp_at_succ

theorem nz_abs {w : World} {B : Nat} {b : Bool} {A : Option Addr} {n c : Nat} {z : Int} (h : Nz w B (.agg #[.bool b, .slice A n c]) z) : Nz w B (.agg #[.bool false, .slice A n c]) (z.natAbs : Int) := by
  obtain ⟨A', c', e, hc, hr⟩ := h
  simp only [Value.agg.injEq, Array.mk.injEq, List.cons.injEq, Value.bool.injEq, Value.slice.injEq] at e
  obtain ⟨-, ⟨rfl, rfl, rfl⟩, -⟩ := e
  have h1 : ((z.natAbs : Int)).natAbs = z.natAbs := Int.natAbs_natCast _
  refine ⟨A, c, ?_, by rw [h1]; exact hc, by rw [h1]; exact hr⟩
  rw [h1, decide_eq_false (by omega : ¬ ((z.natAbs : Int) < 0))]
theorem q_in {a b : Int} (ha : In64 a) (h : ¬ (a = -9223372036854775808 ∧ b = -1)) : In64 (a.tdiv b) := by
  by_cases hb : b = -1
  · subst hb
    rw [Int.tdiv_neg, Int.tdiv_one]
    unfold In64 at *
    omega
  · exact tdiv_in a b ha hb

set_option maxRecDepth 100000 in
set_option maxHeartbeats 4000000 in
theorem walk_zero (a : Int) (w : World) :
    Calls Try.prog 4 #[.int .i64 a, .int .i64 0] w fun e w' => e = .returned (.bool true) ∧ Below w.heap.size w w' := by
  go_enter Try.func4, Try.ntmps4
  go_wp2_with fail
  refine (awake_any _).mono ?_
  rintro e w' ⟨rfl, rfl⟩
  go_wp2_with fail
  refine (div_zero a _).mono ?_
  rintro e w' ⟨rfl, rfl⟩
  go_wp2_with fail
  refine (mod_zero a _).mono ?_
  rintro e w' ⟨rfl, rfl⟩
  go_wp2_with fail
  go_ret
  exact ⟨rfl, Below.refl _ _⟩
set_option maxRecDepth 100000 in
set_option maxHeartbeats 4000000 in
theorem walk_least (w : World) :
    Calls Try.prog 4 #[.int .i64 (-9223372036854775808), .int .i64 (-1)] w fun e w' => e = .returned (.bool true) ∧ Below w.heap.size w w' := by
  have hm : In64 (-9223372036854775808) := in_min
  go_enter Try.func4, Try.ntmps4
  go_wp2_with fail
  refine (awake_any _).mono ?_
  rintro e w' ⟨rfl, rfl⟩
  go_wp2_with fail
  refine (div_over _).mono ?_
  rintro e w' ⟨rfl, rfl⟩
  go_wp2_with fail
  refine (mod_is _ _ 0 _ hm (by decide) (by decide)).mono ?_
  rintro e w' ⟨rfl, rfl⟩
  go_wp2_with fail
  go_ret
  exact ⟨rfl, Below.refl _ _⟩
theorem less_f {x y : Value} {a b : Int} {w : World} (hx : Nz w w.heap.size x a) (hy : Nz w w.heap.size y b) (ha : Sm 100 a) (hb : Sm 100 b) (r : Bool) (h : decide (a < b) = r) :
    Calls Try.prog 20 #[x, y] w fun e w' => e = .returned (.bool r) ∧ Below w.heap.size w w' := by
  have := less2_any x y a b w hx hy ha hb; rwa [h] at this
theorem same_f {x y : Value} {a b : Int} {w : World} (hx : Nz w w.heap.size x a) (hy : Nz w w.heap.size y b) (ha : Sm 100 a) (hb : Sm 100 b) (r : Bool) (h : decide (a = b) = r) :
    Calls Try.prog 21 #[x, y] w fun e w' => e = .returned (.bool r) ∧ Below w.heap.size w w' := by
  have := same_any x y a b w hx hy ha hb; rwa [h] at this

set_option maxRecDepth 100000 in
set_option maxHeartbeats 8000000 in
theorem walk_00 (a b q r : Int) (w : World) (ia : Hid (In64 a)) (ib : Hid (In64 b)) (h0 : b ≠ 0) (hm : ¬ (a = -9223372036854775808 ∧ b = -1)) (hq : a.tdiv b = q) (hr : a.tmod b = r) (x1 : (a == -9223372036854775808) = true) (x2 : (b == -1) = false) (y1 : (r != 0) = false) :
    Calls Try.prog 4 #[.int .i64 a, .int .i64 b] w fun e w' => e = .returned (.bool true) ∧ Below w.heap.size w w' := by
  have iq := Lib.hid (show In64 q from hq ▸ q_in ia.out hm)
  have ir := Lib.hid (show In64 r from hr ▸ tmod_in a b ia.out)
  have hbk := Lib.hid (show q * b + r = a by rw [← hq, ← hr, Int.mul_comm]; exact Int.mul_tdiv_add_tmod a b)
  have hsm := Lib.hid (show decide ((r.natAbs : Int) < (b.natAbs : Int)) = true from decide_eq_true (by rw [← hr]; have := tmod_small a b h0; omega))
  have Sq := Lib.hid ((sm_in iq.out).mono (by decide : 5 ≤ 40))
  have Sb := Lib.hid ((sm_in ib.out).mono (by decide : 5 ≤ 40))
  have Sp := Lib.hid ((Sm.mul (sm_in iq.out) (sm_in ib.out)).mono (by decide : 5 + 5 ≤ 200))
  have Sr := Lib.hid ((sm_in ir.out).mono (by decide : 5 ≤ 200))
  have Sa := Lib.hid ((sm_in ia.out).mono (by decide : 5 ≤ 100))
  have SB := Lib.hid (show Sm 100 (b.natAbs : Int) by have h := (sm_in ib.out).mono (by decide : 5 ≤ 100); unfold Sm at *; rwa [Int.natAbs_natCast])
  have SR := Lib.hid (show Sm 100 (r.natAbs : Int) by have h := (sm_in ir.out).mono (by decide : 5 ≤ 100); unfold Sm at *; rwa [Int.natAbs_natCast])
  have Hq := Lib.hid hq
  have Hr := Lib.hid hr
  have H0 := Lib.hid h0
  have Hm := Lib.hid hm
  have t0 : (b == 0) = false := by simp; exact h0
  have SP7 := Lib.hid (show Sm 100 (q * b + r) by rw [hbk.out]; exact Sa.out)
  clear h0 hq hr hm
  go_enter Try.func4, Try.ntmps4
  go_wp2_with fail
  refine (awake_any _).mono ?_
  rintro e w' ⟨rfl, rfl⟩
  go_wp2_with fail
  refine (div_is a b q _ ia.out H0.out Hm.out Hq.out).mono ?_
  rintro e w' ⟨rfl, rfl⟩
  go_wp2_with fail
  refine (mod_is a b r _ ia.out H0.out Hr.out).mono ?_
  rintro e w' ⟨rfl, rfl⟩
  go_wp2_with fail
  refine (of_any b _ ib.out).mono ?_
  rintro e v1 h1
  obtain ⟨b1, A1, n1, c1, rfl, hn1, hb1, _⟩ := nz_of h1
  have N1 := Lib.hid hn1
  have B1 := Lib.hid hb1
  have C1 := Lib.hid (hb1)
  clear h1 hn1 hb1
  go_wp2_with fail
  have hk1 := Blk.new v1 25 #[.bool false, .slice A1 n1 c1]
  have hw1 : Below v1.heap.size v1 (v1.alloc (Obj.cells #[.bool false, .slice A1 n1 c1] 25)) := (Below.refl _ _).alloc (Nat.le_refl _) _
  generalize v1.alloc (Obj.cells #[.bool false, .slice A1 n1 c1] 25) = W1 at hk1 hw1 ⊢
  generalize hs1 : v1.heap.size = s1 at hk1 ⊢
  have K1 := Lib.hid hk1
  have lk1 : s1 < W1.heap.size := hk1.lt
  have D1 := Lib.hid (C1.out.trans (hw1.mono C1.out.size))
  have M1 := Lib.hid ((nz_abs N1.out).on hw1)
  have E1 := Lib.hid hw1
  clear hk1 hw1 hs1
  refine (of_any r _ ir.out).mono ?_
  rintro e v2 h2
  obtain ⟨b2, A2, n2, c2, rfl, hn2, hb2, _⟩ := nz_of h2
  have N2 := Lib.hid hn2
  have B2 := Lib.hid hb2
  have C2 := Lib.hid (D1.out.trans (hb2.mono D1.out.size))
  clear h2 hn2 hb2
  go_wp2_with fail
  have hk2 := Blk.new v2 25 #[.bool false, .slice A2 n2 c2]
  have hw2 : Below v2.heap.size v2 (v2.alloc (Obj.cells #[.bool false, .slice A2 n2 c2] 25)) := (Below.refl _ _).alloc (Nat.le_refl _) _
  generalize v2.alloc (Obj.cells #[.bool false, .slice A2 n2 c2] 25) = W2 at hk2 hw2 ⊢
  generalize hs2 : v2.heap.size = s2 at hk2 ⊢
  have K2 := Lib.hid hk2
  have lk2 : s2 < W2.heap.size := hk2.lt
  have D2 := Lib.hid (C2.out.trans (hw2.mono C2.out.size))
  have M2 := Lib.hid ((nz_abs N2.out).on hw2)
  have E2 := Lib.hid hw2
  clear hk2 hw2 hs2
  refine (of_any q _ iq.out).mono ?_
  rintro e v3 h3
  obtain ⟨b3, A3, n3, c3, rfl, hn3, hb3, _⟩ := nz_of h3
  have N3 := Lib.hid hn3
  have B3 := Lib.hid hb3
  have C3 := Lib.hid (D2.out.trans (hb3.mono D2.out.size))
  clear h3 hn3 hb3
  go_wp2_with fail
  refine (of_any b _ ib.out).mono ?_
  rintro e v4 h4
  obtain ⟨b4, A4, n4, c4, rfl, hn4, hb4, _⟩ := nz_of h4
  have N4 := Lib.hid hn4
  have B4 := Lib.hid hb4
  have C4 := Lib.hid (C3.out.trans (hb4.mono C3.out.size))
  clear h4 hn4 hb4
  go_wp2_with fail
  refine (mul_any _ _ q b _ (N3.out.on B4.out) N4.out Sq.out Sb.out).mono ?_
  rintro e v5 h5
  obtain ⟨b5, A5, n5, c5, rfl, hn5, hb5, _⟩ := nz_of h5
  have N5 := Lib.hid hn5
  have B5 := Lib.hid hb5
  have C5 := Lib.hid (C4.out.trans (hb5.mono C4.out.size))
  clear h5 hn5 hb5
  go_wp2_with fail
  refine (of_any r _ ir.out).mono ?_
  rintro e v6 h6
  obtain ⟨b6, A6, n6, c6, rfl, hn6, hb6, _⟩ := nz_of h6
  have N6 := Lib.hid hn6
  have B6 := Lib.hid hb6
  have C6 := Lib.hid (C5.out.trans (hb6.mono C5.out.size))
  clear h6 hn6 hb6
  go_wp2_with fail
  refine (add_any _ _ (q * b) r _ (N5.out.on B6.out) N6.out Sp.out Sr.out).mono ?_
  rintro e v7 h7
  obtain ⟨b7, A7, n7, c7, rfl, hn7, hb7, _⟩ := nz_of h7
  have N7 := Lib.hid hn7
  have B7 := Lib.hid hb7
  have C7 := Lib.hid (C6.out.trans (hb7.mono C6.out.size))
  clear h7 hn7 hb7
  go_wp2_with fail
  have hk3 := Blk.new v7 25 #[.bool b7, .slice A7 n7 c7]
  have hw3 : Below v7.heap.size v7 (v7.alloc (Obj.cells #[.bool b7, .slice A7 n7 c7] 25)) := (Below.refl _ _).alloc (Nat.le_refl _) _
  generalize v7.alloc (Obj.cells #[.bool b7, .slice A7 n7 c7] 25) = W3 at hk3 hw3 ⊢
  have hs3' : W2.heap.size ≤ v7.heap.size := Nat.le_trans B3.out.size (Nat.le_trans B4.out.size (Nat.le_trans B5.out.size (Nat.le_trans B6.out.size B7.out.size)))
  have hb27 : Below W2.heap.size W2 v7 := (((B3.out.trans (B4.out.mono B3.out.size)).trans (B5.out.mono (Nat.le_trans B3.out.size B4.out.size))).trans (B6.out.mono (Nat.le_trans B3.out.size (Nat.le_trans B4.out.size B5.out.size)))).trans (B7.out.mono (Nat.le_trans B3.out.size (Nat.le_trans B4.out.size (Nat.le_trans B5.out.size B6.out.size))))
  have hb2 : Below W2.heap.size W2 W3 := hb27.trans (hw3.mono hs3')
  have hb1 : Below W1.heap.size W1 W3 := ((B2.out.trans (E2.out.mono B2.out.size)).trans (hb2.mono (Nat.le_trans B2.out.size E2.out.size)))
  have T1 := Lib.hid (K1.out.on hb1 lk1)
  have T2 := Lib.hid (K2.out.on hb2 lk2)
  have T3 := Lib.hid hk3
  have P1 := Lib.hid (M1.out.on hb1)
  have P2 := Lib.hid (M2.out.on hb2)
  have P3 := Lib.hid (N7.out.on hw3)
  have D3 := Lib.hid (C7.out.trans (hw3.mono C7.out.size))
  have lk3 : v7.heap.size < W3.heap.size := hk3.lt
  generalize v7.heap.size = s3 at *
  have m1 : s1 < W3.heap.size := T1.out.lt
  have m2 : s2 < W3.heap.size := T2.out.lt
  clear hk3 hw3 hs3' hb27 hb2 hb1 lk1 lk2
  go_region_held3 (fun w' => (w'.cell? ⟨s1, 0, none⟩ = some (.bool false) ∧ w'.cell? ⟨s1, 1, none⟩ = some (.slice A1 n1 c1) ∧ Below W3.heap.size W3 w') ∧ (w'.cell? ⟨s2, 0, none⟩ = some (.bool false) ∧ w'.cell? ⟨s2, 1, none⟩ = some (.slice A2 n2 c2) ∧ Below W3.heap.size W3 w') ∧ (w'.cell? ⟨s3, 0, none⟩ = some (.bool b7) ∧ w'.cell? ⟨s3, 1, none⟩ = some (.slice A7 n7 c7) ∧ Below W3.heap.size W3 w'))
    (first
      | exact ⟨one2 T1.out (Below.refl _ _).drew, one2 T2.out (Below.refl _ _).drew, one2 T3.out (Below.refl _ _).drew⟩
      | exact ⟨one2 T1.out HV.out, one2 T2.out HV.out, one2 T3.out HV.out⟩)
    (first
      | (go_at_call 20
         refine (less_f (P2.out.on (Below.refl _ _).drew) (P1.out.on (Below.refl _ _).drew) SR.out SB.out true hsm.out).mono ?_
         rintro e v8 ⟨rfl, hb8⟩
         have HV := Lib.hid ((Below.refl _ _).drew.trans (hb8.mono (Nat.le_refl _)))
         clear hb8)
      | (go_at_call 9
         refine (of_any a _ ia.out).mono ?_
         rintro e v9 h9
         obtain ⟨b9, A9, n9, c9, rfl, hn9, hb9, _⟩ := nz_of h9
         have HV := Lib.hid (HV.out.trans (hb9.mono HV.out.size))
         have N9 := Lib.hid hn9
         clear h9 hn9 hb9)
      | (go_at_call 21
         refine (same_f (P3.out.on HV.out) N9.out SP7.out Sa.out true (decide_eq_true hbk.out)).mono ?_
         rintro e v10 ⟨rfl, hb10⟩
         have HV := Lib.hid (HV.out.trans (hb10.mono HV.out.size))
         clear hb10))
  have HE := Lib.hid (D3.out.trans (HV.out.mono D3.out.size))
  go_wp2_with fail
  go_ret
  exact ⟨rfl, HE.out⟩
set_option maxRecDepth 100000 in
set_option maxHeartbeats 8000000 in
theorem walk_01 (a b q r : Int) (w : World) (ia : Hid (In64 a)) (ib : Hid (In64 b)) (h0 : b ≠ 0) (hm : ¬ (a = -9223372036854775808 ∧ b = -1)) (hq : a.tdiv b = q) (hr : a.tmod b = r) (x1 : (a == -9223372036854775808) = true) (x2 : (b == -1) = false) (y1 : (r != 0) = true) (y2 : decide (r < 0) = true) (y3 : decide (a < 0) = true) :
    Calls Try.prog 4 #[.int .i64 a, .int .i64 b] w fun e w' => e = .returned (.bool true) ∧ Below w.heap.size w w' := by
  have iq := Lib.hid (show In64 q from hq ▸ q_in ia.out hm)
  have ir := Lib.hid (show In64 r from hr ▸ tmod_in a b ia.out)
  have hbk := Lib.hid (show q * b + r = a by rw [← hq, ← hr, Int.mul_comm]; exact Int.mul_tdiv_add_tmod a b)
  have hsm := Lib.hid (show decide ((r.natAbs : Int) < (b.natAbs : Int)) = true from decide_eq_true (by rw [← hr]; have := tmod_small a b h0; omega))
  have Sq := Lib.hid ((sm_in iq.out).mono (by decide : 5 ≤ 40))
  have Sb := Lib.hid ((sm_in ib.out).mono (by decide : 5 ≤ 40))
  have Sp := Lib.hid ((Sm.mul (sm_in iq.out) (sm_in ib.out)).mono (by decide : 5 + 5 ≤ 200))
  have Sr := Lib.hid ((sm_in ir.out).mono (by decide : 5 ≤ 200))
  have Sa := Lib.hid ((sm_in ia.out).mono (by decide : 5 ≤ 100))
  have SB := Lib.hid (show Sm 100 (b.natAbs : Int) by have h := (sm_in ib.out).mono (by decide : 5 ≤ 100); unfold Sm at *; rwa [Int.natAbs_natCast])
  have SR := Lib.hid (show Sm 100 (r.natAbs : Int) by have h := (sm_in ir.out).mono (by decide : 5 ≤ 100); unfold Sm at *; rwa [Int.natAbs_natCast])
  have Hq := Lib.hid hq
  have Hr := Lib.hid hr
  have H0 := Lib.hid h0
  have Hm := Lib.hid hm
  have t0 : (b == 0) = false := by simp; exact h0
  have SP7 := Lib.hid (show Sm 100 (q * b + r) by rw [hbk.out]; exact Sa.out)
  clear h0 hq hr hm
  go_enter Try.func4, Try.ntmps4
  go_wp2_with fail
  refine (awake_any _).mono ?_
  rintro e w' ⟨rfl, rfl⟩
  go_wp2_with fail
  refine (div_is a b q _ ia.out H0.out Hm.out Hq.out).mono ?_
  rintro e w' ⟨rfl, rfl⟩
  go_wp2_with fail
  refine (mod_is a b r _ ia.out H0.out Hr.out).mono ?_
  rintro e w' ⟨rfl, rfl⟩
  go_wp2_with fail
  refine (of_any b _ ib.out).mono ?_
  rintro e v1 h1
  obtain ⟨b1, A1, n1, c1, rfl, hn1, hb1, _⟩ := nz_of h1
  have N1 := Lib.hid hn1
  have B1 := Lib.hid hb1
  have C1 := Lib.hid (hb1)
  clear h1 hn1 hb1
  go_wp2_with fail
  have hk1 := Blk.new v1 25 #[.bool false, .slice A1 n1 c1]
  have hw1 : Below v1.heap.size v1 (v1.alloc (Obj.cells #[.bool false, .slice A1 n1 c1] 25)) := (Below.refl _ _).alloc (Nat.le_refl _) _
  generalize v1.alloc (Obj.cells #[.bool false, .slice A1 n1 c1] 25) = W1 at hk1 hw1 ⊢
  generalize hs1 : v1.heap.size = s1 at hk1 ⊢
  have K1 := Lib.hid hk1
  have lk1 : s1 < W1.heap.size := hk1.lt
  have D1 := Lib.hid (C1.out.trans (hw1.mono C1.out.size))
  have M1 := Lib.hid ((nz_abs N1.out).on hw1)
  have E1 := Lib.hid hw1
  clear hk1 hw1 hs1
  refine (of_any r _ ir.out).mono ?_
  rintro e v2 h2
  obtain ⟨b2, A2, n2, c2, rfl, hn2, hb2, _⟩ := nz_of h2
  have N2 := Lib.hid hn2
  have B2 := Lib.hid hb2
  have C2 := Lib.hid (D1.out.trans (hb2.mono D1.out.size))
  clear h2 hn2 hb2
  go_wp2_with fail
  have hk2 := Blk.new v2 25 #[.bool false, .slice A2 n2 c2]
  have hw2 : Below v2.heap.size v2 (v2.alloc (Obj.cells #[.bool false, .slice A2 n2 c2] 25)) := (Below.refl _ _).alloc (Nat.le_refl _) _
  generalize v2.alloc (Obj.cells #[.bool false, .slice A2 n2 c2] 25) = W2 at hk2 hw2 ⊢
  generalize hs2 : v2.heap.size = s2 at hk2 ⊢
  have K2 := Lib.hid hk2
  have lk2 : s2 < W2.heap.size := hk2.lt
  have D2 := Lib.hid (C2.out.trans (hw2.mono C2.out.size))
  have M2 := Lib.hid ((nz_abs N2.out).on hw2)
  have E2 := Lib.hid hw2
  clear hk2 hw2 hs2
  refine (of_any q _ iq.out).mono ?_
  rintro e v3 h3
  obtain ⟨b3, A3, n3, c3, rfl, hn3, hb3, _⟩ := nz_of h3
  have N3 := Lib.hid hn3
  have B3 := Lib.hid hb3
  have C3 := Lib.hid (D2.out.trans (hb3.mono D2.out.size))
  clear h3 hn3 hb3
  go_wp2_with fail
  refine (of_any b _ ib.out).mono ?_
  rintro e v4 h4
  obtain ⟨b4, A4, n4, c4, rfl, hn4, hb4, _⟩ := nz_of h4
  have N4 := Lib.hid hn4
  have B4 := Lib.hid hb4
  have C4 := Lib.hid (C3.out.trans (hb4.mono C3.out.size))
  clear h4 hn4 hb4
  go_wp2_with fail
  refine (mul_any _ _ q b _ (N3.out.on B4.out) N4.out Sq.out Sb.out).mono ?_
  rintro e v5 h5
  obtain ⟨b5, A5, n5, c5, rfl, hn5, hb5, _⟩ := nz_of h5
  have N5 := Lib.hid hn5
  have B5 := Lib.hid hb5
  have C5 := Lib.hid (C4.out.trans (hb5.mono C4.out.size))
  clear h5 hn5 hb5
  go_wp2_with fail
  refine (of_any r _ ir.out).mono ?_
  rintro e v6 h6
  obtain ⟨b6, A6, n6, c6, rfl, hn6, hb6, _⟩ := nz_of h6
  have N6 := Lib.hid hn6
  have B6 := Lib.hid hb6
  have C6 := Lib.hid (C5.out.trans (hb6.mono C5.out.size))
  clear h6 hn6 hb6
  go_wp2_with fail
  refine (add_any _ _ (q * b) r _ (N5.out.on B6.out) N6.out Sp.out Sr.out).mono ?_
  rintro e v7 h7
  obtain ⟨b7, A7, n7, c7, rfl, hn7, hb7, _⟩ := nz_of h7
  have N7 := Lib.hid hn7
  have B7 := Lib.hid hb7
  have C7 := Lib.hid (C6.out.trans (hb7.mono C6.out.size))
  clear h7 hn7 hb7
  go_wp2_with fail
  have hk3 := Blk.new v7 25 #[.bool b7, .slice A7 n7 c7]
  have hw3 : Below v7.heap.size v7 (v7.alloc (Obj.cells #[.bool b7, .slice A7 n7 c7] 25)) := (Below.refl _ _).alloc (Nat.le_refl _) _
  generalize v7.alloc (Obj.cells #[.bool b7, .slice A7 n7 c7] 25) = W3 at hk3 hw3 ⊢
  have hs3' : W2.heap.size ≤ v7.heap.size := Nat.le_trans B3.out.size (Nat.le_trans B4.out.size (Nat.le_trans B5.out.size (Nat.le_trans B6.out.size B7.out.size)))
  have hb27 : Below W2.heap.size W2 v7 := (((B3.out.trans (B4.out.mono B3.out.size)).trans (B5.out.mono (Nat.le_trans B3.out.size B4.out.size))).trans (B6.out.mono (Nat.le_trans B3.out.size (Nat.le_trans B4.out.size B5.out.size)))).trans (B7.out.mono (Nat.le_trans B3.out.size (Nat.le_trans B4.out.size (Nat.le_trans B5.out.size B6.out.size))))
  have hb2 : Below W2.heap.size W2 W3 := hb27.trans (hw3.mono hs3')
  have hb1 : Below W1.heap.size W1 W3 := ((B2.out.trans (E2.out.mono B2.out.size)).trans (hb2.mono (Nat.le_trans B2.out.size E2.out.size)))
  have T1 := Lib.hid (K1.out.on hb1 lk1)
  have T2 := Lib.hid (K2.out.on hb2 lk2)
  have T3 := Lib.hid hk3
  have P1 := Lib.hid (M1.out.on hb1)
  have P2 := Lib.hid (M2.out.on hb2)
  have P3 := Lib.hid (N7.out.on hw3)
  have D3 := Lib.hid (C7.out.trans (hw3.mono C7.out.size))
  have lk3 : v7.heap.size < W3.heap.size := hk3.lt
  generalize v7.heap.size = s3 at *
  have m1 : s1 < W3.heap.size := T1.out.lt
  have m2 : s2 < W3.heap.size := T2.out.lt
  clear hk3 hw3 hs3' hb27 hb2 hb1 lk1 lk2
  go_region_held3 (fun w' => (w'.cell? ⟨s1, 0, none⟩ = some (.bool false) ∧ w'.cell? ⟨s1, 1, none⟩ = some (.slice A1 n1 c1) ∧ Below W3.heap.size W3 w') ∧ (w'.cell? ⟨s2, 0, none⟩ = some (.bool false) ∧ w'.cell? ⟨s2, 1, none⟩ = some (.slice A2 n2 c2) ∧ Below W3.heap.size W3 w') ∧ (w'.cell? ⟨s3, 0, none⟩ = some (.bool b7) ∧ w'.cell? ⟨s3, 1, none⟩ = some (.slice A7 n7 c7) ∧ Below W3.heap.size W3 w'))
    (first
      | exact ⟨one2 T1.out (Below.refl _ _).drew, one2 T2.out (Below.refl _ _).drew, one2 T3.out (Below.refl _ _).drew⟩
      | exact ⟨one2 T1.out HV.out, one2 T2.out HV.out, one2 T3.out HV.out⟩)
    (first
      | (go_at_call 20
         refine (less_f (P2.out.on (Below.refl _ _).drew) (P1.out.on (Below.refl _ _).drew) SR.out SB.out true hsm.out).mono ?_
         rintro e v8 ⟨rfl, hb8⟩
         have HV := Lib.hid ((Below.refl _ _).drew.trans (hb8.mono (Nat.le_refl _)))
         clear hb8)
      | (go_at_call 9
         refine (of_any a _ ia.out).mono ?_
         rintro e v9 h9
         obtain ⟨b9, A9, n9, c9, rfl, hn9, hb9, _⟩ := nz_of h9
         have HV := Lib.hid (HV.out.trans (hb9.mono HV.out.size))
         have N9 := Lib.hid hn9
         clear h9 hn9 hb9)
      | (go_at_call 21
         refine (same_f (P3.out.on HV.out) N9.out SP7.out Sa.out true (decide_eq_true hbk.out)).mono ?_
         rintro e v10 ⟨rfl, hb10⟩
         have HV := Lib.hid (HV.out.trans (hb10.mono HV.out.size))
         clear hb10))
  have HE := Lib.hid (D3.out.trans (HV.out.mono D3.out.size))
  go_wp2_with fail
  go_ret
  exact ⟨rfl, HE.out⟩
set_option maxRecDepth 100000 in
set_option maxHeartbeats 8000000 in
theorem walk_10 (a b q r : Int) (w : World) (ia : Hid (In64 a)) (ib : Hid (In64 b)) (h0 : b ≠ 0) (hm : ¬ (a = -9223372036854775808 ∧ b = -1)) (hq : a.tdiv b = q) (hr : a.tmod b = r) (x1 : (a == -9223372036854775808) = false) (y1 : (r != 0) = false) :
    Calls Try.prog 4 #[.int .i64 a, .int .i64 b] w fun e w' => e = .returned (.bool true) ∧ Below w.heap.size w w' := by
  have iq := Lib.hid (show In64 q from hq ▸ q_in ia.out hm)
  have ir := Lib.hid (show In64 r from hr ▸ tmod_in a b ia.out)
  have hbk := Lib.hid (show q * b + r = a by rw [← hq, ← hr, Int.mul_comm]; exact Int.mul_tdiv_add_tmod a b)
  have hsm := Lib.hid (show decide ((r.natAbs : Int) < (b.natAbs : Int)) = true from decide_eq_true (by rw [← hr]; have := tmod_small a b h0; omega))
  have Sq := Lib.hid ((sm_in iq.out).mono (by decide : 5 ≤ 40))
  have Sb := Lib.hid ((sm_in ib.out).mono (by decide : 5 ≤ 40))
  have Sp := Lib.hid ((Sm.mul (sm_in iq.out) (sm_in ib.out)).mono (by decide : 5 + 5 ≤ 200))
  have Sr := Lib.hid ((sm_in ir.out).mono (by decide : 5 ≤ 200))
  have Sa := Lib.hid ((sm_in ia.out).mono (by decide : 5 ≤ 100))
  have SB := Lib.hid (show Sm 100 (b.natAbs : Int) by have h := (sm_in ib.out).mono (by decide : 5 ≤ 100); unfold Sm at *; rwa [Int.natAbs_natCast])
  have SR := Lib.hid (show Sm 100 (r.natAbs : Int) by have h := (sm_in ir.out).mono (by decide : 5 ≤ 100); unfold Sm at *; rwa [Int.natAbs_natCast])
  have Hq := Lib.hid hq
  have Hr := Lib.hid hr
  have H0 := Lib.hid h0
  have Hm := Lib.hid hm
  have t0 : (b == 0) = false := by simp; exact h0
  have SP7 := Lib.hid (show Sm 100 (q * b + r) by rw [hbk.out]; exact Sa.out)
  clear h0 hq hr hm
  go_enter Try.func4, Try.ntmps4
  go_wp2_with fail
  refine (awake_any _).mono ?_
  rintro e w' ⟨rfl, rfl⟩
  go_wp2_with fail
  refine (div_is a b q _ ia.out H0.out Hm.out Hq.out).mono ?_
  rintro e w' ⟨rfl, rfl⟩
  go_wp2_with fail
  refine (mod_is a b r _ ia.out H0.out Hr.out).mono ?_
  rintro e w' ⟨rfl, rfl⟩
  go_wp2_with fail
  refine (of_any b _ ib.out).mono ?_
  rintro e v1 h1
  obtain ⟨b1, A1, n1, c1, rfl, hn1, hb1, _⟩ := nz_of h1
  have N1 := Lib.hid hn1
  have B1 := Lib.hid hb1
  have C1 := Lib.hid (hb1)
  clear h1 hn1 hb1
  go_wp2_with fail
  have hk1 := Blk.new v1 25 #[.bool false, .slice A1 n1 c1]
  have hw1 : Below v1.heap.size v1 (v1.alloc (Obj.cells #[.bool false, .slice A1 n1 c1] 25)) := (Below.refl _ _).alloc (Nat.le_refl _) _
  generalize v1.alloc (Obj.cells #[.bool false, .slice A1 n1 c1] 25) = W1 at hk1 hw1 ⊢
  generalize hs1 : v1.heap.size = s1 at hk1 ⊢
  have K1 := Lib.hid hk1
  have lk1 : s1 < W1.heap.size := hk1.lt
  have D1 := Lib.hid (C1.out.trans (hw1.mono C1.out.size))
  have M1 := Lib.hid ((nz_abs N1.out).on hw1)
  have E1 := Lib.hid hw1
  clear hk1 hw1 hs1
  refine (of_any r _ ir.out).mono ?_
  rintro e v2 h2
  obtain ⟨b2, A2, n2, c2, rfl, hn2, hb2, _⟩ := nz_of h2
  have N2 := Lib.hid hn2
  have B2 := Lib.hid hb2
  have C2 := Lib.hid (D1.out.trans (hb2.mono D1.out.size))
  clear h2 hn2 hb2
  go_wp2_with fail
  have hk2 := Blk.new v2 25 #[.bool false, .slice A2 n2 c2]
  have hw2 : Below v2.heap.size v2 (v2.alloc (Obj.cells #[.bool false, .slice A2 n2 c2] 25)) := (Below.refl _ _).alloc (Nat.le_refl _) _
  generalize v2.alloc (Obj.cells #[.bool false, .slice A2 n2 c2] 25) = W2 at hk2 hw2 ⊢
  generalize hs2 : v2.heap.size = s2 at hk2 ⊢
  have K2 := Lib.hid hk2
  have lk2 : s2 < W2.heap.size := hk2.lt
  have D2 := Lib.hid (C2.out.trans (hw2.mono C2.out.size))
  have M2 := Lib.hid ((nz_abs N2.out).on hw2)
  have E2 := Lib.hid hw2
  clear hk2 hw2 hs2
  refine (of_any q _ iq.out).mono ?_
  rintro e v3 h3
  obtain ⟨b3, A3, n3, c3, rfl, hn3, hb3, _⟩ := nz_of h3
  have N3 := Lib.hid hn3
  have B3 := Lib.hid hb3
  have C3 := Lib.hid (D2.out.trans (hb3.mono D2.out.size))
  clear h3 hn3 hb3
  go_wp2_with fail
  refine (of_any b _ ib.out).mono ?_
  rintro e v4 h4
  obtain ⟨b4, A4, n4, c4, rfl, hn4, hb4, _⟩ := nz_of h4
  have N4 := Lib.hid hn4
  have B4 := Lib.hid hb4
  have C4 := Lib.hid (C3.out.trans (hb4.mono C3.out.size))
  clear h4 hn4 hb4
  go_wp2_with fail
  refine (mul_any _ _ q b _ (N3.out.on B4.out) N4.out Sq.out Sb.out).mono ?_
  rintro e v5 h5
  obtain ⟨b5, A5, n5, c5, rfl, hn5, hb5, _⟩ := nz_of h5
  have N5 := Lib.hid hn5
  have B5 := Lib.hid hb5
  have C5 := Lib.hid (C4.out.trans (hb5.mono C4.out.size))
  clear h5 hn5 hb5
  go_wp2_with fail
  refine (of_any r _ ir.out).mono ?_
  rintro e v6 h6
  obtain ⟨b6, A6, n6, c6, rfl, hn6, hb6, _⟩ := nz_of h6
  have N6 := Lib.hid hn6
  have B6 := Lib.hid hb6
  have C6 := Lib.hid (C5.out.trans (hb6.mono C5.out.size))
  clear h6 hn6 hb6
  go_wp2_with fail
  refine (add_any _ _ (q * b) r _ (N5.out.on B6.out) N6.out Sp.out Sr.out).mono ?_
  rintro e v7 h7
  obtain ⟨b7, A7, n7, c7, rfl, hn7, hb7, _⟩ := nz_of h7
  have N7 := Lib.hid hn7
  have B7 := Lib.hid hb7
  have C7 := Lib.hid (C6.out.trans (hb7.mono C6.out.size))
  clear h7 hn7 hb7
  go_wp2_with fail
  have hk3 := Blk.new v7 25 #[.bool b7, .slice A7 n7 c7]
  have hw3 : Below v7.heap.size v7 (v7.alloc (Obj.cells #[.bool b7, .slice A7 n7 c7] 25)) := (Below.refl _ _).alloc (Nat.le_refl _) _
  generalize v7.alloc (Obj.cells #[.bool b7, .slice A7 n7 c7] 25) = W3 at hk3 hw3 ⊢
  have hs3' : W2.heap.size ≤ v7.heap.size := Nat.le_trans B3.out.size (Nat.le_trans B4.out.size (Nat.le_trans B5.out.size (Nat.le_trans B6.out.size B7.out.size)))
  have hb27 : Below W2.heap.size W2 v7 := (((B3.out.trans (B4.out.mono B3.out.size)).trans (B5.out.mono (Nat.le_trans B3.out.size B4.out.size))).trans (B6.out.mono (Nat.le_trans B3.out.size (Nat.le_trans B4.out.size B5.out.size)))).trans (B7.out.mono (Nat.le_trans B3.out.size (Nat.le_trans B4.out.size (Nat.le_trans B5.out.size B6.out.size))))
  have hb2 : Below W2.heap.size W2 W3 := hb27.trans (hw3.mono hs3')
  have hb1 : Below W1.heap.size W1 W3 := ((B2.out.trans (E2.out.mono B2.out.size)).trans (hb2.mono (Nat.le_trans B2.out.size E2.out.size)))
  have T1 := Lib.hid (K1.out.on hb1 lk1)
  have T2 := Lib.hid (K2.out.on hb2 lk2)
  have T3 := Lib.hid hk3
  have P1 := Lib.hid (M1.out.on hb1)
  have P2 := Lib.hid (M2.out.on hb2)
  have P3 := Lib.hid (N7.out.on hw3)
  have D3 := Lib.hid (C7.out.trans (hw3.mono C7.out.size))
  have lk3 : v7.heap.size < W3.heap.size := hk3.lt
  generalize v7.heap.size = s3 at *
  have m1 : s1 < W3.heap.size := T1.out.lt
  have m2 : s2 < W3.heap.size := T2.out.lt
  clear hk3 hw3 hs3' hb27 hb2 hb1 lk1 lk2
  go_region_held3 (fun w' => (w'.cell? ⟨s1, 0, none⟩ = some (.bool false) ∧ w'.cell? ⟨s1, 1, none⟩ = some (.slice A1 n1 c1) ∧ Below W3.heap.size W3 w') ∧ (w'.cell? ⟨s2, 0, none⟩ = some (.bool false) ∧ w'.cell? ⟨s2, 1, none⟩ = some (.slice A2 n2 c2) ∧ Below W3.heap.size W3 w') ∧ (w'.cell? ⟨s3, 0, none⟩ = some (.bool b7) ∧ w'.cell? ⟨s3, 1, none⟩ = some (.slice A7 n7 c7) ∧ Below W3.heap.size W3 w'))
    (first
      | exact ⟨one2 T1.out (Below.refl _ _).drew, one2 T2.out (Below.refl _ _).drew, one2 T3.out (Below.refl _ _).drew⟩
      | exact ⟨one2 T1.out HV.out, one2 T2.out HV.out, one2 T3.out HV.out⟩)
    (first
      | (go_at_call 20
         refine (less_f (P2.out.on (Below.refl _ _).drew) (P1.out.on (Below.refl _ _).drew) SR.out SB.out true hsm.out).mono ?_
         rintro e v8 ⟨rfl, hb8⟩
         have HV := Lib.hid ((Below.refl _ _).drew.trans (hb8.mono (Nat.le_refl _)))
         clear hb8)
      | (go_at_call 9
         refine (of_any a _ ia.out).mono ?_
         rintro e v9 h9
         obtain ⟨b9, A9, n9, c9, rfl, hn9, hb9, _⟩ := nz_of h9
         have HV := Lib.hid (HV.out.trans (hb9.mono HV.out.size))
         have N9 := Lib.hid hn9
         clear h9 hn9 hb9)
      | (go_at_call 21
         refine (same_f (P3.out.on HV.out) N9.out SP7.out Sa.out true (decide_eq_true hbk.out)).mono ?_
         rintro e v10 ⟨rfl, hb10⟩
         have HV := Lib.hid (HV.out.trans (hb10.mono HV.out.size))
         clear hb10))
  have HE := Lib.hid (D3.out.trans (HV.out.mono D3.out.size))
  go_wp2_with fail
  go_ret
  exact ⟨rfl, HE.out⟩
set_option maxRecDepth 100000 in
set_option maxHeartbeats 8000000 in
theorem walk_11 (a b q r : Int) (w : World) (ia : Hid (In64 a)) (ib : Hid (In64 b)) (h0 : b ≠ 0) (hm : ¬ (a = -9223372036854775808 ∧ b = -1)) (hq : a.tdiv b = q) (hr : a.tmod b = r) (x1 : (a == -9223372036854775808) = false) (y1 : (r != 0) = true) (y2 : decide (r < 0) = true) (y3 : decide (a < 0) = true) :
    Calls Try.prog 4 #[.int .i64 a, .int .i64 b] w fun e w' => e = .returned (.bool true) ∧ Below w.heap.size w w' := by
  have iq := Lib.hid (show In64 q from hq ▸ q_in ia.out hm)
  have ir := Lib.hid (show In64 r from hr ▸ tmod_in a b ia.out)
  have hbk := Lib.hid (show q * b + r = a by rw [← hq, ← hr, Int.mul_comm]; exact Int.mul_tdiv_add_tmod a b)
  have hsm := Lib.hid (show decide ((r.natAbs : Int) < (b.natAbs : Int)) = true from decide_eq_true (by rw [← hr]; have := tmod_small a b h0; omega))
  have Sq := Lib.hid ((sm_in iq.out).mono (by decide : 5 ≤ 40))
  have Sb := Lib.hid ((sm_in ib.out).mono (by decide : 5 ≤ 40))
  have Sp := Lib.hid ((Sm.mul (sm_in iq.out) (sm_in ib.out)).mono (by decide : 5 + 5 ≤ 200))
  have Sr := Lib.hid ((sm_in ir.out).mono (by decide : 5 ≤ 200))
  have Sa := Lib.hid ((sm_in ia.out).mono (by decide : 5 ≤ 100))
  have SB := Lib.hid (show Sm 100 (b.natAbs : Int) by have h := (sm_in ib.out).mono (by decide : 5 ≤ 100); unfold Sm at *; rwa [Int.natAbs_natCast])
  have SR := Lib.hid (show Sm 100 (r.natAbs : Int) by have h := (sm_in ir.out).mono (by decide : 5 ≤ 100); unfold Sm at *; rwa [Int.natAbs_natCast])
  have Hq := Lib.hid hq
  have Hr := Lib.hid hr
  have H0 := Lib.hid h0
  have Hm := Lib.hid hm
  have t0 : (b == 0) = false := by simp; exact h0
  have SP7 := Lib.hid (show Sm 100 (q * b + r) by rw [hbk.out]; exact Sa.out)
  clear h0 hq hr hm
  go_enter Try.func4, Try.ntmps4
  go_wp2_with fail
  refine (awake_any _).mono ?_
  rintro e w' ⟨rfl, rfl⟩
  go_wp2_with fail
  refine (div_is a b q _ ia.out H0.out Hm.out Hq.out).mono ?_
  rintro e w' ⟨rfl, rfl⟩
  go_wp2_with fail
  refine (mod_is a b r _ ia.out H0.out Hr.out).mono ?_
  rintro e w' ⟨rfl, rfl⟩
  go_wp2_with fail
  refine (of_any b _ ib.out).mono ?_
  rintro e v1 h1
  obtain ⟨b1, A1, n1, c1, rfl, hn1, hb1, _⟩ := nz_of h1
  have N1 := Lib.hid hn1
  have B1 := Lib.hid hb1
  have C1 := Lib.hid (hb1)
  clear h1 hn1 hb1
  go_wp2_with fail
  have hk1 := Blk.new v1 25 #[.bool false, .slice A1 n1 c1]
  have hw1 : Below v1.heap.size v1 (v1.alloc (Obj.cells #[.bool false, .slice A1 n1 c1] 25)) := (Below.refl _ _).alloc (Nat.le_refl _) _
  generalize v1.alloc (Obj.cells #[.bool false, .slice A1 n1 c1] 25) = W1 at hk1 hw1 ⊢
  generalize hs1 : v1.heap.size = s1 at hk1 ⊢
  have K1 := Lib.hid hk1
  have lk1 : s1 < W1.heap.size := hk1.lt
  have D1 := Lib.hid (C1.out.trans (hw1.mono C1.out.size))
  have M1 := Lib.hid ((nz_abs N1.out).on hw1)
  have E1 := Lib.hid hw1
  clear hk1 hw1 hs1
  refine (of_any r _ ir.out).mono ?_
  rintro e v2 h2
  obtain ⟨b2, A2, n2, c2, rfl, hn2, hb2, _⟩ := nz_of h2
  have N2 := Lib.hid hn2
  have B2 := Lib.hid hb2
  have C2 := Lib.hid (D1.out.trans (hb2.mono D1.out.size))
  clear h2 hn2 hb2
  go_wp2_with fail
  have hk2 := Blk.new v2 25 #[.bool false, .slice A2 n2 c2]
  have hw2 : Below v2.heap.size v2 (v2.alloc (Obj.cells #[.bool false, .slice A2 n2 c2] 25)) := (Below.refl _ _).alloc (Nat.le_refl _) _
  generalize v2.alloc (Obj.cells #[.bool false, .slice A2 n2 c2] 25) = W2 at hk2 hw2 ⊢
  generalize hs2 : v2.heap.size = s2 at hk2 ⊢
  have K2 := Lib.hid hk2
  have lk2 : s2 < W2.heap.size := hk2.lt
  have D2 := Lib.hid (C2.out.trans (hw2.mono C2.out.size))
  have M2 := Lib.hid ((nz_abs N2.out).on hw2)
  have E2 := Lib.hid hw2
  clear hk2 hw2 hs2
  refine (of_any q _ iq.out).mono ?_
  rintro e v3 h3
  obtain ⟨b3, A3, n3, c3, rfl, hn3, hb3, _⟩ := nz_of h3
  have N3 := Lib.hid hn3
  have B3 := Lib.hid hb3
  have C3 := Lib.hid (D2.out.trans (hb3.mono D2.out.size))
  clear h3 hn3 hb3
  go_wp2_with fail
  refine (of_any b _ ib.out).mono ?_
  rintro e v4 h4
  obtain ⟨b4, A4, n4, c4, rfl, hn4, hb4, _⟩ := nz_of h4
  have N4 := Lib.hid hn4
  have B4 := Lib.hid hb4
  have C4 := Lib.hid (C3.out.trans (hb4.mono C3.out.size))
  clear h4 hn4 hb4
  go_wp2_with fail
  refine (mul_any _ _ q b _ (N3.out.on B4.out) N4.out Sq.out Sb.out).mono ?_
  rintro e v5 h5
  obtain ⟨b5, A5, n5, c5, rfl, hn5, hb5, _⟩ := nz_of h5
  have N5 := Lib.hid hn5
  have B5 := Lib.hid hb5
  have C5 := Lib.hid (C4.out.trans (hb5.mono C4.out.size))
  clear h5 hn5 hb5
  go_wp2_with fail
  refine (of_any r _ ir.out).mono ?_
  rintro e v6 h6
  obtain ⟨b6, A6, n6, c6, rfl, hn6, hb6, _⟩ := nz_of h6
  have N6 := Lib.hid hn6
  have B6 := Lib.hid hb6
  have C6 := Lib.hid (C5.out.trans (hb6.mono C5.out.size))
  clear h6 hn6 hb6
  go_wp2_with fail
  refine (add_any _ _ (q * b) r _ (N5.out.on B6.out) N6.out Sp.out Sr.out).mono ?_
  rintro e v7 h7
  obtain ⟨b7, A7, n7, c7, rfl, hn7, hb7, _⟩ := nz_of h7
  have N7 := Lib.hid hn7
  have B7 := Lib.hid hb7
  have C7 := Lib.hid (C6.out.trans (hb7.mono C6.out.size))
  clear h7 hn7 hb7
  go_wp2_with fail
  have hk3 := Blk.new v7 25 #[.bool b7, .slice A7 n7 c7]
  have hw3 : Below v7.heap.size v7 (v7.alloc (Obj.cells #[.bool b7, .slice A7 n7 c7] 25)) := (Below.refl _ _).alloc (Nat.le_refl _) _
  generalize v7.alloc (Obj.cells #[.bool b7, .slice A7 n7 c7] 25) = W3 at hk3 hw3 ⊢
  have hs3' : W2.heap.size ≤ v7.heap.size := Nat.le_trans B3.out.size (Nat.le_trans B4.out.size (Nat.le_trans B5.out.size (Nat.le_trans B6.out.size B7.out.size)))
  have hb27 : Below W2.heap.size W2 v7 := (((B3.out.trans (B4.out.mono B3.out.size)).trans (B5.out.mono (Nat.le_trans B3.out.size B4.out.size))).trans (B6.out.mono (Nat.le_trans B3.out.size (Nat.le_trans B4.out.size B5.out.size)))).trans (B7.out.mono (Nat.le_trans B3.out.size (Nat.le_trans B4.out.size (Nat.le_trans B5.out.size B6.out.size))))
  have hb2 : Below W2.heap.size W2 W3 := hb27.trans (hw3.mono hs3')
  have hb1 : Below W1.heap.size W1 W3 := ((B2.out.trans (E2.out.mono B2.out.size)).trans (hb2.mono (Nat.le_trans B2.out.size E2.out.size)))
  have T1 := Lib.hid (K1.out.on hb1 lk1)
  have T2 := Lib.hid (K2.out.on hb2 lk2)
  have T3 := Lib.hid hk3
  have P1 := Lib.hid (M1.out.on hb1)
  have P2 := Lib.hid (M2.out.on hb2)
  have P3 := Lib.hid (N7.out.on hw3)
  have D3 := Lib.hid (C7.out.trans (hw3.mono C7.out.size))
  have lk3 : v7.heap.size < W3.heap.size := hk3.lt
  generalize v7.heap.size = s3 at *
  have m1 : s1 < W3.heap.size := T1.out.lt
  have m2 : s2 < W3.heap.size := T2.out.lt
  clear hk3 hw3 hs3' hb27 hb2 hb1 lk1 lk2
  go_region_held3 (fun w' => (w'.cell? ⟨s1, 0, none⟩ = some (.bool false) ∧ w'.cell? ⟨s1, 1, none⟩ = some (.slice A1 n1 c1) ∧ Below W3.heap.size W3 w') ∧ (w'.cell? ⟨s2, 0, none⟩ = some (.bool false) ∧ w'.cell? ⟨s2, 1, none⟩ = some (.slice A2 n2 c2) ∧ Below W3.heap.size W3 w') ∧ (w'.cell? ⟨s3, 0, none⟩ = some (.bool b7) ∧ w'.cell? ⟨s3, 1, none⟩ = some (.slice A7 n7 c7) ∧ Below W3.heap.size W3 w'))
    (first
      | exact ⟨one2 T1.out (Below.refl _ _).drew, one2 T2.out (Below.refl _ _).drew, one2 T3.out (Below.refl _ _).drew⟩
      | exact ⟨one2 T1.out HV.out, one2 T2.out HV.out, one2 T3.out HV.out⟩)
    (first
      | (go_at_call 20
         refine (less_f (P2.out.on (Below.refl _ _).drew) (P1.out.on (Below.refl _ _).drew) SR.out SB.out true hsm.out).mono ?_
         rintro e v8 ⟨rfl, hb8⟩
         have HV := Lib.hid ((Below.refl _ _).drew.trans (hb8.mono (Nat.le_refl _)))
         clear hb8)
      | (go_at_call 9
         refine (of_any a _ ia.out).mono ?_
         rintro e v9 h9
         obtain ⟨b9, A9, n9, c9, rfl, hn9, hb9, _⟩ := nz_of h9
         have HV := Lib.hid (HV.out.trans (hb9.mono HV.out.size))
         have N9 := Lib.hid hn9
         clear h9 hn9 hb9)
      | (go_at_call 21
         refine (same_f (P3.out.on HV.out) N9.out SP7.out Sa.out true (decide_eq_true hbk.out)).mono ?_
         rintro e v10 ⟨rfl, hb10⟩
         have HV := Lib.hid (HV.out.trans (hb10.mono HV.out.size))
         clear hb10))
  have HE := Lib.hid (D3.out.trans (HV.out.mono D3.out.size))
  go_wp2_with fail
  go_ret
  exact ⟨rfl, HE.out⟩
set_option maxRecDepth 100000 in
set_option maxHeartbeats 8000000 in
theorem walk_12 (a b q r : Int) (w : World) (ia : Hid (In64 a)) (ib : Hid (In64 b)) (h0 : b ≠ 0) (hm : ¬ (a = -9223372036854775808 ∧ b = -1)) (hq : a.tdiv b = q) (hr : a.tmod b = r) (x1 : (a == -9223372036854775808) = false) (y1 : (r != 0) = true) (y2 : decide (r < 0) = false) (y3 : decide (a < 0) = false) :
    Calls Try.prog 4 #[.int .i64 a, .int .i64 b] w fun e w' => e = .returned (.bool true) ∧ Below w.heap.size w w' := by
  have iq := Lib.hid (show In64 q from hq ▸ q_in ia.out hm)
  have ir := Lib.hid (show In64 r from hr ▸ tmod_in a b ia.out)
  have hbk := Lib.hid (show q * b + r = a by rw [← hq, ← hr, Int.mul_comm]; exact Int.mul_tdiv_add_tmod a b)
  have hsm := Lib.hid (show decide ((r.natAbs : Int) < (b.natAbs : Int)) = true from decide_eq_true (by rw [← hr]; have := tmod_small a b h0; omega))
  have Sq := Lib.hid ((sm_in iq.out).mono (by decide : 5 ≤ 40))
  have Sb := Lib.hid ((sm_in ib.out).mono (by decide : 5 ≤ 40))
  have Sp := Lib.hid ((Sm.mul (sm_in iq.out) (sm_in ib.out)).mono (by decide : 5 + 5 ≤ 200))
  have Sr := Lib.hid ((sm_in ir.out).mono (by decide : 5 ≤ 200))
  have Sa := Lib.hid ((sm_in ia.out).mono (by decide : 5 ≤ 100))
  have SB := Lib.hid (show Sm 100 (b.natAbs : Int) by have h := (sm_in ib.out).mono (by decide : 5 ≤ 100); unfold Sm at *; rwa [Int.natAbs_natCast])
  have SR := Lib.hid (show Sm 100 (r.natAbs : Int) by have h := (sm_in ir.out).mono (by decide : 5 ≤ 100); unfold Sm at *; rwa [Int.natAbs_natCast])
  have Hq := Lib.hid hq
  have Hr := Lib.hid hr
  have H0 := Lib.hid h0
  have Hm := Lib.hid hm
  have t0 : (b == 0) = false := by simp; exact h0
  have SP7 := Lib.hid (show Sm 100 (q * b + r) by rw [hbk.out]; exact Sa.out)
  clear h0 hq hr hm
  go_enter Try.func4, Try.ntmps4
  go_wp2_with fail
  refine (awake_any _).mono ?_
  rintro e w' ⟨rfl, rfl⟩
  go_wp2_with fail
  refine (div_is a b q _ ia.out H0.out Hm.out Hq.out).mono ?_
  rintro e w' ⟨rfl, rfl⟩
  go_wp2_with fail
  refine (mod_is a b r _ ia.out H0.out Hr.out).mono ?_
  rintro e w' ⟨rfl, rfl⟩
  go_wp2_with fail
  refine (of_any b _ ib.out).mono ?_
  rintro e v1 h1
  obtain ⟨b1, A1, n1, c1, rfl, hn1, hb1, _⟩ := nz_of h1
  have N1 := Lib.hid hn1
  have B1 := Lib.hid hb1
  have C1 := Lib.hid (hb1)
  clear h1 hn1 hb1
  go_wp2_with fail
  have hk1 := Blk.new v1 25 #[.bool false, .slice A1 n1 c1]
  have hw1 : Below v1.heap.size v1 (v1.alloc (Obj.cells #[.bool false, .slice A1 n1 c1] 25)) := (Below.refl _ _).alloc (Nat.le_refl _) _
  generalize v1.alloc (Obj.cells #[.bool false, .slice A1 n1 c1] 25) = W1 at hk1 hw1 ⊢
  generalize hs1 : v1.heap.size = s1 at hk1 ⊢
  have K1 := Lib.hid hk1
  have lk1 : s1 < W1.heap.size := hk1.lt
  have D1 := Lib.hid (C1.out.trans (hw1.mono C1.out.size))
  have M1 := Lib.hid ((nz_abs N1.out).on hw1)
  have E1 := Lib.hid hw1
  clear hk1 hw1 hs1
  refine (of_any r _ ir.out).mono ?_
  rintro e v2 h2
  obtain ⟨b2, A2, n2, c2, rfl, hn2, hb2, _⟩ := nz_of h2
  have N2 := Lib.hid hn2
  have B2 := Lib.hid hb2
  have C2 := Lib.hid (D1.out.trans (hb2.mono D1.out.size))
  clear h2 hn2 hb2
  go_wp2_with fail
  have hk2 := Blk.new v2 25 #[.bool false, .slice A2 n2 c2]
  have hw2 : Below v2.heap.size v2 (v2.alloc (Obj.cells #[.bool false, .slice A2 n2 c2] 25)) := (Below.refl _ _).alloc (Nat.le_refl _) _
  generalize v2.alloc (Obj.cells #[.bool false, .slice A2 n2 c2] 25) = W2 at hk2 hw2 ⊢
  generalize hs2 : v2.heap.size = s2 at hk2 ⊢
  have K2 := Lib.hid hk2
  have lk2 : s2 < W2.heap.size := hk2.lt
  have D2 := Lib.hid (C2.out.trans (hw2.mono C2.out.size))
  have M2 := Lib.hid ((nz_abs N2.out).on hw2)
  have E2 := Lib.hid hw2
  clear hk2 hw2 hs2
  refine (of_any q _ iq.out).mono ?_
  rintro e v3 h3
  obtain ⟨b3, A3, n3, c3, rfl, hn3, hb3, _⟩ := nz_of h3
  have N3 := Lib.hid hn3
  have B3 := Lib.hid hb3
  have C3 := Lib.hid (D2.out.trans (hb3.mono D2.out.size))
  clear h3 hn3 hb3
  go_wp2_with fail
  refine (of_any b _ ib.out).mono ?_
  rintro e v4 h4
  obtain ⟨b4, A4, n4, c4, rfl, hn4, hb4, _⟩ := nz_of h4
  have N4 := Lib.hid hn4
  have B4 := Lib.hid hb4
  have C4 := Lib.hid (C3.out.trans (hb4.mono C3.out.size))
  clear h4 hn4 hb4
  go_wp2_with fail
  refine (mul_any _ _ q b _ (N3.out.on B4.out) N4.out Sq.out Sb.out).mono ?_
  rintro e v5 h5
  obtain ⟨b5, A5, n5, c5, rfl, hn5, hb5, _⟩ := nz_of h5
  have N5 := Lib.hid hn5
  have B5 := Lib.hid hb5
  have C5 := Lib.hid (C4.out.trans (hb5.mono C4.out.size))
  clear h5 hn5 hb5
  go_wp2_with fail
  refine (of_any r _ ir.out).mono ?_
  rintro e v6 h6
  obtain ⟨b6, A6, n6, c6, rfl, hn6, hb6, _⟩ := nz_of h6
  have N6 := Lib.hid hn6
  have B6 := Lib.hid hb6
  have C6 := Lib.hid (C5.out.trans (hb6.mono C5.out.size))
  clear h6 hn6 hb6
  go_wp2_with fail
  refine (add_any _ _ (q * b) r _ (N5.out.on B6.out) N6.out Sp.out Sr.out).mono ?_
  rintro e v7 h7
  obtain ⟨b7, A7, n7, c7, rfl, hn7, hb7, _⟩ := nz_of h7
  have N7 := Lib.hid hn7
  have B7 := Lib.hid hb7
  have C7 := Lib.hid (C6.out.trans (hb7.mono C6.out.size))
  clear h7 hn7 hb7
  go_wp2_with fail
  have hk3 := Blk.new v7 25 #[.bool b7, .slice A7 n7 c7]
  have hw3 : Below v7.heap.size v7 (v7.alloc (Obj.cells #[.bool b7, .slice A7 n7 c7] 25)) := (Below.refl _ _).alloc (Nat.le_refl _) _
  generalize v7.alloc (Obj.cells #[.bool b7, .slice A7 n7 c7] 25) = W3 at hk3 hw3 ⊢
  have hs3' : W2.heap.size ≤ v7.heap.size := Nat.le_trans B3.out.size (Nat.le_trans B4.out.size (Nat.le_trans B5.out.size (Nat.le_trans B6.out.size B7.out.size)))
  have hb27 : Below W2.heap.size W2 v7 := (((B3.out.trans (B4.out.mono B3.out.size)).trans (B5.out.mono (Nat.le_trans B3.out.size B4.out.size))).trans (B6.out.mono (Nat.le_trans B3.out.size (Nat.le_trans B4.out.size B5.out.size)))).trans (B7.out.mono (Nat.le_trans B3.out.size (Nat.le_trans B4.out.size (Nat.le_trans B5.out.size B6.out.size))))
  have hb2 : Below W2.heap.size W2 W3 := hb27.trans (hw3.mono hs3')
  have hb1 : Below W1.heap.size W1 W3 := ((B2.out.trans (E2.out.mono B2.out.size)).trans (hb2.mono (Nat.le_trans B2.out.size E2.out.size)))
  have T1 := Lib.hid (K1.out.on hb1 lk1)
  have T2 := Lib.hid (K2.out.on hb2 lk2)
  have T3 := Lib.hid hk3
  have P1 := Lib.hid (M1.out.on hb1)
  have P2 := Lib.hid (M2.out.on hb2)
  have P3 := Lib.hid (N7.out.on hw3)
  have D3 := Lib.hid (C7.out.trans (hw3.mono C7.out.size))
  have lk3 : v7.heap.size < W3.heap.size := hk3.lt
  generalize v7.heap.size = s3 at *
  have m1 : s1 < W3.heap.size := T1.out.lt
  have m2 : s2 < W3.heap.size := T2.out.lt
  clear hk3 hw3 hs3' hb27 hb2 hb1 lk1 lk2
  go_region_held3 (fun w' => (w'.cell? ⟨s1, 0, none⟩ = some (.bool false) ∧ w'.cell? ⟨s1, 1, none⟩ = some (.slice A1 n1 c1) ∧ Below W3.heap.size W3 w') ∧ (w'.cell? ⟨s2, 0, none⟩ = some (.bool false) ∧ w'.cell? ⟨s2, 1, none⟩ = some (.slice A2 n2 c2) ∧ Below W3.heap.size W3 w') ∧ (w'.cell? ⟨s3, 0, none⟩ = some (.bool b7) ∧ w'.cell? ⟨s3, 1, none⟩ = some (.slice A7 n7 c7) ∧ Below W3.heap.size W3 w'))
    (first
      | exact ⟨one2 T1.out (Below.refl _ _).drew, one2 T2.out (Below.refl _ _).drew, one2 T3.out (Below.refl _ _).drew⟩
      | exact ⟨one2 T1.out HV.out, one2 T2.out HV.out, one2 T3.out HV.out⟩)
    (first
      | (go_at_call 20
         refine (less_f (P2.out.on (Below.refl _ _).drew) (P1.out.on (Below.refl _ _).drew) SR.out SB.out true hsm.out).mono ?_
         rintro e v8 ⟨rfl, hb8⟩
         have HV := Lib.hid ((Below.refl _ _).drew.trans (hb8.mono (Nat.le_refl _)))
         clear hb8)
      | (go_at_call 9
         refine (of_any a _ ia.out).mono ?_
         rintro e v9 h9
         obtain ⟨b9, A9, n9, c9, rfl, hn9, hb9, _⟩ := nz_of h9
         have HV := Lib.hid (HV.out.trans (hb9.mono HV.out.size))
         have N9 := Lib.hid hn9
         clear h9 hn9 hb9)
      | (go_at_call 21
         refine (same_f (P3.out.on HV.out) N9.out SP7.out Sa.out true (decide_eq_true hbk.out)).mono ?_
         rintro e v10 ⟨rfl, hb10⟩
         have HV := Lib.hid (HV.out.trans (hb10.mono HV.out.size))
         clear hb10))
  have HE := Lib.hid (D3.out.trans (HV.out.mono D3.out.size))
  go_wp2_with fail
  go_ret
  exact ⟨rfl, HE.out⟩

theorem walk (a b : Int) (w0 : (Lit.int .i64 a).wf = true) (w1 : (Lit.int .i64 b).wf = true) (w : World) :
    Calls Try.prog 4 #[.int .i64 a, .int .i64 b] w fun e w' => e = .returned (.bool true) ∧ Below w.heap.size w w' := by
  have ia := Lib.hid (in_of a w0)
  have ib := Lib.hid (in_of b w1)
  by_cases h0 : b = 0
  · subst h0; exact walk_zero a w
  · by_cases hm : a = -9223372036854775808 ∧ b = -1
    · obtain ⟨rfl, rfl⟩ := hm; exact walk_least w
    · have hr := tmod_side a b
      have y1 : a.tmod b = 0 → (a.tmod b != 0) = false := fun h => by rw [h]; rfl
      have y2 : a.tmod b ≠ 0 → (a.tmod b != 0) = true := fun h => by simp; exact h
      by_cases hx : a = -9223372036854775808
      · have x1 : (a == -9223372036854775808) = true := by simp; exact hx
        have x2 : (b == -1) = false := by simp; exact fun h => hm ⟨hx, h⟩
        by_cases hz : a.tmod b = 0
        · exact walk_00 a b _ _ w ia ib h0 hm rfl rfl x1 x2 (y1 hz)
        · exact walk_01 a b _ _ w ia ib h0 hm rfl rfl x1 x2 (y2 hz) (decide_eq_true (by have := hr.2 (by omega); omega)) (decide_eq_true (by omega))
      · have x1 : (a == -9223372036854775808) = false := by simp; exact hx
        by_cases hz : a.tmod b = 0
        · exact walk_10 a b _ _ w ia ib h0 hm rfl rfl x1 (y1 hz)
        · by_cases ha : a < 0
          · exact walk_11 a b _ _ w ia ib h0 hm rfl rfl x1 (y2 hz) (decide_eq_true (by have := hr.2 (by omega); omega)) (decide_eq_true ha)
          · exact walk_12 a b _ _ w ia ib h0 hm rfl rfl x1 (y2 hz) (decide_eq_false (by have := hr.1 (by omega); omega)) (decide_eq_false ha)

set_option maxRecDepth 100000 in
theorem lifted (os : Os) (started : os.Started) (H : Type) (enc : TypeId × Value → H) :
    ReturnsInHanded {} Try.checked os 4 .any (Rows.wholePartsSpec.pre6 enc Try.prog Try.f4 Rows.wholePartsRow.domain false) (Rows.wholePartsSpec.post enc Try.prog Try.f4 false true false false) := by
  refine returnsInHanded_of_change (C := Try.checked) own started (by kernel_rfl) Try.func4
    (ChangeSpec.witness6 (enc := enc) (C := Try.checked) false ⟨#[], #[.int .i64 0, .int .i64 0], []⟩ 8 (by kernel_rfl) (by kernel_rfl) (by kernel_rfl) (by kernel_rfl)) ?_
  intro W base args ds gs before hval0 hW hcnd _
  have hval : ∀ (j : Nat) t v, Try.f4.params[j]? = some t → args[j]? = some v → Value.okWide Try.prog W .any base t v := hval0
  have hW' := hW
  obtain ⟨p, q, hA0, hV, rfl, hfz, hnd⟩ := hW
  have hA : DataW.TrodAll enc Try.prog W 0 (fun _ => true) true Try.f4.params.toList args.toList ds p := hA0
  rw [Try.params4] at hA hval
  obtain ⟨v0, vs0, d0, ds0, p0, q0, hargs, rfl, rfl, h0, r0⟩ := trodAll_cons hA
  obtain ⟨v1, vs1, d1, ds1, p1, q1, rfl, rfl, rfl, h1, r1⟩ := trodAll_cons r0
  obtain ⟨rfl, rfl, rfl⟩ := trodAll_nil r1
  obtain rfl : args = #[v0, v1] := by cases args; simp_all
  obtain ⟨rfl, rfl⟩ := trodVars_none hV
  obtain ⟨a0, rfl, rfl, rfl, w0⟩ := open_int Try.underlying2 (hval 0 2 v0 rfl rfl) h0
  obtain ⟨a1, rfl, rfl, rfl, w1⟩ := open_int Try.underlying2 (hval 1 2 v1 rfl rfl) h1
  clear hA0 hval0
  simp only [List.append_nil] at hW'
  refine (walk a0 a1 w0 w1 W).mono fun e W' ⟨he, bel⟩ => ?_
  subst he
  exact ⟨_, rfl, _, _, _, [], _, [], hW', trodAll_mk1 (shut_bool Try.underlying4 _), (trodAll_cons_mk (shut_int Try.underlying2 w0) (trodAll_cons_mk (shut_int Try.underlying2 w1) trodAll_mk0)), rfl, bel.frame _, fun h => by cases h⟩

theorem over : Rows.wholePartsRow.holds Try.pinned (OpenSpec.ofChange Rows.wholePartsSpec) :=
  OpenClaim.holds_of_wide 4 Try.f4 rfl rfl rfl rfl rfl rfl rfl ⟨rfl, rfl, rfl, rfl, rfl⟩ rfl rfl rfl rfl rfl (by kernel_rfl) Try.func4 (by kernel_rfl)
    (of_decide_eq_true (by kernel_rfl)) (by unfold Func.isWrapper; first | (rw [if_pos (by decide +kernel)]; kernel_rfl) | (rw [if_neg (by decide +kernel)]; exact ⟨rfl, rfl⟩))
    (fun os started H enc _ => lifted os started H enc)

/-- The statement. -/
theorem proved : Rows.WholePartsSaid :=
  over
end Go.Proofs.Yteoaapjejhjknaa.wholeParts
