/- WholeCounts: how many integers there are from one to another one is the number that it is, or told to be too many. No conditions: any two int64. -/
import Derived.Test.YteoaapjejhjknaaRows
import Derived.WalkKit
import Derived.ProofKit
import Derived.OpenShut
import Derived.Below
import Derived.Test.YteoaapjejhjknaaCount
import Derived.Test.YteoaapjejhjknaaIs
namespace Go.Proofs.Yteoaapjejhjknaa.wholeCounts
open Go.ChangeShapes Go.WideShapes Go.ChangeAt Go.RowKit
open Fg
set_option linter.unusedVariables false      -- a walk need not use every 'w<i>' (that an integer argument fits its kind)

theorem own : ownKnob Try.prog.godebug = none := by kernel_rfl

attribute [local go_sem ↓] Go.wp_at_zero Go.wp_at_succ

theorem less_f {x y : Value} {a b : Int} {w : World} (hx : Nz w w.heap.size x a) (hy : Nz w w.heap.size y b) (ha : Sm 100 a) (hb : Sm 100 b) (r : Bool) (h : decide (a < b) = r) :
    Calls Try.prog 20 #[x, y] w fun e w' => e = .returned (.bool r) ∧ Below w.heap.size w w' := by
  have := less2_any x y a b w hx hy ha hb; rwa [h] at this

set_option maxRecDepth 100000 in
set_option maxHeartbeats 4000000 in
theorem walk_none (a b : Int) (w : World) (ia : Hid (In64 a)) (ib : Hid (In64 b)) (h : b < a) :
    Calls Try.prog 6 #[.int .i64 a, .int .i64 b] w fun e w' => e = .returned (.bool true) ∧ Below w.heap.size w w' := by
  have t1 : decide (b < a) = true := decide_eq_true h
  have Sa := Lib.hid ((sm_in ia.out).mono (by decide : 5 ≤ 200))
  have Sb := Lib.hid ((sm_in ib.out).mono (by decide : 5 ≤ 200))
  have I1 := Lib.hid (show In64 1 by constructor <;> decide)
  have S1 := Lib.hid ((sm_in I1.out).mono (by decide : 5 ≤ 200))
  have Sd := Lib.hid (Sm.add (n := 5) (sm_in ib.out) (sm_in ia.out).neg (by decide) (by decide))
  go_enter Try.func6, Try.ntmps6
  go_wp2_with fail
  refine (awake_any _).mono ?_
  rintro e w' ⟨rfl, rfl⟩
  go_wp2_with fail
  refine (count_none a b _ h).mono ?_
  rintro e w' ⟨rfl, rfl⟩
  go_wp2_with fail
  refine (of_any b _ ib.out).mono ?_
  rintro e v1 h1
  obtain ⟨b1, A1, n1, c1, rfl, hn1, hb1, _⟩ := nz_of h1
  have N1 := Lib.hid hn1
  have B1 := Lib.hid hb1
  have C1 := Lib.hid (hb1)
  clear h1 hn1 hb1
  go_wp2_with fail
  refine (of_any a _ ia.out).mono ?_
  rintro e v2 h2
  obtain ⟨b2, A2, n2, c2, rfl, hn2, hb2, _⟩ := nz_of h2
  have N2 := Lib.hid hn2
  have B2 := Lib.hid hb2
  have C2 := Lib.hid (C1.out.trans (hb2.mono C1.out.size))
  clear h2 hn2 hb2
  go_wp2_with fail
  refine (neg_any _ a _ N2.out Sa.out).mono ?_
  rintro e v3 h3
  obtain ⟨b3, A3, n3, c3, rfl, hn3, hb3, _⟩ := nz_of h3
  have N3 := Lib.hid hn3
  have B3 := Lib.hid hb3
  have C3 := Lib.hid (C2.out.trans (hb3.mono C2.out.size))
  clear h3 hn3 hb3
  go_wp2_with fail
  refine (add_any _ _ b (-a) _ ((N1.out.on B2.out).on B3.out) N3.out Sb.out Sa.out.neg).mono ?_
  rintro e v4 h4
  obtain ⟨b4, A4, n4, c4, rfl, hn4, hb4, _⟩ := nz_of h4
  have N4 := Lib.hid hn4
  have B4 := Lib.hid hb4
  have C4 := Lib.hid (C3.out.trans (hb4.mono C3.out.size))
  clear h4 hn4 hb4
  go_wp2_with fail
  refine (of_any 1 _ I1.out).mono ?_
  rintro e v5 h5
  obtain ⟨b5, A5, n5, c5, rfl, hn5, hb5, _⟩ := nz_of h5
  have N5 := Lib.hid hn5
  have B5 := Lib.hid hb5
  have C5 := Lib.hid (C4.out.trans (hb5.mono C4.out.size))
  clear h5 hn5 hb5
  go_wp2_with fail
  refine (add_any _ _ (b + -a) 1 _ (N4.out.on B5.out) N5.out (Sd.out.mono (by decide)) S1.out).mono ?_
  rintro e v6 h6
  obtain ⟨b6, A6, n6, c6, rfl, hn6, hb6, _⟩ := nz_of h6
  have N6 := Lib.hid hn6
  have B6 := Lib.hid hb6
  have C6 := Lib.hid (C5.out.trans (hb6.mono C5.out.size))
  clear h6 hn6 hb6
  go_wp2_with fail
  go_ret
  exact ⟨rfl, C6.out.alloc C6.out.size _⟩
set_option maxRecDepth 100000 in
set_option maxHeartbeats 4000000 in
theorem walk_over (a b : Int) (w : World) (ia : Hid (In64 a)) (ib : Hid (In64 b)) (h : a ≤ b) (h2 : 4294967296 ≤ b - a) :
    Calls Try.prog 6 #[.int .i64 a, .int .i64 b] w fun e w' => e = .returned (.bool true) ∧ Below w.heap.size w w' := by
  have t1 : decide (b < a) = false := decide_eq_false (by omega)
  have Ht := Lib.hid (show decide ((4294967296 : Int) < b + -a + 1) = true from decide_eq_true (by omega))
  have Sa := Lib.hid ((sm_in ia.out).mono (by decide : 5 ≤ 200))
  have Sb := Lib.hid ((sm_in ib.out).mono (by decide : 5 ≤ 200))
  have I1 := Lib.hid (show In64 1 by constructor <;> decide)
  have S1 := Lib.hid ((sm_in I1.out).mono (by decide : 5 ≤ 200))
  have Sd := Lib.hid (Sm.add (n := 5) (sm_in ib.out) (sm_in ia.out).neg (by decide) (by decide))
  have Se := Lib.hid (Sm.add (n := 6) Sd.out (sm_in I1.out) (by decide) (by decide))
  go_enter Try.func6, Try.ntmps6
  go_wp2_with fail
  refine (awake_any _).mono ?_
  rintro e w' ⟨rfl, rfl⟩
  go_wp2_with fail
  refine (count_over a b _ ia.out ib.out h h2).mono ?_
  rintro e w' ⟨rfl, rfl⟩
  go_wp2_with fail
  refine (of_any b _ ib.out).mono ?_
  rintro e v1 h1
  obtain ⟨b1, A1, n1, c1, rfl, hn1, hb1, _⟩ := nz_of h1
  have N1 := Lib.hid hn1
  have B1 := Lib.hid hb1
  have C1 := Lib.hid (hb1)
  clear h1 hn1 hb1
  go_wp2_with fail
  refine (of_any a _ ia.out).mono ?_
  rintro e v2 h2
  obtain ⟨b2, A2, n2, c2, rfl, hn2, hb2, _⟩ := nz_of h2
  have N2 := Lib.hid hn2
  have B2 := Lib.hid hb2
  have C2 := Lib.hid (C1.out.trans (hb2.mono C1.out.size))
  clear h2 hn2 hb2
  go_wp2_with fail
  refine (neg_any _ a _ N2.out Sa.out).mono ?_
  rintro e v3 h3
  obtain ⟨b3, A3, n3, c3, rfl, hn3, hb3, _⟩ := nz_of h3
  have N3 := Lib.hid hn3
  have B3 := Lib.hid hb3
  have C3 := Lib.hid (C2.out.trans (hb3.mono C2.out.size))
  clear h3 hn3 hb3
  go_wp2_with fail
  refine (add_any _ _ b (-a) _ ((N1.out.on B2.out).on B3.out) N3.out Sb.out Sa.out.neg).mono ?_
  rintro e v4 h4
  obtain ⟨b4, A4, n4, c4, rfl, hn4, hb4, _⟩ := nz_of h4
  have N4 := Lib.hid hn4
  have B4 := Lib.hid hb4
  have C4 := Lib.hid (C3.out.trans (hb4.mono C3.out.size))
  clear h4 hn4 hb4
  go_wp2_with fail
  refine (of_any 1 _ I1.out).mono ?_
  rintro e v5 h5
  obtain ⟨b5, A5, n5, c5, rfl, hn5, hb5, _⟩ := nz_of h5
  have N5 := Lib.hid hn5
  have B5 := Lib.hid hb5
  have C5 := Lib.hid (C4.out.trans (hb5.mono C4.out.size))
  clear h5 hn5 hb5
  go_wp2_with fail
  refine (add_any _ _ (b + -a) 1 _ (N4.out.on B5.out) N5.out (Sd.out.mono (by decide)) S1.out).mono ?_
  rintro e v6 h6
  obtain ⟨b6, A6, n6, c6, rfl, hn6, hb6, _⟩ := nz_of h6
  have N6 := Lib.hid hn6
  have B6 := Lib.hid hb6
  have C6 := Lib.hid (C5.out.trans (hb6.mono C5.out.size))
  clear h6 hn6 hb6
  go_wp2_with fail
  have b0 := Blk.new v6 25 #[.bool b6, .slice A6 n6 c6]
  have hbw : Below v6.heap.size v6 (v6.alloc (Obj.cells #[.bool b6, .slice A6 n6 c6] 25)) := (Below.refl _ _).alloc (Nat.le_refl _) _
  generalize v6.alloc (Obj.cells #[.bool b6, .slice A6 n6 c6] 25) = W at b0 hbw ⊢
  have B0 := Lib.hid b0
  have HBW := Lib.hid hbw
  have l0 : v6.heap.size < W.heap.size := b0.lt
  have NW := Lib.hid (N6.out.on hbw)
  have CW := Lib.hid (C6.out.trans (hbw.mono C6.out.size))
  have Ik := Lib.hid (show In64 4294967296 by constructor <;> decide)
  have Sk := Lib.hid ((sm_in Ik.out).mono (by decide : 5 ≤ 100))
  clear b0 hbw
  go_region_held3 (fun w' => w'.cell? ⟨v6.heap.size, 0, none⟩ = some (.bool b6) ∧ w'.cell? ⟨v6.heap.size, 1, none⟩ = some (.slice A6 n6 c6) ∧ Below W.heap.size W w')
    (first
      | exact one2 B0.out (Below.refl _ _).drew
      | exact one2 B0.out HV.out)
    (first
      | (go_at_call 9
         have HB := Lib.hid (‹_ ∧ _ ∧ Below W.heap.size W _›.2.2)
         refine (of_any _ _ Ik.out).mono ?_
         rintro e v7 h7
         obtain ⟨b7, A7, n7, c7, rfl, hn7, hb7, _⟩ := nz_of h7
         have HV := Lib.hid (HB.out.trans (hb7.mono HB.out.size))
         have N7 := Lib.hid hn7
         clear h7 hn7 hb7)
      | (go_at_call 20
         have HB := Lib.hid (‹_ ∧ _ ∧ Below W.heap.size W _›.2.2)
         refine (less_f N7.out (NW.out.on HB.out) Sk.out (Se.out.mono (by decide)) true Ht.out).mono ?_
         rintro e v8 ⟨rfl, hb8⟩
         have HV := Lib.hid (HB.out.trans (hb8.mono HB.out.size))
         have C8 := Lib.hid (CW.out.trans (HV.out.mono CW.out.size))
         have q0 := (one2 B0.out HV.out).1
         have q1 := (one2 B0.out HV.out).2.1
         have N8 := Lib.hid (NW.out.on HV.out)
         clear hb8))
  go_wp2_with fail
  go_ret
  exact ⟨rfl, C8.out⟩
set_option maxRecDepth 100000 in
set_option maxHeartbeats 4000000 in
theorem walk_ok (a b : Int) (w : World) (ia : Hid (In64 a)) (ib : Hid (In64 b)) (h : a ≤ b) (h2 : b - a < 4294967296) :
    Calls Try.prog 6 #[.int .i64 a, .int .i64 b] w fun e w' => e = .returned (.bool true) ∧ Below w.heap.size w w' := by
  have t1 : decide (b < a) = false := decide_eq_false (by omega)
  have Ht := Lib.hid (show decide ((4294967296 : Int) < b + -a + 1) = false from decide_eq_false (by omega))
  have Iz := Lib.hid (show In64 (b - a + 1) by constructor <;> omega)
  have tz : (b - a + 1 == b - a + 1) = true := by simp
  have Sa := Lib.hid ((sm_in ia.out).mono (by decide : 5 ≤ 200))
  have Sb := Lib.hid ((sm_in ib.out).mono (by decide : 5 ≤ 200))
  have I1 := Lib.hid (show In64 1 by constructor <;> decide)
  have S1 := Lib.hid ((sm_in I1.out).mono (by decide : 5 ≤ 200))
  have Sd := Lib.hid (Sm.add (n := 5) (sm_in ib.out) (sm_in ia.out).neg (by decide) (by decide))
  have Se := Lib.hid (Sm.add (n := 6) Sd.out (sm_in I1.out) (by decide) (by decide))
  have Hlow := Lib.hid (show b + -a + 1 = b - a + 1 by omega)
  go_enter Try.func6, Try.ntmps6
  go_wp2_with fail
  refine (awake_any _).mono ?_
  rintro e w' ⟨rfl, rfl⟩
  go_wp2_with fail
  refine (count_ok a b _ ia.out ib.out h h2).mono ?_
  rintro e w' ⟨rfl, rfl⟩
  go_wp2_with fail
  refine (of_any b _ ib.out).mono ?_
  rintro e v1 h1
  obtain ⟨b1, A1, n1, c1, rfl, hn1, hb1, _⟩ := nz_of h1
  have N1 := Lib.hid hn1
  have B1 := Lib.hid hb1
  have C1 := Lib.hid (hb1)
  clear h1 hn1 hb1
  go_wp2_with fail
  refine (of_any a _ ia.out).mono ?_
  rintro e v2 h2
  obtain ⟨b2, A2, n2, c2, rfl, hn2, hb2, _⟩ := nz_of h2
  have N2 := Lib.hid hn2
  have B2 := Lib.hid hb2
  have C2 := Lib.hid (C1.out.trans (hb2.mono C1.out.size))
  clear h2 hn2 hb2
  go_wp2_with fail
  refine (neg_any _ a _ N2.out Sa.out).mono ?_
  rintro e v3 h3
  obtain ⟨b3, A3, n3, c3, rfl, hn3, hb3, _⟩ := nz_of h3
  have N3 := Lib.hid hn3
  have B3 := Lib.hid hb3
  have C3 := Lib.hid (C2.out.trans (hb3.mono C2.out.size))
  clear h3 hn3 hb3
  go_wp2_with fail
  refine (add_any _ _ b (-a) _ ((N1.out.on B2.out).on B3.out) N3.out Sb.out Sa.out.neg).mono ?_
  rintro e v4 h4
  obtain ⟨b4, A4, n4, c4, rfl, hn4, hb4, _⟩ := nz_of h4
  have N4 := Lib.hid hn4
  have B4 := Lib.hid hb4
  have C4 := Lib.hid (C3.out.trans (hb4.mono C3.out.size))
  clear h4 hn4 hb4
  go_wp2_with fail
  refine (of_any 1 _ I1.out).mono ?_
  rintro e v5 h5
  obtain ⟨b5, A5, n5, c5, rfl, hn5, hb5, _⟩ := nz_of h5
  have N5 := Lib.hid hn5
  have B5 := Lib.hid hb5
  have C5 := Lib.hid (C4.out.trans (hb5.mono C4.out.size))
  clear h5 hn5 hb5
  go_wp2_with fail
  refine (add_any _ _ (b + -a) 1 _ (N4.out.on B5.out) N5.out (Sd.out.mono (by decide)) S1.out).mono ?_
  rintro e v6 h6
  obtain ⟨b6, A6, n6, c6, rfl, hn6, hb6, _⟩ := nz_of h6
  have N6 := Lib.hid hn6
  have B6 := Lib.hid hb6
  have C6 := Lib.hid (C5.out.trans (hb6.mono C5.out.size))
  clear h6 hn6 hb6
  go_wp2_with fail
  have b0 := Blk.new v6 25 #[.bool b6, .slice A6 n6 c6]
  have hbw : Below v6.heap.size v6 (v6.alloc (Obj.cells #[.bool b6, .slice A6 n6 c6] 25)) := (Below.refl _ _).alloc (Nat.le_refl _) _
  generalize v6.alloc (Obj.cells #[.bool b6, .slice A6 n6 c6] 25) = W at b0 hbw ⊢
  have B0 := Lib.hid b0
  have HBW := Lib.hid hbw
  have l0 : v6.heap.size < W.heap.size := b0.lt
  have NW := Lib.hid (N6.out.on hbw)
  have CW := Lib.hid (C6.out.trans (hbw.mono C6.out.size))
  have Ik := Lib.hid (show In64 4294967296 by constructor <;> decide)
  have Sk := Lib.hid ((sm_in Ik.out).mono (by decide : 5 ≤ 100))
  clear b0 hbw
  go_region_held3 (fun w' => w'.cell? ⟨v6.heap.size, 0, none⟩ = some (.bool b6) ∧ w'.cell? ⟨v6.heap.size, 1, none⟩ = some (.slice A6 n6 c6) ∧ Below W.heap.size W w')
    (first
      | exact one2 B0.out (Below.refl _ _).drew
      | exact one2 B0.out HV.out)
    (first
      | (go_at_call 9
         have HB := Lib.hid (‹_ ∧ _ ∧ Below W.heap.size W _›.2.2)
         refine (of_any _ _ Ik.out).mono ?_
         rintro e v7 h7
         obtain ⟨b7, A7, n7, c7, rfl, hn7, hb7, _⟩ := nz_of h7
         have HV := Lib.hid (HB.out.trans (hb7.mono HB.out.size))
         have N7 := Lib.hid hn7
         clear h7 hn7 hb7)
      | (go_at_call 20
         have HB := Lib.hid (‹_ ∧ _ ∧ Below W.heap.size W _›.2.2)
         refine (less_f N7.out (NW.out.on HB.out) Sk.out (Se.out.mono (by decide)) false Ht.out).mono ?_
         rintro e v8 ⟨rfl, hb8⟩
         have HV := Lib.hid (HB.out.trans (hb8.mono HB.out.size))
         have C8 := Lib.hid (CW.out.trans (HV.out.mono CW.out.size))
         have q0 := (one2 B0.out HV.out).1
         have q1 := (one2 B0.out HV.out).2.1
         have N8 := Lib.hid (NW.out.on HV.out)
         clear hb8))
  go_wp2_with fail
  refine (int_any _ (b - a + 1) _ (Hlow.out ▸ N8.out) Iz.out).mono ?_
  rintro e v9 ⟨rfl, hb9⟩
  have C9 := Lib.hid (C8.out.trans (hb9.mono C8.out.size))
  clear hb9
  go_wp2_with fail
  go_ret
  exact ⟨rfl, C9.out⟩

theorem walk (a b : Int) (w0 : (Lit.int .i64 a).wf = true) (w1 : (Lit.int .i64 b).wf = true) (w : World) :
    Calls Try.prog 6 #[.int .i64 a, .int .i64 b] w fun e w' => e = .returned (.bool true) ∧ Below w.heap.size w w' := by
  have ia := Lib.hid (in_of a w0)
  have ib := Lib.hid (in_of b w1)
  by_cases h : b < a
  · exact walk_none a b w ia ib h
  · by_cases h2 : 4294967296 ≤ b - a
    · exact walk_over a b w ia ib (by omega) h2
    · exact walk_ok a b w ia ib (by omega) (by omega)

set_option maxRecDepth 100000 in
theorem lifted (os : Os) (started : os.Started) (H : Type) (enc : TypeId × Value → H) :
    ReturnsInHanded {} Try.checked os 6 .any (Rows.wholeCountsSpec.pre6 enc Try.prog Try.f6 Rows.wholeCountsRow.domain false) (Rows.wholeCountsSpec.post enc Try.prog Try.f6 false true false false) := by
  refine returnsInHanded_of_change (C := Try.checked) own started (by kernel_rfl) Try.func6
    (ChangeSpec.witness6 (enc := enc) (C := Try.checked) false ⟨#[], #[.int .i64 0, .int .i64 0], []⟩ 8 (by kernel_rfl) (by kernel_rfl) (by kernel_rfl) (by kernel_rfl)) ?_
  intro W base args ds gs before hval0 hW hcnd _
  have hval : ∀ (j : Nat) t v, Try.f6.params[j]? = some t → args[j]? = some v → Value.okWide Try.prog W .any base t v := hval0
  have hW' := hW
  obtain ⟨p, q, hA0, hV, rfl, hfz, hnd⟩ := hW
  have hA : DataW.TrodAll enc Try.prog W 0 (fun _ => true) true Try.f6.params.toList args.toList ds p := hA0
  rw [Try.params6] at hA hval
  obtain ⟨v0, vs0, d0, ds0, p0, q0, hargs, rfl, rfl, h0, r0⟩ := trodAll_cons hA
  obtain ⟨v1, vs1, d1, ds1, p1, q1, rfl, rfl, rfl, h1, r1⟩ := trodAll_cons r0
  obtain ⟨rfl, rfl, rfl⟩ := trodAll_nil r1
  obtain rfl : args = #[v0, v1] := by cases args; simp_all
  obtain ⟨rfl, rfl⟩ := trodVars_none hV
  obtain ⟨a0, rfl, rfl, rfl, w0⟩ := open_int Try.underlying2 (hval 0 2 v0 rfl rfl) h0
  obtain ⟨a1, rfl, rfl, rfl, w1⟩ := open_int Try.underlying2 (hval 1 2 v1 rfl rfl) h1
  clear hA0 hval0
  simp only [List.append_nil] at hW'
  refine (walk a0 a1 w0 w1 W).mono fun e W' ⟨he, bel⟩ => ?_
  subst he
  exact ⟨_, rfl, _, _, _, [], _, [], hW', trodAll_mk1 (shut_bool Try.underlying4 _), (trodAll_cons_mk (shut_int Try.underlying2 w0) (trodAll_cons_mk (shut_int Try.underlying2 w1) trodAll_mk0)), rfl, bel.frame _, fun h => by cases h⟩

theorem over : Rows.wholeCountsRow.holds Try.pinned (OpenSpec.ofChange Rows.wholeCountsSpec) :=
  OpenClaim.holds_of_wide 6 Try.f6 rfl rfl rfl rfl rfl rfl rfl ⟨rfl, rfl, rfl, rfl, rfl⟩ rfl rfl rfl rfl rfl (by kernel_rfl) Try.func6 (by kernel_rfl)
    (of_decide_eq_true (by kernel_rfl)) (by unfold Func.isWrapper; first | (rw [if_pos (by decide +kernel)]; kernel_rfl) | (rw [if_neg (by decide +kernel)]; exact ⟨rfl, rfl⟩))
    (fun os started H enc _ => lifted os started H enc)

/-- The statement. -/
theorem proved : Rows.WholeCountsSaid :=
  over
end Go.Proofs.Yteoaapjejhjknaa.wholeCounts
