/- WholeSums: what any two integers are together, the one less the other, the one times the other, and 0 less one, is the number that it is, or told to be none. No conditions: any two int64. -/
import Derived.Test.YteoaapjejhjknaaRows
import Derived.WalkKit
import Derived.ProofKit
import Derived.OpenShut
import Derived.Below
import Derived.Test.YteoaapjejhjknaaMul
import Derived.Test.YteoaapjejhjknaaSame
namespace Go.Proofs.Yteoaapjejhjknaa.wholeSums
open Go.ChangeShapes Go.WideShapes Go.ChangeAt Go.RowKit
open Fg
set_option linter.unusedVariables false      -- a walk need not use every 'w<i>' (that an integer argument fits its kind)

theorem own : ownKnob Try.prog.godebug = none := by kernel_rfl

attribute [local go_sem ↓] Go.wp_at_zero Go.wp_at_succ

/-- how a call ends whose number is z: it is told, or told to be none -/
def IsEnd (z n e : Int) : Prop := (In64 z ∧ n = z ∧ e = 0) ∨ (¬ In64 z ∧ n = 0 ∧ e = 11)
theorem isEnd (z : Int) : ∃ n e, IsEnd z n e := by
  by_cases h : In64 z
  · exact ⟨z, 0, .inl ⟨h, rfl, rfl⟩⟩
  · exact ⟨0, 11, .inr ⟨h, rfl, rfl⟩⟩
theorem add_end {a b n e : Int} (w : World) (ha : In64 a) (hb : In64 b) (h : IsEnd (a + b) n e) : Calls Try.prog 10 #[.int .i64 a, .int .i64 b] w fun en w' => en = .returned (.tuple #[.int .i64 n, .int .i64 e]) ∧ w = w' := by
  rcases h with ⟨h, rfl, rfl⟩ | ⟨h, rfl, rfl⟩
  · exact add_ok a b w ha hb h
  · exact add_over a b w ha hb h
theorem sub_end {a b n e : Int} (w : World) (ha : In64 a) (hb : In64 b) (h : IsEnd (a + -b) n e) : Calls Try.prog 11 #[.int .i64 a, .int .i64 b] w fun en w' => en = .returned (.tuple #[.int .i64 n, .int .i64 e]) ∧ w = w' := by
  have he : a + -b = a - b := by omega
  rw [he] at h
  rcases h with ⟨h, rfl, rfl⟩ | ⟨h, rfl, rfl⟩
  · exact sub_ok a b w ha hb h
  · exact sub_over a b w ha hb h
theorem mul_end {a b n e : Int} (w : World) (ha : In64 a) (hb : In64 b) (h : IsEnd (a * b) n e) : Calls Try.prog 12 #[.int .i64 a, .int .i64 b] w fun en w' => en = .returned (.tuple #[.int .i64 n, .int .i64 e]) ∧ w = w' := by
  rcases h with ⟨h, rfl, rfl⟩ | ⟨h, rfl, rfl⟩
  · exact mul_ok a b w ha hb h
  · exact mul_over a b w ha hb h
theorem neg_end {a n e : Int} (w : World) (ha : In64 a) (h : IsEnd (-a) n e) : Calls Try.prog 13 #[.int .i64 a] w fun en w' => en = .returned (.tuple #[.int .i64 n, .int .i64 e]) ∧ w = w' := by
  rcases h with ⟨h, rfl, rfl⟩ | ⟨h, rfl, rfl⟩
  · exact neg_ok a w ha (by unfold In64 at *; omega)
  · obtain rfl : a = -9223372036854775808 := by unfold In64 at *; omega
    exact neg_over w
theorem is_end {x : Value} {z n e : Int} {w : World} (hx : Nz w w.heap.size x z) (hz : Sm 100 z) (h : IsEnd z n e) :
    Calls Try.prog 14 #[.int .i64 n, .int .i64 e, x] w fun en w' => en = .returned (.bool true) ∧ Below w.heap.size w w' := by
  rcases h with ⟨h, rfl, rfl⟩ | ⟨h, rfl, rfl⟩
  · exact is_ok x n w hx h
  · exact is_over x z w hx hz h

set_option maxRecDepth 100000 in
set_option maxHeartbeats 8000000 in
theorem walkE (a b n0 e0 n1 e1 n2 e2 n3 e3 : Int) (w : World) (ia : Hid (In64 a)) (ib : Hid (In64 b)) (h0 : Hid (IsEnd (a + b) n0 e0)) (h1 : Hid (IsEnd (a + -b) n1 e1)) (h2 : Hid (IsEnd (a * b) n2 e2)) (h3 : Hid (IsEnd (-a) n3 e3)) :
    Calls Try.prog 3 #[.int .i64 a, .int .i64 b] w fun e w' => e = .returned (.bool true) ∧ Below w.heap.size w w' := by
  have Sa := Lib.hid (sm_in ia.out)
  have Sb := Lib.hid (sm_in ib.out)
  have S0 := Lib.hid ((Sm.add (n := 5) Sa.out Sb.out (by decide) (by decide)).mono (by decide : 5 + 1 ≤ 100))
  have S1 := Lib.hid ((Sm.add (n := 5) Sa.out Sb.out.neg (by decide) (by decide)).mono (by decide : 5 + 1 ≤ 100))
  have S2 := Lib.hid ((Sm.mul Sa.out Sb.out).mono (by decide : 5 + 5 ≤ 100))
  have S3 := Lib.hid (Sa.out.neg.mono (by decide : 5 ≤ 100))
  go_enter Try.func3, Try.ntmps3
  go_wp2_with fail
  refine (awake_any _).mono ?_
  rintro e w' ⟨rfl, rfl⟩
  go_wp2_with fail
  refine (of_any a _ ia.out).mono ?_
  rintro e v11 h11
  obtain ⟨b11, A11, n11, c11, rfl, hn11, hb11, _⟩ := nz_of h11
  have N11 := Lib.hid hn11
  have B11 := Lib.hid hb11
  have C11 := Lib.hid (hb11)
  clear h11 hn11 hb11
  go_wp2_with fail
  refine (of_any b _ ib.out).mono ?_
  rintro e v12 h12
  obtain ⟨b12, A12, n12, c12, rfl, hn12, hb12, _⟩ := nz_of h12
  have N12 := Lib.hid hn12
  have B12 := Lib.hid hb12
  have C12 := Lib.hid (C11.out.trans (hb12.mono C11.out.size))
  clear h12 hn12 hb12
  go_wp2_with fail
  refine (add_end _ ia.out ib.out h0.out).mono ?_
  rintro e w' ⟨rfl, rfl⟩
  go_wp2_with fail
  refine (sub_end _ ia.out ib.out h1.out).mono ?_
  rintro e w' ⟨rfl, rfl⟩
  go_wp2_with fail
  refine (mul_end _ ia.out ib.out h2.out).mono ?_
  rintro e w' ⟨rfl, rfl⟩
  go_wp2_with fail
  refine (neg_end _ ia.out h3.out).mono ?_
  rintro e w' ⟨rfl, rfl⟩
  go_wp2_with fail
  have h3' := two v12 #[.bool b11, .slice A11 n11 c11] #[.bool b12, .slice A12 n12 c12]
  generalize (v12.alloc (Obj.cells #[.bool b11, .slice A11 n11 c11] 25)).alloc (Obj.cells #[.bool b12, .slice A12 n12 c12] 25) = W at h3' ⊢
  generalize hg1 : v12.heap.size + 1 = g1 at h3' ⊢
  obtain ⟨b0, b1, hbw, hz1, hz2⟩ := h3'
  have T1 := Lib.hid b0
  have T2 := Lib.hid b1
  have D := Lib.hid (C12.out.trans (hbw.mono C12.out.size))
  have X := Lib.hid ((N11.out.on B12.out).on hbw)
  have Y := Lib.hid (N12.out.on hbw)
  generalize v12.heap.size = s1 at *
  have m1 : s1 < W.heap.size := b0.lt
  clear b0 b1 hbw hg1 hz1
  have tokA : True := trivial
  have tokN : True := trivial
  have tok1 : True := trivial
  have tok2 : True := trivial
  have tok3 : True := trivial
  have HV := Lib.hid ((Below.refl W.heap.size W).drew)
  go_region_held3 (fun w' => (w'.cell? ⟨s1, 0, none⟩ = some (.bool b11) ∧ w'.cell? ⟨s1, 1, none⟩ = some (.slice A11 n11 c11) ∧ Below W.heap.size W w') ∧ (w'.cell? ⟨g1, 0, none⟩ = some (.bool b12) ∧ w'.cell? ⟨g1, 1, none⟩ = some (.slice A12 n12 c12) ∧ Below W.heap.size W w'))
    (first
      | exact ⟨one2 T1.out HV.out, one2 T2.out HV.out⟩)
    (first
      | (go_at_call 15
         have _t := tokA
         refine (add_any _ _ a b _ (X.out.on HV.out) (Y.out.on HV.out) (Sa.out.mono (by decide)) (Sb.out.mono (by decide))).mono ?_
         rintro e v h
         obtain ⟨bb, AA, nn, cc, rfl, hn, hb, _⟩ := nz_of h
         have HV := Lib.hid (HV.out.trans (hb.mono HV.out.size))
         have R0 := Lib.hid hn
         clear h hn hb _t tokA)
      | (go_at_call 14
         have _t := tok1
         refine (is_end R0.out S0.out h0.out).mono ?_
         rintro e v ⟨rfl, hb⟩
         have HV := Lib.hid (HV.out.trans (hb.mono HV.out.size))
         clear hb _t tok1)
      | (go_at_call 16
         have _t := tokN
         refine (neg_any _ b _ (Y.out.on HV.out) (Sb.out.mono (by decide))).mono ?_
         rintro e v h
         obtain ⟨bb, AA, nn, cc, rfl, hn, hb, _⟩ := nz_of h
         have HV := Lib.hid (HV.out.trans (hb.mono HV.out.size))
         have Q := Lib.hid hn
         clear h hn hb _t tokN)
      | (go_at_call 15
         refine (add_any _ _ a (-b) _ (X.out.on HV.out) Q.out (Sa.out.mono (by decide)) (Sb.out.neg.mono (by decide))).mono ?_
         rintro e v h
         obtain ⟨bb, AA, nn, cc, rfl, hn, hb, _⟩ := nz_of h
         have HV := Lib.hid (HV.out.trans (hb.mono HV.out.size))
         have R1 := Lib.hid hn
         clear h hn hb)
      | (go_at_call 14
         have _t := tok2
         refine (is_end R1.out S1.out h1.out).mono ?_
         rintro e v ⟨rfl, hb⟩
         have HV := Lib.hid (HV.out.trans (hb.mono HV.out.size))
         clear hb _t tok2)
      | (go_at_call 17
         refine (mul_any _ _ a b _ (X.out.on HV.out) (Y.out.on HV.out) (Sa.out.mono (by decide)) (Sb.out.mono (by decide))).mono ?_
         rintro e v h
         obtain ⟨bb, AA, nn, cc, rfl, hn, hb, _⟩ := nz_of h
         have HV := Lib.hid (HV.out.trans (hb.mono HV.out.size))
         have R2 := Lib.hid hn
         clear h hn hb)
      | (go_at_call 14
         have _t := tok3
         refine (is_end R2.out S2.out h2.out).mono ?_
         rintro e v ⟨rfl, hb⟩
         have HV := Lib.hid (HV.out.trans (hb.mono HV.out.size))
         clear hb _t tok3)
      | (go_at_call 16
         refine (neg_any _ a _ (X.out.on HV.out) (Sa.out.mono (by decide))).mono ?_
         rintro e v h
         obtain ⟨bb, AA, nn, cc, rfl, hn, hb, _⟩ := nz_of h
         have HV := Lib.hid (HV.out.trans (hb.mono HV.out.size))
         have R3 := Lib.hid hn
         clear h hn hb)
      | (go_at_call 14
         refine (is_end R3.out S3.out h3.out).mono ?_
         rintro e v ⟨rfl, hb⟩
         have HV := Lib.hid (HV.out.trans (hb.mono HV.out.size))
         clear hb))
  have HE := Lib.hid (D.out.trans (HV.out.mono D.out.size))
  go_wp2_with fail
  go_ret
  exact ⟨rfl, HE.out⟩
theorem walk (a b : Int) (w0 : (Lit.int .i64 a).wf = true) (w1 : (Lit.int .i64 b).wf = true) (w : World) :
    Calls Try.prog 3 #[.int .i64 a, .int .i64 b] w fun e w' => e = .returned (.bool true) ∧ Below w.heap.size w w' := by
  obtain ⟨n0, e0, h0⟩ := isEnd (a + b)
  obtain ⟨n1, e1, h1⟩ := isEnd (a + -b)
  obtain ⟨n2, e2, h2⟩ := isEnd (a * b)
  obtain ⟨n3, e3, h3⟩ := isEnd (-a)
  exact walkE a b n0 e0 n1 e1 n2 e2 n3 e3 w (Lib.hid (in_of a w0)) (Lib.hid (in_of b w1)) (Lib.hid h0) (Lib.hid h1) (Lib.hid h2) (Lib.hid h3)

set_option maxRecDepth 100000 in
theorem lifted (os : Os) (started : os.Started) (H : Type) (enc : TypeId × Value → H) :
    ReturnsInHanded {} Try.checked os 3 .any (Rows.wholeSumsSpec.pre6 enc Try.prog Try.f3 Rows.wholeSumsRow.domain false) (Rows.wholeSumsSpec.post enc Try.prog Try.f3 false true false false) := by
  refine returnsInHanded_of_change (C := Try.checked) own started (by kernel_rfl) Try.func3
    (ChangeSpec.witness6 (enc := enc) (C := Try.checked) false ⟨#[], #[.int .i64 0, .int .i64 0], []⟩ 8 (by kernel_rfl) (by kernel_rfl) (by kernel_rfl) (by kernel_rfl)) ?_
  intro W base args ds gs before hval0 hW hcnd _
  have hval : ∀ (j : Nat) t v, Try.f3.params[j]? = some t → args[j]? = some v → Value.okWide Try.prog W .any base t v := hval0
  have hW' := hW
  obtain ⟨p, q, hA0, hV, rfl, hfz, hnd⟩ := hW
  have hA : DataW.TrodAll enc Try.prog W 0 (fun _ => true) true Try.f3.params.toList args.toList ds p := hA0
  rw [Try.params3] at hA hval
  obtain ⟨v0, vs0, d0, ds0, p0, q0, hargs, rfl, rfl, h0, r0⟩ := trodAll_cons hA
  obtain ⟨v1, vs1, d1, ds1, p1, q1, rfl, rfl, rfl, h1, r1⟩ := trodAll_cons r0
  obtain ⟨rfl, rfl, rfl⟩ := trodAll_nil r1
  obtain rfl : args = #[v0, v1] := by cases args; simp_all
  obtain ⟨rfl, rfl⟩ := trodVars_none hV
  obtain ⟨a0, rfl, rfl, rfl, w0⟩ := open_int Try.underlying2 (hval 0 2 v0 rfl rfl) h0
  obtain ⟨a1, rfl, rfl, rfl, w1⟩ := open_int Try.underlying2 (hval 1 2 v1 rfl rfl) h1
  clear hA0 hval0
  simp only [List.append_nil] at hW'
  refine (walk a0 a1 w0 w1 W).mono fun e W' ⟨he, bel⟩ => ?_
  subst he
  exact ⟨_, rfl, _, _, _, [], _, [], hW', trodAll_mk1 (shut_bool Try.underlying4 _), (trodAll_cons_mk (shut_int Try.underlying2 w0) (trodAll_cons_mk (shut_int Try.underlying2 w1) trodAll_mk0)), rfl, bel.frame _, fun h => by cases h⟩

theorem over : Rows.wholeSumsRow.holds Try.pinned (OpenSpec.ofChange Rows.wholeSumsSpec) :=
  OpenClaim.holds_of_wide 3 Try.f3 rfl rfl rfl rfl rfl rfl rfl ⟨rfl, rfl, rfl, rfl, rfl⟩ rfl rfl rfl rfl rfl (by kernel_rfl) Try.func3 (by kernel_rfl)
    (of_decide_eq_true (by kernel_rfl)) (by unfold Func.isWrapper; first | (rw [if_pos (by decide +kernel)]; kernel_rfl) | (rw [if_neg (by decide +kernel)]; exact ⟨rfl, rfl⟩))
    (fun os started H enc _ => lifted os started H enc)

/-- The statement. -/
theorem proved : Rows.WholeSumsSaid :=
  over
end Go.Proofs.Yteoaapjejhjknaa.wholeSums
