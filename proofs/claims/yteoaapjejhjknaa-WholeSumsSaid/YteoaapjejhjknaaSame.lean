/- Contract of the reference's Same. -/
import Derived.Test.YteoaapjejhjknaaNum
namespace Go.Proofs.Yteoaapjejhjknaa
open Go.RowKit
open Fg
attribute [local go_sem ↓] Go.wp_at_zero Go.wp_at_succ

theorem run_figures (w : World) (b : Bool) (A : Option Addr) (n c : Nat) : (Instr.field 25 (.agg #[.bool b, .slice A n c]) 1).run Try.prog w = .ok (.slice A n c) w := by kernel_rfl
theorem figs_nil (z : Int) : (figs z.natAbs).length = 0 ↔ z = 0 := by
  constructor
  · intro h
    have h1 := val_figs z.natAbs
    rw [List.eq_nil_of_length_eq_zero h, val] at h1
    omega
  · rintro rfl
    rw [Int.natAbs_zero, figs_zero]; rfl
theorem nz_len {z : Int} {w W : World} {e : Ending} (h : GivesN z w e W) : ∃ b A n c, e = .returned (.agg #[.bool b, .slice A n c]) ∧ Nz W W.heap.size (.agg #[.bool b, .slice A n c]) z ∧ Below w.heap.size w W ∧ Hid (n = (figs z.natAbs).length) := by
  obtain ⟨v, rfl, ⟨A, c, rfl, hc, hr⟩, hb⟩ := h
  exact ⟨_, A, _, c, rfl, ⟨A, c, rfl, hc, hr⟩, hb, Lib.hid rfl⟩

set_option maxRecDepth 100000 in
set_option maxHeartbeats 4000000 in
theorem same_any (x y : Value) (a b : Int) (w : World) (hx : Nz w w.heap.size x a) (hy : Nz w w.heap.size y b) (ha : Sm 100 a) (hb : Sm 100 b) :
    Calls Try.prog 21 #[x, y] w fun e w' => e = .returned (.bool (decide (a = b))) ∧ Below w.heap.size w w' := by
  have Hx := Lib.hid hx
  have Hy := Lib.hid hy
  obtain ⟨l, A, c, rfl, hc, hl2, hr, hd, hv, hf⟩ := nz_open hx (ha.mono (by decide))
  obtain ⟨m, C, d, rfl, hc', hm2, hr', hd', hv', hf'⟩ := nz_open hy (hb.mono (by decide))
  have Ha := Lib.hid ha
  have Hb := Lib.hid hb
  clear hx hy hc hl2 hr hd hv hf hc' hm2 hr' hd' hv' hf' ha hb
  have Hz := Lib.hid (figs_nil (a + -b))
  generalize decide (a < 0) = sa at *
  generalize decide (b < 0) = sb at *
  have hfi := run_figures
  go_enter Try.func21, Try.ntmps21
  go_wp2_with fail
  have h3 := two w #[.bool sa, .slice A l.length c] #[.bool sb, .slice C m.length d]
  generalize (w.alloc (Obj.cells #[.bool sa, .slice A l.length c] 25)).alloc (Obj.cells #[.bool sb, .slice C m.length d] 25) = W at h3 ⊢
  generalize w.heap.size + 1 = g1 at h3 ⊢
  obtain ⟨b0, b1, hbw, hz1, hz2⟩ := h3
  have B0 := Lib.hid b0
  have B1 := Lib.hid b1
  have HBW := Lib.hid hbw
  clear b0 b1 hbw
  have l0 : w.heap.size < W.heap.size := by omega
  go_region_held3 (fun w' => w'.cell? ⟨w.heap.size, 0, none⟩ = some (.bool sa) ∧ w'.cell? ⟨w.heap.size, 1, none⟩ = some (.slice A l.length c) ∧ w'.cell? ⟨g1, 0, none⟩ = some (.bool sb) ∧ w'.cell? ⟨g1, 1, none⟩ = some (.slice C m.length d) ∧ Below W.heap.size W w')
    (first
      | exact pair2 B0.out B1.out (Below.refl _ _).drew
      | exact pair2 B0.out B1.out HV.out
      | exact pair2 B0.out B1.out (HV.out.alloc HV.out.size _)
      | exact pair2 B0.out B1.out (‹_ ∧ _ ∧ _ ∧ _ ∧ Below _ _ _›.2.2.2.2.alloc ‹_ ∧ _ ∧ _ ∧ _ ∧ Below _ _ _›.2.2.2.2.size _)
      | exact pair2 B0.out B1.out ((‹_ ∧ _ ∧ _ ∧ _ ∧ Below _ _ _›.2.2.2.2.setCell (by simp <;> omega) _).setCell (by simp <;> omega) _))
    (first
      | (go_at_call 16
         have HB1 := Lib.hid (‹_ ∧ _ ∧ _ ∧ _ ∧ Below W.heap.size W _›.2.2.2.2)
         refine (neg_any _ b _ (Hy.out.on (HBW.out.trans (HB1.out.mono (Nat.le_of_lt l0)))) (Hb.out.mono (by decide))).mono ?_
         rintro e w2 h2
         obtain ⟨b2, A2, n2, d2, rfl, hn2, hb2, _⟩ := nz_of h2
         have HV := Lib.hid (HB1.out.trans (hb2.mono HB1.out.size))
         have Hn2 := Lib.hid hn2
         have l2 : W.heap.size ≤ w2.heap.size := HV.out.size
         clear h2 hn2 hb2)
      | (go_at_call 15
         have HB2 := Lib.hid (‹_ ∧ _ ∧ _ ∧ _ ∧ Below W.heap.size W _›.2.2.2.2)
         refine (add_any _ _ a (-b) _ (Hx.out.on (HBW.out.trans (HB2.out.mono (Nat.le_of_lt l0)))) (by first | exact Hn2.out | exact Hn2.out.on ((Below.refl _ _).alloc (Nat.le_refl _) _)) (Ha.out.mono (by decide)) ((Hb.out.mono (by decide)).neg)).mono ?_
         rintro e w3 h2
         obtain ⟨b3, A3, n3, d3, rfl, hn3, hb3, hs3⟩ := nz_len h2
         have HV := Lib.hid (HB2.out.trans (hb3.mono HB2.out.size))
         have l3 : W.heap.size ≤ w3.heap.size := HV.out.size
         clear h2 hn3 hb3))
  have HE := Lib.hid (HBW.out.trans (‹_ ∧ _ ∧ _ ∧ _ ∧ Below W.heap.size W _›.2.2.2.2.mono (Nat.le_of_lt l0)))
  go_wp2_with fail
  go_ret
  exact ⟨ret_bool (by rw [Bool.eq_iff_iff]; have h1 := hs3.out; have h2 := Hz.out; simp; omega), HE.out⟩
end Go.Proofs.Yteoaapjejhjknaa
