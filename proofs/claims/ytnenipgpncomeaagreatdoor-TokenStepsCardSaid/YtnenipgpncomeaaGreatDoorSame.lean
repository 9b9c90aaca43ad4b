/- Contract of the reference's Same. -/
import Derived.Test.YtnenipgpncomeaaGreatDoorNum
namespace Go.Proofs.YtnenipgpncomeaaGreatDoor.W2
open Go.RowKit
open Fg
attribute [local go_sem ↓] Go.wp_at_zero Go.wp_at_succ

theorem run_figures (w : World) (b : Bool) (A : Option Addr) (n c : Nat) : (Instr.field 56 (.agg #[.bool b, .slice A n c]) 1).run Tryz.prog w = .ok (.slice A n c) w := by kernel_rfl
theorem figs_nil (z : Int) : (figs z.natAbs).length = 0 ↔ z = 0 := by
  constructor
  · intro h
    have h1 := val_figs z.natAbs
    rw [List.eq_nil_of_length_eq_zero h, val] at h1
    omega
  · rintro rfl
    rw [Int.natAbs_zero, figs_zero]; rfl
theorem nz_len {z : Int} {w W : World} {e : Ending} (h : GivesN z w e W) : ∃ b A n c, e = .returned (.agg #[.bool b, .slice A n c]) ∧ Nz W W.heap.size (.agg #[.bool b, .slice A n c]) z ∧ Below w.heap.size w W ∧ Hid (n = (figs z.natAbs).length) := by
  obtain ⟨v, rfl, ⟨A, c, rfl, hc, hr⟩, hb⟩ := h
  exact ⟨_, A, _, c, rfl, ⟨A, c, rfl, hc, hr⟩, hb, Lib.hid rfl⟩

end Go.Proofs.YtnenipgpncomeaaGreatDoor.W2
