/- Contract of the law's own 'is'. -/
import Derived.Test.YteoaapjejhjknaaFits
namespace Go.Proofs.Yteoaapjejhjknaa
open Go.RowKit
open Fg

theorem fits_true {x : Value} {z : Int} {w : World} (hx : Nz w w.heap.size x z) (hz : Sm 100 z) (h : In64 z) :
    Calls Try.prog 25 #[x] w fun e w' => e = .returned (.bool true) ∧ Below w.heap.size w w' := by
  have := fits_any x z w hx hz; rwa [fits_yes h] at this
theorem fits_false {x : Value} {z : Int} {w : World} (hx : Nz w w.heap.size x z) (hz : Sm 100 z) (h : ¬ In64 z) :
    Calls Try.prog 25 #[x] w fun e w' => e = .returned (.bool false) ∧ Below w.heap.size w w' := by
  have := fits_any x z w hx hz; rwa [fits_no h] at this

set_option maxRecDepth 100000 in
set_option maxHeartbeats 2000000 in
theorem is_ok (x : Value) (z : Int) (w : World) (hx : Nz w w.heap.size x z) (hi : In64 z) :
    Calls Try.prog 14 #[.int .i64 z, .int .i64 0, x] w fun e w' => e = .returned (.bool true) ∧ Below w.heap.size w w' := by
  have Hx := Lib.hid hx
  have Hi := Lib.hid hi
  have Hz := Lib.hid ((sm_in hi).mono (by decide : 5 ≤ 100))
  obtain ⟨l, A, c, rfl, hc, hl2, hr, hd, hv, hf⟩ := nz_open hx ((sm_in hi).mono (by decide))
  have hzz : (z == z) = true := by simp
  clear hx hi hc hl2 hr hd hv hf
  generalize decide (z < 0) = sa at *
  go_enter Try.func14, Try.ntmps14
  go_wp2_with fail
  have b0 := Blk.new w 25 #[.bool sa, .slice A l.length c]
  have hbw : Below w.heap.size w (w.alloc (Obj.cells #[.bool sa, .slice A l.length c] 25)) := (Below.refl _ _).alloc (Nat.le_refl _) _
  generalize w.alloc (Obj.cells #[.bool sa, .slice A l.length c] 25) = W at b0 hbw ⊢
  have B0 := Lib.hid b0
  have HBW := Lib.hid hbw
  have l0 : w.heap.size < W.heap.size := b0.lt
  clear b0 hbw
  refine (fits_true (Hx.out.on HBW.out) Hz.out Hi.out).mono ?_
  rintro e w2 ⟨rfl, hb2⟩
  have HV := Lib.hid hb2
  have d0 := (one2 B0.out HV.out).1
  have d1 := (one2 B0.out HV.out).2.1
  clear hb2
  go_wp2_with fail
  refine (int_any _ z _ ((Hx.out.on HBW.out).on HV.out) Hi.out).mono ?_
  rintro e w3 ⟨rfl, hb3⟩
  have HE := Lib.hid ((HBW.out.trans (HV.out.mono (Nat.le_of_lt l0))).trans (hb3.mono (Nat.le_trans (Nat.le_of_lt l0) HV.out.size)))
  clear hb3
  go_wp2_with fail
  go_ret
  exact ⟨rfl, HE.out⟩

set_option maxRecDepth 100000 in
set_option maxHeartbeats 2000000 in
theorem is_over (x : Value) (z : Int) (w : World) (hx : Nz w w.heap.size x z) (hz : Sm 100 z) (hi : ¬ In64 z) :
    Calls Try.prog 14 #[.int .i64 0, .int .i64 11, x] w fun e w' => e = .returned (.bool true) ∧ Below w.heap.size w w' := by
  have Hx := Lib.hid hx
  have Hi := Lib.hid hi
  have Hz := Lib.hid hz
  obtain ⟨l, A, c, rfl, hc, hl2, hr, hd, hv, hf⟩ := nz_open hx (hz.mono (by decide))
  clear hx hi hz hc hl2 hr hd hv hf
  generalize decide (z < 0) = sa at *
  go_enter Try.func14, Try.ntmps14
  go_wp2_with fail
  have b0 := Blk.new w 25 #[.bool sa, .slice A l.length c]
  have hbw : Below w.heap.size w (w.alloc (Obj.cells #[.bool sa, .slice A l.length c] 25)) := (Below.refl _ _).alloc (Nat.le_refl _) _
  generalize w.alloc (Obj.cells #[.bool sa, .slice A l.length c] 25) = W at b0 hbw ⊢
  have HBW := Lib.hid hbw
  have l0 : w.heap.size < W.heap.size := b0.lt
  clear b0 hbw
  refine (fits_false (Hx.out.on HBW.out) Hz.out Hi.out).mono ?_
  rintro e w2 ⟨rfl, hb2⟩
  have HE := Lib.hid (HBW.out.trans (hb2.mono (Nat.le_of_lt l0)))
  clear hb2
  go_wp2_with fail
  go_ret
  exact ⟨rfl, HE.out⟩
end Go.Proofs.Yteoaapjejhjknaa
