/- Contract of the reference's Fits. -/
import Derived.Test.YteoaapjejhjknaaDoorInt
namespace Go.Proofs.YteoaapjejhjknaaDoor
open Go.RowKit
open Fg
attribute [local go_sem ↓] Go.wp_at_zero Go.wp_at_succ

def fits (z : Int) : Bool := decide (-9223372036854775808 ≤ z ∧ z ≤ 9223372036854775807)
theorem fits_yes {z : Int} (h : In64 z) : fits z = true := decide_eq_true h
theorem fits_no {z : Int} (h : ¬ In64 z) : fits z = false := decide_eq_false h
theorem in_min : In64 (-9223372036854775808) := by constructor <;> decide
theorem in_max : In64 9223372036854775807 := by constructor <;> decide
/-- a struct as it lies in the block H, and the world W stands below -/
theorem one2 {W V : World} {H : Nat} {sa : Bool} {x : Value} (h0 : Blk W H 28 #[.bool sa, x]) (hb : Below W.heap.size W V) :
    V.cell? ⟨H, 0, none⟩ = some (.bool sa) ∧ V.cell? ⟨H, 1, none⟩ = some x ∧ Below W.heap.size W V :=
  ⟨(hb.cell (p := ⟨H, 0, none⟩) h0.lt).trans (h0.cell 0), (hb.cell (p := ⟨H, 1, none⟩) h0.lt).trans (h0.cell 1), hb⟩
theorem less_yes {x y : Value} {a b : Int} {w : World} (hx : Nz w w.heap.size x a) (hy : Nz w w.heap.size y b) (ha : Sm 100 a) (hb : Sm 100 b) (h : a < b) :
    Calls Tryd.prog 28 #[x, y] w fun e w' => e = .returned (.bool true) ∧ Below w.heap.size w w' := by
  have := less2_any x y a b w hx hy ha hb; rwa [decide_eq_true h] at this
theorem less_no {x y : Value} {a b : Int} {w : World} (hx : Nz w w.heap.size x a) (hy : Nz w w.heap.size y b) (ha : Sm 100 a) (hb : Sm 100 b) (h : ¬ a < b) :
    Calls Tryd.prog 28 #[x, y] w fun e w' => e = .returned (.bool false) ∧ Below w.heap.size w w' := by
  have := less2_any x y a b w hx hy ha hb; rwa [decide_eq_false h] at this

set_option maxRecDepth 100000 in
set_option maxHeartbeats 4000000 in
theorem fits_hi (x : Value) (z : Int) (w : World) (hx : Nz w w.heap.size x z) (hz : Sm 100 z) (hM : 9223372036854775807 < z) :
    Calls Tryd.prog 19 #[x] w fun e w' => e = .returned (.bool (fits z)) ∧ Below w.heap.size w w' := by
  have Hx := Lib.hid hx
  have Hz := Lib.hid hz
  have Hs := Lib.hid (show -9223372036854775808 ≤ z by omega)
  have HMz := Lib.hid hM
  have Hno := Lib.hid (fits_no (z := z) (by unfold In64; omega))
  clear hM
  obtain ⟨l, A, c, rfl, hc, hl2, hr, hd, hv, hf⟩ := nz_open hx (hz.mono (by decide))
  clear hx hz hc hl2 hr hd hv hf
  generalize decide (z < 0) = sa at *
  have Hm := Lib.hid in_min
  have HM := Lib.hid in_max
  have Sm5m := Lib.hid ((sm_in in_min).mono (by decide : 5 ≤ 100))
  have Sm5M := Lib.hid ((sm_in in_max).mono (by decide : 5 ≤ 100))
  go_enter Tryd.func19, Tryd.ntmps19
  go_wp2_with fail
  have b0 := Blk.new w 28 #[.bool sa, .slice A l.length c]
  have hbw : Below w.heap.size w (w.alloc (Obj.cells #[.bool sa, .slice A l.length c] 28)) := (Below.refl _ _).alloc (Nat.le_refl _) _
  generalize w.alloc (Obj.cells #[.bool sa, .slice A l.length c] 28) = W at b0 hbw ⊢
  have B0 := Lib.hid b0
  have HBW := Lib.hid hbw
  have l0 : w.heap.size < W.heap.size := b0.lt
  clear b0 hbw
  have tokO : True := trivial
  have tokL : True := trivial
  go_region_held3 (fun w' => w'.cell? ⟨w.heap.size, 0, none⟩ = some (.bool sa) ∧ w'.cell? ⟨w.heap.size, 1, none⟩ = some (.slice A l.length c) ∧ Below W.heap.size W w')
    (first
      | exact one2 B0.out (Below.refl _ _).drew
      | exact one2 B0.out HV.out)
    (first
      | (go_at_call 11
         have _t := tokO
         have HB := Lib.hid (‹_ ∧ _ ∧ Below W.heap.size W _›.2.2)
         refine (of_any _ _ Hm.out).mono ?_
         rintro e w2 h2
         obtain ⟨b2, A2, n2, d2, rfl, hn2, hb2, _⟩ := nz_of h2
         have HV := Lib.hid (HB.out.trans (hb2.mono HB.out.size))
         have Hn2 := Lib.hid hn2
         clear h2 hn2 hb2 _t tokO)
      | (go_at_call 11
         have HB := Lib.hid (‹_ ∧ _ ∧ Below W.heap.size W _›.2.2)
         refine (of_any _ _ HM.out).mono ?_
         rintro e w2 h2
         obtain ⟨b2, A2, n2, d2, rfl, hn2, hb2, _⟩ := nz_of h2
         have HV := Lib.hid (HB.out.trans (hb2.mono HB.out.size))
         have Hn2 := Lib.hid hn2
         clear h2 hn2 hb2)
      | (go_at_call 28
         have _t := tokL
         have HB := Lib.hid (‹_ ∧ _ ∧ Below W.heap.size W _›.2.2)
         refine (less_no (Hx.out.on (HBW.out.trans (HB.out.mono (Nat.le_of_lt l0)))) Hn2.out Hz.out Sm5m.out (by have := Hs.out; omega)).mono ?_
         rintro e w2 ⟨rfl, hb2⟩
         have HV := Lib.hid (HB.out.trans (hb2.mono HB.out.size))
         clear hb2 _t tokL)
      | (go_at_call 28
         have HB := Lib.hid (‹_ ∧ _ ∧ Below W.heap.size W _›.2.2)
         refine (less_yes Hn2.out (Hx.out.on (HBW.out.trans (HB.out.mono (Nat.le_of_lt l0)))) Sm5M.out Hz.out HMz.out).mono ?_
         rintro e w2 ⟨rfl, hb2⟩
         have HV := Lib.hid (HB.out.trans (hb2.mono HB.out.size))
         clear hb2))
  have HE := Lib.hid (HBW.out.trans (‹_ ∧ _ ∧ Below W.heap.size W _›.2.2.mono (Nat.le_of_lt l0)))
  go_wp2_with fail
  go_ret
  exact ⟨ret_bool Hno.out.symm, HE.out⟩

set_option maxRecDepth 100000 in
set_option maxHeartbeats 4000000 in
theorem fits_in (x : Value) (z : Int) (w : World) (hx : Nz w w.heap.size x z) (hz : Sm 100 z) (hi : In64 z) :
    Calls Tryd.prog 19 #[x] w fun e w' => e = .returned (.bool (fits z)) ∧ Below w.heap.size w w' := by
  have Hx := Lib.hid hx
  have Hz := Lib.hid hz
  have Hs := Lib.hid hi.1
  have HMz := Lib.hid (show z ≤ 9223372036854775807 by have := hi.2; omega)
  have Hno := Lib.hid (fits_yes hi)
  clear hi
  obtain ⟨l, A, c, rfl, hc, hl2, hr, hd, hv, hf⟩ := nz_open hx (hz.mono (by decide))
  clear hx hz hc hl2 hr hd hv hf
  generalize decide (z < 0) = sa at *
  have Hm := Lib.hid in_min
  have HM := Lib.hid in_max
  have Sm5m := Lib.hid ((sm_in in_min).mono (by decide : 5 ≤ 100))
  have Sm5M := Lib.hid ((sm_in in_max).mono (by decide : 5 ≤ 100))
  go_enter Tryd.func19, Tryd.ntmps19
  go_wp2_with fail
  have b0 := Blk.new w 28 #[.bool sa, .slice A l.length c]
  have hbw : Below w.heap.size w (w.alloc (Obj.cells #[.bool sa, .slice A l.length c] 28)) := (Below.refl _ _).alloc (Nat.le_refl _) _
  generalize w.alloc (Obj.cells #[.bool sa, .slice A l.length c] 28) = W at b0 hbw ⊢
  have B0 := Lib.hid b0
  have HBW := Lib.hid hbw
  have l0 : w.heap.size < W.heap.size := b0.lt
  clear b0 hbw
  have tokO : True := trivial
  have tokL : True := trivial
  go_region_held3 (fun w' => w'.cell? ⟨w.heap.size, 0, none⟩ = some (.bool sa) ∧ w'.cell? ⟨w.heap.size, 1, none⟩ = some (.slice A l.length c) ∧ Below W.heap.size W w')
    (first
      | exact one2 B0.out (Below.refl _ _).drew
      | exact one2 B0.out HV.out)
    (first
      | (go_at_call 11
         have _t := tokO
         have HB := Lib.hid (‹_ ∧ _ ∧ Below W.heap.size W _›.2.2)
         refine (of_any _ _ Hm.out).mono ?_
         rintro e w2 h2
         obtain ⟨b2, A2, n2, d2, rfl, hn2, hb2, _⟩ := nz_of h2
         have HV := Lib.hid (HB.out.trans (hb2.mono HB.out.size))
         have Hn2 := Lib.hid hn2
         clear h2 hn2 hb2 _t tokO)
      | (go_at_call 11
         have HB := Lib.hid (‹_ ∧ _ ∧ Below W.heap.size W _›.2.2)
         refine (of_any _ _ HM.out).mono ?_
         rintro e w2 h2
         obtain ⟨b2, A2, n2, d2, rfl, hn2, hb2, _⟩ := nz_of h2
         have HV := Lib.hid (HB.out.trans (hb2.mono HB.out.size))
         have Hn2 := Lib.hid hn2
         clear h2 hn2 hb2)
      | (go_at_call 28
         have _t := tokL
         have HB := Lib.hid (‹_ ∧ _ ∧ Below W.heap.size W _›.2.2)
         refine (less_no (Hx.out.on (HBW.out.trans (HB.out.mono (Nat.le_of_lt l0)))) Hn2.out Hz.out Sm5m.out (by have := Hs.out; omega)).mono ?_
         rintro e w2 ⟨rfl, hb2⟩
         have HV := Lib.hid (HB.out.trans (hb2.mono HB.out.size))
         clear hb2 _t tokL)
      | (go_at_call 28
         have HB := Lib.hid (‹_ ∧ _ ∧ Below W.heap.size W _›.2.2)
         refine (less_no Hn2.out (Hx.out.on (HBW.out.trans (HB.out.mono (Nat.le_of_lt l0)))) Sm5M.out Hz.out (by have := HMz.out; omega)).mono ?_
         rintro e w2 ⟨rfl, hb2⟩
         have HV := Lib.hid (HB.out.trans (hb2.mono HB.out.size))
         clear hb2))
  have HE := Lib.hid (HBW.out.trans (‹_ ∧ _ ∧ Below W.heap.size W _›.2.2.mono (Nat.le_of_lt l0)))
  go_wp2_with fail
  go_ret
  exact ⟨ret_bool Hno.out.symm, HE.out⟩

set_option maxRecDepth 100000 in
set_option maxHeartbeats 4000000 in
theorem fits_lo (x : Value) (z : Int) (w : World) (hx : Nz w w.heap.size x z) (hz : Sm 100 z) (hM : z < -9223372036854775808) :
    Calls Tryd.prog 19 #[x] w fun e w' => e = .returned (.bool (fits z)) ∧ Below w.heap.size w w' := by
  have Hx := Lib.hid hx
  have Hz := Lib.hid hz
  have Hs := Lib.hid hM
  have Hno := Lib.hid (fits_no (z := z) (by unfold In64; omega))
  clear hM
  obtain ⟨l, A, c, rfl, hc, hl2, hr, hd, hv, hf⟩ := nz_open hx (hz.mono (by decide))
  clear hx hz hc hl2 hr hd hv hf
  generalize decide (z < 0) = sa at *
  have Hm := Lib.hid in_min
  have Sm5m := Lib.hid ((sm_in in_min).mono (by decide : 5 ≤ 100))
  go_enter Tryd.func19, Tryd.ntmps19
  go_wp2_with fail
  have b0 := Blk.new w 28 #[.bool sa, .slice A l.length c]
  have hbw : Below w.heap.size w (w.alloc (Obj.cells #[.bool sa, .slice A l.length c] 28)) := (Below.refl _ _).alloc (Nat.le_refl _) _
  generalize w.alloc (Obj.cells #[.bool sa, .slice A l.length c] 28) = W at b0 hbw ⊢
  have B0 := Lib.hid b0
  have HBW := Lib.hid hbw
  have l0 : w.heap.size < W.heap.size := b0.lt
  clear b0 hbw
  have c0 : W.cell? ⟨w.heap.size, 0, none⟩ = some (.bool sa) := B0.out.cell 0
  have c1 : W.cell? ⟨w.heap.size, 1, none⟩ = some (.slice A l.length c) := B0.out.cell 1
  go_region_with (first
    | (go_at_call 11
       refine (of_any _ _ Hm.out).mono ?_
       rintro e w2 h2
       obtain ⟨b2, A2, n2, d2, rfl, hn2, hb2, _⟩ := nz_of h2
       have HV := Lib.hid ((Below.refl W.heap.size W).drew.trans (hb2.mono (Nat.le_refl _)))
       have d0 := (one2 B0.out HV.out).1
       have d1 := (one2 B0.out HV.out).2.1
       have Hn2 := Lib.hid hn2
       clear h2 hn2 hb2)
    | (go_at_call 28
       refine (less_yes (Hx.out.on (HBW.out.trans (HV.out.mono (Nat.le_of_lt l0)))) Hn2.out Hz.out Sm5m.out Hs.out).mono ?_
       rintro e w3 ⟨rfl, hb2⟩
       have HV3 := Lib.hid (HV.out.trans (hb2.mono HV.out.size))
       have e0 := (one2 B0.out HV3.out).1
       have e1 := (one2 B0.out HV3.out).2.1
       clear hb2))
  all_goals
    have HE := Lib.hid (HBW.out.trans (HV3.out.mono (Nat.le_of_lt l0)))
    go_wp2_with fail
    go_ret
    exact ⟨ret_bool Hno.out.symm, HE.out⟩
theorem fits_any (x : Value) (z : Int) (w : World) (hx : Nz w w.heap.size x z) (hz : Sm 100 z) :
    Calls Tryd.prog 19 #[x] w fun e w' => e = .returned (.bool (fits z)) ∧ Below w.heap.size w w' := by
  by_cases h1 : z < -9223372036854775808
  · exact fits_lo x z w hx hz h1
  · by_cases h2 : 9223372036854775807 < z
    · exact fits_hi x z w hx hz h2
    · exact fits_in x z w hx hz ⟨by omega, by omega⟩
end Go.Proofs.YteoaapjejhjknaaDoor
