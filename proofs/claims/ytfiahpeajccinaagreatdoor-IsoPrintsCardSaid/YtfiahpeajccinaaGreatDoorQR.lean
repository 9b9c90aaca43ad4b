/- Contract of the reference's Fits. Contract of the law's own 'is'. Contract of the reference's Mul. Contract of the reference's Form. Contract of the reference's Number. Contract of the reference's Parse. -/
import Derived.Test.YtfiahpeajccinaaGreatDoorQA
import Derived.Deep.OwnRows
import Derived.Laws.OwnMore
import Derived.Test.YtfiahpeajccinaaGreatDoorPC
namespace Go.Proofs.YtfiahpeajccinaaGreatDoor.W2
open Go.RowKit
open Fg
attribute [local go_sem ↓] Go.wp_at_zero Go.wp_at_succ

def fits (z : Int) : Bool := decide (-9223372036854775808 ≤ z ∧ z ≤ 9223372036854775807)
theorem fits_yes {z : Int} (h : In64 z) : fits z = true := decide_eq_true h
theorem fits_no {z : Int} (h : ¬ In64 z) : fits z = false := decide_eq_false h
theorem in_min : In64 (-9223372036854775808) := by constructor <;> decide
theorem in_max : In64 9223372036854775807 := by constructor <;> decide
/-- a struct as it lies in the block H, and the world W stands below -/
theorem one2 {W V : World} {H : Nat} {sa : Bool} {x : Value} (h0 : Blk W H 85 #[.bool sa, x]) (hb : Below W.heap.size W V) :
    V.cell? ⟨H, 0, none⟩ = some (.bool sa) ∧ V.cell? ⟨H, 1, none⟩ = some x ∧ Below W.heap.size W V :=
  ⟨(hb.cell (p := ⟨H, 0, none⟩) h0.lt).trans (h0.cell 0), (hb.cell (p := ⟨H, 1, none⟩) h0.lt).trans (h0.cell 1), hb⟩
theorem less_yes {x y : Value} {a b : Int} {w : World} (hx : Nz w w.heap.size x a) (hy : Nz w w.heap.size y b) (ha : Sm 650 a) (hb : Sm 650 b) (h : a < b) :
    Calls Tryz.prog 132 #[x, y] w fun e w' => e = .returned (.bool true) ∧ Below w.heap.size w w' := by
  have := less2_any x y a b w hx hy ha hb; rwa [decide_eq_true h] at this
theorem less_no {x y : Value} {a b : Int} {w : World} (hx : Nz w w.heap.size x a) (hy : Nz w w.heap.size y b) (ha : Sm 650 a) (hb : Sm 650 b) (h : ¬ a < b) :
    Calls Tryz.prog 132 #[x, y] w fun e w' => e = .returned (.bool false) ∧ Below w.heap.size w w' := by
  have := less2_any x y a b w hx hy ha hb; rwa [decide_eq_false h] at this

set_option maxRecDepth 100000 in
set_option maxHeartbeats 4000000 in
theorem fits_hi (x : Value) (z : Int) (w : World) (hx : Nz w w.heap.size x z) (hz : Sm 650 z) (hM : 9223372036854775807 < z) :
    Calls Tryz.prog 109 #[x] w fun e w' => e = .returned (.bool (fits z)) ∧ Below w.heap.size w w' := by
  have Hx := Lib.hid hx
  have Hz := Lib.hid hz
  have Hs := Lib.hid (show -9223372036854775808 ≤ z by omega)
  have HMz := Lib.hid hM
  have Hno := Lib.hid (fits_no (z := z) (by unfold In64; omega))
  clear hM
  obtain ⟨l, A, c, rfl, hc, hl2, hr, hd, hv, hf⟩ := nz_open hx (hz.mono (by decide))
  clear hx hz hc hl2 hr hd hv hf
  generalize decide (z < 0) = sa at *
  have Hm := Lib.hid in_min
  have HM := Lib.hid in_max
  have Sm5m := Lib.hid ((sm_in in_min).mono (by decide : 5 ≤ 650))
  have Sm5M := Lib.hid ((sm_in in_max).mono (by decide : 5 ≤ 650))
  go_enter Tryz.func109, Tryz.ntmps109
  go_wp2_with fail
  have b0 := Blk.new w 85 #[.bool sa, .slice A l.length c]
  have hbw : Below w.heap.size w (w.alloc (Obj.cells #[.bool sa, .slice A l.length c] 85)) := (Below.refl _ _).alloc (Nat.le_refl _) _
  generalize w.alloc (Obj.cells #[.bool sa, .slice A l.length c] 85) = W at b0 hbw ⊢
  have B0 := Lib.hid b0
  have HBW := Lib.hid hbw
  have l0 : w.heap.size < W.heap.size := b0.lt
  clear b0 hbw
  have tokO : True := trivial
  have tokL : True := trivial
  go_region_held3 (fun w' => w'.cell? ⟨w.heap.size, 0, none⟩ = some (.bool sa) ∧ w'.cell? ⟨w.heap.size, 1, none⟩ = some (.slice A l.length c) ∧ Below W.heap.size W w')
    (first
      | exact one2 B0.out (Below.refl _ _).drew
      | exact one2 B0.out HV.out)
    (first
      | (go_at_call 33
         have _t := tokO
         have HB := Lib.hid (‹_ ∧ _ ∧ Below W.heap.size W _›.2.2)
         refine (of_any _ _ Hm.out).mono ?_
         rintro e w2 h2
         obtain ⟨b2, A2, n2, d2, rfl, hn2, hb2, _⟩ := nz_of h2
         have HV := Lib.hid (HB.out.trans (hb2.mono HB.out.size))
         have Hn2 := Lib.hid hn2
         clear h2 hn2 hb2 _t tokO)
      | (go_at_call 33
         have HB := Lib.hid (‹_ ∧ _ ∧ Below W.heap.size W _›.2.2)
         refine (of_any _ _ HM.out).mono ?_
         rintro e w2 h2
         obtain ⟨b2, A2, n2, d2, rfl, hn2, hb2, _⟩ := nz_of h2
         have HV := Lib.hid (HB.out.trans (hb2.mono HB.out.size))
         have Hn2 := Lib.hid hn2
         clear h2 hn2 hb2)
      | (go_at_call 132
         have _t := tokL
         have HB := Lib.hid (‹_ ∧ _ ∧ Below W.heap.size W _›.2.2)
         refine (less_no (Hx.out.on (HBW.out.trans (HB.out.mono (Nat.le_of_lt l0)))) Hn2.out Hz.out Sm5m.out (by have := Hs.out; omega)).mono ?_
         rintro e w2 ⟨rfl, hb2⟩
         have HV := Lib.hid (HB.out.trans (hb2.mono HB.out.size))
         clear hb2 _t tokL)
      | (go_at_call 132
         have HB := Lib.hid (‹_ ∧ _ ∧ Below W.heap.size W _›.2.2)
         refine (less_yes Hn2.out (Hx.out.on (HBW.out.trans (HB.out.mono (Nat.le_of_lt l0)))) Sm5M.out Hz.out HMz.out).mono ?_
         rintro e w2 ⟨rfl, hb2⟩
         have HV := Lib.hid (HB.out.trans (hb2.mono HB.out.size))
         clear hb2))
  have HE := Lib.hid (HBW.out.trans (‹_ ∧ _ ∧ Below W.heap.size W _›.2.2.mono (Nat.le_of_lt l0)))
  go_wp2_with fail
  go_ret
  exact ⟨ret_bool Hno.out.symm, HE.out⟩

set_option maxRecDepth 100000 in
set_option maxHeartbeats 4000000 in
theorem fits_in (x : Value) (z : Int) (w : World) (hx : Nz w w.heap.size x z) (hz : Sm 650 z) (hi : In64 z) :
    Calls Tryz.prog 109 #[x] w fun e w' => e = .returned (.bool (fits z)) ∧ Below w.heap.size w w' := by
  have Hx := Lib.hid hx
  have Hz := Lib.hid hz
  have Hs := Lib.hid hi.1
  have HMz := Lib.hid (show z ≤ 9223372036854775807 by have := hi.2; omega)
  have Hno := Lib.hid (fits_yes hi)
  clear hi
  obtain ⟨l, A, c, rfl, hc, hl2, hr, hd, hv, hf⟩ := nz_open hx (hz.mono (by decide))
  clear hx hz hc hl2 hr hd hv hf
  generalize decide (z < 0) = sa at *
  have Hm := Lib.hid in_min
  have HM := Lib.hid in_max
  have Sm5m := Lib.hid ((sm_in in_min).mono (by decide : 5 ≤ 650))
  have Sm5M := Lib.hid ((sm_in in_max).mono (by decide : 5 ≤ 650))
  go_enter Tryz.func109, Tryz.ntmps109
  go_wp2_with fail
  have b0 := Blk.new w 85 #[.bool sa, .slice A l.length c]
  have hbw : Below w.heap.size w (w.alloc (Obj.cells #[.bool sa, .slice A l.length c] 85)) := (Below.refl _ _).alloc (Nat.le_refl _) _
  generalize w.alloc (Obj.cells #[.bool sa, .slice A l.length c] 85) = W at b0 hbw ⊢
  have B0 := Lib.hid b0
  have HBW := Lib.hid hbw
  have l0 : w.heap.size < W.heap.size := b0.lt
  clear b0 hbw
  have tokO : True := trivial
  have tokL : True := trivial
  go_region_held3 (fun w' => w'.cell? ⟨w.heap.size, 0, none⟩ = some (.bool sa) ∧ w'.cell? ⟨w.heap.size, 1, none⟩ = some (.slice A l.length c) ∧ Below W.heap.size W w')
    (first
      | exact one2 B0.out (Below.refl _ _).drew
      | exact one2 B0.out HV.out)
    (first
      | (go_at_call 33
         have _t := tokO
         have HB := Lib.hid (‹_ ∧ _ ∧ Below W.heap.size W _›.2.2)
         refine (of_any _ _ Hm.out).mono ?_
         rintro e w2 h2
         obtain ⟨b2, A2, n2, d2, rfl, hn2, hb2, _⟩ := nz_of h2
         have HV := Lib.hid (HB.out.trans (hb2.mono HB.out.size))
         have Hn2 := Lib.hid hn2
         clear h2 hn2 hb2 _t tokO)
      | (go_at_call 33
         have HB := Lib.hid (‹_ ∧ _ ∧ Below W.heap.size W _›.2.2)
         refine (of_any _ _ HM.out).mono ?_
         rintro e w2 h2
         obtain ⟨b2, A2, n2, d2, rfl, hn2, hb2, _⟩ := nz_of h2
         have HV := Lib.hid (HB.out.trans (hb2.mono HB.out.size))
         have Hn2 := Lib.hid hn2
         clear h2 hn2 hb2)
      | (go_at_call 132
         have _t := tokL
         have HB := Lib.hid (‹_ ∧ _ ∧ Below W.heap.size W _›.2.2)
         refine (less_no (Hx.out.on (HBW.out.trans (HB.out.mono (Nat.le_of_lt l0)))) Hn2.out Hz.out Sm5m.out (by have := Hs.out; omega)).mono ?_
         rintro e w2 ⟨rfl, hb2⟩
         have HV := Lib.hid (HB.out.trans (hb2.mono HB.out.size))
         clear hb2 _t tokL)
      | (go_at_call 132
         have HB := Lib.hid (‹_ ∧ _ ∧ Below W.heap.size W _›.2.2)
         refine (less_no Hn2.out (Hx.out.on (HBW.out.trans (HB.out.mono (Nat.le_of_lt l0)))) Sm5M.out Hz.out (by have := HMz.out; omega)).mono ?_
         rintro e w2 ⟨rfl, hb2⟩
         have HV := Lib.hid (HB.out.trans (hb2.mono HB.out.size))
         clear hb2))
  have HE := Lib.hid (HBW.out.trans (‹_ ∧ _ ∧ Below W.heap.size W _›.2.2.mono (Nat.le_of_lt l0)))
  go_wp2_with fail
  go_ret
  exact ⟨ret_bool Hno.out.symm, HE.out⟩

set_option maxRecDepth 100000 in
set_option maxHeartbeats 4000000 in
theorem fits_lo (x : Value) (z : Int) (w : World) (hx : Nz w w.heap.size x z) (hz : Sm 650 z) (hM : z < -9223372036854775808) :
    Calls Tryz.prog 109 #[x] w fun e w' => e = .returned (.bool (fits z)) ∧ Below w.heap.size w w' := by
  have Hx := Lib.hid hx
  have Hz := Lib.hid hz
  have Hs := Lib.hid hM
  have Hno := Lib.hid (fits_no (z := z) (by unfold In64; omega))
  clear hM
  obtain ⟨l, A, c, rfl, hc, hl2, hr, hd, hv, hf⟩ := nz_open hx (hz.mono (by decide))
  clear hx hz hc hl2 hr hd hv hf
  generalize decide (z < 0) = sa at *
  have Hm := Lib.hid in_min
  have Sm5m := Lib.hid ((sm_in in_min).mono (by decide : 5 ≤ 650))
  go_enter Tryz.func109, Tryz.ntmps109
  go_wp2_with fail
  have b0 := Blk.new w 85 #[.bool sa, .slice A l.length c]
  have hbw : Below w.heap.size w (w.alloc (Obj.cells #[.bool sa, .slice A l.length c] 85)) := (Below.refl _ _).alloc (Nat.le_refl _) _
  generalize w.alloc (Obj.cells #[.bool sa, .slice A l.length c] 85) = W at b0 hbw ⊢
  have B0 := Lib.hid b0
  have HBW := Lib.hid hbw
  have l0 : w.heap.size < W.heap.size := b0.lt
  clear b0 hbw
  have c0 : W.cell? ⟨w.heap.size, 0, none⟩ = some (.bool sa) := B0.out.cell 0
  have c1 : W.cell? ⟨w.heap.size, 1, none⟩ = some (.slice A l.length c) := B0.out.cell 1
  go_region_with (first
    | (go_at_call 33
       refine (of_any _ _ Hm.out).mono ?_
       rintro e w2 h2
       obtain ⟨b2, A2, n2, d2, rfl, hn2, hb2, _⟩ := nz_of h2
       have HV := Lib.hid ((Below.refl W.heap.size W).drew.trans (hb2.mono (Nat.le_refl _)))
       have d0 := (one2 B0.out HV.out).1
       have d1 := (one2 B0.out HV.out).2.1
       have Hn2 := Lib.hid hn2
       clear h2 hn2 hb2)
    | (go_at_call 132
       refine (less_yes (Hx.out.on (HBW.out.trans (HV.out.mono (Nat.le_of_lt l0)))) Hn2.out Hz.out Sm5m.out Hs.out).mono ?_
       rintro e w3 ⟨rfl, hb2⟩
       have HV3 := Lib.hid (HV.out.trans (hb2.mono HV.out.size))
       have e0 := (one2 B0.out HV3.out).1
       have e1 := (one2 B0.out HV3.out).2.1
       clear hb2))
  all_goals
    have HE := Lib.hid (HBW.out.trans (HV3.out.mono (Nat.le_of_lt l0)))
    go_wp2_with fail
    go_ret
    exact ⟨ret_bool Hno.out.symm, HE.out⟩
theorem fits_any (x : Value) (z : Int) (w : World) (hx : Nz w w.heap.size x z) (hz : Sm 650 z) :
    Calls Tryz.prog 109 #[x] w fun e w' => e = .returned (.bool (fits z)) ∧ Below w.heap.size w w' := by
  by_cases h1 : z < -9223372036854775808
  · exact fits_lo x z w hx hz h1
  · by_cases h2 : 9223372036854775807 < z
    · exact fits_hi x z w hx hz h2
    · exact fits_in x z w hx hz ⟨by omega, by omega⟩
end Go.Proofs.YtfiahpeajccinaaGreatDoor.W2
namespace Go.Proofs.YtfiahpeajccinaaGreatDoor.W2
open Go.RowKit
open Fg

theorem fits_true {x : Value} {z : Int} {w : World} (hx : Nz w w.heap.size x z) (hz : Sm 650 z) (h : In64 z) :
    Calls Tryz.prog 109 #[x] w fun e w' => e = .returned (.bool true) ∧ Below w.heap.size w w' := by
  have := fits_any x z w hx hz; rwa [fits_yes h] at this
theorem fits_false {x : Value} {z : Int} {w : World} (hx : Nz w w.heap.size x z) (hz : Sm 650 z) (h : ¬ In64 z) :
    Calls Tryz.prog 109 #[x] w fun e w' => e = .returned (.bool false) ∧ Below w.heap.size w w' := by
  have := fits_any x z w hx hz; rwa [fits_no h] at this

end Go.Proofs.YtfiahpeajccinaaGreatDoor.W2
namespace Go.Proofs.YtfiahpeajccinaaGreatDoor.W2
open Go.RowKit
open Fg
attribute [local go_sem ↓] Go.wp_at_zero Go.wp_at_succ

/-- four new blocks, under names -/
def Four (w W : World) (g1 g2 g3 : Nat) (a b c d : Array Value) : Prop :=
  Blk W w.heap.size 85 a ∧ Blk W g1 85 b ∧ Blk W g2 85 c ∧ Blk W g3 85 d ∧ Below w.heap.size w W ∧ w.heap.size < g1 ∧ g1 < g2 ∧ g2 < g3 ∧ g3 < W.heap.size
theorem four (w : World) (a b c d : Array Value) : Four w ((((w.alloc (Obj.cells a 85)).alloc (Obj.cells b 85)).alloc (Obj.cells c 85)).alloc (Obj.cells d 85)) (w.heap.size + 1) (w.heap.size + 1 + 1) (w.heap.size + 1 + 1 + 1) a b c d := by
  obtain ⟨h0, h1, h2, hb, z1, z2, z3⟩ := three w a b c
  have hs : (((w.alloc (Obj.cells a 85)).alloc (Obj.cells b 85)).alloc (Obj.cells c 85)).heap.size = w.heap.size + 1 + 1 + 1 := by simp
  refine ⟨h0.alloc _, h1.alloc _, h2.alloc _, ?_, hb.alloc hb.size _, by omega, by omega, by omega, by simp⟩
  rw [← hs]; exact Blk.new _ _ _

theorem own_zeros (w : World) (i : Nat) (hi : i ≤ 100000) : (w.alloc (.cells (madeCells #[.int .i64 0] i) 3)).ownsRow w.heap.size 3 1 (.slice (some ⟨w.heap.size, 0, none⟩) i i) i ((List.replicate i 0).map (Value.int .i64)) := by
  refine ⟨by simp, .inr ⟨w.heap.size, i, _, rfl, Nat.le_refl _, heap_alloc_new w _, Nat.le_refl _, by unfold maxLen; omega, by rw [size_madeCells, Nat.mul_one], ?_⟩⟩
  rw [toList_madeCells_one, Nat.mul_one, List.take_of_length_le (by simp)]
  simp

/-- a row behind k rounds: the number l, as far as it has come, times q, shifted by i figures; o goes over -/
def RowAt (l : List Int) (q : Int) (i : Nat) (R : List Int) (k : Nat) (o : Int) : Prop :=
  R.length = i + k ∧ dig R ∧ val R + 10000 ^ (i + k) * o = 10000 ^ i * (q * val (l.take k)) ∧ 0 ≤ o ∧ o < 10000
theorem RowAt.zero (l : List Int) (q : Int) (i : Nat) : RowAt l q i (List.replicate i 0) 0 0 :=
  ⟨by simp, dig_zeros i, by simp [val_zeros, val], by decide, by decide⟩
theorem RowAt.succ {l R : List Int} {q o : Int} {i k : Nat} (h : RowAt l q i R k o) (f : Int) (hf : f = l.getD k 0 * q + o) (h0 : 0 ≤ f) (h1 : f < 100000000) : RowAt l q i (R ++ [f % 10000]) (k + 1) (f / 10000) := by
  obtain ⟨a, b, c, d, e⟩ := h
  refine ⟨by rw [List.length_append, a]; rfl, dig_append b (dig_one (by omega) (by omega)), ?_, by omega, by omega⟩
  rw [take_step, val_append, a, val, val, show i + (k + 1) = i + k + 1 by omega, Int.pow_succ, Int.mul_assoc (10000 ^ (i + k)) 10000]
  have h2 : (10000 : Int) ^ (i + k) * (f % 10000 + 10000 * (f / 10000)) = 10000 ^ (i + k) * (l.getD k 0 * q + o) := by rw [← hf]; congr 1; omega
  rw [Int.mul_add, Int.mul_add] at h2
  have h3 : (10000 : Int) ^ i * (q * (val (l.take k) + 10000 ^ k * l.getD k 0)) = 10000 ^ i * (q * val (l.take k)) + 10000 ^ (i + k) * (l.getD k 0 * q) := by
    rw [Int.mul_add q, Int.mul_add, Int.pow_add, Int.mul_assoc]
    congr 2
    rw [Int.mul_left_comm, Int.mul_comm q]
  rw [h3, Int.mul_zero, Int.add_zero]
  omega
theorem RowAt.done {l R : List Int} {q o : Int} {i k : Nat} (h : RowAt l q i R k o) (hk : ¬ k < l.length) : (R ++ [o]).length = i + k + 1 ∧ dig (R ++ [o]) ∧ val (R ++ [o]) = 10000 ^ i * (q * val l) := by
  obtain ⟨a, b, c, d, e⟩ := h
  refine ⟨by rw [List.length_append, a]; rfl, dig_append b (dig_one d e), ?_⟩
  rw [val_append, a, val, val]
  rw [List.take_of_length_le (by omega)] at c
  rw [Int.mul_zero, Int.add_zero]
  exact c
theorem mul_next (l m : List Int) (i : Nat) : val l * val (m.take i) + 10000 ^ i * (m.getD i 0 * val l) = val l * val (m.take (i + 1)) := by
  rw [take_step, Int.mul_add]
  congr 1
  rw [Int.mul_left_comm (val l), Int.mul_comm (val l)]
theorem nz_zero (w : World) : Nz w w.heap.size (.agg #[.bool false, .slice none 0 0]) 0 :=
  ⟨none, 0, by rw [Int.natAbs_zero, figs_zero]; rfl, by rw [Int.natAbs_zero, figs_zero]; exact Nat.le_refl _, by rw [Int.natAbs_zero, figs_zero]; exact fun h => absurd rfl h⟩
theorem sm_val {l : List Int} (h : dig l) {k : Nat} (hk : l.length ≤ k) : Sm k (val l) := by
  have h1 := val_bd h
  have h2 : val l < ((10000 ^ l.length : Nat) : Int) := by rw [Int.natCast_pow]; exact h1.2
  have h3 : 10000 ^ l.length ≤ 10000 ^ k := Nat.pow_le_pow_right (by decide) hk
  unfold Sm
  omega

set_option maxRecDepth 100000 in
set_option maxHeartbeats 8000000 in
theorem mul_s (sa sb : Bool) (l m : List Int) (A C : Option Addr) (c d : Nat) (w : World) (hl : dig l) (hm : dig m) (ll : l.length ≤ 700) (lm : m.length ≤ 40) (rl : Reads w w.heap.size A l) (rm : Reads w w.heap.size C m) :
    Calls Tryz.prog 131 #[.agg #[.bool sa, .slice A l.length c], .agg #[.bool sb, .slice C m.length d]] w (GivesN (sgn (sa != sb) (val l * val m)) w) := by
  have Hl := Lib.hid hl
  have Hm := Lib.hid hm
  have Rl := Lib.hid rl
  have Rm := Lib.hid rm
  clear hl hm rl rm
  go_enter Tryz.func131, Tryz.ntmps131
  go_wp2_with fail
  have h4 := four w #[.bool sa, .slice A l.length c] #[.bool sb, .slice C m.length d] #[.bool false, .slice none 0 0] #[.bool false, .slice none 0 0]
  generalize (((w.alloc (Obj.cells #[.bool sa, .slice A l.length c] 85)).alloc (Obj.cells #[.bool sb, .slice C m.length d] 85)).alloc (Obj.cells #[.bool false, .slice none 0 0] 85)).alloc (Obj.cells #[.bool false, .slice none 0 0] 85) = W at h4 ⊢
  generalize w.heap.size + 1 + 1 + 1 = g3 at h4 ⊢
  generalize w.heap.size + 1 + 1 = g2 at h4 ⊢
  generalize w.heap.size + 1 = g1 at h4 ⊢
  obtain ⟨b0, b1, b2, b3, hbw, hz1, hz2, hz3, hz4⟩ := h4
  have B0 := Lib.hid b0
  have B1 := Lib.hid b1
  have B2 := Lib.hid b2
  have B3 := Lib.hid b3
  have HBW := Lib.hid hbw
  clear b0 b1 b2 b3 hbw
  go_loopw [6, 7, 8, 9, 10, 15] (fun _ _ _ _ _ iv wr => ∃ (i : Nat) (b : Bool) (A' : Option Addr) (n' c' : Nat), i ≤ m.length ∧ iv = .int .i64 i ∧ Blk wr w.heap.size 85 #[.bool sa, .slice A l.length c] ∧ Blk wr g1 85 #[.bool sb, .slice C m.length d] ∧ Blk wr g2 85 #[.bool false, .slice none 0 0] ∧ Blk wr g3 85 #[.bool b, .slice A' n' c'] ∧ Nz wr wr.heap.size (.agg #[.bool b, .slice A' n' c']) (val l * val (m.take i)) ∧ Below w.heap.size w wr) (fun _ _ _ _ _ i _ => m.length - (intOf i).toNat)
  case atStart => exact ⟨0, false, none, 0, 0, Nat.zero_le _, rfl, B0.out, B1.out, B2.out, B3.out, by simpa [val] using nz_zero W, HBW.out⟩
  case round =>
    obtain ⟨i, b, A', n', c', hi, rfl, k0, k1, k2, k3, kn, hbel⟩ := hrel
    have K0 := Lib.hid k0
    have K1 := Lib.hid k1
    have K2 := Lib.hid k2
    have K3 := Lib.hid k3
    have KN := Lib.hid kn
    have Hbel := Lib.hid hbel
    have hg3 : g3 < wr.heap.size := k3.lt
    obtain ⟨wo, rfl⟩ : ∃ wo : World, wo = wr := ⟨_, rfl⟩
    clear k0 k1 k2 k3 kn hbel
    by_cases hlt : i < m.length
    · have u1 : decide (i < m.length) = true := decide_eq_true hlt
      have d0 : ∀ o, (wo.alloc o).cell? ⟨w.heap.size, 1, none⟩ = some (.slice A l.length c) := fun o => (K0.out.alloc o).cell 1
      have hmk := fun W => run_make_row' (P := Tryz.prog) 83 3 (.int .i64 0) 8 Tryz.underlying83 infoInt rfl .i64 .i64 i (by omega) (by omega) W
      have hq := dig_getD Hm.out i
      obtain ⟨bm, om, rfl, ⟨hbm, _⟩, cm⟩ := Rm.out (by rintro rfl; simp at hlt)
      have em := cm i hlt
      have Hnx := Lib.hid (mul_next l m i)
      have Hown0 := Lib.hid (own_zeros wo i (by omega))
      have Hbel0 := Lib.hid ((Below.refl wo.heap.size wo).alloc (Nat.le_refl _) (.cells (madeCells #[.int .i64 0] i) 3))
      clear cm
      generalize m.getD i 0 = q at *
      obtain ⟨q0, q1⟩ := hq
      go_wp2_with fail
      go_loopw [7, 8, 9, 10, 23] (fun v ov _ _ kv wi => ∃ (k : Nat) (o : Int) (R : List Int), k ≤ l.length ∧ kv = .int .i64 k ∧ ov = .int .i64 o ∧ RowAt l q i R k o ∧ wi.ownsRow wo.heap.size 3 1 v (i + k) (R.map (Value.int .i64)) ∧ Below wo.heap.size wo wi) (fun _ _ _ _ kv _ => l.length - (intOf kv).toNat)
      case atStart => exact ⟨0, 0, List.replicate i 0, Nat.zero_le _, rfl, rfl, RowAt.zero _ _ _, Hown0.out, Hbel0.out⟩
      case round =>
        obtain ⟨k, o, R, hk, rfl, rfl, hrow, hown, hbel⟩ := hrel
        have Hrow := Lib.hid hrow
        have Hown := Lib.hid hown
        have Hb := Lib.hid hbel
        obtain ⟨o0, o1⟩ := hrow.2.2.2
        have hl0 : w.heap.size < wo.heap.size := K0.out.lt
        have hl1 : g1 < wo.heap.size := K1.out.lt
        have e1 : wr.cell? ⟨w.heap.size, 1, none⟩ = some (.slice A l.length c) := (K0.out.on hbel hl0).cell 1
        have e2 : wr.cell? ⟨g1, 1, none⟩ = some (.slice (some ⟨bm, om, none⟩) m.length d) := (K1.out.on hbel hl1).cell 1
        have e3 : wr.cell? ⟨bm, om + i, none⟩ = some (.int .i64 q) := (hbel.cell (p := ⟨bm, om + i, none⟩) (Nat.lt_of_lt_of_le hbm Hbel.out.size)).trans ((Hbel.out.cell (p := ⟨bm, om + i, none⟩) hbm).trans em)
        clear hrow hown hbel d0 hmk
        by_cases hkl : k < l.length
        · have u2 : decide (k < l.length) = true := decide_eq_true hkl
          obtain ⟨bl, ol, rfl, ⟨hbl, _⟩, cl⟩ := Rl.out (by rintro rfl; simp at hkl)
          have e4 := (Hb.out.cell (p := ⟨bl, ol + k, none⟩) (Nat.lt_of_lt_of_le hbl Hbel.out.size)).trans ((Hbel.out.cell (p := ⟨bl, ol + k, none⟩) hbl).trans (cl k hkl))
          have hx := dig_getD Hl.out k
          have Hs := Lib.hid (fun f hf h0 h1 => Hrow.out.succ (f := f) hf h0 h1)
          clear cl
          generalize l.getD k 0 = x at *
          obtain ⟨x0, x1⟩ := hx
          have hxq0 : 0 ≤ x * q := Int.mul_nonneg x0 q0
          have hxq1 : x * q ≤ 99980001 := by
            have h1 : x * q ≤ 9999 * q := Int.mul_le_mul_of_nonneg_right (by omega) q0
            omega
          have hw1 : IntKind.i64.wrap (x * q) = x * q := IntWalk.i64_in _ (by omega)
          have hw2 : IntKind.i64.wrap (x * q + o) = x * q + o := IntWalk.i64_in _ (by omega)
          have hj1 : (0 : Int) ≤ (k : Int) := by omega
          have hj2 : (k : Int) < (l.length : Int) := by omega
          have hj3 : (0 : Int) ≤ (i : Int) := by omega
          have hj4 : (i : Int) < (m.length : Int) := by omega
          go_wp2_with fail
          go_quiet (fail)
          clear hw1 hw2
          have hf0 : 0 ≤ x * q + o := by omega
          have hf1 : x * q + o < 100000000 := by omega
          have Hs2 := Lib.hid (Hs.out (x * q + o) rfl hf0 hf1)
          have hib : i + k ≤ 1000 := by omega
          clear hxq0 hxq1
          go_wp2_with (at_builtin; refine app_int rfl (.tmp 39) (.tmp 42) rfl wo.heap.size _ _ R ((x * q + o) % 10000) rfl rfl Hown.out (by omega) Hb.out.size ?_; intro v' w3 hown3 hb3 _)
          have Hown3 := Lib.hid hown3
          have Hb3 := Lib.hid (hb3 _ (below_drewN Hb.out _))
          clear hown3 hb3
          go_wp2_with fail
          go_roundw
          case rel => exact ⟨k + 1, _, _, by omega, by go_num, rfl, Hs2.out, Hown3.out, Hb3.out⟩
          case measure => simp [intOf]; omega
        · obtain rfl : l.length = k := by omega
          have u2 : decide (l.length < l.length) = false := decide_eq_false (by omega)
          have hib : i + l.length ≤ 1000 := by omega
          have hdone := Hrow.out.done hkl
          obtain ⟨R1, hR1⟩ : ∃ R1, R1 = R ++ [o] := ⟨_, rfl⟩
          rw [← hR1] at hdone
          have HR1 := Lib.hid hR1
          have Hdone := Lib.hid hdone
          clear hR1 hdone hkl e2 e3
          go_wp2_with (at_builtin; refine app_int rfl (.tmp 47) (.tmp 49) rfl wo.heap.size _ _ R o rfl rfl Hown.out (by omega) Hb.out.size ?_)
          intro v' w3 hown3 hb3 _
          have hown3 : w3.ownsRow wo.heap.size 3 1 v' R1.length (R1.map (Value.int .i64)) := by rw [Hdone.out.1, HR1.out, List.map_append]; exact hown3
          obtain ⟨A2, c2, rfl, hc2, hr2⟩ := own_reads hown3
          have Hr2 := Lib.hid hr2
          have hb3' := hb3 _ Hb.out
          have Hb3 := Lib.hid hb3'
          have hl3 : g3 < w3.heap.size := Nat.lt_of_lt_of_le hg3 hb3'.size
          have T3 := Lib.hid (K3.out.on hb3' hg3)
          have t0 : w3.cell? ⟨g3, 0, none⟩ = some (.bool b) := T3.out.cell 0
          have t1 : w3.cell? ⟨g3, 1, none⟩ = some (.slice A' n' c') := T3.out.cell 1
          have hRl : R1.length ≤ 740 := by have := Hdone.out.1; omega
          have HSm := Lib.hid (show Sm 800 (val l * val (m.take i)) from (Sm.mul (sm_val Hl.out ll) (sm_val (dig_take Hm.out i) (by rw [List.length_take]; omega : (m.take i).length ≤ 40))).mono (by decide))
          have HSr := Lib.hid (show Sm 800 (sgn false (val R1)) from (sm_val Hdone.out.2.1 hRl).mono (by decide))
          have Hsum := Lib.hid (show val l * val (m.take i) + sgn false (val R1) = val l * val (m.take (i + 1)) by rw [sgn_false, Hdone.out.2.2]; exact Hnx.out)
          clear hown3 hb3 hb3' hr2 e1
          go_wp2_with fail
          go_region_with (first
            | (go_at_call 129
               refine (clean_any false R1 A2 c2 _ Hdone.out.2.1 (by omega) hc2 (by exact Hr2.out)).mono ?_
               rintro e w4 h4
               obtain ⟨b4, A4, n4, c4, rfl, hn4, hb4, _⟩ := nz_of h4
               have Hb4 := Lib.hid (Hb3.out.drew.trans (hb4.mono Hb3.out.size))
               have N4 := Lib.hid hn4
               have hl4 : g3 < w4.heap.size := Nat.lt_of_lt_of_le hl3 hb4.size
               have T4 := Lib.hid (K3.out.on Hb4.out hg3)
               have x0 : w4.cell? ⟨g3, 0, none⟩ = some (.bool b) := T4.out.cell 0
               have x1 : w4.cell? ⟨g3, 1, none⟩ = some (.slice A' n' c') := T4.out.cell 1
               clear h4 hn4 hb4)
            | (go_at_call 130
               refine (add_any _ _ (val l * val (m.take i)) (sgn false (val R1)) _ (KN.out.on Hb4.out) N4.out HSm.out HSr.out).mono ?_
               rintro e w5 h5
               obtain ⟨b5, A5, n5, c5, rfl, hn5, hb5, _⟩ := nz_of h5
               have Hb5 := Lib.hid (Hb4.out.trans (hb5.mono Hb4.out.size))
               have N5 := Lib.hid hn5
               have T5 := Lib.hid (K3.out.on Hb5.out hg3)
               have y0 : w5.cell? ⟨g3, 0, none⟩ = some (.bool b) := T5.out.cell 0
               have y1 : w5.cell? ⟨g3, 1, none⟩ = some (.slice A' n' c') := T5.out.cell 1
               have y2 : w5.frozen? ⟨g3, 0, none⟩ = false := T5.out.free 0
               have y3 : w5.frozen? ⟨g3, 1, none⟩ = false := T5.out.free 1
               clear h5 hn5 hb5))
          all_goals
            have F0 := Lib.hid ((((K0.out.on Hb5.out K0.out.lt).far (p := ⟨g3, 0, none⟩) (by show w.heap.size ≠ g3; omega) (.bool b5))).far (p := ⟨g3, 1, none⟩) (by show w.heap.size ≠ g3; omega) (.slice A5 n5 c5))
            have F1 := Lib.hid ((((K1.out.on Hb5.out K1.out.lt).far (p := ⟨g3, 0, none⟩) (by show g1 ≠ g3; omega) (.bool b5))).far (p := ⟨g3, 1, none⟩) (by show g1 ≠ g3; omega) (.slice A5 n5 c5))
            have F2 := Lib.hid ((((K2.out.on Hb5.out K2.out.lt).far (p := ⟨g3, 0, none⟩) (by show g2 ≠ g3; omega) (.bool b5))).far (p := ⟨g3, 1, none⟩) (by show g2 ≠ g3; omega) (.slice A5 n5 c5))
            have F3 := Lib.hid ((T5.out.set_ 0 (.bool b5)).set_ 1 (.slice A5 n5 c5))
            have FN := Lib.hid (((N5.out.set T5.out (by decide) 0 (.bool b5)).set (T5.out.set_ 0 (.bool b5)) (by decide) 1 (.slice A5 n5 c5)).more (show w5.heap.size ≤ ((w5.setCell ⟨g3, 0, none⟩ (.bool b5)).setCell ⟨g3, 1, none⟩ (.slice A5 n5 c5)).heap.size by simp [World.setCell]))
            have FB := Lib.hid (((Hbel.out.trans (Hb5.out.mono Hbel.out.size)).setCell (p := ⟨g3, 0, none⟩) (by show w.heap.size ≤ g3; omega) (.bool b5)).setCell (p := ⟨g3, 1, none⟩) (by show w.heap.size ≤ g3; omega) (.slice A5 n5 c5))
            go_wp2_with fail
            go_roundw
            case rel => exact ⟨i + 1, b5, A5, n5, c5, by omega, by go_num, F0.out, F1.out, F2.out, F3.out, by rw [← Hsum.out]; exact FN.out, FB.out⟩
            case measure => simp [intOf]; omega
    · obtain rfl : m.length = i := by omega
      have u1 : decide (m.length < m.length) = false := decide_eq_false (by omega)
      have v0 := (val_bd Hl.out).1
      have v1 := (val_bd Hm.out).1
      have hv := Int.mul_nonneg v0 v1
      have hz := Sm.mul (sm_val Hl.out ll) (sm_val Hm.out lm)
      rw [List.take_length] at KN
      obtain ⟨l2, A2, c2, e2, hc2, hl2, hr2, hd2, hv2, hf2⟩ := nz_open KN.out (hz.mono (by decide))
      simp only [Value.agg.injEq, Array.mk.injEq, List.cons.injEq, Value.bool.injEq, Value.slice.injEq] at e2
      obtain ⟨-, ⟨rfl, rfl, rfl⟩, -⟩ := e2
      have hv3 : val l2 = val l * val m := by rw [hv2]; omega
      have Hv3 := Lib.hid hv3
      have Hr2 := Lib.hid hr2
      have Hd2 := Lib.hid hd2
      have p0 : wo.cell? ⟨w.heap.size, 0, none⟩ = some (.bool sa) := K0.out.cell 0
      have p1 : wo.cell? ⟨g1, 0, none⟩ = some (.bool sb) := K1.out.cell 0
      have p2 : wo.cell? ⟨g3, 1, none⟩ = some (.slice A' l2.length c') := K3.out.cell 1
      have hg2 : g2 < wo.heap.size := K2.out.lt
      clear hv3 hr2 hd2 hv2 hf2 hv v0 v1 hz hlt
      go_wp2_with fail
      refine (clean_any (sa != sb) l2 A' c' _ Hd2.out (by omega) hc2 Hr2.out).mono ?_
      rintro e w5 h5
      obtain ⟨b5, A5, n5, c5, rfl, hn5, hb5, _⟩ := nz_of h5
      have Hb5 := Lib.hid (Hbel.out.trans (hb5.mono Hbel.out.size))
      have N5 := Lib.hid hn5
      have T5 := Lib.hid (K2.out.on hb5 hg2)
      have y0 : w5.cell? ⟨g2, 0, none⟩ = some (.bool false) := T5.out.cell 0
      have y1 : w5.cell? ⟨g2, 1, none⟩ = some (.slice none 0 0) := T5.out.cell 1
      have y2 : w5.frozen? ⟨g2, 0, none⟩ = false := T5.out.free 0
      have y3 : w5.frozen? ⟨g2, 1, none⟩ = false := T5.out.free 1
      clear h5 hn5 hb5
      go_wp2_with fail
      refine bodyPost_ret (v := .agg #[.bool b5, .slice A5 n5 c5]) (by simp [results, Tryz.results131, go_sem, y0, y1]) rfl ?_
      rw [← Hv3.out]
      exact gives_set N5.out Hb5.out T5.out (by omega) _ _
theorem mul_any (x y : Value) (a b : Int) (w : World) (hx : Nz w w.heap.size x a) (hy : Nz w w.heap.size y b) (ha : Sm 700 a) (hb : Sm 40 b) :
    Calls Tryz.prog 131 #[x, y] w (GivesN (a * b) w) := by
  obtain ⟨l, A, c, rfl, hc, hl2, hr, hd, hv, hf⟩ := nz_open hx (ha.mono (by decide))
  obtain ⟨m, C, d, rfl, hc', hm2, hr', hd', hv', hf'⟩ := nz_open hy (hb.mono (by decide))
  have e : a * b = sgn (decide (a < 0) != decide (b < 0)) (val l * val m) := by
    rw [hv, hv', ← Int.natCast_mul, ← Int.natAbs_mul]
    by_cases h1 : a < 0
    · rw [decide_eq_true h1]
      by_cases h2 : b < 0
      · rw [decide_eq_true h2]
        have := Int.mul_pos_of_neg_of_neg h1 h2
        show a * b = ((a * b).natAbs : Int)
        omega
      · rw [decide_eq_false h2]
        have := Int.mul_nonpos_of_nonpos_of_nonneg (Int.le_of_lt h1) (by omega : 0 ≤ b)
        show a * b = -((a * b).natAbs : Int)
        omega
    · rw [decide_eq_false h1]
      by_cases h2 : b < 0
      · rw [decide_eq_true h2]
        have := Int.mul_nonpos_of_nonneg_of_nonpos (by omega : 0 ≤ a) (Int.le_of_lt h2)
        show a * b = -((a * b).natAbs : Int)
        omega
      · rw [decide_eq_false h2]
        have := Int.mul_nonneg (by omega : 0 ≤ a) (by omega : 0 ≤ b)
        show a * b = ((a * b).natAbs : Int)
        omega
  rw [e]
  exact mul_s _ _ l m A C c d w hd hd' (by rw [hf]; exact ha.len) (by rw [hf']; exact hb.len) hr hr'
end Go.Proofs.YtfiahpeajccinaaGreatDoor.W2
namespace Go.Proofs.YtfiahpeajccinaaGreatDoor.W2
open Go.RowKit
open De

theorem byte_at (s : ByteArray) (i : Nat) (h : i < s.size) : (s[i]'h).toNat = (s.data.toList.getD i 0).toNat := by
  rw [List.getD_eq_getElem?_getD, Array.getElem?_toList]
  rcases s with ⟨d⟩
  have hd : i < d.size := h
  simp [hd]; rfl
/-- all of the first k are digits -/
def digTo (D : List UInt8) (k : Nat) : Prop := ∀ i, i < k → isDig (D.getD i 0) = true
theorem digTo.succ {D : List UInt8} {k : Nat} (h : digTo D k) (h1 : isDig (D.getD k 0) = true) : digTo D (k + 1) := by
  intro i hi
  rcases Nat.lt_or_ge i k with h3 | h3
  · exact h i h3
  · rw [show i = k by omega]; exact h1
theorem digTo.done {D : List UInt8} (h : digTo D D.length) (hne : D ≠ []) (h0 : ¬ (D.getD 0 0 = 48 ∧ 1 < D.length)) : formD D = true :=
  okTo.all ⟨h, fun hk e => h0 ⟨e, by omega⟩⟩ hne

set_option maxRecDepth 100000 in
set_option maxHeartbeats 4000000 in
theorem form_0 (s : ByteArray) (w : World) (hs : s.size ≤ 5000) (hsg : s.data.toList.head? ≠ some 45) :
    Calls Tryz.prog 106 #[.string s] w fun e w' => e = .returned (.bool (form s.data.toList)) ∧ w = w' := by
  have hL : s.data.toList.length = s.size := Array.length_toList
  obtain ⟨D, hD⟩ : ∃ D, s.data.toList = D := ⟨_, rfl⟩
  have hg : digs s.data.toList = D := by unfold digs; rw [if_neg hsg]; exact hD
  have hDl : D.length = s.size := by rw [← hL, hD]
  have hat : ∀ i (h : i < s.size), (s[i]'h).toNat = (D.getD i 0).toNat := by intro i h; rw [byte_at, hD]
  have hsgD : D.getD 0 0 = 45 → D = [] := by
    intro h
    cases D with
    | nil => rfl
    | cons c D => rw [hD] at hsg; simp at h; subst h; exact absurd rfl hsg
  have Hf := Lib.hid (show form s.data.toList = formD D by unfold form; rw [hg])
  have Hat := Lib.hid hat
  rw [Hf.out]
  clear hsg hL hD hg hat
  by_cases hnil : D = []
  · have HN := Lib.hid (show formD D = false by rw [hnil]; rfl)
    have hsz : s.size = 0 := by rw [← hDl, hnil]; rfl
    have t0 : decide (0 < s.size) = false := decide_eq_false (by omega)
    have t1 : ((s.size : Int) == 0) = true := by rw [hsz]; rfl
    clear hnil hsz hDl hsgD
    go_enter Tryz.func106, Tryz.ntmps106
    go_wp2_with fail
    go_ret
    exact ⟨ret_bool HN.out.symm, rfl⟩
  · have hpos : 0 < D.length := List.length_pos_iff.2 hnil
    have hsp : 0 < s.size := by omega
    have t0 : decide (0 < s.size) = true := decide_eq_true hsp
    have h45 : D.getD 0 0 ≠ 45 := fun h => hnil (hsgD h)
    have e45 : ¬ (D.getD 0 0).toNat = 45 := fun h => h45 (UInt8.toNat_inj.1 (by rw [h]; rfl))
    clear hsgD h45
    have t1 : ((s.size : Int) == 0) = false := by rw [beq_eq_false_iff_ne]; omega
    have HN := Lib.hid hnil
    have e0 : ∀ h, (s[0]'h).toNat = (D.getD 0 0).toNat := Hat.out 0
    have h48 : (D.getD 0 0).toNat = 48 ↔ D.getD 0 0 = 48 := ⟨fun h => UInt8.toNat_inj.1 (by rw [h]; rfl), fun h => by rw [h]; rfl⟩
    have H48 := Lib.hid h48
    clear hnil h48
    by_cases hlead : D.getD 0 0 = 48 ∧ 1 < D.length
    · have HF := Lib.hid (form_lead hlead.2 hlead.1)
      have hc := H48.out.2 hlead.1
      have t2 : decide ((1 : Int) < (s.size : Int)) = true := decide_eq_true (by omega)
      clear hlead
      generalize (D.getD 0 0).toNat = x at *
      subst hc
      go_enter Tryz.func106, Tryz.ntmps106
      go_wp2_with fail
      go_ret
      exact ⟨ret_bool HF.out.symm, rfl⟩
    · have HL := Lib.hid hlead
      have hlead2 : ((((D.getD 0 0).toNat : Nat) : Int) == 48) = false ∨ (((((D.getD 0 0).toNat : Nat) : Int) == 48) = true ∧ decide ((1 : Int) < (s.size : Int)) = false) := by
        by_cases h : D.getD 0 0 = 48
        · right
          refine ⟨by rw [h]; rfl, decide_eq_false ?_⟩
          have : ¬ 1 < D.length := fun h2 => HL.out ⟨h, h2⟩
          omega
        · left
          have : (D.getD 0 0).toNat ≠ 48 := fun h2 => h (H48.out.1 h2)
          rw [beq_eq_false_iff_ne]; omega
      clear hlead
      generalize (D.getD 0 0).toNat = x at *
      rcases hlead2 with t2 | ⟨t2, t3⟩
      all_goals
        go_enter Tryz.func106, Tryz.ntmps106
        go_wp2_with fail
        go_loop [4] (fun i => ∃ k : Nat, k ≤ D.length ∧ i = .int .i64 (k : Nat) ∧ digTo D k) (fun i => s.size - (intOf i).toNat)
        case atStart => exact ⟨0, Nat.zero_le _, rfl, fun i hi => absurd hi (by omega)⟩
        case round =>
          clear e0
          obtain ⟨k, hk, rfl, hd⟩ := hrel
          have Hd := Lib.hid hd
          clear hd
          by_cases hlt : k < D.length
          · have hj : k < s.size := by omega
            have u1 : decide (k < s.size) = true := decide_eq_true hj
            have e1 : ∀ h, (s[k]'h).toNat = (D.getD k 0).toNat := Hat.out k
            cases hc : isDig (D.getD k 0) with
            | true =>
              have hb := (dig_iff _).1 hc
              have Hs := Lib.hid (Hd.out.succ hc)
              clear hc
              generalize (D.getD k 0).toNat = y at *
              have x1 : decide ((y : Int) < 48) = false := decide_eq_false (by omega)
              have x2 : decide ((57 : Int) < (y : Int)) = false := decide_eq_false (by omega)
              go_wp2_with fail
              go_round
              case rel => exact ⟨k + 1, by omega, by go_num, Hs.out⟩
              case measure => simp [intOf]; omega
            | false =>
              have hb : ¬ (48 ≤ (D.getD k 0).toNat ∧ (D.getD k 0).toNat ≤ 57) := by rw [← dig_iff, hc]; simp
              have HF := Lib.hid (form_stop hlt hc)
              clear hc
              generalize (D.getD k 0).toNat = y at *
              rcases (by omega : y < 48 ∨ 57 < y) with hy | hy
              · have x1 : decide ((y : Int) < 48) = true := decide_eq_true (by omega)
                go_wp2_with fail
                go_ret
                exact ⟨ret_bool HF.out.symm, rfl⟩
              · have x1 : decide ((y : Int) < 48) = false := decide_eq_false (by omega)
                have x2 : decide ((57 : Int) < (y : Int)) = true := decide_eq_true (by omega)
                go_wp2_with fail
                go_ret
                exact ⟨ret_bool HF.out.symm, rfl⟩
          · obtain rfl : D.length = k := by omega
            have u1 : decide (D.length < s.size) = false := decide_eq_false (by omega)
            have HF := Lib.hid (Hd.out.done HN.out HL.out)
            go_wp2_with fail
            go_ret
            exact ⟨ret_bool HF.out.symm, rfl⟩

set_option maxRecDepth 100000 in
set_option maxHeartbeats 4000000 in
theorem form_1 (s : ByteArray) (w : World) (hs : s.size ≤ 5000) (hsg : s.data.toList.head? = some 45) :
    Calls Tryz.prog 106 #[.string s] w fun e w' => e = .returned (.bool (form s.data.toList)) ∧ w = w' := by
  have hL : s.data.toList.length = s.size := Array.length_toList
  have hs0 : 0 < s.size := by
    rcases Nat.eq_zero_or_pos s.size with h | h
    · rw [List.eq_nil_of_length_eq_zero (hL.trans h)] at hsg; cases hsg
    · exact h
  obtain ⟨D, hD⟩ : ∃ D, s.data.toList = 45 :: D := by
    cases h : s.data.toList with
    | nil => rw [h] at hsg; cases hsg
    | cons c D => rw [h] at hsg; simp at hsg; exact ⟨D, by rw [hsg]⟩
  have hg : digs s.data.toList = D := by rw [hD]; rfl
  have hDl : D.length + 1 = s.size := by rw [← hL, hD]; rfl
  have hat : ∀ i (h : i + 1 < s.size), (s[i + 1]'h).toNat = (D.getD i 0).toNat := by intro i h; rw [byte_at, hD, List.getD_cons_succ]
  have he0 : ∀ h, (s[0]'h).toNat = 45 := by intro h; rw [byte_at, hD]; rfl
  have t0 : decide (0 < s.size) = true := decide_eq_true hs0
  have Hf := Lib.hid (show form s.data.toList = formD D by unfold form; rw [hg])
  have Hat := Lib.hid hat
  rw [Hf.out]
  clear hsg hL hD hg hat
  by_cases hnil : D = []
  · have HN := Lib.hid (show formD D = false by rw [hnil]; rfl)
    have hsz : s.size = 1 := by rw [← hDl, hnil]; rfl
    have t1 : ((s.size : Int) == 1) = true := by rw [hsz]; rfl
    clear hnil hsz hDl
    go_enter Tryz.func106, Tryz.ntmps106
    go_wp2_with fail
    go_ret
    exact ⟨ret_bool HN.out.symm, rfl⟩
  · have hpos : 0 < D.length := List.length_pos_iff.2 hnil
    have hsp : 1 < s.size := by omega
    have t1 : ((s.size : Int) == 1) = false := by rw [beq_eq_false_iff_ne]; omega
    have HN := Lib.hid hnil
    have e0 : ∀ h, (s[1]'h).toNat = (D.getD 0 0).toNat := Hat.out 0
    have h48 : (D.getD 0 0).toNat = 48 ↔ D.getD 0 0 = 48 := ⟨fun h => UInt8.toNat_inj.1 (by rw [h]; rfl), fun h => by rw [h]; rfl⟩
    have H48 := Lib.hid h48
    clear hnil h48
    by_cases hlead : D.getD 0 0 = 48 ∧ 1 < D.length
    · have HF := Lib.hid (form_lead hlead.2 hlead.1)
      have hc := H48.out.2 hlead.1
      have t2 : decide ((2 : Int) < (s.size : Int)) = true := decide_eq_true (by omega)
      clear hlead
      generalize (D.getD 0 0).toNat = x at *
      subst hc
      go_enter Tryz.func106, Tryz.ntmps106
      go_wp2_with fail
      go_ret
      exact ⟨ret_bool HF.out.symm, rfl⟩
    · have HL := Lib.hid hlead
      have hlead2 : ((((D.getD 0 0).toNat : Nat) : Int) == 48) = false ∨ (((((D.getD 0 0).toNat : Nat) : Int) == 48) = true ∧ decide ((2 : Int) < (s.size : Int)) = false) := by
        by_cases h : D.getD 0 0 = 48
        · right
          refine ⟨by rw [h]; rfl, decide_eq_false ?_⟩
          have : ¬ 1 < D.length := fun h2 => HL.out ⟨h, h2⟩
          omega
        · left
          have : (D.getD 0 0).toNat ≠ 48 := fun h2 => h (H48.out.1 h2)
          rw [beq_eq_false_iff_ne]; omega
      clear hlead
      generalize (D.getD 0 0).toNat = x at *
      rcases hlead2 with t2 | ⟨t2, t3⟩
      all_goals
        go_enter Tryz.func106, Tryz.ntmps106
        go_wp2_with fail
        go_loop [4] (fun i => ∃ k : Nat, k ≤ D.length ∧ i = .int .i64 (k + 1 : Nat) ∧ digTo D k) (fun i => s.size - (intOf i).toNat)
        case atStart => exact ⟨0, Nat.zero_le _, rfl, fun i hi => absurd hi (by omega)⟩
        case round =>
          clear e0
          obtain ⟨k, hk, rfl, hd⟩ := hrel
          have Hd := Lib.hid hd
          clear hd
          by_cases hlt : k < D.length
          · have hj : k + 1 < s.size := by omega
            have u1 : decide (k + 1 < s.size) = true := decide_eq_true hj
            have e1 : ∀ h, (s[k + 1]'h).toNat = (D.getD k 0).toNat := Hat.out k
            cases hc : isDig (D.getD k 0) with
            | true =>
              have hb := (dig_iff _).1 hc
              have Hs := Lib.hid (Hd.out.succ hc)
              clear hc
              generalize (D.getD k 0).toNat = y at *
              have x1 : decide ((y : Int) < 48) = false := decide_eq_false (by omega)
              have x2 : decide ((57 : Int) < (y : Int)) = false := decide_eq_false (by omega)
              go_wp2_with fail
              go_round
              case rel => exact ⟨k + 1, by omega, by go_num, Hs.out⟩
              case measure => simp [intOf]; omega
            | false =>
              have hb : ¬ (48 ≤ (D.getD k 0).toNat ∧ (D.getD k 0).toNat ≤ 57) := by rw [← dig_iff, hc]; simp
              have HF := Lib.hid (form_stop hlt hc)
              clear hc
              generalize (D.getD k 0).toNat = y at *
              rcases (by omega : y < 48 ∨ 57 < y) with hy | hy
              · have x1 : decide ((y : Int) < 48) = true := decide_eq_true (by omega)
                go_wp2_with fail
                go_ret
                exact ⟨ret_bool HF.out.symm, rfl⟩
              · have x1 : decide ((y : Int) < 48) = false := decide_eq_false (by omega)
                have x2 : decide ((57 : Int) < (y : Int)) = true := decide_eq_true (by omega)
                go_wp2_with fail
                go_ret
                exact ⟨ret_bool HF.out.symm, rfl⟩
          · obtain rfl : D.length = k := by omega
            have u1 : decide (D.length + 1 < s.size) = false := decide_eq_false (by omega)
            have HF := Lib.hid (Hd.out.done HN.out HL.out)
            go_wp2_with fail
            go_ret
            exact ⟨ret_bool HF.out.symm, rfl⟩

theorem form_any (s : ByteArray) (w : World) (hs : s.size ≤ 5000) :
    Calls Tryz.prog 106 #[.string s] w fun e w' => e = .returned (.bool (form s.data.toList)) ∧ w = w' := by
  by_cases h : s.data.toList.head? = some 45
  · exact form_1 s w hs h
  · exact form_0 s w hs h
end Go.Proofs.YtfiahpeajccinaaGreatDoor.W2
namespace Go.Proofs.YtfiahpeajccinaaGreatDoor.W2
open Go.RowKit
open Fg De
attribute [local go_sem ↓] Go.wp_at_zero Go.wp_at_succ

theorem sm_decK (k : Nat) {D : List UInt8} (h : ∀ c ∈ D, isDig c = true) (hl : D.length ≤ 4 * k) : Sm k (decF 0 D : Int) := by
  have h1 := decF_lt D h
  have h2 : 10 ^ D.length ≤ 10 ^ (4 * k) := Nat.pow_le_pow_right (by decide) hl
  have e : (10 : Nat) ^ 4 = 10000 := by decide
  rw [Nat.pow_mul, e] at h2
  unfold Sm
  rw [Int.natAbs_natCast]
  exact Nat.lt_of_lt_of_le h1 h2
theorem sm_dec {D : List UInt8} (h : ∀ c ∈ D, isDig c = true) (hl : D.length ≤ 2600) : Sm 650 (decF 0 D : Int) := sm_decK 650 h hl
theorem decF_take (D : List UInt8) (k : Nat) (h : k < D.length) : decF 0 (D.take (k + 1)) = 10 * decF 0 (D.take k) + ((D.getD k 0).toNat - 48) := by
  rw [List.take_succ_eq_append_getElem h, decF_snoc]
  simp [List.getElem?_eq_getElem h]

set_option maxRecDepth 100000 in
set_option maxHeartbeats 8000000 in
theorem number_any (S : ByteArray) (D : List UInt8) (w : World) (hS : S.data.toList = D) (hD : ∀ c ∈ D, isDig c = true) (hl : D.length ≤ 2600) :
    Calls Tryz.prog 108 #[.string S] w (GivesN (decF 0 D) w) := by
  have hsz : S.size = D.length := by rw [← hS, Array.length_toList]; rfl
  have HD := Lib.hid hD
  have Hat := Lib.hid (show ∀ i (h : i < S.size), (S[i]'h).toNat = (D.getD i 0).toNat by intro i h; rw [byte_at, hS])
  clear hS hD
  go_enter Tryz.func108, Tryz.ntmps108
  go_wp2_with fail
  have h3 := two w #[.bool false, .slice none 0 0] #[.bool false, .slice none 0 0]
  generalize (w.alloc (Obj.cells #[.bool false, .slice none 0 0] 85)).alloc (Obj.cells #[.bool false, .slice none 0 0] 85) = W at h3 ⊢
  generalize w.heap.size + 1 = g1 at h3 ⊢
  obtain ⟨b0, b1, hbw, hz1, hz2⟩ := h3
  have B0 := Lib.hid b0
  have B1 := Lib.hid b1
  have HBW := Lib.hid hbw
  have I10 := Lib.hid (show In64 10 by constructor <;> decide)
  have S10 := Lib.hid ((sm_in I10.out).mono (by decide : 5 ≤ 40))
  clear b0 b1 hbw
  go_loopw [4] (fun iv wr => ∃ (k : Nat) (b : Bool) (A' : Option Addr) (n' c' : Nat), k ≤ D.length ∧ iv = .int .i64 k ∧ Blk wr w.heap.size 85 #[.bool false, .slice none 0 0] ∧ Blk wr g1 85 #[.bool b, .slice A' n' c'] ∧ Nz wr wr.heap.size (.agg #[.bool b, .slice A' n' c']) (decF 0 (D.take k)) ∧ Below w.heap.size w wr) (fun iv _ => D.length - (intOf iv).toNat)
  case atStart => exact ⟨0, false, none, 0, 0, Nat.zero_le _, rfl, B0.out, B1.out, by simpa [decF] using nz_zero W, HBW.out⟩
  case round =>
    obtain ⟨k, b, A', n', c', hk, rfl, k0, k1, kn, hbel⟩ := hrel
    have K0 := Lib.hid k0
    have K1 := Lib.hid k1
    have KN := Lib.hid kn
    have Hbel := Lib.hid hbel
    have hg1 : g1 < wr.heap.size := k1.lt
    have d0 : wr.cell? ⟨g1, 0, none⟩ = some (.bool b) := k1.cell 0
    have d1 : wr.cell? ⟨g1, 1, none⟩ = some (.slice A' n' c') := k1.cell 1
    clear k0 k1 kn hbel
    by_cases hlt : k < D.length
    · have hj : k < S.size := by omega
      have u1 : decide (k < S.size) = true := decide_eq_true hj
      have e1 : ∀ h, (S[k]'h).toNat = (D.getD k 0).toNat := Hat.out k
      have hc := (dig_iff _).1 (HD.out _ (show D.getD k 0 ∈ D by rw [List.getD_eq_getElem?_getD, List.getElem?_eq_getElem hlt]; exact List.getElem_mem hlt))
      have hnx := decF_take D k hlt
      have hsm := sm_dec (D := D.take k) (fun c hc => HD.out c (List.mem_of_mem_take hc)) (by rw [List.length_take]; omega)
      generalize (D.getD k 0).toNat = x at *
      generalize decF 0 (D.take k) = y at *
      have Hnx := Lib.hid (show ((decF 0 (D.take (k + 1)) : Nat) : Int) = (y : Int) * 10 + ((x : Int) - 48) by rw [hnx]; omega)
      have Hsm := Lib.hid hsm
      have Sp := Lib.hid ((Sm.mul hsm (sm_in I10.out)).mono (by decide : 650 + 5 ≤ 800))
      have hw1 : IntKind.u8.wrap ((x : Int) - 48) = (x : Int) - 48 := by rw [IntKind.wrap_u8]; omega
      have hw2 : IntKind.i64.wrap ((x : Int) - 48) = (x : Int) - 48 := IntWalk.i64_in _ (by omega)
      have Id := Lib.hid (show In64 ((x : Int) - 48) by constructor <;> omega)
      have tok : True := trivial
      clear hnx hsm hc
      go_wp2_with fail
      go_region_with (first
        | (go_at_call 33
           have _t := tok
           refine (of_any 10 _ I10.out).mono ?_
           rintro e w2 h2
           obtain ⟨b2, A2, n2, c2, rfl, hn2, hb2, _⟩ := nz_of h2
           have HV := Lib.hid ((Below.refl wr.heap.size wr).drew.trans (hb2.mono (Nat.le_refl _)))
           have T := Lib.hid (K1.out.on HV.out hg1)
           have x0 : w2.cell? ⟨g1, 0, none⟩ = some (.bool b) := T.out.cell 0
           have x1 : w2.cell? ⟨g1, 1, none⟩ = some (.slice A' n' c') := T.out.cell 1
           have N2 := Lib.hid hn2
           clear h2 hn2 hb2 _t tok)
        | (go_at_call 131
           refine (mul_any _ _ y 10 _ (KN.out.on HV.out) N2.out (Hsm.out.mono (by decide)) S10.out).mono ?_
           rintro e w3 h3
           obtain ⟨b3, A3, n3, c3, rfl, hn3, hb3, _⟩ := nz_of h3
           have HV3 := Lib.hid (HV.out.trans (hb3.mono HV.out.size))
           have N3 := Lib.hid hn3
           clear h3 hn3 hb3)
        | (go_at_call 33
           refine (of_any ((x : Int) - 48) _ Id.out).mono ?_
           rintro e w4 h4
           obtain ⟨b4, A4, n4, c4, rfl, hn4, hb4, _⟩ := nz_of h4
           have HV4 := Lib.hid (HV3.out.trans (hb4.mono HV3.out.size))
           have N4 := Lib.hid hn4
           have M4 := Lib.hid (N3.out.on hb4)
           clear h4 hn4 hb4)
        | (go_at_call 130
           refine (add_any _ _ ((y : Int) * 10) ((x : Int) - 48) _ M4.out N4.out Sp.out ((sm_in Id.out).mono (by decide))).mono ?_
           rintro e w5 h5
           obtain ⟨b5, A5, n5, c5, rfl, hn5, hb5, _⟩ := nz_of h5
           have HV5 := Lib.hid (HV4.out.trans (hb5.mono HV4.out.size))
           have T5 := Lib.hid (K1.out.on HV5.out hg1)
           have y0 : w5.cell? ⟨g1, 0, none⟩ = some (.bool b) := T5.out.cell 0
           have y1 : w5.cell? ⟨g1, 1, none⟩ = some (.slice A' n' c') := T5.out.cell 1
           have y2 : w5.frozen? ⟨g1, 0, none⟩ = false := T5.out.free 0
           have y3 : w5.frozen? ⟨g1, 1, none⟩ = false := T5.out.free 1
           have N5 := Lib.hid hn5
           clear h5 hn5 hb5))
      all_goals
        have F0 := Lib.hid ((((K0.out.on HV5.out K0.out.lt).far (p := ⟨g1, 0, none⟩) (by show w.heap.size ≠ g1; omega) (.bool b5))).far (p := ⟨g1, 1, none⟩) (by show w.heap.size ≠ g1; omega) (.slice A5 n5 c5))
        have F1 := Lib.hid ((T5.out.set_ 0 (.bool b5)).set_ 1 (.slice A5 n5 c5))
        have FN := Lib.hid (((N5.out.set T5.out (by decide) 0 (.bool b5)).set (T5.out.set_ 0 (.bool b5)) (by decide) 1 (.slice A5 n5 c5)).more (show w5.heap.size ≤ ((w5.setCell ⟨g1, 0, none⟩ (.bool b5)).setCell ⟨g1, 1, none⟩ (.slice A5 n5 c5)).heap.size by simp [World.setCell]))
        have FB := Lib.hid (((Hbel.out.trans (HV5.out.mono Hbel.out.size)).setCell (p := ⟨g1, 0, none⟩) (by show w.heap.size ≤ g1; omega) (.bool b5)).setCell (p := ⟨g1, 1, none⟩) (by show w.heap.size ≤ g1; omega) (.slice A5 n5 c5))
        go_wp2_with fail
        go_roundw
        case rel => exact ⟨k + 1, b5, A5, n5, c5, by omega, by go_num, F0.out, F1.out, by rw [Hnx.out]; exact FN.out, FB.out⟩
        case measure => simp [intOf]; omega
    · obtain rfl : D.length = k := by omega
      have u1 : decide (D.length < S.size) = false := decide_eq_false (by omega)
      rw [List.take_length] at KN
      have p0 : wr.cell? ⟨w.heap.size, 0, none⟩ = some (.bool false) := K0.out.cell 0
      have p1 : wr.cell? ⟨w.heap.size, 1, none⟩ = some (.slice none 0 0) := K0.out.cell 1
      have p2 : wr.frozen? ⟨w.heap.size, 0, none⟩ = false := K0.out.free 0
      have p3 : wr.frozen? ⟨w.heap.size, 1, none⟩ = false := K0.out.free 1
      have HK := Lib.hid (gives_set KN.out Hbel.out K0.out (Nat.le_refl _) (.bool b) (.slice A' n' c'))
      go_wp2_with fail
      refine bodyPost_ret (v := .agg #[.bool b, .slice A' n' c']) (by simp [results, Tryz.results108, go_sem, p0, p1]) rfl ?_
      exact HK.out
end Go.Proofs.YtfiahpeajccinaaGreatDoor.W2
namespace Go.Proofs.YtfiahpeajccinaaGreatDoor.W2
open Go.RowKit
open Fg De

theorem form_f {s : ByteArray} {w : World} (hs : s.size ≤ 5000) (b : Bool) (h : form s.data.toList = b) :
    Calls Tryz.prog 106 #[.string s] w fun e w' => e = .returned (.bool b) ∧ w = w' := by
  have := form_any s w hs; rwa [h] at this

/-- how Parse ends where the text has the number z -/
def GivesP (z : Int) (w : World) (e : Ending) (w' : World) : Prop :=
  ∃ b A n c, e = .returned (.tuple #[.agg #[.bool b, .slice A n c], .int .i64 0]) ∧ Nz w' w'.heap.size (.agg #[.bool b, .slice A n c]) z ∧ Below w.heap.size w w'
theorem gives_p {z : Int} {w W : World} {b : Bool} {A : Option Addr} {n c : Nat} (h : GivesN z w (.returned (.agg #[.bool b, .slice A n c])) W) : GivesP z w (.returned (.tuple #[.agg #[.bool b, .slice A n c], .int .i64 0])) W := by
  obtain ⟨v, e, h1, h2⟩ := h
  injection e with e
  subst e
  exact ⟨b, A, n, c, rfl, h1, h2⟩

set_option maxRecDepth 100000 in
set_option maxHeartbeats 2000000 in
theorem rparse_bad (s : ByteArray) (w : World) (hs : s.size ≤ 5000) (hf : form s.data.toList = false) :
    Calls Tryz.prog 65 #[.string s] w fun e w' => e = .returned (.tuple #[.agg #[.bool false, .slice none 0 0], .int .i64 1]) ∧ Below w.heap.size w w' := by
  have Hf := Lib.hid hf
  clear hf
  go_enter Tryz.func65, Tryz.ntmps65
  go_wp2_with fail
  refine (form_f hs false Hf.out).mono ?_
  rintro e w' ⟨rfl, rfl⟩
  go_wp2_with fail
  exact bodyPost_ret (v := .tuple #[.agg #[.bool false, .slice none 0 0], .int .i64 1]) (by simp [results, Tryz.results65, go_sem]) rfl ⟨rfl, (Below.refl _ _).alloc (Nat.le_refl _) _⟩

set_option maxRecDepth 100000 in
set_option maxHeartbeats 4000000 in
theorem rparse_1 (s : ByteArray) (w : World) (hs : s.size ≤ 2600) (hf : form s.data.toList = true) (hsg : s.data.toList.head? = some 45) :
    Calls Tryz.prog 65 #[.string s] w fun e w' => (In64 (numL s.data.toList) → GivesP (numL s.data.toList) w e w') ∧ (¬ In64 (numL s.data.toList) → e = .returned (.tuple #[.agg #[.bool false, .slice none 0 0], .int .i64 4]) ∧ Below w.heap.size w w') := by
  have hL : s.data.toList.length = s.size := Array.length_toList
  obtain ⟨hne, hdig⟩ := form_digs hf
  obtain ⟨D, hD⟩ : ∃ D, s.data.toList = 45 :: D := by
    cases h : s.data.toList with
    | nil => rw [h] at hsg; cases hsg
    | cons c D => rw [h] at hsg; simp at hsg; exact ⟨D, by rw [hsg]⟩
  have hg : digs s.data.toList = D := by rw [hD]; rfl
  have hDl : D.length + 1 = s.size := by rw [← hL, hD]; rfl
  have hs0 : 0 < s.size := by omega
  have e0 : ∀ h, (s[0]'h).toNat = 45 := by intro h; rw [byte_at, hD]; rfl
  have hnum : numL s.data.toList = -(decF 0 D : Int) := by unfold numL; rw [if_pos hsg, hg]
  have Hx := Lib.hid (show (s.extract 1 s.size).data.toList = D by rw [Lib.extract_data, hD, List.drop_succ_cons, List.drop_zero, List.take_of_length_le (by omega)])
  rw [hg] at hdig
  have hs0i : (0 : Int) < (s.size : Int) := by omega
  have Hdig := Lib.hid hdig
  have Hf := Lib.hid hf
  have Hnum := Lib.hid hnum
  have Hsm := Lib.hid (sm_dec hdig (by omega))
  clear hL hne hdig hsg hD hg hnum hf
  go_enter Tryz.func65, Tryz.ntmps65
  go_wp2_with fail
  refine (form_f (by omega) true Hf.out).mono ?_
  rintro e w' ⟨rfl, rfl⟩
  go_wp2_with fail
  have h3 := two w #[.bool false, .slice none 0 0] #[.bool false, .slice none 0 0]
  generalize (w.alloc (Obj.cells #[.bool false, .slice none 0 0] 85)).alloc (Obj.cells #[.bool false, .slice none 0 0] 85) = W at h3 ⊢
  generalize w.heap.size + 1 = g1 at h3 ⊢
  obtain ⟨b0, b1, hbw, hz1, hz2⟩ := h3
  have B0 := Lib.hid b0
  have B1 := Lib.hid b1
  have HBW := Lib.hid hbw
  clear b0 b1 hbw
  refine (number_any _ D _ Hx.out Hdig.out (by omega)).mono ?_
  rintro e w2 h2
  obtain ⟨b2, A2, n2, c2, rfl, hn2, hb2, _⟩ := nz_of h2
  have V2 := Lib.hid hb2
  have N2 := Lib.hid hn2
  have T2 := Lib.hid (B1.out.on hb2 hz2)
  have U2 := Lib.hid (B0.out.on hb2 (by omega))
  have hz3 : g1 < w2.heap.size := T2.out.lt
  clear h2 hn2 hb2
  go_wp2_with fail
  refine (neg_any _ (decF 0 D : Int) _ N2.out (Hsm.out.mono (by decide))).mono ?_
  rintro e w3 h3
  obtain ⟨b3, A3, n3, c3, rfl, hn3, hb3, _⟩ := nz_of h3
  have V3 := Lib.hid (V2.out.trans (hb3.mono V2.out.size))
  have N3 := Lib.hid hn3
  have T3 := Lib.hid (B1.out.on V3.out hz2)
  have U3 := Lib.hid (B0.out.on V3.out (by omega))
  have Hsm3 := Lib.hid (Hsm.out.neg.mono (by decide : 650 ≤ 650))
  have hz4 : g1 < w3.heap.size := T3.out.lt
  clear h3 hn3 hb3
  have x0 : w3.cell? ⟨g1, 0, none⟩ = some (.bool false) := T3.out.cell 0
  have x1 : w3.cell? ⟨g1, 1, none⟩ = some (.slice none 0 0) := T3.out.cell 1
  have x2 : w3.frozen? ⟨g1, 0, none⟩ = false := T3.out.free 0
  have x3 : w3.frozen? ⟨g1, 1, none⟩ = false := T3.out.free 1
  have F1 := Lib.hid ((T3.out.set_ 0 (.bool b3)).set_ 1 (.slice A3 n3 c3))
  have F0 := Lib.hid ((U3.out.far (p := ⟨g1, 0, none⟩) (by show w.heap.size ≠ g1; omega) (.bool b3)).far (p := ⟨g1, 1, none⟩) (by show w.heap.size ≠ g1; omega) (.slice A3 n3 c3))
  have FN := Lib.hid (((N3.out.set T3.out (by decide) 0 (.bool b3)).set (T3.out.set_ 0 (.bool b3)) (by decide) 1 (.slice A3 n3 c3)).more (show w3.heap.size ≤ ((w3.setCell ⟨g1, 0, none⟩ (.bool b3)).setCell ⟨g1, 1, none⟩ (.slice A3 n3 c3)).heap.size by simp [World.setCell]))
  have FB := Lib.hid (((HBW.out.trans (V3.out.mono HBW.out.size)).setCell (p := ⟨g1, 0, none⟩) (by show w.heap.size ≤ g1; omega) (.bool b3)).setCell (p := ⟨g1, 1, none⟩) (by show w.heap.size ≤ g1; omega) (.slice A3 n3 c3))
  go_wp2_with fail
  generalize (w3.setCell ⟨g1, 0, none⟩ (.bool b3)).setCell ⟨g1, 1, none⟩ (.slice A3 n3 c3) = Y at F0 F1 FN FB ⊢
  by_cases Hi : In64 (-(decF 0 D : Int))
  · refine (fits_true FN.out Hsm3.out Hi).mono ?_
    rintro e w5 ⟨rfl, hb5⟩
    have G0 := Lib.hid (F0.out.on hb5 F0.out.lt)
    have G1 := Lib.hid (F1.out.on hb5 F1.out.lt)
    have GN := Lib.hid (FN.out.on hb5)
    have GB := Lib.hid (FB.out.trans (hb5.mono FB.out.size))
    have y0 : w5.cell? ⟨w.heap.size, 0, none⟩ = some (.bool false) := G0.out.cell 0
    have y1 : w5.cell? ⟨w.heap.size, 1, none⟩ = some (.slice none 0 0) := G0.out.cell 1
    have y2 : w5.frozen? ⟨w.heap.size, 0, none⟩ = false := G0.out.free 0
    have y3 : w5.frozen? ⟨w.heap.size, 1, none⟩ = false := G0.out.free 1
    have z0 : w5.cell? ⟨g1, 0, none⟩ = some (.bool b3) := G1.out.cell 0
    have z1 : w5.cell? ⟨g1, 1, none⟩ = some (.slice A3 n3 c3) := G1.out.cell 1
    clear hb5
    have HG := Lib.hid (gives_p (gives_set GN.out GB.out G0.out (Nat.le_refl _) (.bool b3) (.slice A3 n3 c3)))
    go_wp2_with fail
    refine bodyPost_ret (v := .tuple #[.agg #[.bool b3, .slice A3 n3 c3], .int .i64 0]) (by simp [results, Tryz.results65, go_sem, y0, y1]) rfl ⟨fun _ => ?_, fun h => absurd (show In64 (numL s.data.toList) by rw [Hnum.out]; exact Hi) h⟩
    rw [Hnum.out]
    exact HG.out
  · refine (fits_false FN.out Hsm3.out Hi).mono ?_
    rintro e w5 ⟨rfl, hb5⟩
    have G0 := Lib.hid (F0.out.on hb5 F0.out.lt)
    have G1 := Lib.hid (F1.out.on hb5 F1.out.lt)
    have GN := Lib.hid (FN.out.on hb5)
    have GB := Lib.hid (FB.out.trans (hb5.mono FB.out.size))
    have y0 : w5.cell? ⟨w.heap.size, 0, none⟩ = some (.bool false) := G0.out.cell 0
    have y1 : w5.cell? ⟨w.heap.size, 1, none⟩ = some (.slice none 0 0) := G0.out.cell 1
    have y2 : w5.frozen? ⟨w.heap.size, 0, none⟩ = false := G0.out.free 0
    have y3 : w5.frozen? ⟨w.heap.size, 1, none⟩ = false := G0.out.free 1
    have z0 : w5.cell? ⟨g1, 0, none⟩ = some (.bool b3) := G1.out.cell 0
    have z1 : w5.cell? ⟨g1, 1, none⟩ = some (.slice A3 n3 c3) := G1.out.cell 1
    clear hb5
    have HG := Lib.hid ((GB.out.setCell (p := ⟨w.heap.size, 0, none⟩) (Nat.le_refl _) (.bool false)).setCell (p := ⟨w.heap.size, 1, none⟩) (Nat.le_refl _) (.slice none 0 0))
    go_wp2_with fail
    refine bodyPost_ret (v := .tuple #[.agg #[.bool false, .slice none 0 0], .int .i64 4]) (by simp [results, Tryz.results65, go_sem, y0, y1]) rfl ⟨fun h => absurd h (show ¬ In64 (numL s.data.toList) by rw [Hnum.out]; exact Hi), fun _ => ⟨rfl, HG.out⟩⟩
set_option maxRecDepth 100000 in
set_option maxHeartbeats 4000000 in
theorem rparse_0 (s : ByteArray) (w : World) (hs : s.size ≤ 2600) (hf : form s.data.toList = true) (hsg : s.data.toList.head? ≠ some 45) :
    Calls Tryz.prog 65 #[.string s] w fun e w' => (In64 (numL s.data.toList) → GivesP (numL s.data.toList) w e w') ∧ (¬ In64 (numL s.data.toList) → e = .returned (.tuple #[.agg #[.bool false, .slice none 0 0], .int .i64 4]) ∧ Below w.heap.size w w') := by
  have hL : s.data.toList.length = s.size := Array.length_toList
  obtain ⟨hne, hdig⟩ := form_digs hf
  obtain ⟨D, hD⟩ : ∃ D, s.data.toList = D := ⟨_, rfl⟩
  have hg : digs s.data.toList = D := by unfold digs; rw [if_neg hsg]; exact hD
  have hDl : D.length = s.size := by rw [← hL, hD]
  have hnum : numL s.data.toList = (decF 0 D : Int) := by unfold numL; rw [if_neg hsg, hg]
  rw [hg] at hne
  have hs0 : 0 < s.size := by have := List.length_pos_iff.2 hne; omega
  have e0 : ∀ h, (s[0]'h).toNat = (D.getD 0 0).toNat := by intro h; rw [byte_at, hD]
  have t0 : (((D.getD 0 0).toNat : Int) == 45) = false := by
    have : (D.getD 0 0).toNat ≠ 45 := by
      intro h
      cases D with
      | nil => exact hne rfl
      | cons c D => rw [hD] at hsg; simp at h hsg; exact hsg (UInt8.toNat_inj.1 (by rw [h]; rfl))
    rw [beq_eq_false_iff_ne]; omega
  have Hx := Lib.hid hD
  generalize (D.getD 0 0).toNat = x at *
  rw [hg] at hdig
  have hs0i : (0 : Int) < (s.size : Int) := by omega
  have Hdig := Lib.hid hdig
  have Hf := Lib.hid hf
  have Hnum := Lib.hid hnum
  have Hsm := Lib.hid (sm_dec hdig (by omega))
  clear hL hne hdig hsg hD hg hnum hf
  go_enter Tryz.func65, Tryz.ntmps65
  go_wp2_with fail
  refine (form_f (by omega) true Hf.out).mono ?_
  rintro e w' ⟨rfl, rfl⟩
  go_wp2_with fail
  have h3 := two w #[.bool false, .slice none 0 0] #[.bool false, .slice none 0 0]
  generalize (w.alloc (Obj.cells #[.bool false, .slice none 0 0] 85)).alloc (Obj.cells #[.bool false, .slice none 0 0] 85) = W at h3 ⊢
  generalize w.heap.size + 1 = g1 at h3 ⊢
  obtain ⟨b0, b1, hbw, hz1, hz2⟩ := h3
  have B0 := Lib.hid b0
  have B1 := Lib.hid b1
  have HBW := Lib.hid hbw
  clear b0 b1 hbw
  refine (number_any _ D _ Hx.out Hdig.out (by omega)).mono ?_
  rintro e w2 h2
  obtain ⟨b2, A2, n2, c2, rfl, hn2, hb2, _⟩ := nz_of h2
  have V2 := Lib.hid hb2
  have N2 := Lib.hid hn2
  have T2 := Lib.hid (B1.out.on hb2 hz2)
  have U2 := Lib.hid (B0.out.on hb2 (by omega))
  have hz3 : g1 < w2.heap.size := T2.out.lt
  clear h2 hn2 hb2
  have Hsm2 := Lib.hid (Hsm.out.mono (by decide : 650 ≤ 650))
  have x0 : w2.cell? ⟨g1, 0, none⟩ = some (.bool false) := T2.out.cell 0
  have x1 : w2.cell? ⟨g1, 1, none⟩ = some (.slice none 0 0) := T2.out.cell 1
  have x2 : w2.frozen? ⟨g1, 0, none⟩ = false := T2.out.free 0
  have x3 : w2.frozen? ⟨g1, 1, none⟩ = false := T2.out.free 1
  have F1 := Lib.hid ((T2.out.set_ 0 (.bool b2)).set_ 1 (.slice A2 n2 c2))
  have F0 := Lib.hid ((U2.out.far (p := ⟨g1, 0, none⟩) (by show w.heap.size ≠ g1; omega) (.bool b2)).far (p := ⟨g1, 1, none⟩) (by show w.heap.size ≠ g1; omega) (.slice A2 n2 c2))
  have FN := Lib.hid (((N2.out.set T2.out (by decide) 0 (.bool b2)).set (T2.out.set_ 0 (.bool b2)) (by decide) 1 (.slice A2 n2 c2)).more (show w2.heap.size ≤ ((w2.setCell ⟨g1, 0, none⟩ (.bool b2)).setCell ⟨g1, 1, none⟩ (.slice A2 n2 c2)).heap.size by simp [World.setCell]))
  have FB := Lib.hid (((HBW.out.trans (V2.out.mono HBW.out.size)).setCell (p := ⟨g1, 0, none⟩) (by show w.heap.size ≤ g1; omega) (.bool b2)).setCell (p := ⟨g1, 1, none⟩) (by show w.heap.size ≤ g1; omega) (.slice A2 n2 c2))
  go_wp2_with fail
  generalize (w2.setCell ⟨g1, 0, none⟩ (.bool b2)).setCell ⟨g1, 1, none⟩ (.slice A2 n2 c2) = Y at F0 F1 FN FB ⊢
  by_cases Hi : In64 ((decF 0 D : Int))
  · refine (fits_true FN.out Hsm2.out Hi).mono ?_
    rintro e w5 ⟨rfl, hb5⟩
    have G0 := Lib.hid (F0.out.on hb5 F0.out.lt)
    have G1 := Lib.hid (F1.out.on hb5 F1.out.lt)
    have GN := Lib.hid (FN.out.on hb5)
    have GB := Lib.hid (FB.out.trans (hb5.mono FB.out.size))
    have y0 : w5.cell? ⟨w.heap.size, 0, none⟩ = some (.bool false) := G0.out.cell 0
    have y1 : w5.cell? ⟨w.heap.size, 1, none⟩ = some (.slice none 0 0) := G0.out.cell 1
    have y2 : w5.frozen? ⟨w.heap.size, 0, none⟩ = false := G0.out.free 0
    have y3 : w5.frozen? ⟨w.heap.size, 1, none⟩ = false := G0.out.free 1
    have z0 : w5.cell? ⟨g1, 0, none⟩ = some (.bool b2) := G1.out.cell 0
    have z1 : w5.cell? ⟨g1, 1, none⟩ = some (.slice A2 n2 c2) := G1.out.cell 1
    clear hb5
    have HG := Lib.hid (gives_p (gives_set GN.out GB.out G0.out (Nat.le_refl _) (.bool b2) (.slice A2 n2 c2)))
    go_wp2_with fail
    refine bodyPost_ret (v := .tuple #[.agg #[.bool b2, .slice A2 n2 c2], .int .i64 0]) (by simp [results, Tryz.results65, go_sem, y0, y1]) rfl ⟨fun _ => ?_, fun h => absurd (show In64 (numL s.data.toList) by rw [Hnum.out]; exact Hi) h⟩
    rw [Hnum.out]
    exact HG.out
  · refine (fits_false FN.out Hsm2.out Hi).mono ?_
    rintro e w5 ⟨rfl, hb5⟩
    have G0 := Lib.hid (F0.out.on hb5 F0.out.lt)
    have G1 := Lib.hid (F1.out.on hb5 F1.out.lt)
    have GN := Lib.hid (FN.out.on hb5)
    have GB := Lib.hid (FB.out.trans (hb5.mono FB.out.size))
    have y0 : w5.cell? ⟨w.heap.size, 0, none⟩ = some (.bool false) := G0.out.cell 0
    have y1 : w5.cell? ⟨w.heap.size, 1, none⟩ = some (.slice none 0 0) := G0.out.cell 1
    have y2 : w5.frozen? ⟨w.heap.size, 0, none⟩ = false := G0.out.free 0
    have y3 : w5.frozen? ⟨w.heap.size, 1, none⟩ = false := G0.out.free 1
    have z0 : w5.cell? ⟨g1, 0, none⟩ = some (.bool b2) := G1.out.cell 0
    have z1 : w5.cell? ⟨g1, 1, none⟩ = some (.slice A2 n2 c2) := G1.out.cell 1
    clear hb5
    have HG := Lib.hid ((GB.out.setCell (p := ⟨w.heap.size, 0, none⟩) (Nat.le_refl _) (.bool false)).setCell (p := ⟨w.heap.size, 1, none⟩) (Nat.le_refl _) (.slice none 0 0))
    go_wp2_with fail
    refine bodyPost_ret (v := .tuple #[.agg #[.bool false, .slice none 0 0], .int .i64 4]) (by simp [results, Tryz.results65, go_sem, y0, y1]) rfl ⟨fun h => absurd h (show ¬ In64 (numL s.data.toList) by rw [Hnum.out]; exact Hi), fun _ => ⟨rfl, HG.out⟩⟩
theorem rparse_ok (s : ByteArray) (w : World) (hs : s.size ≤ 2600) (hf : form s.data.toList = true) (hi : In64 (numL s.data.toList)) :
    Calls Tryz.prog 65 #[.string s] w (GivesP (numL s.data.toList) w) := by
  by_cases h : s.data.toList.head? = some 45
  · exact (rparse_1 s w hs hf h).mono fun e w' q => q.1 hi
  · exact (rparse_0 s w hs hf h).mono fun e w' q => q.1 hi
theorem rparse_far (s : ByteArray) (w : World) (hs : s.size ≤ 2600) (hf : form s.data.toList = true) (hi : ¬ In64 (numL s.data.toList)) :
    Calls Tryz.prog 65 #[.string s] w fun e w' => e = .returned (.tuple #[.agg #[.bool false, .slice none 0 0], .int .i64 4]) ∧ Below w.heap.size w w' := by
  by_cases h : s.data.toList.head? = some 45
  · exact (rparse_1 s w hs hf h).mono fun e w' q => q.2 hi
  · exact (rparse_0 s w hs hf h).mono fun e w' q => q.2 hi
end Go.Proofs.YtfiahpeajccinaaGreatDoor.W2
