/- Contracts of the reference's Add, by its ways. -/
import Derived.Test.YtnenipgpncomeaaGreatDoorBoth
namespace Go.Proofs.YtnenipgpncomeaaGreatDoor.W2
open Go.RowKit
open Fg
attribute [local go_sem ↓] Go.wp_at_zero Go.wp_at_succ

/-- a number of at most k figures -/
def Sm (k : Nat) (z : Int) : Prop := z.natAbs < 10000 ^ k
theorem Sm.len {k : Nat} {z : Int} (h : Sm k z) : (figs z.natAbs).length ≤ k := figs_len h
theorem Sm.mono {j k : Nat} {z : Int} (h : Sm j z) (hk : j ≤ k) : Sm k z := Nat.lt_of_lt_of_le h (Nat.pow_le_pow_right (by decide) hk)
theorem Sm.add {j k n : Nat} {a b : Int} (h : Sm j a) (g : Sm k b) (hj : j ≤ n) (hk : k ≤ n) : Sm (n + 1) (a + b) := by
  have h1 := h.mono hj
  have g1 := g.mono hk
  unfold Sm at *
  rw [Nat.pow_succ]
  omega
theorem Sm.neg {k : Nat} {z : Int} (h : Sm k z) : Sm k (-z) := by unfold Sm at *; rw [Int.natAbs_neg]; exact h
theorem Sm.mul {j k : Nat} {a b : Int} (h : Sm j a) (g : Sm k b) : Sm (j + k) (a * b) := by
  unfold Sm at *
  rw [Int.natAbs_mul, Nat.pow_add]
  exact Nat.mul_lt_mul'' h g
theorem sm_in {a : Int} (h : In64 a) : Sm 5 a := by
  unfold Sm In64 at *
  omega

/-- what a walk is told of a number's figures -/
theorem nz_open {w : World} {B : Nat} {v : Value} {z : Int} (h : Nz w B v z) (hk : Sm 200 z) : ∃ l A c, v = .agg #[.bool (decide (z < 0)), .slice A l.length c] ∧ l.length ≤ c ∧ l.length ≤ 200 ∧ Reads w B A l ∧ dig l ∧ val l = z.natAbs ∧ l = figs z.natAbs := by
  obtain ⟨A, c, rfl, hc, hr⟩ := h
  exact ⟨_, A, c, rfl, hc, hk.len, hr, dig_figs _, val_figs _, rfl⟩
theorem lessB_figs (a b : Nat) : lessB (figs a) (figs b) = decide (a < b) := by
  by_cases h : (figs a).length = (figs b).length
  · rw [lessB_eq h, val_figs, val_figs]; simp
  · rw [lessB_ne h]
    rcases Nat.lt_or_ge (figs a).length (figs b).length with h1 | h1
    · rw [decide_eq_true h1, decide_eq_true (figs_lt h1)]
    · rw [decide_eq_false (by omega), decide_eq_false (by have := figs_lt (a := b) (b := a) (by omega); omega)]

theorem bcell {W w1 : World} {B : Nat} (hb : Below B W w1) : (∀ b o, b < B → w1.cell? ⟨b, o, none⟩ = W.cell? ⟨b, o, none⟩) ∧ (∀ b o, b < B → w1.frozen? ⟨b, o, none⟩ = W.frozen? ⟨b, o, none⟩) :=
  ⟨fun b o h => hb.cell (p := ⟨b, o, none⟩) h, fun b o h => hb.frozen (p := ⟨b, o, none⟩) h⟩

/-- three new blocks, under names -/
def Three (w W : World) (g1 g2 : Nat) (a b c : Array Value) : Prop :=
  Blk W w.heap.size 56 a ∧ Blk W g1 56 b ∧ Blk W g2 56 c ∧ Below w.heap.size w W ∧ w.heap.size < g1 ∧ g1 < g2 ∧ g2 < W.heap.size
theorem three (w : World) (a b c : Array Value) : Three w (((w.alloc (Obj.cells a 56)).alloc (Obj.cells b 56)).alloc (Obj.cells c 56)) (w.heap.size + 1) (w.heap.size + 1 + 1) a b c := by
  have h1 : (w.alloc (Obj.cells a 56)).heap.size = w.heap.size + 1 := by simp
  have h2 : ((w.alloc (Obj.cells a 56)).alloc (Obj.cells b 56)).heap.size = w.heap.size + 1 + 1 := by simp
  refine ⟨((Blk.new w _ _).alloc _).alloc _, ?_, ?_, (((Below.refl _ _).alloc (Nat.le_refl _) _).alloc (by simp) _).alloc (by simp; omega) _, by omega, by omega, by simp⟩
  · rw [← h1]; exact (Blk.new _ _ _).alloc _
  · rw [← h2]; exact Blk.new _ _ _
/-- the result's block, behind the two stores -/
theorem gives_set {z : Int} {w w3 : World} {g : Nat} {cs : Array Value} {A : Option Addr} {b : Bool} {n c : Nat} (h : Nz w3 w3.heap.size (.agg #[.bool b, .slice A n c]) z) (hb : Below w.heap.size w w3) (hg : Blk w3 g 56 cs) (hw : w.heap.size ≤ g) (u v : Value) :
    GivesN z w (.returned (.agg #[.bool b, .slice A n c])) ((w3.setCell ⟨g, 0, none⟩ u).setCell ⟨g, 1, none⟩ v) := by
  have h1 := (h.set hg (by decide) 0 u).set (hg.set_ 0 u) (by decide) 1 v
  exact ⟨_, rfl, h1.more (by simp [World.setCell]), (hb.setCell hw _).setCell hw _⟩

set_option maxRecDepth 100000 in
set_option maxHeartbeats 4000000 in
theorem add_same_false (l m : List Int) (A C : Option Addr) (c d : Nat) (w : World) (hl : dig l) (hm : dig m) (ll : l.length ≤ 200) (lm : m.length ≤ 200) (rl : Reads w w.heap.size A l) (rm : Reads w w.heap.size C m) :
    Calls Tryz.prog 53 #[.agg #[.bool false, .slice A l.length c], .agg #[.bool false, .slice C m.length d]] w (GivesN (sgn false (val l + val m)) w) := by
  have Hl := Lib.hid hl
  have Hm := Lib.hid hm
  have Rl := Lib.hid rl
  have Rm := Lib.hid rm
  clear hl hm rl rm
  go_enter Tryz.func53, Tryz.ntmps53
  go_wp2_with fail
  have h3 := three w #[.bool false, .slice A l.length c] #[.bool false, .slice C m.length d] #[.bool false, .slice none 0 0]
  generalize ((w.alloc (Obj.cells #[.bool false, .slice A l.length c] 56)).alloc (Obj.cells #[.bool false, .slice C m.length d] 56)).alloc (Obj.cells #[.bool false, .slice none 0 0] 56) = W at h3 ⊢
  generalize w.heap.size + 1 + 1 = g2 at h3 ⊢
  generalize w.heap.size + 1 = g1 at h3 ⊢
  obtain ⟨b0, b1, b2, hbw, hz1, hz2, hz3⟩ := h3
  have B0 := Lib.hid b0
  have B1 := Lib.hid b1
  have B2 := Lib.hid b2
  have HBW := Lib.hid hbw
  clear b0 b1 b2 hbw
  have c0 : W.cell? ⟨w.heap.size, 0, none⟩ = some (.bool false) := B0.out.cell 0
  have c1 : W.cell? ⟨w.heap.size, 1, none⟩ = some (.slice A l.length c) := B0.out.cell 1
  have c2 : W.cell? ⟨g1, 1, none⟩ = some (.slice C m.length d) := B1.out.cell 1
  have c3 : W.cell? ⟨g2, 0, none⟩ = some (.bool false) := B2.out.cell 0
  have c4 : W.cell? ⟨g2, 1, none⟩ = some (.slice none 0 0) := B2.out.cell 1
  have f3 : W.frozen? ⟨g2, 0, none⟩ = false := B2.out.free 0
  have f4 : W.frozen? ⟨g2, 1, none⟩ = false := B2.out.free 1
  have l0 : w.heap.size < W.heap.size := by omega
  have l1 : g1 < W.heap.size := by omega
  have n0 : ¬ w.heap.size = g2 := by omega
  have n1 : ¬ g1 = g2 := by omega
  have n2 : ¬ g2 = w.heap.size := by omega
  have n3 : ¬ g2 = g1 := by omega
  go_region_held3 (fun w' => w'.cell? ⟨w.heap.size, 0, none⟩ = some (.bool false) ∧ w'.cell? ⟨w.heap.size, 1, none⟩ = some (.slice A l.length c) ∧ w'.cell? ⟨g1, 1, none⟩ = some (.slice C m.length d))
    (go_keep)
    (first
      | (go_at_call 71; refine (both_plus l m A C c d _ Hl.out Hm.out (by omega) (by omega) (Rl.out.onto HBW.out.drew) (Rm.out.onto HBW.out.drew)).mono ?_
         rintro e w2 ⟨A2, r, cc2, rfl, hc2, hr2, ⟨d1, d2, d3⟩, hb2⟩
         have Hr2 := Lib.hid hr2
         have D1 := Lib.hid d1
         have D2 := Lib.hid d2
         have Hb2 := Lib.hid hb2
         have hs2 := hb2.size
         have l02 : w.heap.size < w2.heap.size := Nat.lt_of_lt_of_le l0 hs2
         have l12 : g1 < w2.heap.size := Nat.lt_of_lt_of_le l1 hs2
         have l22 : g2 < w2.heap.size := Nat.lt_of_lt_of_le hz3 hs2
         obtain ⟨hce, hfr⟩ := bcell hb2
         have k0 := (hce w.heap.size 0 l0).trans c0
         have k1 := (hce w.heap.size 1 l0).trans c1
         have k2 := (hce g1 1 l1).trans c2
         have k3 := (hce g2 0 hz3).trans c3
         have k4 := (hce g2 1 hz3).trans c4
         have k5 := (hfr g2 0 hz3).trans f3
         have k6 := (hfr g2 1 hz3).trans f4
         clear hs2 hce hfr hr2 d1 d2 hb2)
      | (go_at_call 52; refine (clean_any false r A2 cc2 _ D1.out (by omega) hc2 Hr2.out).mono ?_
         rintro e w3 ⟨v, rfl, ⟨A3, cc3, rfl, hc3, hr3⟩, hb3⟩
         obtain ⟨hce3, hfr3⟩ := bcell hb3
         have m0 := (hce3 w.heap.size 0 l02).trans k0
         have m1 := (hce3 w.heap.size 1 l02).trans k1
         have m2 := (hce3 g1 1 l12).trans k2
         have m3 := (hce3 g2 0 l22).trans k3
         have m4 := (hce3 g2 1 l22).trans k4
         have m5 := (hfr3 g2 0 l22).trans k5
         have m6 := (hfr3 g2 1 l22).trans k6
         have Hr3 := Lib.hid hr3
         have Hb3 := Lib.hid hb3
         clear hr3 hb3 hce3 hfr3))
  go_wp2_with fail
  refine bodyPost_ret (v := .agg #[.bool (decide (sgn false (val r) < 0)), .slice A3 (figs (sgn false (val r)).natAbs).length cc3]) (by simp [results, Tryz.results53, go_sem, m3, m4]) rfl ?_
  rw [← D2.out]
  exact gives_set ⟨A3, cc3, rfl, hc3, Hr3.out⟩ ((HBW.out.drew.trans (Hb2.out.mono (Nat.le_of_lt l0))).trans (Hb3.out.mono (Nat.le_of_lt l02))) ((B2.out.drew.on Hb2.out hz3).on Hb3.out l22) (by omega) _ _
set_option maxRecDepth 100000 in
set_option maxHeartbeats 4000000 in
theorem add_same_true (l m : List Int) (A C : Option Addr) (c d : Nat) (w : World) (hl : dig l) (hm : dig m) (ll : l.length ≤ 200) (lm : m.length ≤ 200) (rl : Reads w w.heap.size A l) (rm : Reads w w.heap.size C m) :
    Calls Tryz.prog 53 #[.agg #[.bool true, .slice A l.length c], .agg #[.bool true, .slice C m.length d]] w (GivesN (sgn true (val l + val m)) w) := by
  have Hl := Lib.hid hl
  have Hm := Lib.hid hm
  have Rl := Lib.hid rl
  have Rm := Lib.hid rm
  clear hl hm rl rm
  go_enter Tryz.func53, Tryz.ntmps53
  go_wp2_with fail
  have h3 := three w #[.bool true, .slice A l.length c] #[.bool true, .slice C m.length d] #[.bool false, .slice none 0 0]
  generalize ((w.alloc (Obj.cells #[.bool true, .slice A l.length c] 56)).alloc (Obj.cells #[.bool true, .slice C m.length d] 56)).alloc (Obj.cells #[.bool false, .slice none 0 0] 56) = W at h3 ⊢
  generalize w.heap.size + 1 + 1 = g2 at h3 ⊢
  generalize w.heap.size + 1 = g1 at h3 ⊢
  obtain ⟨b0, b1, b2, hbw, hz1, hz2, hz3⟩ := h3
  have B0 := Lib.hid b0
  have B1 := Lib.hid b1
  have B2 := Lib.hid b2
  have HBW := Lib.hid hbw
  clear b0 b1 b2 hbw
  have c0 : W.cell? ⟨w.heap.size, 0, none⟩ = some (.bool true) := B0.out.cell 0
  have c1 : W.cell? ⟨w.heap.size, 1, none⟩ = some (.slice A l.length c) := B0.out.cell 1
  have c2 : W.cell? ⟨g1, 1, none⟩ = some (.slice C m.length d) := B1.out.cell 1
  have c3 : W.cell? ⟨g2, 0, none⟩ = some (.bool false) := B2.out.cell 0
  have c4 : W.cell? ⟨g2, 1, none⟩ = some (.slice none 0 0) := B2.out.cell 1
  have f3 : W.frozen? ⟨g2, 0, none⟩ = false := B2.out.free 0
  have f4 : W.frozen? ⟨g2, 1, none⟩ = false := B2.out.free 1
  have l0 : w.heap.size < W.heap.size := by omega
  have l1 : g1 < W.heap.size := by omega
  have n0 : ¬ w.heap.size = g2 := by omega
  have n1 : ¬ g1 = g2 := by omega
  have n2 : ¬ g2 = w.heap.size := by omega
  have n3 : ¬ g2 = g1 := by omega
  go_region_held3 (fun w' => w'.cell? ⟨w.heap.size, 0, none⟩ = some (.bool true) ∧ w'.cell? ⟨w.heap.size, 1, none⟩ = some (.slice A l.length c) ∧ w'.cell? ⟨g1, 1, none⟩ = some (.slice C m.length d))
    (go_keep)
    (first
      | (go_at_call 71; refine (both_plus l m A C c d _ Hl.out Hm.out (by omega) (by omega) (Rl.out.onto HBW.out.drew) (Rm.out.onto HBW.out.drew)).mono ?_
         rintro e w2 ⟨A2, r, cc2, rfl, hc2, hr2, ⟨d1, d2, d3⟩, hb2⟩
         have Hr2 := Lib.hid hr2
         have D1 := Lib.hid d1
         have D2 := Lib.hid d2
         have Hb2 := Lib.hid hb2
         have hs2 := hb2.size
         have l02 : w.heap.size < w2.heap.size := Nat.lt_of_lt_of_le l0 hs2
         have l12 : g1 < w2.heap.size := Nat.lt_of_lt_of_le l1 hs2
         have l22 : g2 < w2.heap.size := Nat.lt_of_lt_of_le hz3 hs2
         obtain ⟨hce, hfr⟩ := bcell hb2
         have k0 := (hce w.heap.size 0 l0).trans c0
         have k1 := (hce w.heap.size 1 l0).trans c1
         have k2 := (hce g1 1 l1).trans c2
         have k3 := (hce g2 0 hz3).trans c3
         have k4 := (hce g2 1 hz3).trans c4
         have k5 := (hfr g2 0 hz3).trans f3
         have k6 := (hfr g2 1 hz3).trans f4
         clear hs2 hce hfr hr2 d1 d2 hb2)
      | (go_at_call 52; refine (clean_any true r A2 cc2 _ D1.out (by omega) hc2 Hr2.out).mono ?_
         rintro e w3 ⟨v, rfl, ⟨A3, cc3, rfl, hc3, hr3⟩, hb3⟩
         obtain ⟨hce3, hfr3⟩ := bcell hb3
         have m0 := (hce3 w.heap.size 0 l02).trans k0
         have m1 := (hce3 w.heap.size 1 l02).trans k1
         have m2 := (hce3 g1 1 l12).trans k2
         have m3 := (hce3 g2 0 l22).trans k3
         have m4 := (hce3 g2 1 l22).trans k4
         have m5 := (hfr3 g2 0 l22).trans k5
         have m6 := (hfr3 g2 1 l22).trans k6
         have Hr3 := Lib.hid hr3
         have Hb3 := Lib.hid hb3
         clear hr3 hb3 hce3 hfr3))
  go_wp2_with fail
  refine bodyPost_ret (v := .agg #[.bool (decide (sgn true (val r) < 0)), .slice A3 (figs (sgn true (val r)).natAbs).length cc3]) (by simp [results, Tryz.results53, go_sem, m3, m4]) rfl ?_
  rw [← D2.out]
  exact gives_set ⟨A3, cc3, rfl, hc3, Hr3.out⟩ ((HBW.out.drew.trans (Hb2.out.mono (Nat.le_of_lt l0))).trans (Hb3.out.mono (Nat.le_of_lt l02))) ((B2.out.drew.on Hb2.out hz3).on Hb3.out l22) (by omega) _ _
set_option maxRecDepth 100000 in
set_option maxHeartbeats 4000000 in
theorem add_diff_false_lt (l m : List Int) (A C : Option Addr) (c d : Nat) (w : World) (hl : dig l) (hm : dig m) (ll : l.length ≤ 200) (lm : m.length ≤ 200) (rl : Reads w w.heap.size A l) (rm : Reads w w.heap.size C m) (hs : lessB l m = true) (hle : val l ≤ val m) :
    Calls Tryz.prog 53 #[.agg #[.bool false, .slice A l.length c], .agg #[.bool true, .slice C m.length d]] w (GivesN (sgn true (val m - val l)) w) := by
  have Hl := Lib.hid hl
  have Hm := Lib.hid hm
  have Rl := Lib.hid rl
  have Rm := Lib.hid rm
  clear hl hm rl rm
  have HLE := Lib.hid hle
  have HS := Lib.hid hs
  clear hle hs
  go_enter Tryz.func53, Tryz.ntmps53
  go_wp2_with fail
  have h3 := three w #[.bool false, .slice A l.length c] #[.bool true, .slice C m.length d] #[.bool false, .slice none 0 0]
  generalize ((w.alloc (Obj.cells #[.bool false, .slice A l.length c] 56)).alloc (Obj.cells #[.bool true, .slice C m.length d] 56)).alloc (Obj.cells #[.bool false, .slice none 0 0] 56) = W at h3 ⊢
  generalize w.heap.size + 1 + 1 = g2 at h3 ⊢
  generalize w.heap.size + 1 = g1 at h3 ⊢
  obtain ⟨b0, b1, b2, hbw, hz1, hz2, hz3⟩ := h3
  have B0 := Lib.hid b0
  have B1 := Lib.hid b1
  have B2 := Lib.hid b2
  have HBW := Lib.hid hbw
  have q0 : W.cell? ⟨w.heap.size, 1, none⟩ = some (.slice A l.length c) := b0.cell 1
  have q1 : W.cell? ⟨g1, 1, none⟩ = some (.slice C m.length d) := b1.cell 1
  have q2 : W.cell? ⟨w.heap.size, 0, none⟩ = some (.bool false) := b0.cell 0
  have q3 : W.cell? ⟨g1, 0, none⟩ = some (.bool true) := b1.cell 0
  clear b0 b1 b2 hbw
  go_wp2_with fail
  refine (less_any l m A C c d _ Hl.out Hm.out (by omega) (by omega) (Rl.out.onto HBW.out) (Rm.out.onto HBW.out)).mono ?_
  rw [HS.out]
  rintro e w1 ⟨rfl, hb1⟩
  have B0 := Lib.hid (B0.out.on hb1 (by omega))
  have B1 := Lib.hid (B1.out.on hb1 (by omega))
  have B2 := Lib.hid (B2.out.on hb1 (by omega))
  have HBW := Lib.hid (HBW.out.trans (hb1.mono HBW.out.size))
  have hz3 : g2 < w1.heap.size := Nat.lt_of_lt_of_le hz3 hb1.size
  clear hb1 q0 q1 q2 q3
  go_wp2_with fail
  have c0 : w1.cell? ⟨g1, 0, none⟩ = some (.bool true) := B1.out.cell 0
  have c1 : w1.cell? ⟨w.heap.size, 1, none⟩ = some (.slice A l.length c) := B0.out.cell 1
  have c2 : w1.cell? ⟨g1, 1, none⟩ = some (.slice C m.length d) := B1.out.cell 1
  have c3 : w1.cell? ⟨g2, 0, none⟩ = some (.bool false) := B2.out.cell 0
  have c4 : w1.cell? ⟨g2, 1, none⟩ = some (.slice none 0 0) := B2.out.cell 1
  have f3 : w1.frozen? ⟨g2, 0, none⟩ = false := B2.out.free 0
  have f4 : w1.frozen? ⟨g2, 1, none⟩ = false := B2.out.free 1
  have l0 : w.heap.size < w1.heap.size := by omega
  have l1 : g1 < w1.heap.size := by omega
  have n0 : ¬ w.heap.size = g2 := by omega
  have n1 : ¬ g1 = g2 := by omega
  have n2 : ¬ g2 = w.heap.size := by omega
  have n3 : ¬ g2 = g1 := by omega
  go_region_held3 (fun w' => w'.cell? ⟨g1, 0, none⟩ = some (.bool true) ∧ w'.cell? ⟨w.heap.size, 1, none⟩ = some (.slice A l.length c) ∧ w'.cell? ⟨g1, 1, none⟩ = some (.slice C m.length d))
    (go_keep)
    (first
      | (go_at_call 71; refine (both_minus m l C A d c _ Hm.out Hl.out (by omega) (by omega) HLE.out (Rm.out.onto HBW.out.drew) (Rl.out.onto HBW.out.drew)).mono ?_
         rintro e w2 ⟨A2, r, cc2, rfl, hc2, hr2, ⟨d1, d2, d3⟩, hb2⟩
         have Hr2 := Lib.hid hr2
         have D1 := Lib.hid d1
         have D2 := Lib.hid d2
         have Hb2 := Lib.hid hb2
         have hs2 := hb2.size
         have l02 : w.heap.size < w2.heap.size := Nat.lt_of_lt_of_le l0 hs2
         have l12 : g1 < w2.heap.size := Nat.lt_of_lt_of_le l1 hs2
         have l22 : g2 < w2.heap.size := Nat.lt_of_lt_of_le hz3 hs2
         obtain ⟨hce, hfr⟩ := bcell hb2
         have k0 := (hce g1 0 l1).trans c0
         have k1 := (hce w.heap.size 1 l0).trans c1
         have k2 := (hce g1 1 l1).trans c2
         have k3 := (hce g2 0 hz3).trans c3
         have k4 := (hce g2 1 hz3).trans c4
         have k5 := (hfr g2 0 hz3).trans f3
         have k6 := (hfr g2 1 hz3).trans f4
         clear hs2 hce hfr hr2 d1 d2 hb2)
      | (go_at_call 52; refine (clean_any true r A2 cc2 _ D1.out (by omega) hc2 Hr2.out).mono ?_
         rintro e w3 ⟨v, rfl, ⟨A3, cc3, rfl, hc3, hr3⟩, hb3⟩
         obtain ⟨hce3, hfr3⟩ := bcell hb3
         have m0 := (hce3 g1 0 l12).trans k0
         have m1 := (hce3 w.heap.size 1 l02).trans k1
         have m2 := (hce3 g1 1 l12).trans k2
         have m3 := (hce3 g2 0 l22).trans k3
         have m4 := (hce3 g2 1 l22).trans k4
         have m5 := (hfr3 g2 0 l22).trans k5
         have m6 := (hfr3 g2 1 l22).trans k6
         have Hr3 := Lib.hid hr3
         have Hb3 := Lib.hid hb3
         clear hr3 hb3 hce3 hfr3))
  go_wp2_with fail
  refine bodyPost_ret (v := .agg #[.bool (decide (sgn true (val r) < 0)), .slice A3 (figs (sgn true (val r)).natAbs).length cc3]) (by simp [results, Tryz.results53, go_sem, m3, m4]) rfl ?_
  rw [← D2.out]
  exact gives_set ⟨A3, cc3, rfl, hc3, Hr3.out⟩ ((HBW.out.drew.trans (Hb2.out.mono (Nat.le_of_lt l0))).trans (Hb3.out.mono (Nat.le_of_lt l02))) ((B2.out.drew.on Hb2.out hz3).on Hb3.out l22) (by omega) _ _
set_option maxRecDepth 100000 in
set_option maxHeartbeats 4000000 in
theorem add_diff_false_ge (l m : List Int) (A C : Option Addr) (c d : Nat) (w : World) (hl : dig l) (hm : dig m) (ll : l.length ≤ 200) (lm : m.length ≤ 200) (rl : Reads w w.heap.size A l) (rm : Reads w w.heap.size C m) (hs : lessB l m = false) (hle : val m ≤ val l) :
    Calls Tryz.prog 53 #[.agg #[.bool false, .slice A l.length c], .agg #[.bool true, .slice C m.length d]] w (GivesN (sgn false (val l - val m)) w) := by
  have Hl := Lib.hid hl
  have Hm := Lib.hid hm
  have Rl := Lib.hid rl
  have Rm := Lib.hid rm
  clear hl hm rl rm
  have HLE := Lib.hid hle
  have HS := Lib.hid hs
  clear hle hs
  go_enter Tryz.func53, Tryz.ntmps53
  go_wp2_with fail
  have h3 := three w #[.bool false, .slice A l.length c] #[.bool true, .slice C m.length d] #[.bool false, .slice none 0 0]
  generalize ((w.alloc (Obj.cells #[.bool false, .slice A l.length c] 56)).alloc (Obj.cells #[.bool true, .slice C m.length d] 56)).alloc (Obj.cells #[.bool false, .slice none 0 0] 56) = W at h3 ⊢
  generalize w.heap.size + 1 + 1 = g2 at h3 ⊢
  generalize w.heap.size + 1 = g1 at h3 ⊢
  obtain ⟨b0, b1, b2, hbw, hz1, hz2, hz3⟩ := h3
  have B0 := Lib.hid b0
  have B1 := Lib.hid b1
  have B2 := Lib.hid b2
  have HBW := Lib.hid hbw
  have q0 : W.cell? ⟨w.heap.size, 1, none⟩ = some (.slice A l.length c) := b0.cell 1
  have q1 : W.cell? ⟨g1, 1, none⟩ = some (.slice C m.length d) := b1.cell 1
  have q2 : W.cell? ⟨w.heap.size, 0, none⟩ = some (.bool false) := b0.cell 0
  have q3 : W.cell? ⟨g1, 0, none⟩ = some (.bool true) := b1.cell 0
  clear b0 b1 b2 hbw
  go_wp2_with fail
  refine (less_any l m A C c d _ Hl.out Hm.out (by omega) (by omega) (Rl.out.onto HBW.out) (Rm.out.onto HBW.out)).mono ?_
  rw [HS.out]
  rintro e w1 ⟨rfl, hb1⟩
  have B0 := Lib.hid (B0.out.on hb1 (by omega))
  have B1 := Lib.hid (B1.out.on hb1 (by omega))
  have B2 := Lib.hid (B2.out.on hb1 (by omega))
  have HBW := Lib.hid (HBW.out.trans (hb1.mono HBW.out.size))
  have hz3 : g2 < w1.heap.size := Nat.lt_of_lt_of_le hz3 hb1.size
  clear hb1 q0 q1 q2 q3
  go_wp2_with fail
  have c0 : w1.cell? ⟨w.heap.size, 0, none⟩ = some (.bool false) := B0.out.cell 0
  have c1 : w1.cell? ⟨w.heap.size, 1, none⟩ = some (.slice A l.length c) := B0.out.cell 1
  have c2 : w1.cell? ⟨g1, 1, none⟩ = some (.slice C m.length d) := B1.out.cell 1
  have c3 : w1.cell? ⟨g2, 0, none⟩ = some (.bool false) := B2.out.cell 0
  have c4 : w1.cell? ⟨g2, 1, none⟩ = some (.slice none 0 0) := B2.out.cell 1
  have f3 : w1.frozen? ⟨g2, 0, none⟩ = false := B2.out.free 0
  have f4 : w1.frozen? ⟨g2, 1, none⟩ = false := B2.out.free 1
  have l0 : w.heap.size < w1.heap.size := by omega
  have l1 : g1 < w1.heap.size := by omega
  have n0 : ¬ w.heap.size = g2 := by omega
  have n1 : ¬ g1 = g2 := by omega
  have n2 : ¬ g2 = w.heap.size := by omega
  have n3 : ¬ g2 = g1 := by omega
  go_region_held3 (fun w' => w'.cell? ⟨w.heap.size, 0, none⟩ = some (.bool false) ∧ w'.cell? ⟨w.heap.size, 1, none⟩ = some (.slice A l.length c) ∧ w'.cell? ⟨g1, 1, none⟩ = some (.slice C m.length d))
    (go_keep)
    (first
      | (go_at_call 71; refine (both_minus l m A C c d _ Hl.out Hm.out (by omega) (by omega) HLE.out (Rl.out.onto HBW.out.drew) (Rm.out.onto HBW.out.drew)).mono ?_
         rintro e w2 ⟨A2, r, cc2, rfl, hc2, hr2, ⟨d1, d2, d3⟩, hb2⟩
         have Hr2 := Lib.hid hr2
         have D1 := Lib.hid d1
         have D2 := Lib.hid d2
         have Hb2 := Lib.hid hb2
         have hs2 := hb2.size
         have l02 : w.heap.size < w2.heap.size := Nat.lt_of_lt_of_le l0 hs2
         have l12 : g1 < w2.heap.size := Nat.lt_of_lt_of_le l1 hs2
         have l22 : g2 < w2.heap.size := Nat.lt_of_lt_of_le hz3 hs2
         obtain ⟨hce, hfr⟩ := bcell hb2
         have k0 := (hce w.heap.size 0 l0).trans c0
         have k1 := (hce w.heap.size 1 l0).trans c1
         have k2 := (hce g1 1 l1).trans c2
         have k3 := (hce g2 0 hz3).trans c3
         have k4 := (hce g2 1 hz3).trans c4
         have k5 := (hfr g2 0 hz3).trans f3
         have k6 := (hfr g2 1 hz3).trans f4
         clear hs2 hce hfr hr2 d1 d2 hb2)
      | (go_at_call 52; refine (clean_any false r A2 cc2 _ D1.out (by omega) hc2 Hr2.out).mono ?_
         rintro e w3 ⟨v, rfl, ⟨A3, cc3, rfl, hc3, hr3⟩, hb3⟩
         obtain ⟨hce3, hfr3⟩ := bcell hb3
         have m0 := (hce3 w.heap.size 0 l02).trans k0
         have m1 := (hce3 w.heap.size 1 l02).trans k1
         have m2 := (hce3 g1 1 l12).trans k2
         have m3 := (hce3 g2 0 l22).trans k3
         have m4 := (hce3 g2 1 l22).trans k4
         have m5 := (hfr3 g2 0 l22).trans k5
         have m6 := (hfr3 g2 1 l22).trans k6
         have Hr3 := Lib.hid hr3
         have Hb3 := Lib.hid hb3
         clear hr3 hb3 hce3 hfr3))
  go_wp2_with fail
  refine bodyPost_ret (v := .agg #[.bool (decide (sgn false (val r) < 0)), .slice A3 (figs (sgn false (val r)).natAbs).length cc3]) (by simp [results, Tryz.results53, go_sem, m3, m4]) rfl ?_
  rw [← D2.out]
  exact gives_set ⟨A3, cc3, rfl, hc3, Hr3.out⟩ ((HBW.out.drew.trans (Hb2.out.mono (Nat.le_of_lt l0))).trans (Hb3.out.mono (Nat.le_of_lt l02))) ((B2.out.drew.on Hb2.out hz3).on Hb3.out l22) (by omega) _ _
set_option maxRecDepth 100000 in
set_option maxHeartbeats 4000000 in
theorem add_diff_true_lt (l m : List Int) (A C : Option Addr) (c d : Nat) (w : World) (hl : dig l) (hm : dig m) (ll : l.length ≤ 200) (lm : m.length ≤ 200) (rl : Reads w w.heap.size A l) (rm : Reads w w.heap.size C m) (hs : lessB l m = true) (hle : val l ≤ val m) :
    Calls Tryz.prog 53 #[.agg #[.bool true, .slice A l.length c], .agg #[.bool false, .slice C m.length d]] w (GivesN (sgn false (val m - val l)) w) := by
  have Hl := Lib.hid hl
  have Hm := Lib.hid hm
  have Rl := Lib.hid rl
  have Rm := Lib.hid rm
  clear hl hm rl rm
  have HLE := Lib.hid hle
  have HS := Lib.hid hs
  clear hle hs
  go_enter Tryz.func53, Tryz.ntmps53
  go_wp2_with fail
  have h3 := three w #[.bool true, .slice A l.length c] #[.bool false, .slice C m.length d] #[.bool false, .slice none 0 0]
  generalize ((w.alloc (Obj.cells #[.bool true, .slice A l.length c] 56)).alloc (Obj.cells #[.bool false, .slice C m.length d] 56)).alloc (Obj.cells #[.bool false, .slice none 0 0] 56) = W at h3 ⊢
  generalize w.heap.size + 1 + 1 = g2 at h3 ⊢
  generalize w.heap.size + 1 = g1 at h3 ⊢
  obtain ⟨b0, b1, b2, hbw, hz1, hz2, hz3⟩ := h3
  have B0 := Lib.hid b0
  have B1 := Lib.hid b1
  have B2 := Lib.hid b2
  have HBW := Lib.hid hbw
  have q0 : W.cell? ⟨w.heap.size, 1, none⟩ = some (.slice A l.length c) := b0.cell 1
  have q1 : W.cell? ⟨g1, 1, none⟩ = some (.slice C m.length d) := b1.cell 1
  have q2 : W.cell? ⟨w.heap.size, 0, none⟩ = some (.bool true) := b0.cell 0
  have q3 : W.cell? ⟨g1, 0, none⟩ = some (.bool false) := b1.cell 0
  clear b0 b1 b2 hbw
  go_wp2_with fail
  refine (less_any l m A C c d _ Hl.out Hm.out (by omega) (by omega) (Rl.out.onto HBW.out) (Rm.out.onto HBW.out)).mono ?_
  rw [HS.out]
  rintro e w1 ⟨rfl, hb1⟩
  have B0 := Lib.hid (B0.out.on hb1 (by omega))
  have B1 := Lib.hid (B1.out.on hb1 (by omega))
  have B2 := Lib.hid (B2.out.on hb1 (by omega))
  have HBW := Lib.hid (HBW.out.trans (hb1.mono HBW.out.size))
  have hz3 : g2 < w1.heap.size := Nat.lt_of_lt_of_le hz3 hb1.size
  clear hb1 q0 q1 q2 q3
  go_wp2_with fail
  have c0 : w1.cell? ⟨g1, 0, none⟩ = some (.bool false) := B1.out.cell 0
  have c1 : w1.cell? ⟨w.heap.size, 1, none⟩ = some (.slice A l.length c) := B0.out.cell 1
  have c2 : w1.cell? ⟨g1, 1, none⟩ = some (.slice C m.length d) := B1.out.cell 1
  have c3 : w1.cell? ⟨g2, 0, none⟩ = some (.bool false) := B2.out.cell 0
  have c4 : w1.cell? ⟨g2, 1, none⟩ = some (.slice none 0 0) := B2.out.cell 1
  have f3 : w1.frozen? ⟨g2, 0, none⟩ = false := B2.out.free 0
  have f4 : w1.frozen? ⟨g2, 1, none⟩ = false := B2.out.free 1
  have l0 : w.heap.size < w1.heap.size := by omega
  have l1 : g1 < w1.heap.size := by omega
  have n0 : ¬ w.heap.size = g2 := by omega
  have n1 : ¬ g1 = g2 := by omega
  have n2 : ¬ g2 = w.heap.size := by omega
  have n3 : ¬ g2 = g1 := by omega
  go_region_held3 (fun w' => w'.cell? ⟨g1, 0, none⟩ = some (.bool false) ∧ w'.cell? ⟨w.heap.size, 1, none⟩ = some (.slice A l.length c) ∧ w'.cell? ⟨g1, 1, none⟩ = some (.slice C m.length d))
    (go_keep)
    (first
      | (go_at_call 71; refine (both_minus m l C A d c _ Hm.out Hl.out (by omega) (by omega) HLE.out (Rm.out.onto HBW.out.drew) (Rl.out.onto HBW.out.drew)).mono ?_
         rintro e w2 ⟨A2, r, cc2, rfl, hc2, hr2, ⟨d1, d2, d3⟩, hb2⟩
         have Hr2 := Lib.hid hr2
         have D1 := Lib.hid d1
         have D2 := Lib.hid d2
         have Hb2 := Lib.hid hb2
         have hs2 := hb2.size
         have l02 : w.heap.size < w2.heap.size := Nat.lt_of_lt_of_le l0 hs2
         have l12 : g1 < w2.heap.size := Nat.lt_of_lt_of_le l1 hs2
         have l22 : g2 < w2.heap.size := Nat.lt_of_lt_of_le hz3 hs2
         obtain ⟨hce, hfr⟩ := bcell hb2
         have k0 := (hce g1 0 l1).trans c0
         have k1 := (hce w.heap.size 1 l0).trans c1
         have k2 := (hce g1 1 l1).trans c2
         have k3 := (hce g2 0 hz3).trans c3
         have k4 := (hce g2 1 hz3).trans c4
         have k5 := (hfr g2 0 hz3).trans f3
         have k6 := (hfr g2 1 hz3).trans f4
         clear hs2 hce hfr hr2 d1 d2 hb2)
      | (go_at_call 52; refine (clean_any false r A2 cc2 _ D1.out (by omega) hc2 Hr2.out).mono ?_
         rintro e w3 ⟨v, rfl, ⟨A3, cc3, rfl, hc3, hr3⟩, hb3⟩
         obtain ⟨hce3, hfr3⟩ := bcell hb3
         have m0 := (hce3 g1 0 l12).trans k0
         have m1 := (hce3 w.heap.size 1 l02).trans k1
         have m2 := (hce3 g1 1 l12).trans k2
         have m3 := (hce3 g2 0 l22).trans k3
         have m4 := (hce3 g2 1 l22).trans k4
         have m5 := (hfr3 g2 0 l22).trans k5
         have m6 := (hfr3 g2 1 l22).trans k6
         have Hr3 := Lib.hid hr3
         have Hb3 := Lib.hid hb3
         clear hr3 hb3 hce3 hfr3))
  go_wp2_with fail
  refine bodyPost_ret (v := .agg #[.bool (decide (sgn false (val r) < 0)), .slice A3 (figs (sgn false (val r)).natAbs).length cc3]) (by simp [results, Tryz.results53, go_sem, m3, m4]) rfl ?_
  rw [← D2.out]
  exact gives_set ⟨A3, cc3, rfl, hc3, Hr3.out⟩ ((HBW.out.drew.trans (Hb2.out.mono (Nat.le_of_lt l0))).trans (Hb3.out.mono (Nat.le_of_lt l02))) ((B2.out.drew.on Hb2.out hz3).on Hb3.out l22) (by omega) _ _
set_option maxRecDepth 100000 in
set_option maxHeartbeats 4000000 in
theorem add_diff_true_ge (l m : List Int) (A C : Option Addr) (c d : Nat) (w : World) (hl : dig l) (hm : dig m) (ll : l.length ≤ 200) (lm : m.length ≤ 200) (rl : Reads w w.heap.size A l) (rm : Reads w w.heap.size C m) (hs : lessB l m = false) (hle : val m ≤ val l) :
    Calls Tryz.prog 53 #[.agg #[.bool true, .slice A l.length c], .agg #[.bool false, .slice C m.length d]] w (GivesN (sgn true (val l - val m)) w) := by
  have Hl := Lib.hid hl
  have Hm := Lib.hid hm
  have Rl := Lib.hid rl
  have Rm := Lib.hid rm
  clear hl hm rl rm
  have HLE := Lib.hid hle
  have HS := Lib.hid hs
  clear hle hs
  go_enter Tryz.func53, Tryz.ntmps53
  go_wp2_with fail
  have h3 := three w #[.bool true, .slice A l.length c] #[.bool false, .slice C m.length d] #[.bool false, .slice none 0 0]
  generalize ((w.alloc (Obj.cells #[.bool true, .slice A l.length c] 56)).alloc (Obj.cells #[.bool false, .slice C m.length d] 56)).alloc (Obj.cells #[.bool false, .slice none 0 0] 56) = W at h3 ⊢
  generalize w.heap.size + 1 + 1 = g2 at h3 ⊢
  generalize w.heap.size + 1 = g1 at h3 ⊢
  obtain ⟨b0, b1, b2, hbw, hz1, hz2, hz3⟩ := h3
  have B0 := Lib.hid b0
  have B1 := Lib.hid b1
  have B2 := Lib.hid b2
  have HBW := Lib.hid hbw
  have q0 : W.cell? ⟨w.heap.size, 1, none⟩ = some (.slice A l.length c) := b0.cell 1
  have q1 : W.cell? ⟨g1, 1, none⟩ = some (.slice C m.length d) := b1.cell 1
  have q2 : W.cell? ⟨w.heap.size, 0, none⟩ = some (.bool true) := b0.cell 0
  have q3 : W.cell? ⟨g1, 0, none⟩ = some (.bool false) := b1.cell 0
  clear b0 b1 b2 hbw
  go_wp2_with fail
  refine (less_any l m A C c d _ Hl.out Hm.out (by omega) (by omega) (Rl.out.onto HBW.out) (Rm.out.onto HBW.out)).mono ?_
  rw [HS.out]
  rintro e w1 ⟨rfl, hb1⟩
  have B0 := Lib.hid (B0.out.on hb1 (by omega))
  have B1 := Lib.hid (B1.out.on hb1 (by omega))
  have B2 := Lib.hid (B2.out.on hb1 (by omega))
  have HBW := Lib.hid (HBW.out.trans (hb1.mono HBW.out.size))
  have hz3 : g2 < w1.heap.size := Nat.lt_of_lt_of_le hz3 hb1.size
  clear hb1 q0 q1 q2 q3
  go_wp2_with fail
  have c0 : w1.cell? ⟨w.heap.size, 0, none⟩ = some (.bool true) := B0.out.cell 0
  have c1 : w1.cell? ⟨w.heap.size, 1, none⟩ = some (.slice A l.length c) := B0.out.cell 1
  have c2 : w1.cell? ⟨g1, 1, none⟩ = some (.slice C m.length d) := B1.out.cell 1
  have c3 : w1.cell? ⟨g2, 0, none⟩ = some (.bool false) := B2.out.cell 0
  have c4 : w1.cell? ⟨g2, 1, none⟩ = some (.slice none 0 0) := B2.out.cell 1
  have f3 : w1.frozen? ⟨g2, 0, none⟩ = false := B2.out.free 0
  have f4 : w1.frozen? ⟨g2, 1, none⟩ = false := B2.out.free 1
  have l0 : w.heap.size < w1.heap.size := by omega
  have l1 : g1 < w1.heap.size := by omega
  have n0 : ¬ w.heap.size = g2 := by omega
  have n1 : ¬ g1 = g2 := by omega
  have n2 : ¬ g2 = w.heap.size := by omega
  have n3 : ¬ g2 = g1 := by omega
  go_region_held3 (fun w' => w'.cell? ⟨w.heap.size, 0, none⟩ = some (.bool true) ∧ w'.cell? ⟨w.heap.size, 1, none⟩ = some (.slice A l.length c) ∧ w'.cell? ⟨g1, 1, none⟩ = some (.slice C m.length d))
    (go_keep)
    (first
      | (go_at_call 71; refine (both_minus l m A C c d _ Hl.out Hm.out (by omega) (by omega) HLE.out (Rl.out.onto HBW.out.drew) (Rm.out.onto HBW.out.drew)).mono ?_
         rintro e w2 ⟨A2, r, cc2, rfl, hc2, hr2, ⟨d1, d2, d3⟩, hb2⟩
         have Hr2 := Lib.hid hr2
         have D1 := Lib.hid d1
         have D2 := Lib.hid d2
         have Hb2 := Lib.hid hb2
         have hs2 := hb2.size
         have l02 : w.heap.size < w2.heap.size := Nat.lt_of_lt_of_le l0 hs2
         have l12 : g1 < w2.heap.size := Nat.lt_of_lt_of_le l1 hs2
         have l22 : g2 < w2.heap.size := Nat.lt_of_lt_of_le hz3 hs2
         obtain ⟨hce, hfr⟩ := bcell hb2
         have k0 := (hce w.heap.size 0 l0).trans c0
         have k1 := (hce w.heap.size 1 l0).trans c1
         have k2 := (hce g1 1 l1).trans c2
         have k3 := (hce g2 0 hz3).trans c3
         have k4 := (hce g2 1 hz3).trans c4
         have k5 := (hfr g2 0 hz3).trans f3
         have k6 := (hfr g2 1 hz3).trans f4
         clear hs2 hce hfr hr2 d1 d2 hb2)
      | (go_at_call 52; refine (clean_any true r A2 cc2 _ D1.out (by omega) hc2 Hr2.out).mono ?_
         rintro e w3 ⟨v, rfl, ⟨A3, cc3, rfl, hc3, hr3⟩, hb3⟩
         obtain ⟨hce3, hfr3⟩ := bcell hb3
         have m0 := (hce3 w.heap.size 0 l02).trans k0
         have m1 := (hce3 w.heap.size 1 l02).trans k1
         have m2 := (hce3 g1 1 l12).trans k2
         have m3 := (hce3 g2 0 l22).trans k3
         have m4 := (hce3 g2 1 l22).trans k4
         have m5 := (hfr3 g2 0 l22).trans k5
         have m6 := (hfr3 g2 1 l22).trans k6
         have Hr3 := Lib.hid hr3
         have Hb3 := Lib.hid hb3
         clear hr3 hb3 hce3 hfr3))
  go_wp2_with fail
  refine bodyPost_ret (v := .agg #[.bool (decide (sgn true (val r) < 0)), .slice A3 (figs (sgn true (val r)).natAbs).length cc3]) (by simp [results, Tryz.results53, go_sem, m3, m4]) rfl ?_
  rw [← D2.out]
  exact gives_set ⟨A3, cc3, rfl, hc3, Hr3.out⟩ ((HBW.out.drew.trans (Hb2.out.mono (Nat.le_of_lt l0))).trans (Hb3.out.mono (Nat.le_of_lt l02))) ((B2.out.drew.on Hb2.out hz3).on Hb3.out l22) (by omega) _ _
end Go.Proofs.YtnenipgpncomeaaGreatDoor.W2
