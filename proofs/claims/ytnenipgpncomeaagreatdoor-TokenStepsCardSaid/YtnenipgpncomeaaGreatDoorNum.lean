/- Contracts of the reference's Add, Neg, Less, Same. -/
import Derived.Test.YtnenipgpncomeaaGreatDoorAdd
namespace Go.Proofs.YtnenipgpncomeaaGreatDoor.W2
open Go.RowKit
open Fg
attribute [local go_sem ↓] Go.wp_at_zero Go.wp_at_succ

theorem add_any (x y : Value) (a b : Int) (w : World) (hx : Nz w w.heap.size x a) (hy : Nz w w.heap.size y b) (ha : Sm 200 a) (hb : Sm 200 b) :
    Calls Tryz.prog 53 #[x, y] w (GivesN (a + b) w) := by
  obtain ⟨l, A, c, rfl, hc, hl2, hr, hd, hv, hf⟩ := nz_open hx ha
  obtain ⟨m, C, d, rfl, hc', hm2, hr', hd', hv', hf'⟩ := nz_open hy hb
  have hs := lessB_figs a.natAbs b.natAbs
  rw [← hf, ← hf'] at hs
  by_cases h1 : a < 0
  · rw [decide_eq_true h1]
    by_cases h2 : b < 0
    · rw [decide_eq_true h2]
      have e : a + b = sgn true (val l + val m) := by rw [sgn_true]; omega
      rw [e]; exact add_same_true l m A C c d w hd hd' hl2 hm2 hr hr'
    · rw [decide_eq_false h2]
      by_cases h3 : a.natAbs < b.natAbs
      · have e : a + b = sgn false (val m - val l) := by rw [sgn_false]; omega
        rw [decide_eq_true h3] at hs
        rw [e]; exact add_diff_true_lt l m A C c d w hd hd' hl2 hm2 hr hr' hs (by omega)
      · have e : a + b = sgn true (val l - val m) := by rw [sgn_true]; omega
        rw [decide_eq_false h3] at hs
        rw [e]; exact add_diff_true_ge l m A C c d w hd hd' hl2 hm2 hr hr' hs (by omega)
  · rw [decide_eq_false h1]
    by_cases h2 : b < 0
    · rw [decide_eq_true h2]
      by_cases h3 : a.natAbs < b.natAbs
      · have e : a + b = sgn true (val m - val l) := by rw [sgn_true]; omega
        rw [decide_eq_true h3] at hs
        rw [e]; exact add_diff_false_lt l m A C c d w hd hd' hl2 hm2 hr hr' hs (by omega)
      · have e : a + b = sgn false (val l - val m) := by rw [sgn_false]; omega
        rw [decide_eq_false h3] at hs
        rw [e]; exact add_diff_false_ge l m A C c d w hd hd' hl2 hm2 hr hr' hs (by omega)
    · rw [decide_eq_false h2]
      have e : a + b = sgn false (val l + val m) := by rw [sgn_false]; omega
      rw [e]; exact add_same_false l m A C c d w hd hd' hl2 hm2 hr hr'

/-- two new blocks, under names -/
def Two (w W : World) (g1 : Nat) (a b : Array Value) : Prop :=
  Blk W w.heap.size 56 a ∧ Blk W g1 56 b ∧ Below w.heap.size w W ∧ w.heap.size < g1 ∧ g1 < W.heap.size
theorem two (w : World) (a b : Array Value) : Two w ((w.alloc (Obj.cells a 56)).alloc (Obj.cells b 56)) (w.heap.size + 1) a b := by
  have h1 : (w.alloc (Obj.cells a 56)).heap.size = w.heap.size + 1 := by simp
  refine ⟨(Blk.new w _ _).alloc _, ?_, ((Below.refl _ _).alloc (Nat.le_refl _) _).alloc (by simp) _, by omega, by simp⟩
  rw [← h1]; exact Blk.new _ _ _
theorem nz_of {z : Int} {w W : World} {e : Ending} (h : GivesN z w e W) : ∃ b A n c, e = .returned (.agg #[.bool b, .slice A n c]) ∧ Nz W W.heap.size (.agg #[.bool b, .slice A n c]) z ∧ Below w.heap.size w W ∧ Hid (b = decide (z < 0)) := by
  obtain ⟨v, rfl, ⟨A, c, rfl, hc, hr⟩, hb⟩ := h
  exact ⟨_, A, _, c, rfl, ⟨A, c, rfl, hc, hr⟩, hb, Lib.hid rfl⟩

set_option maxRecDepth 100000 in
set_option maxHeartbeats 2000000 in
theorem neg_s (sa : Bool) (l : List Int) (A : Option Addr) (c : Nat) (w : World) (hd : dig l) (ll : l.length ≤ 200) (hc : l.length ≤ c) (hr : Reads w w.heap.size A l) :
    Calls Tryz.prog 35 #[.agg #[.bool sa, .slice A l.length c]] w (GivesN (sgn (!sa) (val l)) w) := by
  have Hd := Lib.hid hd
  have Hr := Lib.hid hr
  clear hd hr
  go_enter Tryz.func35, Tryz.ntmps35
  go_wp2_with fail
  have h3 := two w #[.bool sa, .slice A l.length c] #[.bool false, .slice none 0 0]
  generalize (w.alloc (Obj.cells #[.bool sa, .slice A l.length c] 56)).alloc (Obj.cells #[.bool false, .slice none 0 0] 56) = W at h3 ⊢
  generalize w.heap.size + 1 = g1 at h3 ⊢
  obtain ⟨b0, b1, hbw, hz1, hz2⟩ := h3
  have B1 := Lib.hid b1
  have HBW := Lib.hid hbw
  clear b0 b1 hbw
  refine (clean_any (!sa) l A c _ Hd.out (by omega) hc (Hr.out.onto HBW.out)).mono ?_
  rintro e w3 h
  obtain ⟨b, A3, n3, c3, rfl, hn3, hb3, _⟩ := nz_of h
  have B3 := Lib.hid (B1.out.on hb3 hz2)
  have c0 : w3.cell? ⟨g1, 0, none⟩ = some (.bool false) := B3.out.cell 0
  have c1 : w3.cell? ⟨g1, 1, none⟩ = some (.slice none 0 0) := B3.out.cell 1
  have f0 : w3.frozen? ⟨g1, 0, none⟩ = false := B3.out.free 0
  have f1 : w3.frozen? ⟨g1, 1, none⟩ = false := B3.out.free 1
  have Hb3 := Lib.hid (HBW.out.trans (hb3.mono HBW.out.size))
  have Hn3 := Lib.hid hn3
  clear h hn3 hb3
  go_wp2_with fail
  refine bodyPost_ret (v := .agg #[.bool b, .slice A3 n3 c3]) (by simp [results, Tryz.results35, go_sem, c0, c1]) rfl ?_
  exact gives_set Hn3.out Hb3.out B3.out (by omega) _ _
theorem neg_any (x : Value) (a : Int) (w : World) (hx : Nz w w.heap.size x a) (ha : Sm 200 a) : Calls Tryz.prog 35 #[x] w (GivesN (-a) w) := by
  obtain ⟨l, A, c, rfl, hc, hl2, hr, hd, hv, hf⟩ := nz_open hx ha
  have e : -a = sgn (!decide (a < 0)) (val l) := by
    by_cases h : a < 0
    · rw [decide_eq_true h, Bool.not_true, sgn_false]; omega
    · rw [decide_eq_false h, Bool.not_false, sgn_true]; omega
  rw [e]
  exact neg_s _ l A c w hd hl2 hc hr

/-- two structs as they lie in the blocks H and g, and the world W stands below -/
def Pair2 (W : World) (H g : Nat) (sa sb : Bool) (x y : Value) (V : World) : Prop :=
  V.cell? ⟨H, 0, none⟩ = some (.bool sa) ∧ V.cell? ⟨H, 1, none⟩ = some x ∧ V.cell? ⟨g, 0, none⟩ = some (.bool sb) ∧ V.cell? ⟨g, 1, none⟩ = some y ∧ Below W.heap.size W V
theorem pair2 {W V : World} {H g : Nat} {sa sb : Bool} {x y : Value} (h0 : Blk W H 56 #[.bool sa, x]) (h1 : Blk W g 56 #[.bool sb, y]) (hb : Below W.heap.size W V) : Pair2 W H g sa sb x y V :=
  ⟨(hb.cell (p := ⟨H, 0, none⟩) h0.lt).trans (h0.cell 0), (hb.cell (p := ⟨H, 1, none⟩) h0.lt).trans (h0.cell 1), (hb.cell (p := ⟨g, 0, none⟩) h1.lt).trans (h1.cell 0), (hb.cell (p := ⟨g, 1, none⟩) h1.lt).trans (h1.cell 1), hb⟩

set_option maxRecDepth 100000 in
set_option maxHeartbeats 4000000 in
theorem less2_any (x y : Value) (a b : Int) (w : World) (hx : Nz w w.heap.size x a) (hy : Nz w w.heap.size y b) (ha : Sm 100 a) (hb : Sm 100 b) :
    Calls Tryz.prog 56 #[x, y] w fun e w' => e = .returned (.bool (decide (a < b))) ∧ Below w.heap.size w w' := by
  have Hx := Lib.hid hx
  have Hy := Lib.hid hy
  obtain ⟨l, A, c, rfl, hc, hl2, hr, hd, hv, hf⟩ := nz_open hx (ha.mono (by decide))
  obtain ⟨m, C, d, rfl, hc', hm2, hr', hd', hv', hf'⟩ := nz_open hy (hb.mono (by decide))
  have Ha := Lib.hid ha
  have Hb := Lib.hid hb
  clear hx hy hc hl2 hr hd hv hf hc' hm2 hr' hd' hv' hf' ha hb
  have Hz := Lib.hid (show decide (a + -b < 0) = decide (a < b) from by rw [Bool.eq_iff_iff]; simp; omega)
  generalize decide (a < 0) = sa at *
  generalize decide (b < 0) = sb at *
  go_enter Tryz.func56, Tryz.ntmps56
  go_wp2_with fail
  have h3 := two w #[.bool sa, .slice A l.length c] #[.bool sb, .slice C m.length d]
  generalize (w.alloc (Obj.cells #[.bool sa, .slice A l.length c] 56)).alloc (Obj.cells #[.bool sb, .slice C m.length d] 56) = W at h3 ⊢
  generalize w.heap.size + 1 = g1 at h3 ⊢
  obtain ⟨b0, b1, hbw, hz1, hz2⟩ := h3
  have B0 := Lib.hid b0
  have B1 := Lib.hid b1
  have HBW := Lib.hid hbw
  clear b0 b1 hbw
  have l0 : w.heap.size < W.heap.size := by omega
  go_region_held3 (fun w' => w'.cell? ⟨w.heap.size, 0, none⟩ = some (.bool sa) ∧ w'.cell? ⟨w.heap.size, 1, none⟩ = some (.slice A l.length c) ∧ w'.cell? ⟨g1, 0, none⟩ = some (.bool sb) ∧ w'.cell? ⟨g1, 1, none⟩ = some (.slice C m.length d) ∧ Below W.heap.size W w')
    (first
      | exact pair2 B0.out B1.out (Below.refl _ _).drew
      | exact pair2 B0.out B1.out HV.out
      | exact pair2 B0.out B1.out (HV.out.alloc HV.out.size _)
      | exact pair2 B0.out B1.out (‹_ ∧ _ ∧ _ ∧ _ ∧ Below _ _ _›.2.2.2.2.alloc ‹_ ∧ _ ∧ _ ∧ _ ∧ Below _ _ _›.2.2.2.2.size _)
      | exact pair2 B0.out B1.out ((‹_ ∧ _ ∧ _ ∧ _ ∧ Below _ _ _›.2.2.2.2.setCell (by simp <;> omega) _).setCell (by simp <;> omega) _))
    (first
      | (go_at_call 35
         have HB1 := Lib.hid (‹_ ∧ _ ∧ _ ∧ _ ∧ Below W.heap.size W _›.2.2.2.2)
         refine (neg_any _ b _ (Hy.out.on (HBW.out.trans (HB1.out.mono (Nat.le_of_lt l0)))) (Hb.out.mono (by decide))).mono ?_
         rintro e w2 h2
         obtain ⟨b2, A2, n2, d2, rfl, hn2, hb2, _⟩ := nz_of h2
         have HV := Lib.hid (HB1.out.trans (hb2.mono HB1.out.size))
         have Hn2 := Lib.hid hn2
         have l2 : W.heap.size ≤ w2.heap.size := HV.out.size
         try (have y : Blk w2 W.heap.size 56 #[.bool false, .slice none 0 0] := (Blk.new W.drew 56 #[.bool false, .slice none 0 0]).on hb2 (by simp); have y0 : w2.cell? ⟨W.heap.size, 0, none⟩ = some (.bool false) := y.cell 0; have y1 : w2.cell? ⟨W.heap.size, 1, none⟩ = some (.slice none 0 0) := y.cell 1; have y2 := y.free 0; have y3 := y.free 1; have y4 := Lib.hid y; clear y)
         clear h2 hn2 hb2)
      | (go_at_call 53
         have HB2 := Lib.hid (‹_ ∧ _ ∧ _ ∧ _ ∧ Below W.heap.size W _›.2.2.2.2)
         refine (add_any _ _ a (-b) _ (Hx.out.on (HBW.out.trans (HB2.out.mono (Nat.le_of_lt l0)))) (by first | exact Hn2.out | exact Hn2.out.on ((Below.refl _ _).alloc (Nat.le_refl _) _)) (Ha.out.mono (by decide)) ((Hb.out.mono (by decide)).neg)).mono ?_
         rintro e w3 h2
         obtain ⟨b3, A3, n3, d3, rfl, hn3, hb3, hs3⟩ := nz_of h2
         have HV := Lib.hid (HB2.out.trans (hb3.mono HB2.out.size))
         have l3 : W.heap.size ≤ w3.heap.size := HV.out.size
         try (have z : Blk w3 w2.heap.size 56 #[.bool false, .slice none 0 0] := (Blk.new w2 56 #[.bool false, .slice none 0 0]).on hb3 (by simp); have z0 : w3.cell? ⟨_, 0, none⟩ = some (.bool false) := z.cell 0; have z1 : w3.cell? ⟨_, 1, none⟩ = some (.slice none 0 0) := z.cell 1; have z2 := z.free 0; have z3 := z.free 1; have z4 := Lib.hid z; clear z)
         try (have z : Blk w3 W.heap.size 56 #[.bool false, .slice none 0 0] := y4.out.on hb3 (by show W.heap.size < w2.heap.size; exact y4.out.lt); have z0 : w3.cell? ⟨_, 0, none⟩ = some (.bool false) := z.cell 0; have z1 : w3.cell? ⟨_, 1, none⟩ = some (.slice none 0 0) := z.cell 1; have z2 := z.free 0; have z3 := z.free 1; have z4 := Lib.hid z; clear z)
         clear h2 hn3 hb3))
  all_goals
    have HE := Lib.hid (HBW.out.trans (‹_ ∧ _ ∧ _ ∧ _ ∧ Below W.heap.size W _›.2.2.2.2.mono (Nat.le_of_lt l0)))
    go_wp2_with fail
    go_ret
    exact ⟨ret_bool (by rw [hs3.out]; exact Hz.out), HE.out⟩
end Go.Proofs.YtnenipgpncomeaaGreatDoor.W2
