/- Contract of the reference's Mul. -/
import Derived.Test.YteoaapjejhjknaaDoorFits
import Derived.Deep.OwnRows
import Derived.Laws.OwnMore
namespace Go.Proofs.YteoaapjejhjknaaDoor
open Go.RowKit
open Fg
attribute [local go_sem ↓] Go.wp_at_zero Go.wp_at_succ

/-- four new blocks, under names -/
def Four (w W : World) (g1 g2 g3 : Nat) (a b c d : Array Value) : Prop :=
  Blk W w.heap.size 28 a ∧ Blk W g1 28 b ∧ Blk W g2 28 c ∧ Blk W g3 28 d ∧ Below w.heap.size w W ∧ w.heap.size < g1 ∧ g1 < g2 ∧ g2 < g3 ∧ g3 < W.heap.size
theorem four (w : World) (a b c d : Array Value) : Four w ((((w.alloc (Obj.cells a 28)).alloc (Obj.cells b 28)).alloc (Obj.cells c 28)).alloc (Obj.cells d 28)) (w.heap.size + 1) (w.heap.size + 1 + 1) (w.heap.size + 1 + 1 + 1) a b c d := by
  obtain ⟨h0, h1, h2, hb, z1, z2, z3⟩ := three w a b c
  have hs : (((w.alloc (Obj.cells a 28)).alloc (Obj.cells b 28)).alloc (Obj.cells c 28)).heap.size = w.heap.size + 1 + 1 + 1 := by simp
  refine ⟨h0.alloc _, h1.alloc _, h2.alloc _, ?_, hb.alloc hb.size _, by omega, by omega, by omega, by simp⟩
  rw [← hs]; exact Blk.new _ _ _

theorem own_zeros (w : World) (i : Nat) (hi : i ≤ 100000) : (w.alloc (.cells (madeCells #[.int .i64 0] i) 3)).ownsRow w.heap.size 3 1 (.slice (some ⟨w.heap.size, 0, none⟩) i i) i ((List.replicate i 0).map (Value.int .i64)) := by
  refine ⟨by simp, .inr ⟨w.heap.size, i, _, rfl, Nat.le_refl _, heap_alloc_new w _, Nat.le_refl _, by unfold maxLen; omega, by rw [size_madeCells, Nat.mul_one], ?_⟩⟩
  rw [toList_madeCells_one, Nat.mul_one, List.take_of_length_le (by simp)]
  simp

/-- a row behind k rounds: the number l, as far as it has come, times q, shifted by i figures; o goes over -/
def RowAt (l : List Int) (q : Int) (i : Nat) (R : List Int) (k : Nat) (o : Int) : Prop :=
  R.length = i + k ∧ dig R ∧ val R + 10000 ^ (i + k) * o = 10000 ^ i * (q * val (l.take k)) ∧ 0 ≤ o ∧ o < 10000
theorem RowAt.zero (l : List Int) (q : Int) (i : Nat) : RowAt l q i (List.replicate i 0) 0 0 :=
  ⟨by simp, dig_zeros i, by simp [val_zeros, val], by decide, by decide⟩
theorem RowAt.succ {l R : List Int} {q o : Int} {i k : Nat} (h : RowAt l q i R k o) (f : Int) (hf : f = l.getD k 0 * q + o) (h0 : 0 ≤ f) (h1 : f < 100000000) : RowAt l q i (R ++ [f % 10000]) (k + 1) (f / 10000) := by
  obtain ⟨a, b, c, d, e⟩ := h
  refine ⟨by rw [List.length_append, a]; rfl, dig_append b (dig_one (by omega) (by omega)), ?_, by omega, by omega⟩
  rw [take_step, val_append, a, val, val, show i + (k + 1) = i + k + 1 by omega, Int.pow_succ, Int.mul_assoc (10000 ^ (i + k)) 10000]
  have h2 : (10000 : Int) ^ (i + k) * (f % 10000 + 10000 * (f / 10000)) = 10000 ^ (i + k) * (l.getD k 0 * q + o) := by rw [← hf]; congr 1; omega
  rw [Int.mul_add, Int.mul_add] at h2
  have h3 : (10000 : Int) ^ i * (q * (val (l.take k) + 10000 ^ k * l.getD k 0)) = 10000 ^ i * (q * val (l.take k)) + 10000 ^ (i + k) * (l.getD k 0 * q) := by
    rw [Int.mul_add q, Int.mul_add, Int.pow_add, Int.mul_assoc]
    congr 2
    rw [Int.mul_left_comm, Int.mul_comm q]
  rw [h3, Int.mul_zero, Int.add_zero]
  omega
theorem RowAt.done {l R : List Int} {q o : Int} {i k : Nat} (h : RowAt l q i R k o) (hk : ¬ k < l.length) : (R ++ [o]).length = i + k + 1 ∧ dig (R ++ [o]) ∧ val (R ++ [o]) = 10000 ^ i * (q * val l) := by
  obtain ⟨a, b, c, d, e⟩ := h
  refine ⟨by rw [List.length_append, a]; rfl, dig_append b (dig_one d e), ?_⟩
  rw [val_append, a, val, val]
  rw [List.take_of_length_le (by omega)] at c
  rw [Int.mul_zero, Int.add_zero]
  exact c
theorem mul_next (l m : List Int) (i : Nat) : val l * val (m.take i) + 10000 ^ i * (m.getD i 0 * val l) = val l * val (m.take (i + 1)) := by
  rw [take_step, Int.mul_add]
  congr 1
  rw [Int.mul_left_comm (val l), Int.mul_comm (val l)]
theorem nz_zero (w : World) : Nz w w.heap.size (.agg #[.bool false, .slice none 0 0]) 0 :=
  ⟨none, 0, by rw [Int.natAbs_zero, figs_zero]; rfl, by rw [Int.natAbs_zero, figs_zero]; exact Nat.le_refl _, by rw [Int.natAbs_zero, figs_zero]; exact fun h => absurd rfl h⟩
theorem sm_val {l : List Int} (h : dig l) {k : Nat} (hk : l.length ≤ k) : Sm k (val l) := by
  have h1 := val_bd h
  have h2 : val l < ((10000 ^ l.length : Nat) : Int) := by rw [Int.natCast_pow]; exact h1.2
  have h3 : 10000 ^ l.length ≤ 10000 ^ k := Nat.pow_le_pow_right (by decide) hk
  unfold Sm
  omega

set_option maxRecDepth 100000 in
set_option maxHeartbeats 8000000 in
theorem mul_s (sa sb : Bool) (l m : List Int) (A C : Option Addr) (c d : Nat) (w : World) (hl : dig l) (hm : dig m) (ll : l.length ≤ 40) (lm : m.length ≤ 40) (rl : Reads w w.heap.size A l) (rm : Reads w w.heap.size C m) :
    Calls Tryd.prog 27 #[.agg #[.bool sa, .slice A l.length c], .agg #[.bool sb, .slice C m.length d]] w (GivesN (sgn (sa != sb) (val l * val m)) w) := by
  have Hl := Lib.hid hl
  have Hm := Lib.hid hm
  have Rl := Lib.hid rl
  have Rm := Lib.hid rm
  clear hl hm rl rm
  go_enter Tryd.func27, Tryd.ntmps27
  go_wp2_with fail
  have h4 := four w #[.bool sa, .slice A l.length c] #[.bool sb, .slice C m.length d] #[.bool false, .slice none 0 0] #[.bool false, .slice none 0 0]
  generalize (((w.alloc (Obj.cells #[.bool sa, .slice A l.length c] 28)).alloc (Obj.cells #[.bool sb, .slice C m.length d] 28)).alloc (Obj.cells #[.bool false, .slice none 0 0] 28)).alloc (Obj.cells #[.bool false, .slice none 0 0] 28) = W at h4 ⊢
  generalize w.heap.size + 1 + 1 + 1 = g3 at h4 ⊢
  generalize w.heap.size + 1 + 1 = g2 at h4 ⊢
  generalize w.heap.size + 1 = g1 at h4 ⊢
  obtain ⟨b0, b1, b2, b3, hbw, hz1, hz2, hz3, hz4⟩ := h4
  have B0 := Lib.hid b0
  have B1 := Lib.hid b1
  have B2 := Lib.hid b2
  have B3 := Lib.hid b3
  have HBW := Lib.hid hbw
  clear b0 b1 b2 b3 hbw
  go_loopw [6, 7, 8, 9, 10, 15] (fun _ _ _ _ _ iv wr => ∃ (i : Nat) (b : Bool) (A' : Option Addr) (n' c' : Nat), i ≤ m.length ∧ iv = .int .i64 i ∧ Blk wr w.heap.size 28 #[.bool sa, .slice A l.length c] ∧ Blk wr g1 28 #[.bool sb, .slice C m.length d] ∧ Blk wr g2 28 #[.bool false, .slice none 0 0] ∧ Blk wr g3 28 #[.bool b, .slice A' n' c'] ∧ Nz wr wr.heap.size (.agg #[.bool b, .slice A' n' c']) (val l * val (m.take i)) ∧ Below w.heap.size w wr) (fun _ _ _ _ _ i _ => m.length - (intOf i).toNat)
  case atStart => exact ⟨0, false, none, 0, 0, Nat.zero_le _, rfl, B0.out, B1.out, B2.out, B3.out, by simpa [val] using nz_zero W, HBW.out⟩
  case round =>
    obtain ⟨i, b, A', n', c', hi, rfl, k0, k1, k2, k3, kn, hbel⟩ := hrel
    have K0 := Lib.hid k0
    have K1 := Lib.hid k1
    have K2 := Lib.hid k2
    have K3 := Lib.hid k3
    have KN := Lib.hid kn
    have Hbel := Lib.hid hbel
    have hg3 : g3 < wr.heap.size := k3.lt
    obtain ⟨wo, rfl⟩ : ∃ wo : World, wo = wr := ⟨_, rfl⟩
    clear k0 k1 k2 k3 kn hbel
    by_cases hlt : i < m.length
    · have u1 : decide (i < m.length) = true := decide_eq_true hlt
      have d0 : ∀ o, (wo.alloc o).cell? ⟨w.heap.size, 1, none⟩ = some (.slice A l.length c) := fun o => (K0.out.alloc o).cell 1
      have hmk := fun W => run_make_row' (P := Tryd.prog) 26 3 (.int .i64 0) 8 Tryd.underlying26 infoInt rfl .i64 .i64 i (by omega) (by omega) W
      have hq := dig_getD Hm.out i
      obtain ⟨bm, om, rfl, ⟨hbm, _⟩, cm⟩ := Rm.out (by rintro rfl; simp at hlt)
      have em := cm i hlt
      have Hnx := Lib.hid (mul_next l m i)
      have Hown0 := Lib.hid (own_zeros wo i (by omega))
      have Hbel0 := Lib.hid ((Below.refl wo.heap.size wo).alloc (Nat.le_refl _) (.cells (madeCells #[.int .i64 0] i) 3))
      clear cm
      generalize m.getD i 0 = q at *
      obtain ⟨q0, q1⟩ := hq
      go_wp2_with fail
      go_loopw [7, 8, 9, 10, 23] (fun v ov _ _ kv wi => ∃ (k : Nat) (o : Int) (R : List Int), k ≤ l.length ∧ kv = .int .i64 k ∧ ov = .int .i64 o ∧ RowAt l q i R k o ∧ wi.ownsRow wo.heap.size 3 1 v (i + k) (R.map (Value.int .i64)) ∧ Below wo.heap.size wo wi) (fun _ _ _ _ kv _ => l.length - (intOf kv).toNat)
      case atStart => exact ⟨0, 0, List.replicate i 0, Nat.zero_le _, rfl, rfl, RowAt.zero _ _ _, Hown0.out, Hbel0.out⟩
      case round =>
        obtain ⟨k, o, R, hk, rfl, rfl, hrow, hown, hbel⟩ := hrel
        have Hrow := Lib.hid hrow
        have Hown := Lib.hid hown
        have Hb := Lib.hid hbel
        obtain ⟨o0, o1⟩ := hrow.2.2.2
        have hl0 : w.heap.size < wo.heap.size := K0.out.lt
        have hl1 : g1 < wo.heap.size := K1.out.lt
        have e1 : wr.cell? ⟨w.heap.size, 1, none⟩ = some (.slice A l.length c) := (K0.out.on hbel hl0).cell 1
        have e2 : wr.cell? ⟨g1, 1, none⟩ = some (.slice (some ⟨bm, om, none⟩) m.length d) := (K1.out.on hbel hl1).cell 1
        have e3 : wr.cell? ⟨bm, om + i, none⟩ = some (.int .i64 q) := (hbel.cell (p := ⟨bm, om + i, none⟩) (Nat.lt_of_lt_of_le hbm Hbel.out.size)).trans ((Hbel.out.cell (p := ⟨bm, om + i, none⟩) hbm).trans em)
        clear hrow hown hbel d0 hmk
        by_cases hkl : k < l.length
        · have u2 : decide (k < l.length) = true := decide_eq_true hkl
          obtain ⟨bl, ol, rfl, ⟨hbl, _⟩, cl⟩ := Rl.out (by rintro rfl; simp at hkl)
          have e4 := (Hb.out.cell (p := ⟨bl, ol + k, none⟩) (Nat.lt_of_lt_of_le hbl Hbel.out.size)).trans ((Hbel.out.cell (p := ⟨bl, ol + k, none⟩) hbl).trans (cl k hkl))
          have hx := dig_getD Hl.out k
          have Hs := Lib.hid (fun f hf h0 h1 => Hrow.out.succ (f := f) hf h0 h1)
          clear cl
          generalize l.getD k 0 = x at *
          obtain ⟨x0, x1⟩ := hx
          have hxq0 : 0 ≤ x * q := Int.mul_nonneg x0 q0
          have hxq1 : x * q ≤ 99980001 := by
            have h1 : x * q ≤ 9999 * q := Int.mul_le_mul_of_nonneg_right (by omega) q0
            omega
          have hw1 : IntKind.i64.wrap (x * q) = x * q := IntWalk.i64_in _ (by omega)
          have hw2 : IntKind.i64.wrap (x * q + o) = x * q + o := IntWalk.i64_in _ (by omega)
          have hj1 : (0 : Int) ≤ (k : Int) := by omega
          have hj2 : (k : Int) < (l.length : Int) := by omega
          have hj3 : (0 : Int) ≤ (i : Int) := by omega
          have hj4 : (i : Int) < (m.length : Int) := by omega
          go_wp2_with fail
          go_quiet (fail)
          clear hw1 hw2
          have hf0 : 0 ≤ x * q + o := by omega
          have hf1 : x * q + o < 100000000 := by omega
          have Hs2 := Lib.hid (Hs.out (x * q + o) rfl hf0 hf1)
          have hib : i + k ≤ 1000 := by omega
          clear hxq0 hxq1
          go_wp2_with (at_builtin; refine app_int rfl (.tmp 39) (.tmp 42) rfl wo.heap.size _ _ R ((x * q + o) % 10000) rfl rfl Hown.out (by omega) Hb.out.size ?_; intro v' w3 hown3 hb3 _)
          have Hown3 := Lib.hid hown3
          have Hb3 := Lib.hid (hb3 _ (below_drewN Hb.out _))
          clear hown3 hb3
          go_wp2_with fail
          go_roundw
          case rel => exact ⟨k + 1, _, _, by omega, by go_num, rfl, Hs2.out, Hown3.out, Hb3.out⟩
          case measure => simp [intOf]; omega
        · obtain rfl : l.length = k := by omega
          have u2 : decide (l.length < l.length) = false := decide_eq_false (by omega)
          have hib : i + l.length ≤ 1000 := by omega
          have hdone := Hrow.out.done hkl
          obtain ⟨R1, hR1⟩ : ∃ R1, R1 = R ++ [o] := ⟨_, rfl⟩
          rw [← hR1] at hdone
          have HR1 := Lib.hid hR1
          have Hdone := Lib.hid hdone
          clear hR1 hdone hkl e2 e3
          go_wp2_with (at_builtin; refine app_int rfl (.tmp 47) (.tmp 49) rfl wo.heap.size _ _ R o rfl rfl Hown.out (by omega) Hb.out.size ?_)
          intro v' w3 hown3 hb3 _
          have hown3 : w3.ownsRow wo.heap.size 3 1 v' R1.length (R1.map (Value.int .i64)) := by rw [Hdone.out.1, HR1.out, List.map_append]; exact hown3
          obtain ⟨A2, c2, rfl, hc2, hr2⟩ := own_reads hown3
          have Hr2 := Lib.hid hr2
          have hb3' := hb3 _ Hb.out
          have Hb3 := Lib.hid hb3'
          have hl3 : g3 < w3.heap.size := Nat.lt_of_lt_of_le hg3 hb3'.size
          have T3 := Lib.hid (K3.out.on hb3' hg3)
          have t0 : w3.cell? ⟨g3, 0, none⟩ = some (.bool b) := T3.out.cell 0
          have t1 : w3.cell? ⟨g3, 1, none⟩ = some (.slice A' n' c') := T3.out.cell 1
          have hRl : R1.length ≤ 100 := by have := Hdone.out.1; omega
          have HSm := Lib.hid (show Sm 200 (val l * val (m.take i)) from (Sm.mul (sm_val Hl.out ll) (sm_val (dig_take Hm.out i) (by rw [List.length_take]; omega : (m.take i).length ≤ 40))).mono (by decide))
          have HSr := Lib.hid (show Sm 200 (sgn false (val R1)) from (sm_val Hdone.out.2.1 hRl).mono (by decide))
          have Hsum := Lib.hid (show val l * val (m.take i) + sgn false (val R1) = val l * val (m.take (i + 1)) by rw [sgn_false, Hdone.out.2.2]; exact Hnx.out)
          clear hown3 hb3 hb3' hr2 e1
          go_wp2_with fail
          go_region_with (first
            | (go_at_call 25
               refine (clean_any false R1 A2 c2 _ Hdone.out.2.1 (by omega) hc2 (by exact Hr2.out)).mono ?_
               rintro e w4 h4
               obtain ⟨b4, A4, n4, c4, rfl, hn4, hb4, _⟩ := nz_of h4
               have Hb4 := Lib.hid (Hb3.out.drew.trans (hb4.mono Hb3.out.size))
               have N4 := Lib.hid hn4
               have hl4 : g3 < w4.heap.size := Nat.lt_of_lt_of_le hl3 hb4.size
               have T4 := Lib.hid (K3.out.on Hb4.out hg3)
               have x0 : w4.cell? ⟨g3, 0, none⟩ = some (.bool b) := T4.out.cell 0
               have x1 : w4.cell? ⟨g3, 1, none⟩ = some (.slice A' n' c') := T4.out.cell 1
               clear h4 hn4 hb4)
            | (go_at_call 26
               refine (add_any _ _ (val l * val (m.take i)) (sgn false (val R1)) _ (KN.out.on Hb4.out) N4.out HSm.out HSr.out).mono ?_
               rintro e w5 h5
               obtain ⟨b5, A5, n5, c5, rfl, hn5, hb5, _⟩ := nz_of h5
               have Hb5 := Lib.hid (Hb4.out.trans (hb5.mono Hb4.out.size))
               have N5 := Lib.hid hn5
               have T5 := Lib.hid (K3.out.on Hb5.out hg3)
               have y0 : w5.cell? ⟨g3, 0, none⟩ = some (.bool b) := T5.out.cell 0
               have y1 : w5.cell? ⟨g3, 1, none⟩ = some (.slice A' n' c') := T5.out.cell 1
               have y2 : w5.frozen? ⟨g3, 0, none⟩ = false := T5.out.free 0
               have y3 : w5.frozen? ⟨g3, 1, none⟩ = false := T5.out.free 1
               clear h5 hn5 hb5))
          all_goals
            have F0 := Lib.hid ((((K0.out.on Hb5.out K0.out.lt).far (p := ⟨g3, 0, none⟩) (by show w.heap.size ≠ g3; omega) (.bool b5))).far (p := ⟨g3, 1, none⟩) (by show w.heap.size ≠ g3; omega) (.slice A5 n5 c5))
            have F1 := Lib.hid ((((K1.out.on Hb5.out K1.out.lt).far (p := ⟨g3, 0, none⟩) (by show g1 ≠ g3; omega) (.bool b5))).far (p := ⟨g3, 1, none⟩) (by show g1 ≠ g3; omega) (.slice A5 n5 c5))
            have F2 := Lib.hid ((((K2.out.on Hb5.out K2.out.lt).far (p := ⟨g3, 0, none⟩) (by show g2 ≠ g3; omega) (.bool b5))).far (p := ⟨g3, 1, none⟩) (by show g2 ≠ g3; omega) (.slice A5 n5 c5))
            have F3 := Lib.hid ((T5.out.set_ 0 (.bool b5)).set_ 1 (.slice A5 n5 c5))
            have FN := Lib.hid (((N5.out.set T5.out (by decide) 0 (.bool b5)).set (T5.out.set_ 0 (.bool b5)) (by decide) 1 (.slice A5 n5 c5)).more (show w5.heap.size ≤ ((w5.setCell ⟨g3, 0, none⟩ (.bool b5)).setCell ⟨g3, 1, none⟩ (.slice A5 n5 c5)).heap.size by simp [World.setCell]))
            have FB := Lib.hid (((Hbel.out.trans (Hb5.out.mono Hbel.out.size)).setCell (p := ⟨g3, 0, none⟩) (by show w.heap.size ≤ g3; omega) (.bool b5)).setCell (p := ⟨g3, 1, none⟩) (by show w.heap.size ≤ g3; omega) (.slice A5 n5 c5))
            go_wp2_with fail
            go_roundw
            case rel => exact ⟨i + 1, b5, A5, n5, c5, by omega, by go_num, F0.out, F1.out, F2.out, F3.out, by rw [← Hsum.out]; exact FN.out, FB.out⟩
            case measure => simp [intOf]; omega
    · obtain rfl : m.length = i := by omega
      have u1 : decide (m.length < m.length) = false := decide_eq_false (by omega)
      have v0 := (val_bd Hl.out).1
      have v1 := (val_bd Hm.out).1
      have hv := Int.mul_nonneg v0 v1
      have hz := Sm.mul (sm_val Hl.out ll) (sm_val Hm.out lm)
      rw [List.take_length] at KN
      obtain ⟨l2, A2, c2, e2, hc2, hl2, hr2, hd2, hv2, hf2⟩ := nz_open KN.out (hz.mono (by decide))
      simp only [Value.agg.injEq, Array.mk.injEq, List.cons.injEq, Value.bool.injEq, Value.slice.injEq] at e2
      obtain ⟨-, ⟨rfl, rfl, rfl⟩, -⟩ := e2
      have hv3 : val l2 = val l * val m := by rw [hv2]; omega
      have Hv3 := Lib.hid hv3
      have Hr2 := Lib.hid hr2
      have Hd2 := Lib.hid hd2
      have p0 : wo.cell? ⟨w.heap.size, 0, none⟩ = some (.bool sa) := K0.out.cell 0
      have p1 : wo.cell? ⟨g1, 0, none⟩ = some (.bool sb) := K1.out.cell 0
      have p2 : wo.cell? ⟨g3, 1, none⟩ = some (.slice A' l2.length c') := K3.out.cell 1
      have hg2 : g2 < wo.heap.size := K2.out.lt
      clear hv3 hr2 hd2 hv2 hf2 hv v0 v1 hz hlt
      go_wp2_with fail
      refine (clean_any (sa != sb) l2 A' c' _ Hd2.out (by omega) hc2 Hr2.out).mono ?_
      rintro e w5 h5
      obtain ⟨b5, A5, n5, c5, rfl, hn5, hb5, _⟩ := nz_of h5
      have Hb5 := Lib.hid (Hbel.out.trans (hb5.mono Hbel.out.size))
      have N5 := Lib.hid hn5
      have T5 := Lib.hid (K2.out.on hb5 hg2)
      have y0 : w5.cell? ⟨g2, 0, none⟩ = some (.bool false) := T5.out.cell 0
      have y1 : w5.cell? ⟨g2, 1, none⟩ = some (.slice none 0 0) := T5.out.cell 1
      have y2 : w5.frozen? ⟨g2, 0, none⟩ = false := T5.out.free 0
      have y3 : w5.frozen? ⟨g2, 1, none⟩ = false := T5.out.free 1
      clear h5 hn5 hb5
      go_wp2_with fail
      refine bodyPost_ret (v := .agg #[.bool b5, .slice A5 n5 c5]) (by simp [results, Tryd.results27, go_sem, y0, y1]) rfl ?_
      rw [← Hv3.out]
      exact gives_set N5.out Hb5.out T5.out (by omega) _ _
theorem mul_any (x y : Value) (a b : Int) (w : World) (hx : Nz w w.heap.size x a) (hy : Nz w w.heap.size y b) (ha : Sm 40 a) (hb : Sm 40 b) :
    Calls Tryd.prog 27 #[x, y] w (GivesN (a * b) w) := by
  obtain ⟨l, A, c, rfl, hc, hl2, hr, hd, hv, hf⟩ := nz_open hx (ha.mono (by decide))
  obtain ⟨m, C, d, rfl, hc', hm2, hr', hd', hv', hf'⟩ := nz_open hy (hb.mono (by decide))
  have e : a * b = sgn (decide (a < 0) != decide (b < 0)) (val l * val m) := by
    rw [hv, hv', ← Int.natCast_mul, ← Int.natAbs_mul]
    by_cases h1 : a < 0
    · rw [decide_eq_true h1]
      by_cases h2 : b < 0
      · rw [decide_eq_true h2]
        have := Int.mul_pos_of_neg_of_neg h1 h2
        show a * b = ((a * b).natAbs : Int)
        omega
      · rw [decide_eq_false h2]
        have := Int.mul_nonpos_of_nonpos_of_nonneg (Int.le_of_lt h1) (by omega : 0 ≤ b)
        show a * b = -((a * b).natAbs : Int)
        omega
    · rw [decide_eq_false h1]
      by_cases h2 : b < 0
      · rw [decide_eq_true h2]
        have := Int.mul_nonpos_of_nonneg_of_nonpos (by omega : 0 ≤ a) (Int.le_of_lt h2)
        show a * b = -((a * b).natAbs : Int)
        omega
      · rw [decide_eq_false h2]
        have := Int.mul_nonneg (by omega : 0 ≤ a) (by omega : 0 ≤ b)
        show a * b = ((a * b).natAbs : Int)
        omega
  rw [e]
  exact mul_s _ _ l m A C c d w hd hd' (by rw [hf]; exact ha.len) (by rw [hf']; exact hb.len) hr hr'
end Go.Proofs.YteoaapjejhjknaaDoor
