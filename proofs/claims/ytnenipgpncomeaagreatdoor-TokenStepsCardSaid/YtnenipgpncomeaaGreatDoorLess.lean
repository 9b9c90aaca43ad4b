/- Contracts of the reference's less and clean. -/
import Derived.Test.YtnenipgpncomeaaGreatDoorMem
import Derived.Deep.RegionHeld3
import Derived.Deep.DrawnRows
namespace Go.Proofs.YtnenipgpncomeaaGreatDoor.W2
open Go.RowKit
open Fg
attribute [local go_sem ↓] Go.wp_at_zero Go.wp_at_succ

def lessB (l m : List Int) : Bool := if l.length = m.length then decide (val l < val m) else decide (l.length < m.length)
theorem lessB_ne {l m : List Int} (h : l.length ≠ m.length) : lessB l m = decide (l.length < m.length) := if_neg h
theorem lessB_eq {l m : List Int} (h : l.length = m.length) : lessB l m = decide (val l < val m) := if_pos h

set_option maxRecDepth 100000 in
set_option maxHeartbeats 2000000 in
theorem less_any (l m : List Int) (A C : Option Addr) (c d : Nat) (w : World) (hl : dig l) (hm : dig m) (ll : l.length ≤ 1000) (lm : m.length ≤ 1000) (rl : Reads w w.heap.size A l) (rm : Reads w w.heap.size C m) :
    Calls Tryz.prog 72 #[.slice A l.length c, .slice C m.length d] w fun e w' => e = .returned (.bool (lessB l m)) ∧ Below w.heap.size w w' := by
  by_cases he : l.length = m.length
  · have t0 : ((l.length : Int) != (m.length : Int)) = false := by simp [he]
    rw [lessB_eq he]
    have He := Lib.hid he
    have Hl := Lib.hid hl
    have Hm := Lib.hid hm
    have Rl := Lib.hid rl
    have Rm := Lib.hid rm
    clear he hl hm rl rm
    go_enter Tryz.func72, Tryz.ntmps72
    go_wp2_with fail
    go_loopw [5] (fun i wr => ∃ (t : Int) (q : Nat), -1 ≤ t ∧ t < l.length ∧ i = .int .i64 t ∧ l.drop (t + 1).toNat = m.drop (t + 1).toNat ∧ wr = w.drewN q) (fun i _ => (intOf i + 1).toNat)
    case atStart =>
      refine ⟨_, 0, by omega, by omega, rfl, ?_, rfl⟩
      rw [List.drop_eq_nil_of_le (by omega), List.drop_eq_nil_of_le (by have := He.out; omega)]
    case round =>
      obtain ⟨t, q, ht1, ht2, rfl, hd, rfl⟩ := hrel
      have Hd := Lib.hid hd
      clear hd
      by_cases hn : t < 0
      · obtain rfl : t = -1 := by omega
        have hv : decide (val l < val m) = false := decide_eq_false (by have := Hd.out; simp at this; rw [this]; omega)
        have Hv := Lib.hid hv
        clear hv
        go_wp2_with fail
        go_ret
        exact ⟨ret_bool Hv.out.symm, below_drewN (Below.refl _ _) _⟩
      · obtain ⟨j, rfl⟩ : ∃ j : Nat, t = (j : Int) := ⟨t.toNat, by omega⟩
        have hj : j < l.length := by omega
        have hjm : j < m.length := by have := He.out; omega
        obtain ⟨b1, o1, rfl, _, c1⟩ := Rl.out (by rintro rfl; simp at hj)
        obtain ⟨b2, o2, rfl, _, c2⟩ := Rm.out (by rintro rfl; simp at hjm)
        have e1 := c1 j hj
        have e2 := c2 j hjm
        clear c1 c2
        have hjm' : (j : Int) < m.length := by omega
        have h1 := drop_eq (l := l) (m := m) (k := j) hj hjm (by have := Hd.out; simpa using this)
        have h2 := less_at (l := l) (m := m) (k := j) Hl.out Hm.out hj hjm (by have := Hd.out; simpa using this)
        have h3 := less_at (l := m) (m := l) (k := j) Hm.out Hl.out hjm hj (by have := Hd.out; simpa using this.symm)
        generalize l.getD j 0 = x at *
        generalize m.getD j 0 = y at *
        have H1 := Lib.hid h1
        have H2 := Lib.hid h2
        have H3 := Lib.hid h3
        clear h1 h2 h3
        by_cases hxy : x = y
        · have t1 : (x != y) = false := by simp; exact hxy
          have E1 := Lib.hid (H1.out hxy)
          clear hxy
          go_wp2_with fail
          go_quiet (fail)
          go_wp2_with fail
          go_roundw
          case rel => exact ⟨(j : Int) - 1, _, by omega, by omega, rfl, by simpa using E1.out, rfl⟩
          case measure => simp [intOf]
        · have t1 : (x != y) = true := by simp; exact hxy
          by_cases hlt : x < y
          · have hv := Lib.hid (show decide (val l < val m) = true from decide_eq_true (H2.out hlt))
            have t2 : decide (x < y) = true := decide_eq_true hlt
            clear hxy
            go_wp2_with fail
            go_quiet (fail)
            go_wp2_with fail
            go_quiet (fail)
            go_wp2_with fail
            go_ret
            exact ⟨ret_bool hv.out.symm, by repeat (first | exact Below.refl _ _ | apply below_drewN)⟩
          · have hv := Lib.hid (show decide (val l < val m) = false from decide_eq_false (by have := H3.out (by omega); omega))
            have t2 : decide (x < y) = false := decide_eq_false hlt
            clear hxy
            go_wp2_with fail
            go_quiet (fail)
            go_wp2_with fail
            go_quiet (fail)
            go_wp2_with fail
            go_ret
            exact ⟨ret_bool hv.out.symm, by repeat (first | exact Below.refl _ _ | apply below_drewN)⟩
  · have t0 : ((l.length : Int) != (m.length : Int)) = true := by simp; omega
    rw [lessB_ne he]
    clear hl hm rl rm he
    go_enter Tryz.func72, Tryz.ntmps72
    go_wp2_with fail
    all_goals go_ret
    all_goals exact ⟨ret_bool (by simp <;> omega), Below.refl _ _⟩

/-- a size with its sign -/
def sgn (b : Bool) (n : Int) : Int := if b = true then -n else n
theorem sgn_true (n : Int) : sgn true n = -n := rfl
theorem sgn_false (n : Int) : sgn false n = n := rfl
theorem nz_mk {w : World} {B : Nat} {A : Option Addr} {l : List Int} {b : Bool} {k c : Nat} (hd : dig l) (hk : k ≤ l.length) (hz : k = 0 ∨ l.getD (k - 1) 0 ≠ 0) (hv : val (l.take k) = val l) (hc : l.length ≤ c) (hr : Reads w B A l) :
    Nz w B (.agg #[.bool (b && decide (0 < k)), .slice A k c]) (sgn b (val l)) := by
  have h1 := strip_end hd hk hz hv
  have h0 := (val_bd hd).1
  have e : (sgn b (val l)).natAbs = (val l).toNat := by cases b <;> simp only [sgn_true, sgn_false] <;> omega
  have h2 : (figs (sgn b (val l)).natAbs).length = k := by rw [e, ← h1, List.length_take]; omega
  refine ⟨A, c, ?_, by omega, by rw [e, ← h1]; exact hr.take k⟩
  rw [h2]
  have h3 : 0 < k ↔ 0 < val l := by
    constructor
    · intro hp
      rcases (by omega : val l = 0 ∨ 0 < val l) with h4 | h4
      · rw [h4, Int.toNat_zero, figs_zero] at h1
        have := congrArg List.length h1
        rw [List.length_take, List.length_nil] at this
        omega
      · exact h4
    · intro hp
      rcases Nat.eq_zero_or_pos k with rfl | h4
      · rw [List.take_zero, val] at hv; omega
      · exact h4
  have h5 : (b && decide (0 < k)) = decide (sgn b (val l) < 0) := by
    cases b
    · simp only [Bool.false_and, sgn_false]; exact (decide_eq_false (by omega)).symm
    · simp only [Bool.true_and, sgn_true]; exact decide_eq_decide.2 (by rw [h3]; omega)
  rw [h5]

set_option maxRecDepth 100000 in
set_option maxHeartbeats 2000000 in
theorem clean_any (b : Bool) (l : List Int) (A : Option Addr) (c : Nat) (w : World) (hd : dig l) (ll : l.length ≤ 1000) (hc : l.length ≤ c) (hr : Reads w w.heap.size A l) :
    Calls Tryz.prog 52 #[.agg #[.bool b, .slice A l.length c]] w (GivesN (sgn b (val l)) w) := by
  have Hd := Lib.hid hd
  have Hr := Lib.hid hr
  clear hd hr
  cases b
  case false =>
    go_enter Tryz.func52, Tryz.ntmps52
    go_wp2_with fail
    go_loop [3] (fun i => ∃ k : Nat, k ≤ l.length ∧ i = .int .i64 k ∧ val (l.take k) = val l) (fun i => (intOf i).toNat)
    case atStart => exact ⟨_, Nat.le_refl _, rfl, by rw [List.take_length]⟩
    case round =>
      obtain ⟨k, hk, rfl, hv⟩ := hrel
      have Hv := Lib.hid hv
      clear hv
      by_cases hp : 0 < k
      · obtain ⟨j, rfl⟩ : ∃ j, k = j + 1 := ⟨k - 1, by omega⟩
        obtain ⟨b1, o1, rfl, ⟨hb1, _⟩, c1⟩ := Hr.out (by rintro rfl; simp at hk)
        have e1 := c1 j (by omega)
        clear c1
        have hs := strip_step hk (by omega) (hv := Hv.out)
        have he := fun bb hz => nz_mk (b := bb) (c := c) Hd.out hk (.inr hz) (hv := Hv.out) (hc := hc) (hr := Hr.out)
        rw [Nat.add_sub_cancel] at hs
        have e2 : j + 1 - 1 = j := by omega
        simp only [e2] at he
        clear e2
        generalize l.getD j 0 = x at *
        have Hs := Lib.hid hs
        have He := Lib.hid he
        clear hs he
        by_cases hx : x = 0
        · have t1 : (x == 0) = true := by simp; exact hx
          have Hx := Lib.hid hx
          have hj : (j : Int) < l.length := by omega
          clear hx
          go_wp2_with fail
          go_round
          case rel => exact ⟨j, by omega, by go_num, Hs.out Hx.out⟩
          case measure => simp [intOf]
        · have t1 : (x == 0) = false := by simp; exact hx
          have Hx := Lib.hid hx
          have hj : (j : Int) < l.length := by omega
          clear hx
          have j0 : (0 : Int) ≤ (j : Int) + 1 := by omega
          have j1 : (j : Int) + 1 ≤ (c : Int) := by omega
          go_wp2_with fail
          go_region
          go_wp2_with fail
          refine bodyPost_ret (v := .agg #[.bool false, .slice (some ⟨b1, o1, none⟩) (j + 1) c]) (by simp [results, Tryz.results52, go_sem]) rfl (gives_of ?_ ?_)
          · simpa using He.out false Hx.out
          · exact (((Below.refl _ _).alloc (Nat.le_refl _) _).alloc (by simp) _).drew
      · obtain rfl : k = 0 := by omega
        have he := fun bb => nz_mk (b := bb) (c := c) Hd.out (Nat.zero_le _) (.inl rfl) (hv := Hv.out) (hc := hc) (hr := Hr.out)
        have He := Lib.hid he
        clear he hp
        go_wp2_with fail
        go_region
        go_wp2_with fail
        refine bodyPost_ret (v := .agg #[.bool false, .slice A 0 c]) (by simp [results, Tryz.results52, go_sem]) rfl (gives_of ?_ ?_)
        · simpa using He.out false
        · exact (((Below.refl _ _).alloc (Nat.le_refl _) _).alloc (by simp) _).drew
  case true =>
    go_enter Tryz.func52, Tryz.ntmps52
    go_wp2_with fail
    go_loop [3] (fun i => ∃ k : Nat, k ≤ l.length ∧ i = .int .i64 k ∧ val (l.take k) = val l) (fun i => (intOf i).toNat)
    case atStart => exact ⟨_, Nat.le_refl _, rfl, by rw [List.take_length]⟩
    case round =>
      obtain ⟨k, hk, rfl, hv⟩ := hrel
      have Hv := Lib.hid hv
      clear hv
      by_cases hp : 0 < k
      · obtain ⟨j, rfl⟩ : ∃ j, k = j + 1 := ⟨k - 1, by omega⟩
        obtain ⟨b1, o1, rfl, ⟨hb1, _⟩, c1⟩ := Hr.out (by rintro rfl; simp at hk)
        have e1 := c1 j (by omega)
        clear c1
        have hs := strip_step hk (by omega) (hv := Hv.out)
        have he := fun bb hz => nz_mk (b := bb) (c := c) Hd.out hk (.inr hz) (hv := Hv.out) (hc := hc) (hr := Hr.out)
        rw [Nat.add_sub_cancel] at hs
        have e2 : j + 1 - 1 = j := by omega
        simp only [e2] at he
        clear e2
        generalize l.getD j 0 = x at *
        have Hs := Lib.hid hs
        have He := Lib.hid he
        clear hs he
        by_cases hx : x = 0
        · have t1 : (x == 0) = true := by simp; exact hx
          have Hx := Lib.hid hx
          have hj : (j : Int) < l.length := by omega
          clear hx
          go_wp2_with fail
          go_round
          case rel => exact ⟨j, by omega, by go_num, Hs.out Hx.out⟩
          case measure => simp [intOf]
        · have t1 : (x == 0) = false := by simp; exact hx
          have Hx := Lib.hid hx
          have hj : (j : Int) < l.length := by omega
          clear hx
          have j0 : (0 : Int) ≤ (j : Int) + 1 := by omega
          have j1 : (j : Int) + 1 ≤ (c : Int) := by omega
          go_wp2_with fail
          go_region
          go_wp2_with fail
          refine bodyPost_ret (v := .agg #[.bool true, .slice (some ⟨b1, o1, none⟩) (j + 1) c]) (by simp [results, Tryz.results52, go_sem]) rfl (gives_of ?_ ?_)
          · simpa using He.out true Hx.out
          · exact (((Below.refl _ _).alloc (Nat.le_refl _) _).alloc (by simp) _).drew
      · obtain rfl : k = 0 := by omega
        have he := fun bb => nz_mk (b := bb) (c := c) Hd.out (Nat.zero_le _) (.inl rfl) (hv := Hv.out) (hc := hc) (hr := Hr.out)
        have He := Lib.hid he
        clear he hp
        go_wp2_with fail
        go_region
        go_wp2_with fail
        refine bodyPost_ret (v := .agg #[.bool false, .slice A 0 c]) (by simp [results, Tryz.results52, go_sem]) rfl (gives_of ?_ ?_)
        · simpa using He.out true
        · exact (((Below.refl _ _).alloc (Nat.le_refl _) _).alloc (by simp) _).drew
end Go.Proofs.YtnenipgpncomeaaGreatDoor.W2
