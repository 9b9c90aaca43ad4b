/- Contracts of the reference's both: the figures of two numbers together, and of one less the other. -/
import Derived.Test.YtnenipgpncomeaaGreatDoorLess
namespace Go.Proofs.YtnenipgpncomeaaGreatDoor.W2
open Go.RowKit
open Fg

theorem take_step (l : List Int) (k : Nat) : val (l.take (k + 1)) = val (l.take k) + 10000 ^ k * l.getD k 0 := by
  rcases Nat.lt_or_ge k l.length with h | h
  · exact val_take_succ l k h
  · rw [List.take_of_length_le (by omega), List.take_of_length_le h, List.getD_eq_getElem?_getD, List.getElem?_eq_none h]
    simp
theorem getD_out {l : List Int} {k : Nat} (h : ¬ k < l.length) : l.getD k 0 = 0 := by
  rw [List.getD_eq_getElem?_getD, List.getElem?_eq_none (by omega)]; rfl
/-- what has been added, one figure more: f is what comes in, f' what stays, o' what goes over -/
theorem both_step {s o o' f' : Int} {l m O : List Int} {k : Nat} (hO : O.length = k) (h : val O + 10000 ^ k * o = val (l.take k) + s * val (m.take k)) (hf : f' + 10000 * o' = o + (l.getD k 0 + s * m.getD k 0)) :
    val (O ++ [f']) + 10000 ^ (k + 1) * o' = val (l.take (k + 1)) + s * val (m.take (k + 1)) := by
  rw [take_step, take_step, val_append, hO, val, val, Int.pow_succ, Int.mul_assoc (10000 ^ k) 10000 o', Int.mul_add s, Int.mul_left_comm s]
  have h2 : (10000 : Int) ^ k * (f' + 10000 * o') = 10000 ^ k * (o + (l.getD k 0 + s * m.getD k 0)) := by rw [hf]
  rw [Int.mul_add, Int.mul_add, Int.mul_add] at h2
  rw [Int.mul_zero, Int.add_zero]
  omega

/-- what stands behind k rounds -/
def BothAt (s : Int) (l m O : List Int) (k : Nat) (o : Int) : Prop := O.length = k ∧ dig O ∧ val O + 10000 ^ k * o = val (l.take k) + s * val (m.take k)
theorem BothAt.zero (s : Int) (l m : List Int) : BothAt s l m [] 0 0 := ⟨rfl, fun x hx => (by cases hx), by simp [val]⟩
theorem BothAt.succ {s o o' f' : Int} {l m O : List Int} {k : Nat} (h : BothAt s l m O k o) (h0 : 0 ≤ f') (h1 : f' < 10000) (hf : f' + 10000 * o' = o + (l.getD k 0 + s * m.getD k 0)) : BothAt s l m (O ++ [f']) (k + 1) o' :=
  ⟨by rw [List.length_append, h.1]; rfl, dig_append h.2.1 (dig_one h0 h1), both_step h.1 h.2.2 hf⟩
theorem BothAt.all {s o : Int} {l m O : List Int} {k : Nat} (h : BothAt s l m O k o) (h1 : ¬ k < l.length) (h2 : ¬ k < m.length) : val O + 10000 ^ k * o = val l + s * val m := by
  have := h.2.2
  rwa [List.take_of_length_le (by omega), List.take_of_length_le (by omega)] at this
theorem BothAt.minus {o : Int} {l m O : List Int} {k : Nat} (h : BothAt (-1) l m O k o) (h1 : ¬ k < l.length) (h2 : ¬ k < m.length) (hle : val m ≤ val l) (ho : o = -1 ∨ o = 0) : o = 0 := by
  have e := h.all h1 h2
  have b := (val_bd h.2.1).2
  rw [h.1] at b
  rcases ho with rfl | rfl
  · omega
  · rfl

set_option maxRecDepth 100000 in
set_option maxHeartbeats 8000000 in
theorem both_plus (l m : List Int) (A C : Option Addr) (c d : Nat) (w : World) (hl : dig l) (hm : dig m) (ll : l.length ≤ 500) (lm : m.length ≤ 500) (rl : Reads w w.heap.size A l) (rm : Reads w w.heap.size C m) :
    Calls Tryz.prog 71 #[.slice A l.length c, .slice C m.length d, .int .i64 1] w (GivesRow (fun r => dig r ∧ val r = val l + val m ∧ r.length ≤ l.length + m.length + 1) w) := by
  have Hl := Lib.hid hl
  have Hm := Lib.hid hm
  have Rl := Lib.hid rl
  have Rm := Lib.hid rm
  clear hl hm rl rm
  go_enter Tryz.func71, Tryz.ntmps71
  go_wp2_with fail
  go_loopw [7, 8, 9, 10] (fun v ov i _ wr => ∃ (k : Nat) (o : Int) (O : List Int), k ≤ l.length + m.length ∧ i = .int .i64 k ∧ ov = .int .i64 o ∧ (o = 0 ∨ o = 1) ∧ BothAt 1 l m O k o ∧ wr.ownsRow w.heap.size 3 1 v k (O.map (Value.int .i64)) ∧ Below w.heap.size w wr) (fun _ _ i _ _ => l.length + m.length - (intOf i).toNat)
  case atStart => exact ⟨0, 0, [], Nat.zero_le _, rfl, rfl, by omega, BothAt.zero _ _ _, World.ownsRow_nil _ _ _ _, Below.refl _ _⟩
  case round =>
    obtain ⟨k, o, O, hk, rfl, rfl, ho, hat, hown, hbel⟩ := hrel
    have Hat := Lib.hid hat
    have Hown := Lib.hid hown
    have Hbel := Lib.hid hbel
    clear hat hown hbel
    have dx := dig_getD Hl.out k
    have dy := dig_getD Hm.out k
    have Ho := Lib.hid ho
    have ob : -1 ≤ o ∧ o ≤ 1 := by omega
    obtain ⟨ob1, ob2⟩ := ob
    by_cases h1 : k < l.length
    · by_cases h2 : k < m.length
      · have u1 : decide (k < l.length) = true := decide_eq_true h1
        have u2 : decide (k < m.length) = true := decide_eq_true h2
        have Hs := Lib.hid (fun (f' o' : Int) (h0 : 0 ≤ f') (h1 : f' < 10000) hf => BothAt.succ (f' := f') (o' := o') Hat.out h0 h1 hf)
        obtain ⟨b1, o1, rfl, hbb1, cb1⟩ := Rl.out (by rintro rfl; simp at h1)
        have e1 := (Hbel.out.cell (p := ⟨b1, o1 + k, none⟩) hbb1.1).trans (cb1 k h1)
        clear cb1 hbb1
        obtain ⟨b2, o2, rfl, hbb2, cb2⟩ := Rm.out (by rintro rfl; simp at h2)
        have e2 := (Hbel.out.cell (p := ⟨b2, o2 + k, none⟩) hbb2.1).trans (cb2 k h2)
        clear cb2 hbb2
        generalize l.getD k 0 = x at *
        generalize m.getD k 0 = y at *
        obtain ⟨x0, x1⟩ := dx
        obtain ⟨y0, y1⟩ := dy
        have ho0 : 0 ≤ o := by omega
        clear ho
        by_cases hf : 10000 ≤ o + x + y
        · have t1 : decide (10000 ≤ o + x + y) = true := decide_eq_true hf
          go_wp2_with (at_builtin; refine app_int rfl (.tmp 54) (.tmp 56) rfl w.heap.size _ _ O (o + x + y - 10000) rfl rfl Hown.out (by omega) Hbel.out.size ?_; intro v' w3 hown3 hb3 _)
          have Hown3 := Lib.hid hown3
          have Hbel3 := Lib.hid (hb3 _ Hbel.out)
          clear hown3 hb3
          go_wp2_with fail
          go_roundw
          case rel => exact ⟨k + 1, 1, _, by omega, by go_num, rfl, by omega, Hs.out _ 1 (by omega) (by omega) (by omega), Hown3.out, Hbel3.out⟩
          case measure => simp [intOf]; omega
        · have t1 : decide (10000 ≤ o + x + y) = false := decide_eq_false hf
          go_wp2_with (at_builtin; refine app_int rfl (.tmp 54) (.tmp 56) rfl w.heap.size _ _ O (o + x + y) rfl rfl Hown.out (by omega) Hbel.out.size ?_; intro v' w3 hown3 hb3 _)
          have Hown3 := Lib.hid hown3
          have Hbel3 := Lib.hid (hb3 _ Hbel.out)
          clear hown3 hb3
          go_wp2_with fail
          go_roundw
          case rel => exact ⟨k + 1, 0, _, by omega, by go_num, rfl, by omega, Hs.out _ 0 (by omega) (by omega) (by omega), Hown3.out, Hbel3.out⟩
          case measure => simp [intOf]; omega
      · have u1 : decide (k < l.length) = true := decide_eq_true h1
        have u2 : decide (k < m.length) = false := decide_eq_false h2
        have Hs := Lib.hid (fun (f' o' : Int) (h0 : 0 ≤ f') (h1 : f' < 10000) hf => BothAt.succ (f' := f') (o' := o') Hat.out h0 h1 hf)
        obtain ⟨b1, o1, rfl, hbb1, cb1⟩ := Rl.out (by rintro rfl; simp at h1)
        have e1 := (Hbel.out.cell (p := ⟨b1, o1 + k, none⟩) hbb1.1).trans (cb1 k h1)
        clear cb1 hbb1
        rw [getD_out h2] at Hs
        generalize l.getD k 0 = x at *
        obtain ⟨x0, x1⟩ := dx
        clear dy
        have ho0 : 0 ≤ o := by omega
        clear ho
        by_cases hf : 10000 ≤ o + x
        · have t1 : decide (10000 ≤ o + x) = true := decide_eq_true hf
          go_wp2_with (at_builtin; refine app_int rfl (.tmp 54) (.tmp 56) rfl w.heap.size _ _ O (o + x - 10000) rfl rfl Hown.out (by omega) Hbel.out.size ?_; intro v' w3 hown3 hb3 _)
          have Hown3 := Lib.hid hown3
          have Hbel3 := Lib.hid (hb3 _ Hbel.out)
          clear hown3 hb3
          go_wp2_with fail
          go_roundw
          case rel => exact ⟨k + 1, 1, _, by omega, by go_num, rfl, by omega, Hs.out _ 1 (by omega) (by omega) (by omega), Hown3.out, Hbel3.out⟩
          case measure => simp [intOf]; omega
        · have t1 : decide (10000 ≤ o + x) = false := decide_eq_false hf
          go_wp2_with (at_builtin; refine app_int rfl (.tmp 54) (.tmp 56) rfl w.heap.size _ _ O (o + x) rfl rfl Hown.out (by omega) Hbel.out.size ?_; intro v' w3 hown3 hb3 _)
          have Hown3 := Lib.hid hown3
          have Hbel3 := Lib.hid (hb3 _ Hbel.out)
          clear hown3 hb3
          go_wp2_with fail
          go_roundw
          case rel => exact ⟨k + 1, 0, _, by omega, by go_num, rfl, by omega, Hs.out _ 0 (by omega) (by omega) (by omega), Hown3.out, Hbel3.out⟩
          case measure => simp [intOf]; omega
    · by_cases h2 : k < m.length
      · have u1 : decide (k < l.length) = false := decide_eq_false h1
        have u2 : decide (k < m.length) = true := decide_eq_true h2
        have Hs := Lib.hid (fun (f' o' : Int) (h0 : 0 ≤ f') (h1 : f' < 10000) hf => BothAt.succ (f' := f') (o' := o') Hat.out h0 h1 hf)
        rw [getD_out h1] at Hs
        obtain ⟨b2, o2, rfl, hbb2, cb2⟩ := Rm.out (by rintro rfl; simp at h2)
        have e2 := (Hbel.out.cell (p := ⟨b2, o2 + k, none⟩) hbb2.1).trans (cb2 k h2)
        clear cb2 hbb2
        generalize m.getD k 0 = y at *
        clear dx
        obtain ⟨y0, y1⟩ := dy
        have ho0 : 0 ≤ o := by omega
        clear ho
        by_cases hf : 10000 ≤ o + y
        · have t1 : decide (10000 ≤ o + y) = true := decide_eq_true hf
          go_wp2_with (at_builtin; refine app_int rfl (.tmp 54) (.tmp 56) rfl w.heap.size _ _ O (o + y - 10000) rfl rfl Hown.out (by omega) Hbel.out.size ?_; intro v' w3 hown3 hb3 _)
          have Hown3 := Lib.hid hown3
          have Hbel3 := Lib.hid (hb3 _ Hbel.out)
          clear hown3 hb3
          go_wp2_with fail
          go_roundw
          case rel => exact ⟨k + 1, 1, _, by omega, by go_num, rfl, by omega, Hs.out _ 1 (by omega) (by omega) (by omega), Hown3.out, Hbel3.out⟩
          case measure => simp [intOf]; omega
        · have t1 : decide (10000 ≤ o + y) = false := decide_eq_false hf
          go_wp2_with (at_builtin; refine app_int rfl (.tmp 54) (.tmp 56) rfl w.heap.size _ _ O (o + y) rfl rfl Hown.out (by omega) Hbel.out.size ?_; intro v' w3 hown3 hb3 _)
          have Hown3 := Lib.hid hown3
          have Hbel3 := Lib.hid (hb3 _ Hbel.out)
          clear hown3 hb3
          go_wp2_with fail
          go_roundw
          case rel => exact ⟨k + 1, 0, _, by omega, by go_num, rfl, by omega, Hs.out _ 0 (by omega) (by omega) (by omega), Hown3.out, Hbel3.out⟩
          case measure => simp [intOf]; omega
      · have u1 : decide (k < l.length) = false := decide_eq_false h1
        have u2 : decide (k < m.length) = false := decide_eq_false h2
        clear dx dy
        have Hall := Lib.hid (Hat.out.all h1 h2)
        have Hbd := Lib.hid (val_bd Hat.out.2.1)
        have Hat1 := Lib.hid Hat.out.1
        clear h1 h2
        rcases Ho.out with h0 | h0
        · subst h0
          clear ho
          have Own := Lib.hid (Hat1.out.symm ▸ Hown.out)
          have hres : GivesRow (fun r => dig r ∧ val r = val l + val m ∧ r.length ≤ l.length + m.length + 1) w (.returned u7) wr := by
            obtain ⟨A', c', hv, hc', hr'⟩ := own_reads (l := O) Own.out
            have e := Hall.out
            exact ⟨A', O, c', by rw [hv], hc', hr', ⟨Hat.out.2.1, by omega, by have := Hat1.out; omega⟩, Hbel.out⟩
          have Hres := Lib.hid hres
          clear hres
          go_wp2_with fail
          go_ret
          exact Hres.out
        · subst h0
          clear ho
          go_wp2_with (at_builtin; refine app_int rfl (.tmp 60) (.tmp 62) rfl w.heap.size _ _ O 1 rfl rfl Hown.out (by omega) Hbel.out.size ?_; intro v' w3 hown3 hb3 _)
          have hbel3 := hb3 _ Hbel.out
          have hres : GivesRow (fun r => dig r ∧ val r = val l + val m ∧ r.length ≤ l.length + m.length + 1) w (.returned v') w3 := by
            obtain ⟨A', c', hv, hc', hr'⟩ := own_reads (l := O ++ [1]) (by rw [List.length_append, Hat1.out]; exact hown3)
            refine ⟨A', O ++ [1], c', by rw [hv], hc', hr', ⟨dig_append Hat.out.2.1 (dig_one (by decide) (by decide)), ?_, by rw [List.length_append, Hat1.out]; simp; omega⟩, hbel3⟩
            have e := Hall.out
            rw [val_append, Hat1.out]
            simp only [val]
            omega
          have Hres := Lib.hid hres
          clear hres hown3 hb3 hbel3
          go_wp2_with fail
          go_ret
          exact Hres.out

set_option maxRecDepth 100000 in
set_option maxHeartbeats 8000000 in
theorem both_minus (l m : List Int) (A C : Option Addr) (c d : Nat) (w : World) (hl : dig l) (hm : dig m) (ll : l.length ≤ 500) (lm : m.length ≤ 500) (hle : val m ≤ val l) (rl : Reads w w.heap.size A l) (rm : Reads w w.heap.size C m) :
    Calls Tryz.prog 71 #[.slice A l.length c, .slice C m.length d, .int .i64 (-1)] w (GivesRow (fun r => dig r ∧ val r = val l - val m ∧ r.length ≤ l.length + m.length + 1) w) := by
  have Hl := Lib.hid hl
  have Hm := Lib.hid hm
  have Rl := Lib.hid rl
  have Rm := Lib.hid rm
  have Hle := Lib.hid hle
  clear hle
  clear hl hm rl rm
  go_enter Tryz.func71, Tryz.ntmps71
  go_wp2_with fail
  go_loopw [7, 8, 9, 10] (fun v ov i _ wr => ∃ (k : Nat) (o : Int) (O : List Int), k ≤ l.length + m.length ∧ i = .int .i64 k ∧ ov = .int .i64 o ∧ (o = -1 ∨ o = 0) ∧ BothAt (-1) l m O k o ∧ wr.ownsRow w.heap.size 3 1 v k (O.map (Value.int .i64)) ∧ Below w.heap.size w wr) (fun _ _ i _ _ => l.length + m.length - (intOf i).toNat)
  case atStart => exact ⟨0, 0, [], Nat.zero_le _, rfl, rfl, by omega, BothAt.zero _ _ _, World.ownsRow_nil _ _ _ _, Below.refl _ _⟩
  case round =>
    obtain ⟨k, o, O, hk, rfl, rfl, ho, hat, hown, hbel⟩ := hrel
    have Hat := Lib.hid hat
    have Hown := Lib.hid hown
    have Hbel := Lib.hid hbel
    clear hat hown hbel
    have dx := dig_getD Hl.out k
    have dy := dig_getD Hm.out k
    have Ho := Lib.hid ho
    have ob : -1 ≤ o ∧ o ≤ 1 := by omega
    obtain ⟨ob1, ob2⟩ := ob
    by_cases h1 : k < l.length
    · by_cases h2 : k < m.length
      · have u1 : decide (k < l.length) = true := decide_eq_true h1
        have u2 : decide (k < m.length) = true := decide_eq_true h2
        have Hs := Lib.hid (fun (f' o' : Int) (h0 : 0 ≤ f') (h1 : f' < 10000) hf => BothAt.succ (f' := f') (o' := o') Hat.out h0 h1 hf)
        obtain ⟨b1, o1, rfl, hbb1, cb1⟩ := Rl.out (by rintro rfl; simp at h1)
        have e1 := (Hbel.out.cell (p := ⟨b1, o1 + k, none⟩) hbb1.1).trans (cb1 k h1)
        clear cb1 hbb1
        obtain ⟨b2, o2, rfl, hbb2, cb2⟩ := Rm.out (by rintro rfl; simp at h2)
        have e2 := (Hbel.out.cell (p := ⟨b2, o2 + k, none⟩) hbb2.1).trans (cb2 k h2)
        clear cb2 hbb2
        generalize l.getD k 0 = x at *
        generalize m.getD k 0 = y at *
        obtain ⟨x0, x1⟩ := dx
        obtain ⟨y0, y1⟩ := dy
        have ho0 : o ≤ 0 := by omega
        clear ho
        by_cases hf : o + x + -y < 0
        · have t1 : decide (o + x + -y < 0) = true := decide_eq_true hf
          go_wp2_with (at_builtin; refine app_int rfl (.tmp 54) (.tmp 56) rfl w.heap.size _ _ O (o + x + -y + 10000) rfl rfl Hown.out (by omega) Hbel.out.size ?_; intro v' w3 hown3 hb3 _)
          have Hown3 := Lib.hid hown3
          have Hbel3 := Lib.hid (hb3 _ Hbel.out)
          clear hown3 hb3
          go_wp2_with fail
          go_roundw
          case rel => exact ⟨k + 1, (-1), _, by omega, by go_num, rfl, by omega, Hs.out _ (-1) (by omega) (by omega) (by omega), Hown3.out, Hbel3.out⟩
          case measure => simp [intOf]; omega
        · have t1 : decide (o + x + -y < 0) = false := decide_eq_false hf
          go_wp2_with (at_builtin; refine app_int rfl (.tmp 54) (.tmp 56) rfl w.heap.size _ _ O (o + x + -y) rfl rfl Hown.out (by omega) Hbel.out.size ?_; intro v' w3 hown3 hb3 _)
          have Hown3 := Lib.hid hown3
          have Hbel3 := Lib.hid (hb3 _ Hbel.out)
          clear hown3 hb3
          go_wp2_with fail
          go_roundw
          case rel => exact ⟨k + 1, 0, _, by omega, by go_num, rfl, by omega, Hs.out _ 0 (by omega) (by omega) (by omega), Hown3.out, Hbel3.out⟩
          case measure => simp [intOf]; omega
      · have u1 : decide (k < l.length) = true := decide_eq_true h1
        have u2 : decide (k < m.length) = false := decide_eq_false h2
        have Hs := Lib.hid (fun (f' o' : Int) (h0 : 0 ≤ f') (h1 : f' < 10000) hf => BothAt.succ (f' := f') (o' := o') Hat.out h0 h1 hf)
        obtain ⟨b1, o1, rfl, hbb1, cb1⟩ := Rl.out (by rintro rfl; simp at h1)
        have e1 := (Hbel.out.cell (p := ⟨b1, o1 + k, none⟩) hbb1.1).trans (cb1 k h1)
        clear cb1 hbb1
        rw [getD_out h2] at Hs
        generalize l.getD k 0 = x at *
        obtain ⟨x0, x1⟩ := dx
        clear dy
        have ho0 : o ≤ 0 := by omega
        clear ho
        by_cases hf : o + x < 0
        · have t1 : decide (o + x < 0) = true := decide_eq_true hf
          go_wp2_with (at_builtin; refine app_int rfl (.tmp 54) (.tmp 56) rfl w.heap.size _ _ O (o + x + 10000) rfl rfl Hown.out (by omega) Hbel.out.size ?_; intro v' w3 hown3 hb3 _)
          have Hown3 := Lib.hid hown3
          have Hbel3 := Lib.hid (hb3 _ Hbel.out)
          clear hown3 hb3
          go_wp2_with fail
          go_roundw
          case rel => exact ⟨k + 1, (-1), _, by omega, by go_num, rfl, by omega, Hs.out _ (-1) (by omega) (by omega) (by omega), Hown3.out, Hbel3.out⟩
          case measure => simp [intOf]; omega
        · have t1 : decide (o + x < 0) = false := decide_eq_false hf
          go_wp2_with (at_builtin; refine app_int rfl (.tmp 54) (.tmp 56) rfl w.heap.size _ _ O (o + x) rfl rfl Hown.out (by omega) Hbel.out.size ?_; intro v' w3 hown3 hb3 _)
          have Hown3 := Lib.hid hown3
          have Hbel3 := Lib.hid (hb3 _ Hbel.out)
          clear hown3 hb3
          go_wp2_with fail
          go_roundw
          case rel => exact ⟨k + 1, 0, _, by omega, by go_num, rfl, by omega, Hs.out _ 0 (by omega) (by omega) (by omega), Hown3.out, Hbel3.out⟩
          case measure => simp [intOf]; omega
    · by_cases h2 : k < m.length
      · have u1 : decide (k < l.length) = false := decide_eq_false h1
        have u2 : decide (k < m.length) = true := decide_eq_true h2
        have Hs := Lib.hid (fun (f' o' : Int) (h0 : 0 ≤ f') (h1 : f' < 10000) hf => BothAt.succ (f' := f') (o' := o') Hat.out h0 h1 hf)
        rw [getD_out h1] at Hs
        obtain ⟨b2, o2, rfl, hbb2, cb2⟩ := Rm.out (by rintro rfl; simp at h2)
        have e2 := (Hbel.out.cell (p := ⟨b2, o2 + k, none⟩) hbb2.1).trans (cb2 k h2)
        clear cb2 hbb2
        generalize m.getD k 0 = y at *
        clear dx
        obtain ⟨y0, y1⟩ := dy
        have ho0 : o ≤ 0 := by omega
        clear ho
        by_cases hf : o + -y < 0
        · have t1 : decide (o + -y < 0) = true := decide_eq_true hf
          go_wp2_with (at_builtin; refine app_int rfl (.tmp 54) (.tmp 56) rfl w.heap.size _ _ O (o + -y + 10000) rfl rfl Hown.out (by omega) Hbel.out.size ?_; intro v' w3 hown3 hb3 _)
          have Hown3 := Lib.hid hown3
          have Hbel3 := Lib.hid (hb3 _ Hbel.out)
          clear hown3 hb3
          go_wp2_with fail
          go_roundw
          case rel => exact ⟨k + 1, (-1), _, by omega, by go_num, rfl, by omega, Hs.out _ (-1) (by omega) (by omega) (by omega), Hown3.out, Hbel3.out⟩
          case measure => simp [intOf]; omega
        · have t1 : decide (o + -y < 0) = false := decide_eq_false hf
          go_wp2_with (at_builtin; refine app_int rfl (.tmp 54) (.tmp 56) rfl w.heap.size _ _ O (o + -y) rfl rfl Hown.out (by omega) Hbel.out.size ?_; intro v' w3 hown3 hb3 _)
          have Hown3 := Lib.hid hown3
          have Hbel3 := Lib.hid (hb3 _ Hbel.out)
          clear hown3 hb3
          go_wp2_with fail
          go_roundw
          case rel => exact ⟨k + 1, 0, _, by omega, by go_num, rfl, by omega, Hs.out _ 0 (by omega) (by omega) (by omega), Hown3.out, Hbel3.out⟩
          case measure => simp [intOf]; omega
      · have u1 : decide (k < l.length) = false := decide_eq_false h1
        have u2 : decide (k < m.length) = false := decide_eq_false h2
        clear dx dy
        obtain rfl := Hat.out.minus h1 h2 Hle.out Ho.out
        have Hall := Lib.hid (Hat.out.all h1 h2)
        have Hat1 := Lib.hid Hat.out.1
        clear h1 h2 ho
        have Own := Lib.hid (Hat1.out.symm ▸ Hown.out)
        have hres : GivesRow (fun r => dig r ∧ val r = val l - val m ∧ r.length ≤ l.length + m.length + 1) w (.returned u7) wr := by
          obtain ⟨A', c', hv, hc', hr'⟩ := own_reads (l := O) Own.out
          have e := Hall.out
          exact ⟨A', O, c', by rw [hv], hc', hr', ⟨Hat.out.2.1, by omega, by have := Hat1.out; omega⟩, Hbel.out⟩
        have Hres := Lib.hid hres
        clear hres
        go_wp2_with fail
        go_ret
        exact Hres.out
end Go.Proofs.YtnenipgpncomeaaGreatDoor.W2
