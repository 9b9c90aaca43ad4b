/- Contracts of the reference's both: the figures of two numbers together, and of one less the other. -/
import Derived.Test.YtnenipgpncomeaaDoorLess
namespace Go.Proofs.YtnenipgpncomeaaDoor.W2
open Go.RowKit
open Fg

theorem take_step (l : List Int) (k : Nat) : val (l.take (k + 1)) = val (l.take k) + 10000 ^ k * l.getD k 0 := by
  rcases Nat.lt_or_ge k l.length with h | h
  · exact val_take_succ l k h
  · rw [List.take_of_length_le (by omega), List.take_of_length_le h, List.getD_eq_getElem?_getD, List.getElem?_eq_none h]
    simp
theorem getD_out {l : List Int} {k : Nat} (h : ¬ k < l.length) : l.getD k 0 = 0 := by
  rw [List.getD_eq_getElem?_getD, List.getElem?_eq_none (by omega)]; rfl
/-- what has been added, one figure more: f is what comes in, f' what stays, o' what goes over -/
theorem both_step {s o o' f' : Int} {l m O : List Int} {k : Nat} (hO : O.length = k) (h : val O + 10000 ^ k * o = val (l.take k) + s * val (m.take k)) (hf : f' + 10000 * o' = o + (l.getD k 0 + s * m.getD k 0)) :
    val (O ++ [f']) + 10000 ^ (k + 1) * o' = val (l.take (k + 1)) + s * val (m.take (k + 1)) := by
  rw [take_step, take_step, val_append, hO, val, val, Int.pow_succ, Int.mul_assoc (10000 ^ k) 10000 o', Int.mul_add s, Int.mul_left_comm s]
  have h2 : (10000 : Int) ^ k * (f' + 10000 * o') = 10000 ^ k * (o + (l.getD k 0 + s * m.getD k 0)) := by rw [hf]
  rw [Int.mul_add, Int.mul_add, Int.mul_add] at h2
  rw [Int.mul_zero, Int.add_zero]
  omega

/-- what stands behind k rounds -/
def BothAt (s : Int) (l m O : List Int) (k : Nat) (o : Int) : Prop := O.length = k ∧ dig O ∧ val O + 10000 ^ k * o = val (l.take k) + s * val (m.take k)
theorem BothAt.zero (s : Int) (l m : List Int) : BothAt s l m [] 0 0 := ⟨rfl, fun x hx => (by cases hx), by simp [val]⟩
theorem BothAt.succ {s o o' f' : Int} {l m O : List Int} {k : Nat} (h : BothAt s l m O k o) (h0 : 0 ≤ f') (h1 : f' < 10000) (hf : f' + 10000 * o' = o + (l.getD k 0 + s * m.getD k 0)) : BothAt s l m (O ++ [f']) (k + 1) o' :=
  ⟨by rw [List.length_append, h.1]; rfl, dig_append h.2.1 (dig_one h0 h1), both_step h.1 h.2.2 hf⟩
theorem BothAt.all {s o : Int} {l m O : List Int} {k : Nat} (h : BothAt s l m O k o) (h1 : ¬ k < l.length) (h2 : ¬ k < m.length) : val O + 10000 ^ k * o = val l + s * val m := by
  have := h.2.2
  rwa [List.take_of_length_le (by omega), List.take_of_length_le (by omega)] at this
theorem BothAt.minus {o : Int} {l m O : List Int} {k : Nat} (h : BothAt (-1) l m O k o) (h1 : ¬ k < l.length) (h2 : ¬ k < m.length) (hle : val m ≤ val l) (ho : o = -1 ∨ o = 0) : o = 0 := by
  have e := h.all h1 h2
  have b := (val_bd h.2.1).2
  rw [h.1] at b
  rcases ho with rfl | rfl
  · omega
  · rfl

end Go.Proofs.YtnenipgpncomeaaDoor.W2
