/- Contract of the reference's Int. -/
import Derived.Test.YtnenipgpncomeaaDoorOf
namespace Go.Proofs.YtnenipgpncomeaaDoor.W2
open Go.RowKit
open Fg

theorem val_drop_succ (l : List Int) (k : Nat) (h : k < l.length) : val (l.drop k) = l.getD k 0 + 10000 * val (l.drop (k + 1)) := by
  have h1 : l.getD k 0 = l[k] := by simp [List.getElem?_eq_getElem h]
  rw [List.drop_eq_getElem_cons h, val, h1]
theorem dig_drop {l : List Int} (h : dig l) (k : Nat) : dig (l.drop k) := fun x hx => h x (List.mem_of_mem_drop hx)
theorem val_drop_le {l : List Int} (h : dig l) (k : Nat) : val (l.drop k) ≤ val l := by
  have h1 := val_append (l.take k) (l.drop k)
  rw [List.take_append_drop] at h1
  have h2 := (val_bd (dig_take h k)).1
  have h3 := (val_bd (dig_drop h k)).1
  have h4 : 1 * val (l.drop k) ≤ 10000 ^ (l.take k).length * val (l.drop k) := Int.mul_le_mul_of_nonneg_right (by have : (0 : Int) < 10000 ^ (l.take k).length := Int.pow_pos (by decide); omega) h3
  omega

end Go.Proofs.YtnenipgpncomeaaDoor.W2
