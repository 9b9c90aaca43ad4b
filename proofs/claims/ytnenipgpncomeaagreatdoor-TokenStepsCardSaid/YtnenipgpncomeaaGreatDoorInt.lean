/- Contract of the reference's Int. -/
import Derived.Test.YtnenipgpncomeaaGreatDoorOf
namespace Go.Proofs.YtnenipgpncomeaaGreatDoor.W2
open Go.RowKit
open Fg

theorem val_drop_succ (l : List Int) (k : Nat) (h : k < l.length) : val (l.drop k) = l.getD k 0 + 10000 * val (l.drop (k + 1)) := by
  have h1 : l.getD k 0 = l[k] := by simp [List.getElem?_eq_getElem h]
  rw [List.drop_eq_getElem_cons h, val, h1]
theorem dig_drop {l : List Int} (h : dig l) (k : Nat) : dig (l.drop k) := fun x hx => h x (List.mem_of_mem_drop hx)
theorem val_drop_le {l : List Int} (h : dig l) (k : Nat) : val (l.drop k) ≤ val l := by
  have h1 := val_append (l.take k) (l.drop k)
  rw [List.take_append_drop] at h1
  have h2 := (val_bd (dig_take h k)).1
  have h3 := (val_bd (dig_drop h k)).1
  have h4 : 1 * val (l.drop k) ≤ 10000 ^ (l.take k).length * val (l.drop k) := Int.mul_le_mul_of_nonneg_right (by have : (0 : Int) < 10000 ^ (l.take k).length := Int.pow_pos (by decide); omega) h3
  omega

set_option maxRecDepth 100000 in
set_option maxHeartbeats 4000000 in
theorem int_any (x : Value) (z : Int) (w : World) (hx : Nz w w.heap.size x z) (hz : In64 z) :
    Calls Tryz.prog 21 #[x] w fun e w' => e = .returned (.int .i64 z) ∧ Below w.heap.size w w' := by
  obtain ⟨l, A, c, rfl, hc, hl2, hr, hd, hv, hf⟩ := nz_open hx ((sm_in hz).mono (by decide))
  have Hd := Lib.hid hd
  have Hr := Lib.hid hr
  have Hv := Lib.hid hv
  have hvb : val l ≤ 9223372036854775808 := by unfold In64 at hz; omega
  have hvc : 0 ≤ z → val l ≤ 9223372036854775807 := by unfold In64 at hz; omega
  have Hvc := Lib.hid hvc
  clear hx hz hr hd hv hf hvc
  by_cases hs : z < 0
  all_goals
    first
      | (rw [decide_eq_true hs]
         have hzz := Lib.hid (show -val l = z by have := Hv.out; omega))
      | (rw [decide_eq_false hs]
         have hzz := Lib.hid (show val l = z by have := Hv.out; omega)
         have hvc := Hvc.out (by omega))
    go_enter Tryz.func21, Tryz.ntmps21
    go_wp2_with fail
    go_loop [3, 4] (fun n i => ∃ t : Int, -1 ≤ t ∧ t < l.length ∧ i = .int .i64 t ∧ n = .int .i64 (-val (l.drop (t + 1).toNat))) (fun _ i => (intOf i + 1).toNat)
    case atStart =>
      refine ⟨_, by omega, by omega, rfl, ?_⟩
      rw [List.drop_eq_nil_of_le (by omega)]; rfl
    case round =>
      obtain ⟨t, ht1, ht2, rfl, rfl⟩ := hrel
      by_cases hn : t < 0
      · obtain rfl : t = -1 := by omega
        rw [show ((-1 : Int) + 1).toNat = 0 from rfl, List.drop_zero]
        have hv0 := (val_bd Hd.out).1
        generalize val l = y at *
        go_wp2_with fail
        go_ret
        exact ⟨ret_int (by have := hzz.out; omega), (Below.refl _ _).alloc (Nat.le_refl _) _⟩
      · obtain ⟨j, rfl⟩ : ∃ j : Nat, t = (j : Int) := ⟨t.toNat, by omega⟩
        have hj : j < l.length := by omega
        obtain ⟨b1, o1, rfl, ⟨hb1, _⟩, c1⟩ := Hr.out (by rintro rfl; simp at hj)
        have e1 := c1 j hj
        have h1 := val_drop_succ l j hj
        have h2 := val_drop_le Hd.out j
        have h3 := (val_bd (dig_drop Hd.out (j + 1))).1
        have h4 := dig_getD Hd.out j
        rw [show ((j : Int) + 1).toNat = j + 1 by omega]
        have Hj := Lib.hid (show val (l.drop ((j : Int) - 1 + 1).toNat) = l.getD j 0 + 10000 * val (l.drop (j + 1)) by rw [show ((j : Int) - 1 + 1).toNat = j by omega]; exact h1)
        rw [h1] at h2
        clear c1 h1
        generalize val (l.drop (j + 1)) = y at *
        generalize l.getD j 0 = q at *
        obtain ⟨q0, q1⟩ := h4
        have hyb : y ≤ 922337203685477 := by omega
        clear hn
        go_wp2_with fail
        go_round
        case rel => exact ⟨(j : Int) - 1, by omega, by omega, rfl, by rw [Hj.out]; go_num⟩
        case measure => simp [intOf]
end Go.Proofs.YtnenipgpncomeaaGreatDoor.W2
