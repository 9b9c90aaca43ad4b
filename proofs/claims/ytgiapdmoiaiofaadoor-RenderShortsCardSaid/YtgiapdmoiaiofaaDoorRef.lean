/- Contracts of the reference's Bytes and First. -/
import Derived.Test.YtgiapdmoiaiofaaDoorBase
import Derived.Test.YtgiapdmoiaiofaaDoorFirst
import Derived.Test.YtgiapdmoiaiofaaDoorEach
import Derived.Lib.Hide
import Derived.Lib.Strings
import Derived.WalkKit
import Derived.WalkSpells
import Derived.Deep.QuietTactic
import Derived.BigQuiet
import Derived.WalkSmall
namespace Go.Proofs.YtgiapdmoiaiofaaDoor
open Go.RowKit
open Pl

/-- the cells of a row of ints -/
def ints (l : List Int) : Array Value := (l.map (Value.int .i64)).toArray

theorem bytes_any (n : Int) (w : World) (h : pt n = true) : Calls Tryd.prog 43 #[.int .i64 n] w fun e w' =>
    e = .returned (.slice (some ⟨w.heap.size, 0, none⟩) (Lib.encodeRuneZ n).length (Lib.encodeRuneZ n).length) ∧ w' = w.alloc (.cells (ints (Lib.encodeRuneZ n)) 3) := by
  have hp := (pt_iff n).1 h
  clear h
  by_cases h1 : n ≤ 127
  · have e := Lib.hid (Lib.encodeRuneZ_one (r := n) (by omega) h1)
    have b : 0 ≤ n := by omega
    clear hp
    go_enter Tryd.func43, Tryd.ntmps43
    go_wp2_with fail
    rw [e.out]
    go_ret
    exact ⟨rfl, rfl⟩
  · by_cases h2 : n ≤ 2047
    · have e := Lib.hid (Lib.encodeRuneZ_two (r := n) (by omega) h2)
      have b : 128 ≤ n := by omega
      clear hp h1
      go_enter Tryd.func43, Tryd.ntmps43
      go_wp2_with fail
      rw [e.out]
      go_ret
      exact ⟨rfl, rfl⟩
    · by_cases h3 : n ≤ 65535
      · have e := Lib.hid (Lib.encodeRuneZ_three (r := n) (by omega))
        have b : 2048 ≤ n := by omega
        clear hp h1 h2
        go_enter Tryd.func43, Tryd.ntmps43
        go_wp2_with fail
        rw [e.out]
        go_ret
        exact ⟨rfl, rfl⟩
      · have e := Lib.hid (Lib.encodeRuneZ_four (r := n) (by omega) (by omega))
        have b : 65536 ≤ n := by omega
        have b2 : n ≤ 1114111 := by omega
        clear hp h1 h2 h3
        go_enter Tryd.func43, Tryd.ntmps43
        go_wp2_with fail
        rw [e.out]
        go_ret
        exact ⟨rfl, rfl⟩

theorem ints_cell (E : List Int) (w : World) (t : TypeId) (j : Nat) (h : j < E.length) : (w.alloc (.cells (ints E) t)).cell? ⟨w.heap.size, j, none⟩ = some (.int .i64 (E.getD j 0)) := by
  have := cell_of_row (w.alloc (.cells (ints E) t)) w.heap.size j (ints E) t (0, 0) (heap_alloc_new w _)
  rw [this]
  simp [ints, List.getElem?_eq_getElem h]

/-- Bytes, the world told by what stays and by the new row's cells -/
theorem bytes_row (n : Int) (w : World) (h : pt n = true) : Calls Tryd.prog 43 #[.int .i64 n] w fun e w' =>
    ∃ b, e = .returned (.slice (some ⟨b, 0, none⟩) (Lib.encodeRuneZ n).length (Lib.encodeRuneZ n).length) ∧ (∀ j, j < (Lib.encodeRuneZ n).length → w'.cell? ⟨b, j, none⟩ = some (.int .i64 ((Lib.encodeRuneZ n).getD j 0))) ∧ Below w.heap.size w w' := by
  refine (bytes_any n w h).mono ?_
  rintro e w' ⟨rfl, rfl⟩
  exact ⟨w.heap.size, rfl, fun j hj => ints_cell _ _ _ _ hj, (Below.refl _ _).alloc (Nat.le_refl _) _⟩

/-- the reference's 'same' behind j rounds -/
def sameB (L : List UInt8) (E : List Int) (k j : Nat) : Bool := decide (E.length = k) && (List.range j).all fun i => E.getD i 0 == byteAt L i
theorem sameB_zero (L : List UInt8) (E : List Int) (k : Nat) : sameB L E k 0 = decide (E.length = k) := by simp [sameB]
theorem sameB_succ (L : List UInt8) (E : List Int) (k j : Nat) : sameB L E k (j + 1) = (sameB L E k j && (E.getD j 0 == byteAt L j)) := by
  simp [sameB, List.range_succ, Bool.and_assoc]
theorem sameB_len {L : List UInt8} {E : List Int} {k j : Nat} (h : sameB L E k j = true) : E.length = k := by
  simp [sameB] at h; exact h.1
theorem sameB_hit {L : List UInt8} {k : Nat} (h1 : 1 ≤ k) (h4 : k ≤ 4) (hl : k ≤ L.length) (hp : pt (num L k (k - 1)) = true) (h : sameB L (Lib.encodeRuneZ (num L k (k - 1))) k k = true) : Hit L k := by
  simp only [sameB, Bool.and_eq_true, decide_eq_true_eq, List.all_eq_true, List.mem_range, beq_iff_eq] at h
  exact ⟨h1, h4, hl, hp, h.1, h.2⟩
theorem sameB_no {L : List UInt8} {k j : Nat} (hj : j ≤ k) (h : sameB L (Lib.encodeRuneZ (num L k (k - 1))) k j = false) : ¬ Hit L k := by
  intro hh
  have : sameB L (Lib.encodeRuneZ (num L k (k - 1))) k j = true := by
    simp only [sameB, Bool.and_eq_true, decide_eq_true_eq, List.all_eq_true, List.mem_range, beq_iff_eq]
    exact ⟨hh.2.2.2.2.1, fun i hi => hh.2.2.2.2.2 i (by omega)⟩
  rw [this] at h
  cases h

theorem wrap_byte (s : ByteArray) (i : Nat) (h : i < s.size) (L : List UInt8) (j : Nat) (a : Nat) (e : s.data.toList.drop a = L) (ei : a + j = i) : wrap64 ((s[i]'h).toNat : Int) = byteAt L j := by
  have hb := (s[i]'h).toNat_lt
  have h1 : wrap64 ((s[i]'h).toNat : Int) = ((s[i]'h).toNat : Int) := IntWalk.wrap64_in _ (by omega)
  rw [h1]
  unfold byteAt
  rw [← e, ← get_drop, ei]
  congr 2
  exact (get_at s i h).symm

set_option maxRecDepth 100000 in
set_option maxHeartbeats 4000000 in
theorem first_any (s : ByteArray) (i : Nat) (w : World) (hi : i < s.size) (hs : s.size ≤ 1000000) :
    Calls Tryd.prog 36 #[.string s, .int .i64 i] w fun e w' => e = .returned (.tuple #[.int .i64 (decN (s.data.toList.drop i)), .int .i64 (decM (s.data.toList.drop i))]) ∧ Below w.heap.size w w' := by
  have hlen : (s.data.toList.drop i).length = s.size - i := by rw [List.length_drop, Array.length_toList]; rfl
  generalize hL : s.data.toList.drop i = L at *
  have Hlen := Lib.hid hlen
  have HL := Lib.hid hL
  clear hL hlen
  have i1 : (i : Int) < (s.size : Int) := by omega
  go_enter Tryd.func36, Tryd.ntmps36
  go_wp2_with fail
  go_loopw [6] (fun m wr => ∃ k : Nat, 1 ≤ k ∧ k ≤ 5 ∧ m = .int .i64 k ∧ (∀ j, 1 ≤ j → j < k → ¬ Hit L j) ∧ Below w.heap.size w wr) (fun m _ => 5 - (intOf m).toNat)
  case atStart => exact ⟨1, by omega, by omega, rfl, fun j a b => by omega, Below.refl _ _⟩
  case round =>
    obtain ⟨k, hk1, hk5, rfl, hno, hbel⟩ := hrel
    have Hno := Lib.hid hno
    clear hno
    by_cases hk : k ≤ 4
    · by_cases hfit : i + k ≤ s.size
      · have hcell : ∀ j : Nat, j ≤ 4 → (wr.alloc (.cells #[.int .i64 0, .int .i64 0, .int .i64 192, .int .i64 224, .int .i64 240] 93)).cell? ⟨wr.heap.size, j, none⟩ = some (.int .i64 (hd j)) := by
          intro j hj
          rcases (by omega : j = 0 ∨ j = 1 ∨ j = 2 ∨ j = 3 ∨ j = 4) with rfl | rfl | rfl | rfl | rfl <;> simp [hd]
        have hck := hcell k hk
        clear hcell
        have k5 : (k : Int) < 5 := by omega
        have t1 : decide ((k : Int) ≤ 4) = true := by simp; omega
        have t2 : decide ((s.size : Int) < (i : Int) + (k : Int)) = false := by simp; omega
        have hb0 := wrap_byte s i hi L 0 i HL.out rfl
        obtain ⟨y0, y1⟩ := byteAt_lt L 0
        obtain ⟨d0, d1⟩ := hd_b k
        go_wp2_with fail
        go_quiet (fail)
        go_wp2_with fail
        clear hb0 hck
        have hbel1 : Below w.heap.size w ((wr.alloc (.cells #[.int .i64 0, .int .i64 0, .int .i64 192, .int .i64 224, .int .i64 240] 93)).drewN nq) := below_drewN (hbel.alloc hbel.size _) _
        generalize (wr.alloc (.cells #[.int .i64 0, .int .i64 0, .int .i64 192, .int .i64 224, .int .i64 240] 93)).drewN nq = w1 at *
        go_loop [8, 9] (fun n c => ∃ j : Nat, 1 ≤ j ∧ j ≤ k ∧ c = .int .i64 j ∧ n = .int .i64 (num L k (j - 1))) (fun _ c => k - (intOf c).toNat)
        case atStart => exact ⟨1, by omega, hk1, rfl, rfl⟩
        case round =>
          obtain ⟨j, hj1, hjk, rfl, rfl⟩ := hrel
          obtain ⟨z0, z1⟩ := num_le L k (j - 1) (by omega)
          by_cases hjlt : j < k
          · have hij : i + j < s.size := by omega
            have hbj := wrap_byte s (i + j) hij L j i HL.out rfl
            obtain ⟨x0, x1⟩ := byteAt_lt L j
            have hnum : num L k (j - 1) * 64 + byteAt L j - 128 = num L k j := by
              obtain ⟨j', rfl⟩ : ∃ j', j = j' + 1 := ⟨j - 1, by omega⟩
              rfl
            have Hnum := Lib.hid hnum
            clear hnum
            go_wp2_with fail
            go_round
            case rel => exact ⟨j + 1, by omega, by omega, by go_num, by rw [Nat.add_sub_cancel, ← Hnum.out]⟩
            case measure => simp [intOf]; omega
          · obtain rfl : k = j := by omega
            clear hjk hj1
            have hgo : ∀ W : World, ¬ Hit L k → Below w.heap.size w W → ∃ k' : Nat, 1 ≤ k' ∧ k' ≤ 5 ∧ Value.int .i64 ((k : Int) + 1) = .int .i64 k' ∧ (∀ j, 1 ≤ j → j < k' → ¬ Hit L j) ∧ Below w.heap.size w W := by
              intro W hnh hbw
              refine ⟨k + 1, by omega, by omega, by go_num, ?_, hbw⟩
              intro a ha hb
              by_cases haj : a < k
              · exact Hno.out a ha haj
              · obtain rfl : a = k := by omega
                exact hnh
            have Hgo := Lib.hid hgo
            clear hgo
            cases hpt : pt (num L k (k - 1)) with
            | false =>
              have hnh : ¬ Hit L k := fun hh => by rw [hh.2.2.2.1] at hpt; cases hpt
              go_wp2_with (go_at_call 49; refine (ris_no _ _ hpt).mono ?_; rintro e w' ⟨rfl, rfl⟩)
              go_roundw
              case rel => exact Hgo.out _ hnh hbel1
              case measure => simp [intOf]; omega
            | true =>
              have Hpt := Lib.hid hpt
              clear hpt
              have hEl := Lib.encodeRuneZ_length (num L k (k - 1))
              go_wp2_with (go_at_call 49; refine (ris_yes _ _ Hpt.out).mono ?_; rintro e w' ⟨rfl, rfl⟩)
              refine (bytes_row _ _ Hpt.out).mono ?_
              rintro e w2 ⟨b, rfl, hrow, hb2⟩
              have Hrow := Lib.hid hrow
              have hbel2 : Below w.heap.size w w2 := hbel1.trans (hb2.mono hbel1.size)
              clear hrow hb2 hbel1
              have HEl := Lib.hid hEl
              clear hEl
              go_wp2_with fail
              go_loopw [11, 12] (fun sm c wr' => ∃ q j : Nat, j ≤ k ∧ c = .int .i64 j ∧ sm = .bool (sameB L (Lib.encodeRuneZ (num L k (k - 1))) k j) ∧ wr' = w2.drewN q) (fun _ c _ => k - (intOf c).toNat)
              case atStart =>
                refine ⟨0, 0, by omega, rfl, ?_, rfl⟩
                rw [sameB_zero]
                congr 1
                rw [Bool.eq_iff_iff, beq_iff_eq, decide_eq_true_eq]
                omega
              case round =>
                obtain ⟨q, j, hjk, rfl, rfl, rfl⟩ := hrel
                cases hsm : sameB L (Lib.encodeRuneZ (num L k (k - 1))) k j with
                | false =>
                  have hnh := sameB_no hjk hsm
                  clear hsm
                  go_wp2_with fail
                  go_roundw
                  case rel => exact Hgo.out _ hnh (below_drewN hbel2 _)
                  case measure => simp [intOf]; omega
                | true =>
                  have hlen := sameB_len hsm
                  by_cases hjlt : j < k
                  · obtain ⟨x, hx, hc⟩ : ∃ x, (Lib.encodeRuneZ (num L k (k - 1))).getD j 0 = x ∧ w2.cell? ⟨b, j, none⟩ = some (.int .i64 x) := ⟨_, rfl, Hrow.out j (by omega)⟩
                    have hij : i + j < s.size := by omega
                    have hbj := wrap_byte s (i + j) hij L j i HL.out rfl
                    have hnext : sameB L (Lib.encodeRuneZ (num L k (k - 1))) k (j + 1) = (x == byteAt L j) := by
                      rw [sameB_succ, hsm, hx, Bool.true_and]
                    have Hnext := Lib.hid hnext
                    have Hl := Lib.hid hlen
                    have jl : (j : Int) < ((Lib.encodeRuneZ (num L k (k - 1))).length : Int) := by omega
                    have e1 : IntKind.i64.wrap ((i : Int) + (j : Int)) = (i : Int) + (j : Int) := IntWalk.i64_in _ (by omega)
                    have e2 : 0 ≤ (i : Int) + (j : Int) := by omega
                    have e3 : ((i : Int) + (j : Int)).toNat = i + j := by omega
                    have e4 : (i : Int) + (j : Int) < (s.size : Int) := by omega
                    clear hx hsm hnext hlen
                    go_wp2_with fail
                    go_quiet (fail)
                    go_wp2_with fail
                    go_roundw
                    case rel => exact ⟨q + nq, j + 1, by omega, by go_num, by rw [Hnext.out], rfl⟩
                    case measure => simp [intOf]; omega
                  · obtain rfl : k = j := by omega
                    have hh := sameB_hit hk1 hk (by rw [Hlen.out]; omega) Hpt.out hsm
                    obtain ⟨o1, o2, o3⟩ := hit_dec hh
                    have Hres := Lib.hid (show decN L = num L k (k - 1) ∧ decM L = (k : Int) from ⟨by rw [decN_yes o1, o2], by rw [decM_yes o1, o3]⟩)
                    clear hh o1 o2 o3 hlen
                    go_wp2_with fail
                    go_ret2
                    exact ⟨by rw [Hres.out.1, Hres.out.2]; rfl, below_drewN hbel2 _⟩
      · have t1 : decide ((k : Int) ≤ 4) = true := by simp; omega
        have t2 : decide ((s.size : Int) < (i : Int) + (k : Int)) = true := by simp; omega
        have ho : ok L = false := no_hit_short (m := k) (fun j h1 h2 => Hno.out j h1 h2) (by rw [Hlen.out]; omega)
        have Hres := Lib.hid (show decN L = -1 ∧ decM L = 0 from ⟨decN_no ho, decM_no ho⟩)
        clear ho
        go_wp2_with fail
        go_ret2
        exact ⟨by rw [Hres.out.1, Hres.out.2]; rfl, hbel⟩
    · have t1 : decide ((k : Int) ≤ 4) = false := by simp; omega
      have ho : ok L = false := no_hit fun j h1 h2 => Hno.out j h1 (by omega)
      have Hres := Lib.hid (show decN L = -1 ∧ decM L = 0 from ⟨decN_no ho, decM_no ho⟩)
      clear ho
      go_wp2_with fail
      go_ret2
      exact ⟨by rw [Hres.out.1, Hres.out.2]; rfl, hbel⟩

theorem first_zero (s : ByteArray) (w : World) (hi : 0 < s.size) (hs : s.size ≤ 1000000) :
    Calls Tryd.prog 36 #[.string s, .int .i64 0] w fun e w' => e = .returned (.tuple #[.int .i64 (decN s.data.toList), .int .i64 (decM s.data.toList)]) ∧ Below w.heap.size w w' :=
  first_any s 0 w hi hs
end Go.Proofs.YtgiapdmoiaiofaaDoor
