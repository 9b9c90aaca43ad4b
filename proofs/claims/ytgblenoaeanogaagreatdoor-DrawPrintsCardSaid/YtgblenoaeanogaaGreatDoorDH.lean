/- A sequence printed: the reference's Print. -/
import Derived.Test.YtgblenoaeanogaaGreatDoorDD
import Derived.Test.YtgblenoaeanogaaGreatDoorOW
import Derived.Lib.ItoaLen
set_option linter.unusedVariables false
set_option maxRecDepth 100000
set_option maxHeartbeats 8000000
open Go.Lib (hid)
namespace Go.Proofs.YtgblenoaeanogaaGreatDoor
open Go.RowKit
attribute [local go_sem ↓] Go.wp_at_zero Go.wp_at_succ
theorem dl_app12 (a b : ByteArray) : (a ++ b).data.toList = a.data.toList ++ b.data.toList := by simp
theorem mk_of12 {s : ByteArray} {l : List UInt8} (h : s.data.toList = l) : s = mkB l := by
 obtain ⟨⟨d⟩⟩ := s
 simp at h
 subst h
 rfl
theorem sm_of12 {z : Int} (h0 : -9223372036854775808 ≤ z) (h1 : z ≤ 9223372036854775807) : W2.Sm 100 z := by
 unfold W2.Sm
 have : (10000 : Nat) ^ 5 ≤ 10000 ^ 100 := Nat.pow_le_pow_right (by decide) (by decide)
 have h5 : (10000 : Nat) ^ 5 = 100000000000000000000 := by decide
 omega
def txK (l : List Int) (k : Nat) : List UInt8 := 91 :: T.txts [] ((l.take k).map Rd.numT) 0
theorem txK_succ {l : List Int} {k : Nat} (hk : k < l.length) : txK l (k + 1) = txK l k ++ (comma k ++ Lib.itoa (l.getD k 0)) := by
 unfold txK
 rw [List.take_add_one, List.getElem?_eq_getElem hk, List.getD_eq_getElem?_getD, List.getElem?_eq_getElem hk]
 show 91 :: T.txts [] ((l.take k ++ [l[k]]).map Rd.numT) 0 = _
 rw [seq_snoc, List.length_take, Nat.min_eq_left (Nat.le_of_lt hk)]
 rfl
theorem txK_len {l : List Int} (h : ∀ x ∈ l, In64 x) {k : Nat} (hk : k ≤ l.length) : (txK l k).length ≤ 22 * k + 1 := by
 induction k with
 | zero => show (1 : Nat) ≤ 1; decide
 | succ k ih =>
  have h1 := ih (by omega)
  have h2 := comma_len k
  have hin : In64 (l.getD k 0) := by
   rw [List.getD_eq_getElem?_getD, List.getElem?_eq_getElem (show k < l.length by omega)]
   exact h _ (List.getElem_mem _)
  have h3 : (Lib.itoa (l.getD k 0)).length ≤ 21 := Lib.itoa_length_le _ hin.1 hin.2
  rw [txK_succ (by omega), List.length_append, List.length_append]
  omega
theorem rdprint_any (l : List Int) (A : Option Addr) (c : Nat) (w : World) (hl : l.length ≤ 100) (hin : ∀ x ∈ l, In64 x) (hr : RI w w.heap.size A l) :
 Calls Tryz.prog 12 #[.slice A l.length c] w fun e w' => e = .returned (.string (mkB (seqT l).txt)) ∧ Below w.heap.size w w' := by
 have HR := hid hr
 have HIN := hid hin
 clear hr hin
 go_enter Tryz.func12, Tryz.ntmps12
 go_wp2_with fail
 go_loopw [3, 4, 7] (fun v _ i wr => ∃ (k : Nat) (S : ByteArray), k ≤ l.length ∧ i = .int .i64 k ∧ v = .string S ∧ S.data.toList = txK l k ∧ Below w.heap.size w wr) (fun _ _ i _ => l.length - (intOf i).toNat)
 case atStart => exact ⟨0, _, Nat.zero_le _, rfl, rfl, rfl, Below.refl _ _⟩
 case round =>
  obtain ⟨k, S, hk, rfl, rfl, hS, hbel⟩ := hrel
  have HS := hid hS
  have HBl := hid hbel
  have hSz : S.size ≤ 4000 := by
   have h1 := txK_len HIN.out hk
   rw [← hS] at h1
   have h2 : S.data.toList.length = S.size := Array.length_toList
   omega
  clear hS hbel
  by_cases hlt : k < l.length
  ·
   have u1 : decide (k < l.length) = true := decide_eq_true hlt
   obtain ⟨b1, o1, rfl, hb1, c1⟩ := HR.out.at_ hlt
   have e1 := (HBl.out.cell (p := ⟨b1, o1 + k, none⟩) hb1).trans (c1 k hlt)
   have HTX := hid (txK_succ hlt)
   have hxi : In64 (l.getD k 0) := by
    rw [List.getD_eq_getElem?_getD, List.getElem?_eq_getElem hlt]
    exact HIN.out _ (List.getElem_mem _)
   clear c1
   generalize l.getD k 0 = x at *
   have hzl : (Lib.itoa x).length ≤ 30 := De.itoa_len hxi
   have HOF := hid (fun w' => W2.of_any x w' hxi)
   have HSM := hid (sm_of12 hxi.1 hxi.2)
   obtain ⟨Z, hZ⟩ : ∃ Z, (⟨(Lib.itoa x).toArray⟩ : ByteArray) = Z := ⟨_, rfl⟩
   have hZs : Z.size ≤ 30 := by rw [← hZ]; show (Lib.itoa x).toArray.size ≤ _; simp; omega
   have HZ := hid hZ
   clear hZ hxi hzl
   by_cases hk0 : k = 0
   ·
    have c0 : decide ((0 : Int) < (k : Int)) = false := decide_eq_false (by omega)
    have c1 : decide (0 < k) = false := decide_eq_false (by omega)
    have HCM := hid (show comma k = [] from by unfold comma; rw [if_pos hk0])
    clear hk0
    have zs2a : ¬ ((9223372036854775807 : Int) < (S.size : Int) + (Z.size : Int)) := by omega
    have zs2b : ¬ (9223372036854775807 < S.size + Z.size) := by omega
    have zs2c : S.size + Z.size ≤ 9223372036854775807 := by omega
    have zs2d : (S.size : Int) + (Z.size : Int) ≤ (9223372036854775807 : Int) := by omega
    go_wp2_with fail
    refine (HOF.out _).mono ?_
    rintro e w3 ⟨v3, rfl, hn3, hb3⟩
    have HB3 := hid (HBl.out.trans (hb3.mono HBl.out.size))
    have HN3 := hid hn3
    clear hb3 hn3
    go_wp2_with fail
    refine (W2.rtext_any v3 x _ HN3.out HSM.out).mono ?_
    rintro e w4 ⟨rfl, hb4⟩
    rw [HZ.out]
    have HB4 := hid (HB3.out.trans (hb4.mono HB3.out.size))
    clear hb4
    go_wp2_with fail
    go_roundw
    case rel => exact ⟨k + 1, _, hlt, by go_num, rfl, by rw [HTX.out, HCM.out]; simp only [dl_app12, HS.out, ← HZ.out]; simp, HB4.out⟩
    case measure => simp [intOf]; omega
   ·
    have c0 : decide ((0 : Int) < (k : Int)) = true := decide_eq_true (by omega)
    have c1 : decide (0 < k) = true := decide_eq_true (by omega)
    have HCM := hid (show comma k = [44] from by unfold comma; rw [if_neg hk0])
    clear hk0
    have zs2a : ¬ ((9223372036854775807 : Int) < (S.size : Int) + 1) := by omega
    have zs2b : ¬ (9223372036854775807 < S.size + 1) := by omega
    have zs2c : S.size + 1 ≤ 9223372036854775807 := by omega
    have zs2d : (S.size : Int) + 1 ≤ (9223372036854775807 : Int) := by omega
    have zs3a : ¬ ((9223372036854775807 : Int) < (S.size : Int) + 1 + (Z.size : Int)) := by omega
    have zs3b : ¬ (9223372036854775807 < S.size + 1 + Z.size) := by omega
    have zs3c : S.size + 1 + Z.size ≤ 9223372036854775807 := by omega
    have zs3d : (S.size : Int) + 1 + (Z.size : Int) ≤ (9223372036854775807 : Int) := by omega
    go_wp2_with fail
    refine (HOF.out _).mono ?_
    rintro e w3 ⟨v3, rfl, hn3, hb3⟩
    have HB3 := hid (HBl.out.trans (hb3.mono HBl.out.size))
    have HN3 := hid hn3
    clear hb3 hn3
    go_wp2_with fail
    refine (W2.rtext_any v3 x _ HN3.out HSM.out).mono ?_
    rintro e w4 ⟨rfl, hb4⟩
    rw [HZ.out]
    have HB4 := hid (HB3.out.trans (hb4.mono HB3.out.size))
    clear hb4
    go_wp2_with fail
    go_roundw
    case rel => exact ⟨k + 1, _, hlt, by go_num, rfl, by rw [HTX.out, HCM.out]; simp only [dl_app12, HS.out, ← HZ.out]; simp, HB4.out⟩
    case measure => simp [intOf]; omega
  ·
   obtain rfl : l.length = k := by omega
   have zs2a : ¬ ((9223372036854775807 : Int) < (S.size : Int) + 1) := by omega
   have zs2b : ¬ (9223372036854775807 < S.size + 1) := by omega
   have zs2c : S.size + 1 ≤ 9223372036854775807 := by omega
   have zs2d : (S.size : Int) + 1 ≤ (9223372036854775807 : Int) := by omega
   have HE := hid (show S ++ ⟨#[93]⟩ = mkB (seqT l).txt from mk_of12 (by
    rw [dl_app12, HS.out, seq_txt]
    unfold txK
    rw [List.take_length]
    rfl))
   go_wp2_with fail
   go_ret
   exact ⟨by rw [← HE.out]; rfl, HBl.out⟩
end Go.Proofs.YtgblenoaeanogaaGreatDoor
