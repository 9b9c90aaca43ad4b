/- The lexer's reader of one escape's number: its contract. -/
import Derived.Test.YtnenipgpncomeaaDoorLexC
namespace Go.Proofs.YtnenipgpncomeaaDoor
open Go.RowKit
open Tk
set_option linter.unusedVariables false

def Tk.Uni.val (n : Int) (p : Nat) (k : Bool) : Value := .tuple #[.int .i64 n, .int .i64 p, .bool k]
def Tk.isEsc (s : ByteArray) (a : Nat) : Bool := bt s a == 92 && bt s (a + 1) == 117
def Tk.unitV (s : ByteArray) (a : Nat) : Value :=
  if isEsc s a = true then (if (four s (a + 2)).1 < 0 then Uni.val 0 (four s (a + 2)).2 false else Uni.val (four s (a + 2)).1 (four s (a + 2)).2 true) else Uni.val 0 a false
def escB : ByteArray := ⟨#[92, 117]⟩
theorem esc_pre (s : ByteArray) (a : Nat) (ha : a ≤ s.size) : Lib.hasPrefix (s.extract a s.size).data.toList escB.data.toList = isEsc s a := by
  rw [show (s.extract a s.size).data.toList = (s.data.toList.drop a).take (s.size - a) from sub_list s a s.size]
  rw [List.take_of_length_le (by rw [List.length_drop, size_toList]; exact Nat.le_refl _)]
  show List.isPrefixOf [92, 117] _ = _
  unfold isEsc
  by_cases h1 : a < s.size
  · rw [drop_cons h1]
    have e1 := bt_at s a h1
    by_cases h2 : a + 1 < s.size
    · rw [drop_cons h2]
      have e2 := bt_at s (a + 1) h2
      rw [← e1, ← e2]
      simp only [List.isPrefixOf, Bool.and_true]
      congr 1
      · by_cases h : s[a] = 92
        · rw [h]; rfl
        · have : s[a].toNat ≠ 92 := fun e => h (UInt8.toNat_inj.1 e)
          have h' : ¬ (92 : UInt8) = s[a] := fun e => h e.symm
          rw [beq_eq_false_iff_ne.2 this, beq_eq_false_iff_ne.2 h']
      · by_cases h : s[a + 1] = 117
        · rw [h]; rfl
        · have : s[a + 1].toNat ≠ 117 := fun e => h (UInt8.toNat_inj.1 e)
          have h' : ¬ (117 : UInt8) = s[a + 1] := fun e => h e.symm
          rw [beq_eq_false_iff_ne.2 this, beq_eq_false_iff_ne.2 h']
    · rw [List.drop_eq_nil_of_le (by rw [size_toList]; omega), bt_end (i := a + 1) (by omega)]
      simp [List.isPrefixOf]
  · rw [List.drop_eq_nil_of_le (by rw [size_toList]; omega), bt_end (by omega)]
    simp [List.isPrefixOf]
theorem pre_any (s : ByteArray) (a : Nat) (ha : a ≤ s.size) (w : World) :
    Calls Tryd.prog 35 #[.string (s.extract a s.size), .string escB] w fun e w' => e = .returned (.bool (isEsc s a)) ∧ w = w' := by
  have h := Tryd.strings_HasPrefix (s.extract a s.size) escB w
  rw [esc_pre s a ha] at h
  exact h.mono fun e w' ⟨a, b⟩ => ⟨a, b.symm⟩
set_option maxRecDepth 100000 in
set_option maxHeartbeats 2000000 in
theorem unit_any5 (b : Nat) (s : ByteArray) (a : Nat) (w : World) (hs : s.size ≤ 1000000) (hc : w.cell? ⟨b, 0, none⟩ = some (.string s)) (ha : a ≤ s.size) : Calls Tryd.prog 58 #[.pointer (some ⟨b, 0, none⟩), .int .i64 a] w fun e w' => e = .returned (unitV s a) ∧ w = w' := by
  have i1 : (a : Int) ≤ (s.size : Int) := by omega
  have i2 : (0 : Int) ≤ (a : Int) := by omega
  cases hz : isEsc s a with
  | false =>
    have HV := Lib.hid (show unitV s a = Uni.val 0 a false by unfold unitV; rw [hz]; rfl)
    have HZ := Lib.hid hz
    generalize unitV s a = v at *
    clear hz
    go_enter Tryd.func58, Tryd.ntmps58
    go_wp2_with fail
    refine (pre_any s a ha _).mono ?_
    rintro e w2 ⟨rfl, rfl⟩
    rw [HZ.out]
    go_wp2_with fail
    go_ret3
    exact ⟨by rw [HV.out]; rfl, rfl⟩
  | true =>
    have hsz : a + 2 ≤ s.size := by
      unfold isEsc at hz
      simp only [Bool.and_eq_true, beq_iff_eq] at hz
      have := lt_of_bt (s := s) (i := a + 1) (by omega)
      omega
    have HV := Lib.hid (show unitV s a = if (four s (a + 2)).1 < 0 then Uni.val 0 (four s (a + 2)).2 false else Uni.val (four s (a + 2)).1 (four s (a + 2)).2 true by unfold unitV; rw [if_pos hz])
    have HZ := Lib.hid hz
    have HF := Lib.hid (show fourF s 4 (a + 2) 0 = four s (a + 2) from rfl)
    generalize unitV s a = v at *
    generalize four s (a + 2) = fr at *
    clear hz
    go_enter Tryd.func58, Tryd.ntmps58
    go_wp2_with fail
    refine (pre_any s a ha _).mono ?_
    rintro e w2 ⟨rfl, rfl⟩
    rw [HZ.out]
    go_wp2_with fail
    go_loop [7, 8, 20] (fun i j k => ∃ (n : Int) (r : Nat), r ≤ 4 ∧ 0 ≤ n ∧ n < 16 ^ r ∧ a + 2 + r ≤ s.size ∧ fourF s (4 - r) (a + 2 + r) n = fr ∧ i = .int .i64 n ∧ j = .int .i64 (a + 2 + r : Nat) ∧ k = .int .i64 r) (fun i j k => 4 - (intOf k).toNat)
    case atStart => exact ⟨0, 0, by omega, by omega, by decide, hsz, HF.out, rfl, by go_num, rfl⟩
    case round =>
      obtain ⟨n, r, h1, h2, h3, h4, h5, rfl, rfl, rfl⟩ := hrel
      by_cases hr : r < 4
      · have v0 : (r : Int) < 4 := by omega
        have h16 : (n + 1) * 16 ≤ 65536 := by
          have : r = 0 ∨ r = 1 ∨ r = 2 ∨ r = 3 := by omega
          rcases this with rfl | rfl | rfl | rfl <;> simp at h3 <;> omega
        obtain ⟨m, hm⟩ : ∃ m, 4 - r = m + 1 := ⟨3 - r, by omega⟩
        have hm2 : 4 - (r + 1) = m := by omega
        rw [hm] at h5
        generalize hq : a + 2 + r = q at *
        have hq1 : a + 2 + (r + 1) = q + 1 := by omega
        by_cases hk : q < s.size
        · have u1 : decide (q < s.size) = true := decide_eq_true hk
          have j1 : (q : Int) < (s.size : Int) := by omega
          have j2 : (0 : Int) ≤ (q : Int) := by omega
          have j3 : ¬ (q : Int) = (s.size : Int) := by omega
          have hx : hexOf (bt s q) = hexOf s[q].toNat := by rw [bt_at s q hk]
          have hle := hexOf_le s[q].toNat
          by_cases h0 : hexOf s[q].toNat < 0
          · have HR := Lib.hid (show v = Uni.val 0 q false by rw [fourF_no (by rw [hx]; exact h0)] at h5; rw [HV.out, ← h5]; rfl)
            clear h5 hx HV HF h3
            go_wp2_with fail
            refine (hex_any5 _ _ (UInt8.toNat_lt _)).mono ?_
            rintro e w2 ⟨rfl, rfl⟩
            go_wp2_with fail
            go_ret3
            exact ⟨by rw [HR.out]; rfl, rfl⟩
          · have h0' : 0 ≤ hexOf s[q].toNat := by omega
            have u3 : ((q : Int) == (s.size : Int)) = false := beq_eq_false_iff_ne.2 j3
            have u4 : decide (hexOf s[q].toNat < 0) = false := decide_eq_false h0
            have HR := Lib.hid (show fourF s m (q + 1) (n * 16 + hexOf s[q].toNat) = fr by rw [fourF_yes (by rw [hx]; exact h0'), hx] at h5; exact h5)
            have HP := Lib.hid (show n * 16 + hexOf s[q].toNat < 16 ^ (r + 1) by rw [Int.pow_succ]; omega)
            clear h5 hx HV HF h3
            go_wp2_with fail
            refine (hex_any5 _ _ (UInt8.toNat_lt _)).mono ?_
            rintro e w2 ⟨rfl, rfl⟩
            go_wp2_with fail
            refine (hex_any5 _ _ (UInt8.toNat_lt _)).mono ?_
            rintro e w2 ⟨rfl, rfl⟩
            go_wp2_with fail
            go_round
            case rel =>
              refine ⟨n * 16 + hexOf s[q].toNat, r + 1, hr, by omega, HP.out, by omega, by rw [hm2, hq1]; exact HR.out, ?_, by rw [hq1]; go_num, by go_num⟩
              go_num
            case measure => simp [intOf]; omega
        · obtain rfl : q = s.size := by omega
          have HR := Lib.hid (show v = Uni.val 0 s.size false by rw [fourF_no (by rw [hexOf_end (Nat.le_refl _)]; decide)] at h5; rw [HV.out, ← h5]; rfl)
          clear h5 HV HF h3
          go_wp2_with fail
          go_ret3
          exact ⟨by rw [HR.out]; rfl, rfl⟩
      · obtain rfl : r = 4 := by omega
        have HR := Lib.hid (show v = Uni.val n (a + 2 + 4) true by rw [HV.out, ← h5]; simp [fourF]; omega)
        clear h5 HV HF h3
        go_wp2_with fail
        go_ret3
        exact ⟨by rw [HR.out]; rfl, rfl⟩
end Go.Proofs.YtnenipgpncomeaaDoor
