/- The lexer's reader of one escape's number: its contract. The lexer's reader of an escape: its contract. Contracts of glyph.each with each of its three closures, and of Valid and Decode. The lexer's reader of a character: its contract. Plain mathematics: the reference's search for the point that bytes begin with, by trying one to four bytes. Contracts of the reference's Bytes and First. Contract of the reference's Text: the bytes of any points, one behind the other. Contracts of glyph.Points, and of the reference's Points and Valid. -/
import Derived.Test.YtfiahpeajccinaaGreatDoorPB
import Derived.Test.YtfiahpeajccinaaGreatDoorPA
import Derived.Test.YtfiahpeajccinaaGreatDoorShelf3
import Derived.Lib.OthersKept
import Derived.Lib.Hide
import Derived.Lib.Strings
import Derived.WalkKit
import Derived.WalkSpells
import Derived.Deep.QuietTactic
import Derived.BigQuiet
import Derived.WalkSmall
import Derived.Laws.IdiomStrings
import Derived.Laws.BytesArg
import Derived.OwnWalk
namespace Go.Proofs.YtfiahpeajccinaaGreatDoor
open Go.RowKit
open Tk
set_option linter.unusedVariables false

def Tk.Uni.val (n : Int) (p : Nat) (k : Bool) : Value := .tuple #[.int .i64 n, .int .i64 p, .bool k]
def Tk.isEsc (s : ByteArray) (a : Nat) : Bool := bt s a == 92 && bt s (a + 1) == 117
def Tk.unitV (s : ByteArray) (a : Nat) : Value :=
  if isEsc s a = true then (if (four s (a + 2)).1 < 0 then Uni.val 0 (four s (a + 2)).2 false else Uni.val (four s (a + 2)).1 (four s (a + 2)).2 true) else Uni.val 0 a false
def escB : ByteArray := ⟨#[92, 117]⟩
theorem esc_pre (s : ByteArray) (a : Nat) (ha : a ≤ s.size) : Lib.hasPrefix (s.extract a s.size).data.toList escB.data.toList = isEsc s a := by
  rw [show (s.extract a s.size).data.toList = (s.data.toList.drop a).take (s.size - a) from sub_list s a s.size]
  rw [List.take_of_length_le (by rw [List.length_drop, size_toList]; exact Nat.le_refl _)]
  show List.isPrefixOf [92, 117] _ = _
  unfold isEsc
  by_cases h1 : a < s.size
  · rw [drop_cons h1]
    have e1 := bt_at s a h1
    by_cases h2 : a + 1 < s.size
    · rw [drop_cons h2]
      have e2 := bt_at s (a + 1) h2
      rw [← e1, ← e2]
      simp only [List.isPrefixOf, Bool.and_true]
      congr 1
      · by_cases h : s[a] = 92
        · rw [h]; rfl
        · have : s[a].toNat ≠ 92 := fun e => h (UInt8.toNat_inj.1 e)
          have h' : ¬ (92 : UInt8) = s[a] := fun e => h e.symm
          rw [beq_eq_false_iff_ne.2 this, beq_eq_false_iff_ne.2 h']
      · by_cases h : s[a + 1] = 117
        · rw [h]; rfl
        · have : s[a + 1].toNat ≠ 117 := fun e => h (UInt8.toNat_inj.1 e)
          have h' : ¬ (117 : UInt8) = s[a + 1] := fun e => h e.symm
          rw [beq_eq_false_iff_ne.2 this, beq_eq_false_iff_ne.2 h']
    · rw [List.drop_eq_nil_of_le (by rw [size_toList]; omega), bt_end (i := a + 1) (by omega)]
      simp [List.isPrefixOf]
  · rw [List.drop_eq_nil_of_le (by rw [size_toList]; omega), bt_end (by omega)]
    simp [List.isPrefixOf]
theorem pre_any (s : ByteArray) (a : Nat) (ha : a ≤ s.size) (w : World) :
    Calls Tryz.prog 61 #[.string (s.extract a s.size), .string escB] w fun e w' => e = .returned (.bool (isEsc s a)) ∧ w = w' := by
  have h := Tryz.strings_HasPrefix (s.extract a s.size) escB w
  rw [esc_pre s a ha] at h
  exact h.mono fun e w' ⟨a, b⟩ => ⟨a, b.symm⟩
set_option maxRecDepth 100000 in
set_option maxHeartbeats 2000000 in
theorem unit_any5 (b : Nat) (s : ByteArray) (a : Nat) (w : World) (hs : s.size ≤ 1000000) (hc : w.cell? ⟨b, 0, none⟩ = some (.string s)) (ha : a ≤ s.size) : Calls Tryz.prog 202 #[.pointer (some ⟨b, 0, none⟩), .int .i64 a] w fun e w' => e = .returned (unitV s a) ∧ w = w' := by
  have i1 : (a : Int) ≤ (s.size : Int) := by omega
  have i2 : (0 : Int) ≤ (a : Int) := by omega
  cases hz : isEsc s a with
  | false =>
    have HV := Lib.hid (show unitV s a = Uni.val 0 a false by unfold unitV; rw [hz]; rfl)
    have HZ := Lib.hid hz
    generalize unitV s a = v at *
    clear hz
    go_enter Tryz.func202, Tryz.ntmps202
    go_wp2_with fail
    refine (pre_any s a ha _).mono ?_
    rintro e w2 ⟨rfl, rfl⟩
    rw [HZ.out]
    go_wp2_with fail
    go_ret3
    exact ⟨by rw [HV.out]; rfl, rfl⟩
  | true =>
    have hsz : a + 2 ≤ s.size := by
      unfold isEsc at hz
      simp only [Bool.and_eq_true, beq_iff_eq] at hz
      have := lt_of_bt (s := s) (i := a + 1) (by omega)
      omega
    have HV := Lib.hid (show unitV s a = if (four s (a + 2)).1 < 0 then Uni.val 0 (four s (a + 2)).2 false else Uni.val (four s (a + 2)).1 (four s (a + 2)).2 true by unfold unitV; rw [if_pos hz])
    have HZ := Lib.hid hz
    have HF := Lib.hid (show fourF s 4 (a + 2) 0 = four s (a + 2) from rfl)
    generalize unitV s a = v at *
    generalize four s (a + 2) = fr at *
    clear hz
    go_enter Tryz.func202, Tryz.ntmps202
    go_wp2_with fail
    refine (pre_any s a ha _).mono ?_
    rintro e w2 ⟨rfl, rfl⟩
    rw [HZ.out]
    go_wp2_with fail
    go_loop [7, 8, 20] (fun i j k => ∃ (n : Int) (r : Nat), r ≤ 4 ∧ 0 ≤ n ∧ n < 16 ^ r ∧ a + 2 + r ≤ s.size ∧ fourF s (4 - r) (a + 2 + r) n = fr ∧ i = .int .i64 n ∧ j = .int .i64 (a + 2 + r : Nat) ∧ k = .int .i64 r) (fun i j k => 4 - (intOf k).toNat)
    case atStart => exact ⟨0, 0, by omega, by omega, by decide, hsz, HF.out, rfl, by go_num, rfl⟩
    case round =>
      obtain ⟨n, r, h1, h2, h3, h4, h5, rfl, rfl, rfl⟩ := hrel
      by_cases hr : r < 4
      · have v0 : (r : Int) < 4 := by omega
        have h16 : (n + 1) * 16 ≤ 65536 := by
          have : r = 0 ∨ r = 1 ∨ r = 2 ∨ r = 3 := by omega
          rcases this with rfl | rfl | rfl | rfl <;> simp at h3 <;> omega
        obtain ⟨m, hm⟩ : ∃ m, 4 - r = m + 1 := ⟨3 - r, by omega⟩
        have hm2 : 4 - (r + 1) = m := by omega
        rw [hm] at h5
        generalize hq : a + 2 + r = q at *
        have hq1 : a + 2 + (r + 1) = q + 1 := by omega
        by_cases hk : q < s.size
        · have u1 : decide (q < s.size) = true := decide_eq_true hk
          have j1 : (q : Int) < (s.size : Int) := by omega
          have j2 : (0 : Int) ≤ (q : Int) := by omega
          have j3 : ¬ (q : Int) = (s.size : Int) := by omega
          have hx : hexOf (bt s q) = hexOf s[q].toNat := by rw [bt_at s q hk]
          have hle := hexOf_le s[q].toNat
          by_cases h0 : hexOf s[q].toNat < 0
          · have HR := Lib.hid (show v = Uni.val 0 q false by rw [fourF_no (by rw [hx]; exact h0)] at h5; rw [HV.out, ← h5]; rfl)
            clear h5 hx HV HF h3
            go_wp2_with fail
            refine (hex_any5 _ _ (UInt8.toNat_lt _)).mono ?_
            rintro e w2 ⟨rfl, rfl⟩
            go_wp2_with fail
            go_ret3
            exact ⟨by rw [HR.out]; rfl, rfl⟩
          · have h0' : 0 ≤ hexOf s[q].toNat := by omega
            have u3 : ((q : Int) == (s.size : Int)) = false := beq_eq_false_iff_ne.2 j3
            have u4 : decide (hexOf s[q].toNat < 0) = false := decide_eq_false h0
            have HR := Lib.hid (show fourF s m (q + 1) (n * 16 + hexOf s[q].toNat) = fr by rw [fourF_yes (by rw [hx]; exact h0'), hx] at h5; exact h5)
            have HP := Lib.hid (show n * 16 + hexOf s[q].toNat < 16 ^ (r + 1) by rw [Int.pow_succ]; omega)
            clear h5 hx HV HF h3
            go_wp2_with fail
            refine (hex_any5 _ _ (UInt8.toNat_lt _)).mono ?_
            rintro e w2 ⟨rfl, rfl⟩
            go_wp2_with fail
            refine (hex_any5 _ _ (UInt8.toNat_lt _)).mono ?_
            rintro e w2 ⟨rfl, rfl⟩
            go_wp2_with fail
            go_round
            case rel =>
              refine ⟨n * 16 + hexOf s[q].toNat, r + 1, hr, by omega, HP.out, by omega, by rw [hm2, hq1]; exact HR.out, ?_, by rw [hq1]; go_num, by go_num⟩
              go_num
            case measure => simp [intOf]; omega
        · obtain rfl : q = s.size := by omega
          have HR := Lib.hid (show v = Uni.val 0 s.size false by rw [fourF_no (by rw [hexOf_end (Nat.le_refl _)]; decide)] at h5; rw [HV.out, ← h5]; rfl)
          clear h5 HV HF h3
          go_wp2_with fail
          go_ret3
          exact ⟨by rw [HR.out]; rfl, rfl⟩
      · obtain rfl : r = 4 := by omega
        have HR := Lib.hid (show v = Uni.val n (a + 2 + 4) true by rw [HV.out, ← h5]; simp [fourF]; omega)
        clear h5 HV HF h3
        go_wp2_with fail
        go_ret3
        exact ⟨by rw [HR.out]; rfl, rfl⟩
end Go.Proofs.YtfiahpeajccinaaGreatDoor
namespace Go.Proofs.YtfiahpeajccinaaGreatDoor
open Go.RowKit
open Tk
open Pl
set_option linter.unusedVariables false

theorem unitV_no {s : ByteArray} {a : Nat} (h : isEsc s a = false) : unitV s a = Uni.val 0 a false := by unfold unitV; rw [h]; rfl
theorem unitV_bad {s : ByteArray} {a : Nat} (h : isEsc s a = true) (k : (four s (a + 2)).1 < 0) : unitV s a = Uni.val 0 (four s (a + 2)).2 false := by unfold unitV; rw [if_pos h, if_pos k]
theorem unitV_yes {s : ByteArray} {a : Nat} (h : isEsc s a = true) (k : ¬ (four s (a + 2)).1 < 0) : unitV s a = Uni.val (four s (a + 2)).1 (a + 6 : Nat) true := by
  unfold unitV; rw [if_pos h, if_neg k]
  rcases four_range s (a + 2) with ⟨x, _⟩ | ⟨_, _, x, _⟩
  · omega
  · rw [x]
theorem isPt_pt (n : Int) : isPt n = pt n := by
  rw [Bool.eq_iff_iff, isPt_iff, pt_iff]
/-- the second half: what the second escape's number leaves of the pair -/
theorem uni_two {s : ByteArray} {a : Nat} (k : ¬ (four s (a + 2)).1 < 0) (kp : pt (four s (a + 2)).1 = false) :
    (∃ l : Int, (unitV s (a + 6) = Uni.val l (a + 12 : Nat) true) ∧ (55296 ≤ (four s (a + 2)).1 ∧ (four s (a + 2)).1 < 56320) ∧ (56320 ≤ l ∧ l < 57344) ∧ uniCh s a = .pt (65536 + ((four s (a + 2)).1 - 55296) * 1024 + (l - 56320)) (a + 12)) ∨
    (∃ (l : Int) (q : Nat) (z : Bool), unitV s (a + 6) = Uni.val l q z ∧ (z = false ∨ ¬ ((55296 ≤ (four s (a + 2)).1 ∧ (four s (a + 2)).1 < 56320) ∧ (56320 ≤ l ∧ l < 57344))) ∧ uniCh s a = .bad a 3) := by
  have hno : ¬ pt (four s (a + 2)).1 = true := by rw [kp]; decide
  cases h : isEsc s (a + 6) with
  | false =>
    right
    refine ⟨0, a + 6, false, unitV_no h, .inl rfl, ?_⟩
    unfold uniCh
    rw [if_neg k, if_neg hno, if_neg]
    rintro ⟨_, x, y, _⟩
    unfold isEsc at h
    rw [x, show a + 6 + 1 = a + 7 from rfl, y] at h
    cases h
  | true =>
    by_cases k2 : (four s (a + 6 + 2)).1 < 0
    · right
      refine ⟨0, _, false, unitV_bad h k2, .inl rfl, ?_⟩
      unfold uniCh
      rw [if_neg k, if_neg hno, if_neg]
      rintro ⟨_, _, _, x⟩
      simp only [isLow, decide_eq_true_eq] at x
      rw [show a + 6 + 2 = a + 8 from rfl] at k2
      omega
    · have hy := unitV_yes h k2
      rw [show a + 6 + 6 = a + 12 from rfl, show a + 6 + 2 = a + 8 from rfl] at hy
      unfold isEsc at h
      simp only [Bool.and_eq_true, beq_iff_eq] at h
      by_cases hh : (55296 ≤ (four s (a + 2)).1 ∧ (four s (a + 2)).1 < 56320) ∧ (56320 ≤ (four s (a + 8)).1 ∧ (four s (a + 8)).1 < 57344)
      · left
        refine ⟨_, hy, hh.1, hh.2, ?_⟩
        unfold uniCh
        rw [if_neg k, if_neg hno, if_pos ⟨by simp only [isHigh, decide_eq_true_eq]; exact hh.1, h.1, h.2, by simp only [isLow, decide_eq_true_eq]; exact hh.2⟩]
      · right
        refine ⟨_, _, true, hy, .inr hh, ?_⟩
        unfold uniCh
        rw [if_neg k, if_neg hno, if_neg]
        rintro ⟨x, _, _, y⟩
        simp only [isHigh, isLow, decide_eq_true_eq] at x y
        exact hh ⟨x, y⟩
set_option maxRecDepth 100000 in
set_option maxHeartbeats 2000000 in
theorem escaped_any5 (b : Nat) (s : ByteArray) (a : Nat) (w : World) (hs : s.size ≤ 1000000) (hc : w.cell? ⟨b, 0, none⟩ = some (.string s)) (ha : a ≤ s.size) (he : isEsc s a = true) : Calls Tryz.prog 195 #[.pointer (some ⟨b, 0, none⟩), .int .i64 a] w fun e w' => e = .returned (uniCh s a).val ∧ w = w' := by
  have i2 : (0 : Int) ≤ (a : Int) := by omega
  have HU := Lib.hid (unit_any5 b s a w hs hc ha)
  by_cases k : (four s (a + 2)).1 < 0
  · have HR := Lib.hid (show uniCh s a = .bad (four s (a + 2)).2 1 by unfold uniCh; rw [if_pos k])
    have HV := Lib.hid (unitV_bad he k)
    generalize uniCh s a = v at *
    generalize unitV s a = uv at *
    generalize four s (a + 2) = fr at *
    clear he k
    go_enter Tryz.func195, Tryz.ntmps195
    go_wp2_with fail
    refine HU.out.mono ?_
    rintro e w2 ⟨rfl, rfl⟩
    rw [HV.out]
    unfold Uni.val
    go_wp2_with fail
    go_ret3
    exact ⟨by rw [HR.out]; rfl, rfl⟩
  · have hr := four_range s (a + 2)
    have ha6 : a + 6 ≤ s.size := by omega
    have HU2 := Lib.hid (unit_any5 b s (a + 6) w hs hc ha6)
    have HV := Lib.hid (unitV_yes he k)
    cases kp : pt (four s (a + 2)).1 with
    | true =>
      have HR := Lib.hid (show uniCh s a = .pt (four s (a + 2)).1 (a + 6) by
        unfold uniCh; rw [if_neg k, if_pos kp]
        rcases hr with ⟨x, _⟩ | ⟨_, _, x, _⟩
        · omega
        · rw [x])
      have HP := Lib.hid (show isPt (four s (a + 2)).1 = true by rw [isPt_pt]; exact kp)
      generalize uniCh s a = v at *
      generalize unitV s a = uv at *
      generalize (four s (a + 2)).1 = fr at *
      clear he k kp hr HU2
      go_enter Tryz.func195, Tryz.ntmps195
      go_wp2_with fail
      refine HU.out.mono ?_
      rintro e w2 ⟨rfl, rfl⟩
      rw [HV.out]
      unfold Uni.val
      go_wp2_with fail
      refine (gis_yes _ _ HP.out).mono ?_
      rintro e w2 ⟨rfl, rfl⟩
      go_wp2_with fail
      go_ret3
      exact ⟨by rw [HR.out]; rfl, rfl⟩
    | false =>
      have HP := Lib.hid (show isPt (four s (a + 2)).1 = false by rw [isPt_pt]; exact kp)
      rcases uni_two k kp with ⟨l, g1, g2, g3, g4⟩ | ⟨l, q, z, g1, g2, g4⟩
      · have HG := Lib.hid g1
        have HR := Lib.hid g4
        have HA := Lib.hid g2
        have HB := Lib.hid g3
        have v1 : ¬ 65536 + ((four s (a + 2)).1 - 55296) * 1024 + (l - 56320) < 0 := by omega
        generalize uniCh s a = v at *
        generalize unitV s a = uv at *
        generalize unitV s (a + 6) = uw at *
        generalize (four s (a + 2)).1 = fr at *
        clear he k kp hr g1 g2 g3 g4
        go_enter Tryz.func195, Tryz.ntmps195
        go_wp2_with fail
        refine HU.out.mono ?_
        rintro e w2 ⟨rfl, rfl⟩
        rw [HV.out]
        unfold Uni.val
        go_wp2_with fail
        refine (gis_no _ _ HP.out).mono ?_
        rintro e w2 ⟨rfl, rfl⟩
        go_wp2_with fail
        refine HU2.out.mono ?_
        rintro e w2 ⟨rfl, rfl⟩
        rw [HG.out]
        unfold Uni.val
        go_wp2_with fail
        refine (pair_yes _ _ _ HA.out HB.out).mono ?_
        rintro e w2 ⟨rfl, rfl⟩
        go_wp2_with fail
        go_ret3
        exact ⟨by rw [HR.out]; rfl, rfl⟩
      · have HG := Lib.hid g1
        have HR := Lib.hid g4
        have HX := Lib.hid (show ∃ y : Int, (z = false ∨ y = -1) ∧ ∀ w : World, Calls Tryz.prog 203 #[.int .i64 (four s (a + 2)).1, .int .i64 l] w fun e w' => e = .returned (.int .i64 y) ∧ w = w' by
          by_cases hh : (55296 ≤ (four s (a + 2)).1 ∧ (four s (a + 2)).1 < 56320) ∧ (56320 ≤ l ∧ l < 57344)
          · exact ⟨_, g2.imp id (fun x => absurd hh x), fun w => pair_yes _ _ w hh.1 hh.2⟩
          · exact ⟨-1, .inr rfl, fun w => pair_no _ _ w hh⟩)
        generalize uniCh s a = v at *
        generalize unitV s a = uv at *
        generalize unitV s (a + 6) = uw at *
        generalize (four s (a + 2)).1 = fr at *
        clear he k kp hr g1 g2 g4
        obtain ⟨y, hy1, hy2⟩ := HX.out
        have HY := Lib.hid hy2
        clear hy2 HX
        go_enter Tryz.func195, Tryz.ntmps195
        go_wp2_with fail
        refine HU.out.mono ?_
        rintro e w2 ⟨rfl, rfl⟩
        rw [HV.out]
        unfold Uni.val
        go_wp2_with fail
        refine (gis_no _ _ HP.out).mono ?_
        rintro e w2 ⟨rfl, rfl⟩
        go_wp2_with fail
        refine HU2.out.mono ?_
        rintro e w2 ⟨rfl, rfl⟩
        rw [HG.out]
        unfold Uni.val
        cases z with
        | false =>
          clear hy1
          go_wp2_with fail
          refine (HY.out _).mono ?_
          rintro e w2 ⟨rfl, rfl⟩
          go_wp2_with fail
          go_ret3
          exact ⟨by rw [HR.out]; rfl, rfl⟩
        | true =>
          obtain rfl : y = -1 := by rcases hy1 with h | h; cases h; exact h
          clear hy1
          go_wp2_with fail
          refine (HY.out _).mono ?_
          rintro e w2 ⟨rfl, rfl⟩
          go_wp2_with fail
          go_ret3
          exact ⟨by rw [HR.out]; rfl, rfl⟩
end Go.Proofs.YtfiahpeajccinaaGreatDoor
namespace Go.Proofs.YtfiahpeajccinaaGreatDoor
open Go.RowKit
open Pl

theorem pt_isPt (n : Int) : pt n = isPt n := rfl

theorem prefix_any (s : ByteArray) (i : Nat) (w : World) :
    Calls Tryz.prog 61 #[.string (s.extract i s.size), .string ⟨#[239, 191, 189]⟩] w fun e w' => e = .returned (.bool (fffd (s.data.toList.drop i))) ∧ w = w' := by
  refine (Tryz.strings_HasPrefix _ _ w).mono ?_
  rintro e w' ⟨rfl, rfl⟩
  refine ⟨ret_bool ?_, rfl⟩
  have hl : (s.data.toList.drop i).length = s.size - i := by rw [List.length_drop, Array.length_toList]; rfl
  rw [Lib.extract_data, ← hl, List.take_length]
  generalize s.data.toList.drop i = L
  unfold Lib.hasPrefix fffd
  rw [Bool.eq_iff_iff, List.isPrefixOf_iff_prefix, beq_iff_eq, List.prefix_iff_eq_take]
  exact ⟨fun h => h.symm, fun h => h.symm⟩
theorem prefix_yes (s : ByteArray) (i : Nat) (w : World) (h : fffd (s.data.toList.drop i) = true) :
    Calls Tryz.prog 61 #[.string (s.extract i s.size), .string ⟨#[239, 191, 189]⟩] w fun e w' => e = .returned (.bool true) ∧ w = w' := by
  rw [← h]; exact prefix_any s i w
theorem prefix_no (s : ByteArray) (i : Nat) (w : World) (h : fffd (s.data.toList.drop i) = false) :
    Calls Tryz.prog 61 #[.string (s.extract i s.size), .string ⟨#[239, 191, 189]⟩] w fun e w' => e = .returned (.bool false) ∧ w = w' := by
  rw [← h]; exact prefix_any s i w

theorem prefix_all (s : ByteArray) (w : World) :
    Calls Tryz.prog 61 #[.string s, .string ⟨#[239, 191, 189]⟩] w fun e w' => e = .returned (.bool (fffd (s.data.toList.drop 0))) ∧ w = w' := by
  have := prefix_any s 0 w
  rwa [show s.extract 0 s.size = s by simp] at this
theorem prefix_yes0 (s : ByteArray) (w : World) (h : fffd (s.data.toList.drop 0) = true) :
    Calls Tryz.prog 61 #[.string s, .string ⟨#[239, 191, 189]⟩] w fun e w' => e = .returned (.bool true) ∧ w = w' := by
  rw [← h]; exact prefix_all s w
theorem prefix_no0 (s : ByteArray) (w : World) (h : fffd (s.data.toList.drop 0) = false) :
    Calls Tryz.prog 61 #[.string s, .string ⟨#[239, 191, 189]⟩] w fun e w' => e = .returned (.bool false) ∧ w = w' := by
  rw [← h]; exact prefix_all s w

theorem valid1_any (r : Int) (w : World) : Calls Tryz.prog 58 #[.int .i32 r] w fun e w' => e = .returned (.bool true) ∧ w = w' := by
  go_enter Tryz.func58, Tryz.ntmps58
  go_wp2
  go_ret
  exact ⟨rfl, rfl⟩

/-- what each answers: the place at which no point begins (0: there is none), and whether there is none -/
def stopAt (l : List Int) (R : List UInt8) : Int := if R = [] then 0 else (flat l).length
def isFull (R : List UInt8) : Bool := decide (R = [])
theorem stopAt_nil (l : List Int) {R : List UInt8} (h : R = []) : stopAt l R = 0 := if_pos h
theorem stopAt_not (l : List Int) {R : List UInt8} (h : R ≠ []) : stopAt l R = (flat l).length := if_neg h
theorem isFull_nil {R : List UInt8} (h : R = []) : isFull R = true := decide_eq_true h
theorem isFull_not {R : List UInt8} (h : R ≠ []) : isFull R = false := decide_eq_false h
theorem ret_ib {a b : Int} {c d : Bool} (h : a = b) (k : c = d) : Ending.returned (.tuple #[.int .i64 a, .bool c]) = .returned (.tuple #[.int .i64 b, .bool d]) := by rw [h, k]
theorem below_iter (w : World) (s : ByteArray) (p : Nat) : Below w.heap.size w (w.iter s p) := (Below.refl _ _).alloc (Nat.le_refl _) _

set_option maxHeartbeats 1000000 in
/-- each with the closure that always goes on and does nothing -/
theorem each_valid (s : ByteArray) (l : List Int) (R : List UInt8) (h : Split s.data.toList l R) (w : World) :
    Calls Tryz.prog 57 #[.string s, .func (.func 58) #[] #[]] w fun e w' => e = .returned (.tuple #[.int .i64 (stopAt l R), .bool (isFull R)]) ∧ Below w.heap.size w w' := by
  have hsz := Lib.hid h.size
  have hge : (flat l).length ≤ s.size := by have := h.size; omega
  go_enter Tryz.func57, Tryz.ntmps57
  go_wp2_with fail
  go_loopw [] (fun wr => ∃ k : Nat, k ≤ l.length ∧ wr = w.iter s (off l k)) (fun wr => s.size + 1 - wr.iterPos w.heap.size)
  case atStart => exact ⟨0, Nat.zero_le _, rfl⟩
  case round =>
    obtain ⟨k, hk, rfl⟩ := hrel
    by_cases hlt : k < l.length
    · obtain ⟨e1, e2, hpos, h3, h4, hb, e3, hf⟩ := h.step hlt
      have hnx : ∀ ty, (Instr.next (.pointer (some ⟨w.heap.size, 0, none⟩)) true ty).run Tryz.prog (w.iter s (off l k)) = .ok (.tuple #[.bool true, .int .i64 (off l k), .int .i32 (l.getD k 0).toNat]) (w.iter s (off l (k + 1))) := by
        intro ty
        rw [run_next_any w s (off l k) ty hpos, e1, e2]
      clear e1 e2 e3
      generalize (l.getD k 0).toNat = x at hnx hb hf
      by_cases he : x = 65533
      · have Hp := Lib.hid (hf he)
        have he' : ((x : Int) == 65533) = true := by simp; omega
        clear hf he
        go_wp2_with (first | (go_at_call 61; refine (prefix_yes _ _ _ Hp.out).mono ?_; rintro e w' ⟨rfl, rfl⟩) | (go_at_call 58; refine (valid1_any _ _).mono ?_; rintro e w' ⟨rfl, rfl⟩))
        go_roundw
        case rel => exact ⟨k + 1, hlt, rfl⟩
        case measure => simp; omega
      · have he' : ((x : Int) == 65533) = false := by simp; omega
        clear hf he
        go_wp2_with (first | (go_at_call 58; refine (valid1_any _ _).mono ?_; rintro e w' ⟨rfl, rfl⟩))
        go_roundw
        case rel => exact ⟨k + 1, hlt, rfl⟩
        case measure => simp; omega
    · obtain rfl : l.length = k := by omega
      by_cases hR : R = []
      · have hend : ¬ off l l.length < s.size := by rw [off_all, hsz.out, hR]; simp
        have hnx : ∀ ty, (Instr.next (.pointer (some ⟨w.heap.size, 0, none⟩)) true ty).run Tryz.prog (w.iter s (off l l.length)) = _ := fun ty => run_next_end w s (off l l.length) ty hend
        have HR := Lib.hid hR
        clear hR hend
        go_wp2_with fail
        go_ret2
        exact ⟨ret_ib (stopAt_nil l HR.out).symm (isFull_nil HR.out).symm, below_iter _ _ _⟩
      · have hpos : off l l.length < s.size := by
          have : 0 < R.length := List.length_pos_iff.2 hR
          rw [off_all, hsz.out]; omega
        obtain ⟨b1, b2⟩ := h.bad hR
        rw [← off_all] at b1 b2
        have hnx : ∀ ty, (Instr.next (.pointer (some ⟨w.heap.size, 0, none⟩)) true ty).run Tryz.prog (w.iter s (off l l.length)) = .ok (.tuple #[.bool true, .int .i64 (off l l.length), .int .i32 65533]) (w.iter s (off l l.length + (Utf8.decode s (off l l.length)).2)) := by
          intro ty
          rw [run_next_any w s (off l l.length) ty hpos, b1]; rfl
        have HR := Lib.hid hR
        have Hp := Lib.hid b2
        have Ho := Lib.hid (off_all l)
        clear hR b1 b2
        generalize off l l.length + (Utf8.decode s (off l l.length)).2 = q at hnx
        go_wp2_with (go_at_call 61; refine (prefix_no _ _ _ Hp.out).mono ?_; rintro e w' ⟨rfl, rfl⟩)
        go_ret2
        exact ⟨ret_ib (by rw [stopAt_not l HR.out, ← Ho.out]) (isFull_not HR.out).symm, below_iter _ _ _⟩

theorem valid_any (s : ByteArray) (l : List Int) (R : List UInt8) (h : Split s.data.toList l R) (w : World) :
    Calls Tryz.prog 24 #[.string s] w fun e w' => e = .returned (.tuple #[.int .i64 (stopAt l R), .bool (isFull R)]) ∧ Below w.heap.size w w' := by
  go_enter Tryz.func24, Tryz.ntmps24
  go_wp2_with (go_at_call 57; refine (each_valid s l R h _).mono ?_; rintro e w' ⟨rfl, hb⟩)
  go_ret2
  exact ⟨rfl, hb⟩

/-- what Decode answers -/
def decN (L : List UInt8) : Int := if ok L = true then (decL L).1 else -1
def decM (L : List UInt8) : Int := if ok L = true then (decL L).2 else 0
theorem decN_yes {L : List UInt8} (h : ok L = true) : decN L = (decL L).1 := if_pos h
theorem decM_yes {L : List UInt8} (h : ok L = true) : decM L = (decL L).2 := if_pos h
theorem decN_no {L : List UInt8} (h : ok L = false) : decN L = -1 := if_neg (by rw [h]; decide)
theorem decM_no {L : List UInt8} (h : ok L = false) : decM L = 0 := if_neg (by rw [h]; decide)

theorem runeLen_pt (r : Int) (h : pt r = true) : Lib.runeLen r = (Lib.encodeRune r).length := by
  have hp := (pt_iff r).1 h
  unfold Lib.runeLen Lib.encodeRune
  rw [List.length_map]
  rw [if_neg (by omega)]
  by_cases h1 : r ≤ 127
  · rw [if_pos h1, Lib.encodeRuneZ_one (by omega) h1]; rfl
  · rw [if_neg h1]
    by_cases h2 : r ≤ 2047
    · rw [if_pos h2, Lib.encodeRuneZ_two (by omega) h2]; rfl
    · rw [if_neg h2, if_neg (by omega)]
      by_cases h3 : r ≤ 65535
      · rw [if_pos h3, Lib.encodeRuneZ_three (by omega)]; rfl
      · rw [if_neg h3, if_pos (by omega), Lib.encodeRuneZ_four (by omega) (by omega)]; rfl

theorem dec1_any (r : Int) (p q : Nat) (x y : Value) (w : World) (hr0 : 0 ≤ r) (hr1 : r ≤ 1114111) (hp : w.cell? ⟨p, 0, none⟩ = some x) (hq : w.cell? ⟨q, 0, none⟩ = some y) (fp : w.frozen? ⟨p, 0, none⟩ = false) (fq : w.frozen? ⟨q, 0, none⟩ = false) (hpq : p < q) :
    Calls Tryz.prog 146 #[.int .i32 r, .pointer (some ⟨p, 0, none⟩), .pointer (some ⟨q, 0, none⟩)] w fun e w' => e = .returned (.bool false) ∧ (w.setCell ⟨p, 0, none⟩ (.int .i64 r)).setCell ⟨q, 0, none⟩ (.int .i64 (Lib.runeLen r)) = w' := by
  have hne : ¬ p = q := by omega
  have hne' : ¬ q = p := by omega
  go_enter Tryz.func146, Tryz.ntmps146
  go_wp2_with (go_at_call 147; refine (Tryz.utf8_RuneLen _ _).mono ?_; rintro e w' ⟨rfl, rfl⟩)
  go_ret
  exact ⟨rfl, rfl⟩

/-- behind a call of each by Decode: the two variables hold Decode's answers, and nothing below B has turned -/
def DecPost (L : List UInt8) (B p q : Nat) (w : World) (e : Ending) (w' : World) : Prop :=
  (∃ v, e = .returned v) ∧ w'.cell? ⟨p, 0, none⟩ = some (.int .i64 (decN L)) ∧ w'.cell? ⟨q, 0, none⟩ = some (.int .i64 (decM L)) ∧ Below B w w'

theorem decode_zero (s : ByteArray) : Utf8.decode s 0 = decL s.data.toList := by rw [decode_eq]; rfl

set_option maxHeartbeats 1000000 in
theorem each_dec (s : ByteArray) (B p q : Nat) (w : World) (hp : w.cell? ⟨p, 0, none⟩ = some (.int .i64 (-1))) (hq : w.cell? ⟨q, 0, none⟩ = some (.int .i64 0)) (fp : w.frozen? ⟨p, 0, none⟩ = false) (fq : w.frozen? ⟨q, 0, none⟩ = false)
    (hB : B ≤ p) (hpq : p < q) (hqw : q < w.heap.size) :
    Calls Tryz.prog 57 #[.string s, .func (.func 146) #[] #[.pointer (some ⟨p, 0, none⟩), .pointer (some ⟨q, 0, none⟩)]] w (DecPost s.data.toList B p q w) := by
  have cp : ∀ o, (w.alloc o).cell? ⟨p, 0, none⟩ = some (.int .i64 (-1)) := fun o => by rw [World.cell?_alloc_lt w o _ (by show p < _; omega)]; exact hp
  have cq : ∀ o, (w.alloc o).cell? ⟨q, 0, none⟩ = some (.int .i64 0) := fun o => by rw [World.cell?_alloc_lt w o _ (by show q < _; omega)]; exact hq
  have zp : ∀ o, (w.alloc o).frozen? ⟨p, 0, none⟩ = false := fun o => by rw [World.frozen?_alloc_old w o _ (by show p ≠ _; omega)]; exact fp
  have zq : ∀ o, (w.alloc o).frozen? ⟨q, 0, none⟩ = false := fun o => by rw [World.frozen?_alloc_old w o _ (by show q ≠ _; omega)]; exact fq
  have bel : ∀ o, Below B w (w.alloc o) := fun o => (Below.refl _ _).alloc (by omega) _
  by_cases hz : 0 < s.size
  · have hdz := decode_zero s
    cases ho : ok s.data.toList with
    | true =>
      obtain ⟨h1, h2, h3⟩ := enc_of_ok _ ho
      have hN := decN_yes ho
      have hM := decM_yes ho
      have hf : (decL s.data.toList).1 = 65533 → fffd (s.data.toList.drop 0) = true := by
        intro e
        simp [ok, e] at ho
        exact ho.2
      have hnx : ∀ ty, (Instr.next (.pointer (some ⟨w.heap.size, 0, none⟩)) true ty).run Tryz.prog (w.iter s 0) = .ok (.tuple #[.bool true, .int .i64 0, .int .i32 (decL s.data.toList).1]) (w.iter s (decL s.data.toList).2) := by
        intro ty
        rw [run_next_any w s 0 ty hz, hdz, Nat.zero_add]; rfl
      have hrl := runeLen_pt _ h1
      rw [h3, ← hM] at hrl
      have hp1 := (pt_iff _).1 h1
      clear h1 h2 h3 ho hdz hM hz
      rw [← hN] at hrl
      have HN := Lib.hid hN
      have hb1 : 0 ≤ decN s.data.toList ∧ decN s.data.toList ≤ 1114111 := by omega
      rw [← hN] at hnx
      have hfx : decN s.data.toList = 65533 → fffd (s.data.toList.drop 0) = true := fun e => hf (by omega)
      clear hN hf hp1 HN
      generalize hy : decM s.data.toList = m at *
      generalize hx : decN s.data.toList = x at *
      generalize (decL s.data.toList).2 = z at hnx
      have HL := Lib.hid hrl
      have HX := Lib.hid hx
      have HY := Lib.hid hy
      obtain ⟨hb1, hb2⟩ := hb1
      clear hrl hx hy
      have post : DecPost s.data.toList B p q w (.returned (.tuple #[.int .i64 0, .bool true])) (((w.iter s z).setCell ⟨p, 0, none⟩ (.int .i64 x)).setCell ⟨q, 0, none⟩ (.int .i64 (Lib.runeLen x))) := by
        refine ⟨⟨_, rfl⟩, ?_, ?_, ((bel _).setCell (by show B ≤ p; omega) _).setCell (by show B ≤ q; omega) _⟩
        · rw [World.cell?_setCell_other _ _ _ _ (by intro e; injection e; omega)]
          rw [HX.out]; exact World.cell?_setCell_same _ _ _ (cp _)
        · have : ((w.iter s z).setCell ⟨p, 0, none⟩ (.int .i64 x)).cell? ⟨q, 0, none⟩ = some (.int .i64 0) := by
            rw [World.cell?_setCell_other _ _ _ _ (by intro e; injection e; omega)]
            exact cq _
          rw [HL.out, HY.out]
          exact World.cell?_setCell_same _ _ _ this
      have Hpost := Lib.hid post
      clear post bel
      by_cases he : x = 65533
      · have Hp := Lib.hid (hfx he)
        have he' : (x == 65533) = true := by simp; omega
        clear hfx he
        go_enter Tryz.func57, Tryz.ntmps57
        go_wp2_with fail
        go_loopw [] (fun wr => wr = w.iter s 0) (fun _ => 0)
        case atStart => rfl
        case round =>
          subst hrel
          go_wp2_with (go_at_call 61; refine (prefix_yes0 s _ Hp.out).mono ?_; rintro e w' ⟨rfl, rfl⟩)
          go_wp2_with (go_at_call 146; refine (dec1_any _ p q _ _ _ hb1 hb2 (cp _) (cq _) (zp _) (zq _) hpq).mono ?_; rintro e w' ⟨rfl, rfl⟩)
          go_ret2
          exact Hpost.out
      · have he' : (x == 65533) = false := by simp; omega
        clear hfx he
        go_enter Tryz.func57, Tryz.ntmps57
        go_wp2_with fail
        go_loopw [] (fun wr => wr = w.iter s 0) (fun _ => 0)
        case atStart => rfl
        case round =>
          subst hrel
          go_wp2_with (go_at_call 146; refine (dec1_any _ p q _ _ _ hb1 hb2 (cp _) (cq _) (zp _) (zq _) hpq).mono ?_; rintro e w' ⟨rfl, rfl⟩)
          go_ret2
          exact Hpost.out
    | false =>
      have hbad : (decL s.data.toList).1 = 65533 ∧ fffd (s.data.toList.drop 0) = false := by
        have hne : s.data.toList ≠ [] := by
          intro e
          have := congrArg List.length e
          rw [Array.length_toList] at this
          exact absurd (show s.size = 0 from this) (by omega)
        cases hL : s.data.toList with
        | nil => exact absurd hL hne
        | cons a T =>
          rw [hL] at ho
          simp [ok] at ho
          exact ho
      have hnx : ∀ ty, (Instr.next (.pointer (some ⟨w.heap.size, 0, none⟩)) true ty).run Tryz.prog (w.iter s 0) = .ok (.tuple #[.bool true, .int .i64 0, .int .i32 65533]) (w.iter s (decL s.data.toList).2) := by
        intro ty
        rw [run_next_any w s 0 ty hz, hdz, Nat.zero_add, hbad.1]; rfl
      have Hp := Lib.hid hbad.2
      have post : DecPost s.data.toList B p q w (.returned (.tuple #[.int .i64 0, .bool false])) (w.iter s (decL s.data.toList).2) := by
        refine ⟨⟨_, rfl⟩, ?_, ?_, bel _⟩
        · rw [decN_no ho]; exact cp _
        · rw [decM_no ho]; exact cq _
      have Hpost := Lib.hid post
      clear post bel hbad ho hdz hz
      generalize (decL s.data.toList).2 = z at hnx Hpost
      go_enter Tryz.func57, Tryz.ntmps57
      go_wp2_with fail
      go_loopw [] (fun wr => wr = w.iter s 0) (fun _ => 0)
      case atStart => rfl
      case round =>
        subst hrel
        go_wp2_with (go_at_call 61; refine (prefix_no0 s _ Hp.out).mono ?_; rintro e w' ⟨rfl, rfl⟩)
        go_ret2
        exact Hpost.out
  · have hL : s.data.toList = [] := by
      apply List.eq_nil_of_length_eq_zero
      rw [Array.length_toList]
      exact show s.size = 0 by omega
    have hnx : ∀ ty, (Instr.next (.pointer (some ⟨w.heap.size, 0, none⟩)) true ty).run Tryz.prog (w.iter s 0) = _ := fun ty => run_next_end w s 0 ty hz
    have post : DecPost s.data.toList B p q w (.returned (.tuple #[.int .i64 0, .bool true])) (w.iter s 0) := by
      refine ⟨⟨_, rfl⟩, ?_, ?_, bel _⟩
      · rw [hL]; exact cp _
      · rw [hL]; exact cq _
    have Hpost := Lib.hid post
    clear post bel hL hz
    go_enter Tryz.func57, Tryz.ntmps57
    go_wp2_with fail
    go_loopw [] (fun wr => wr = w.iter s 0) (fun _ => 0)
    case atStart => rfl
    case round =>
      subst hrel
      go_wp2_with fail
      go_ret2
      exact Hpost.out

theorem decode_any (s : ByteArray) (w : World) :
    Calls Tryz.prog 124 #[.string s] w fun e w' => e = .returned (.tuple #[.int .i64 (decN s.data.toList), .int .i64 (decM s.data.toList)]) ∧ Below w.heap.size w w' := by
  have hmf : ∀ (fn : Fn) (first cap : Array Value) (w : World), (Instr.makeFunc fn first cap).run Tryz.prog w = .ok (.func fn first cap) w := fun _ _ _ _ => rfl
  go_enter Tryz.func124, Tryz.ntmps124
  go_wp2_with fail
  refine (each_dec s w.heap.size w.heap.size (w.heap.size + 1) _ (by simp) (by simp) (by simp) (by simp) (by omega) (by omega) (by simp)).mono ?_
  rintro e w1 ⟨⟨v, rfl⟩, c1, c2, hb⟩
  go_wp2_with fail
  go_quiet (fail)
  go_wp2_with fail
  go_ret2
  exact ⟨rfl, below_drewN (((Below.refl _ _).alloc (Nat.le_refl _) _).alloc (by simp) _ |>.trans hb) _⟩
end Go.Proofs.YtfiahpeajccinaaGreatDoor
namespace Go.Proofs.YtfiahpeajccinaaGreatDoor
open Go.RowKit
open Tk
open Pl
set_option linter.unusedVariables false

theorem extract_drop (s : ByteArray) (a : Nat) : (s.extract a s.size).data.toList = s.data.toList.drop a := by
  rw [show (s.extract a s.size).data.toList = (s.data.toList.drop a).take (s.size - a) from sub_list s a s.size]
  rw [List.take_of_length_le (by rw [List.length_drop, size_toList]; exact Nat.le_refl _)]
theorem chAt_end {s : ByteArray} {a : Nat} (h : s.size ≤ a ∨ bt s a < 32) : chAt s a = .bad a 1 := by unfold chAt; rw [if_pos h]
theorem chAt_esc {s : ByteArray} {a : Nat} (h : isEsc s a = true) : chAt s a = uniCh s a := by
  unfold isEsc at h
  simp only [Bool.and_eq_true, beq_iff_eq] at h
  have hl := lt_of_bt (s := s) (i := a) (by omega)
  unfold chAt
  rw [if_neg (by omega), if_pos h.1]
  unfold escCh
  rw [h.2]
  rfl
theorem chAt_short {s : ByteArray} {a : Nat} (h : isEsc s a = false) (k : bt s a = 92) : chAt s a = shortCh s (a + 1) := by
  have hl := lt_of_bt (s := s) (i := a) (by omega)
  have h7 : bt s (a + 1) ≠ 117 := by
    intro e
    unfold isEsc at h
    rw [k, e] at h
    cases h
  unfold chAt
  rw [if_neg (by omega), if_pos k]
  unfold escCh shortCh
  rw [if_neg h7]
  rfl
theorem chAt_raw {s : ByteArray} {a : Nat} (hl : a < s.size) (h : ¬ bt s a < 32) (k : bt s a ≠ 92) : chAt s a = rawCh s a := by
  unfold chAt
  rw [if_neg (by omega), if_neg k]
theorem esc_bt {s : ByteArray} {a : Nat} (k : bt s a ≠ 92) : isEsc s a = false := by
  unfold isEsc
  rw [beq_eq_false_iff_ne.2 k]; rfl
set_option maxRecDepth 100000 in
set_option maxHeartbeats 2000000 in
theorem character_any5 (b : Nat) (s : ByteArray) (a : Nat) (w : World) (hs : s.size ≤ 1000000) (hc : w.cell? ⟨b, 0, none⟩ = some (.string s)) (ha : a ≤ s.size) : Calls Tryz.prog 188 #[.pointer (some ⟨b, 0, none⟩), .int .i64 a] w fun e w' => e = .returned (chAt s a).val ∧ Below w.heap.size w w' := by
  have i2 : (0 : Int) ≤ (a : Int) := by omega
  have i1 : (a : Int) ≤ (s.size : Int) := by omega
  by_cases hl : a < s.size
  · have u1 : decide (a < s.size) = true := decide_eq_true hl
    have j1 : (a : Int) < (s.size : Int) := by omega
    have j3 : ¬ (a : Int) = (s.size : Int) := by omega
    have u3 : ((a : Int) == (s.size : Int)) = false := beq_eq_false_iff_ne.2 j3
    have hx := bt_at s a hl
    by_cases h32 : bt s a < 32
    · have HR := Lib.hid (chAt_end (s := s) (.inr h32))
      have v1 : (s[a].toNat : Int) < 32 := by omega
      have v2 : decide ((s[a].toNat : Int) < 32) = true := decide_eq_true v1
      generalize chAt s a = v at *
      clear hx h32
      go_enter Tryz.func188, Tryz.ntmps188
      go_wp2_with fail
      go_ret3
      exact ⟨by rw [HR.out]; rfl, Below.refl _ _⟩
    · have v1 : ¬ (s[a].toNat : Int) < 32 := by omega
      have v2 : decide ((s[a].toNat : Int) < 32) = false := decide_eq_false v1
      cases he : isEsc s a with
      | true =>
        have HR := Lib.hid (chAt_esc he)
        have HE := Lib.hid he
        have HC := Lib.hid (escaped_any5 b s a w hs hc ha he)
        generalize chAt s a = v at *
        generalize uniCh s a = v2 at *
        clear hx h32 he
        go_enter Tryz.func188, Tryz.ntmps188
        go_wp2_with fail
        refine (pre_any s a ha _).mono ?_
        rintro e w2 ⟨rfl, rfl⟩
        rw [HE.out]
        go_wp2_with fail
        refine HC.out.mono ?_
        rintro e w2 ⟨rfl, rfl⟩
        cases v2 with
        | pt n e =>
          unfold Ch.val
          go_wp2_with fail
          go_ret3
          exact ⟨by rw [HR.out]; rfl, Below.refl _ _⟩
        | bad p c =>
          unfold Ch.val
          go_wp2_with fail
          go_ret3
          exact ⟨by rw [HR.out]; rfl, Below.refl _ _⟩
      | false =>
        have HE := Lib.hid he
        by_cases h92 : bt s a = 92
        · have HR := Lib.hid (chAt_short he h92)
          have HC := Lib.hid (short_any5 b s (a + 1) w hs hc hl)
          have v3 : (s[a].toNat : Int) = 92 := by omega
          have v4 : ((s[a].toNat : Int) == 92) = true := beq_iff_eq.2 v3
          generalize chAt s a = v at *
          generalize shortCh s (a + 1) = v2 at *
          clear hx h32 he h92
          go_enter Tryz.func188, Tryz.ntmps188
          go_wp2_with fail
          refine (pre_any s a ha _).mono ?_
          rintro e w2 ⟨rfl, rfl⟩
          rw [HE.out]
          go_wp2_with fail
          refine HC.out.mono ?_
          rintro e w2 ⟨rfl, rfl⟩
          cases v2 with
          | pt n e =>
            unfold Ch.val
            go_wp2_with fail
            go_ret3
            exact ⟨by rw [HR.out]; rfl, Below.refl _ _⟩
          | bad p c =>
            unfold Ch.val
            go_wp2_with fail
            go_ret3
            exact ⟨by rw [HR.out]; rfl, Below.refl _ _⟩
        · have HC := Lib.hid (decode_any (s.extract a s.size) w)
          rw [extract_drop] at HC
          have hraw := chAt_raw hl h32 h92
          have v3 : ¬ (s[a].toNat : Int) = 92 := by omega
          have v4 : ((s[a].toNat : Int) == 92) = false := beq_eq_false_iff_ne.2 v3
          cases hok : ok (s.data.toList.drop a) with
          | true =>
            have hm := (enc_of_ok _ hok)
            have hpos : 0 < (decL (s.data.toList.drop a)).2 := by
              have := enc_len ((decL (s.data.toList.drop a)).1 : Int)
              rw [hm.2.2] at this; omega
            have HR := Lib.hid (show chAt s a = .pt ((decL (s.data.toList.drop a)).1 : Nat) (a + (decL (s.data.toList.drop a)).2) by rw [hraw]; unfold rawCh; rw [if_pos hok])
            have HN := Lib.hid (show decN (s.data.toList.drop a) = ((decL (s.data.toList.drop a)).1 : Nat) by unfold decN; rw [hok]; rfl)
            have HM := Lib.hid (show decM (s.data.toList.drop a) = ((decL (s.data.toList.drop a)).2 : Nat) by unfold decM; rw [hok]; rfl)
            have hbd : a + (decL (s.data.toList.drop a)).2 ≤ s.size := by
              have h5 := congrArg List.length hm.2.1
              rw [List.length_append, hm.2.2, List.length_drop, List.length_drop, size_toList] at h5
              omega
            rw [HN.out, HM.out] at HC
            clear HN HM hm hok hraw hx h32 he h92
            generalize chAt s a = v at *
            generalize (decL (s.data.toList.drop a)).1 = dn at *
            generalize (decL (s.data.toList.drop a)).2 = dm at *
            have v5 : ¬ (dm : Int) = 0 := by omega
            have v6 : ((dm : Int) == 0) = false := beq_eq_false_iff_ne.2 v5
            go_enter Tryz.func188, Tryz.ntmps188
            go_wp2_with fail
            refine (pre_any s a ha _).mono ?_
            rintro e w2 ⟨rfl, rfl⟩
            rw [HE.out]
            go_wp2_with fail
            refine HC.out.mono ?_
            rintro e w2 ⟨rfl, hB⟩
            go_wp2_with fail
            go_ret3
            exact ⟨by rw [HR.out]; rfl, hB⟩
          | false =>
            have HR := Lib.hid (show chAt s a = .bad a 2 by rw [hraw]; unfold rawCh; rw [hok]; rfl)
            have HM := Lib.hid (show decM (s.data.toList.drop a) = 0 by unfold decM; rw [hok]; rfl)
            rw [HM.out] at HC
            clear HM hok hraw hx h32 he h92
            generalize chAt s a = v at *
            generalize decN (s.data.toList.drop a) = dn at *
            go_enter Tryz.func188, Tryz.ntmps188
            go_wp2_with fail
            refine (pre_any s a ha _).mono ?_
            rintro e w2 ⟨rfl, rfl⟩
            rw [HE.out]
            go_wp2_with fail
            refine HC.out.mono ?_
            rintro e w2 ⟨rfl, hB⟩
            go_wp2_with fail
            go_ret3
            exact ⟨by rw [HR.out]; rfl, hB⟩
  · obtain rfl : a = s.size := by omega
    have HR := Lib.hid (chAt_end (s := s) (.inl (Nat.le_refl s.size)))
    generalize chAt s s.size = v at *
    go_enter Tryz.func188, Tryz.ntmps188
    go_wp2_with fail
    go_ret3
    exact ⟨by rw [HR.out]; rfl, Below.refl _ _⟩
end Go.Proofs.YtfiahpeajccinaaGreatDoor
namespace Go.Proofs.YtfiahpeajccinaaGreatDoor.Pl

/-- what the first byte of a point of so many bytes has more than its bits -/
def hd : Nat → Int
  | 2 => 192
  | 3 => 224
  | 4 => 240
  | _ => 0
def byteAt (L : List UInt8) (i : Nat) : Int := ((L.getD i 0).toNat : Nat)
theorem byteAt_lt (L : List UInt8) (i : Nat) : 0 ≤ byteAt L i ∧ byteAt L i < 256 := by
  unfold byteAt; have := (L.getD i 0).toNat_lt; omega

/-- the number that the first i + 1 of k bytes come to -/
def num (L : List UInt8) (k : Nat) : Nat → Int
  | 0 => byteAt L 0 - hd k
  | i + 1 => num L k i * 64 + byteAt L (i + 1) - 128
theorem num_succ (L : List UInt8) (k i : Nat) : num L k (i + 1) = num L k i * 64 + byteAt L (i + 1) - 128 := rfl

theorem hd_b (k : Nat) : 0 ≤ hd k ∧ hd k ≤ 240 := by
  unfold hd; split <;> omega
theorem num_le (L : List UInt8) (k i : Nat) (h : i ≤ 4) : -100000000000 ≤ num L k i ∧ num L k i ≤ 100000000000 := by
  have h0 := byteAt_lt L 0
  have h1 := byteAt_lt L 1
  have h2 := byteAt_lt L 2
  have h3 := byteAt_lt L 3
  have h4 := byteAt_lt L 4
  have hh := hd_b k
  rcases (by omega : i = 0 ∨ i = 1 ∨ i = 2 ∨ i = 3 ∨ i = 4) with rfl | rfl | rfl | rfl | rfl <;> simp only [num, Nat.zero_add, Nat.reduceAdd] <;> omega

/-- so many bytes are a point's -/
def Hit (L : List UInt8) (k : Nat) : Prop :=
  1 ≤ k ∧ k ≤ 4 ∧ k ≤ L.length ∧ pt (num L k (k - 1)) = true ∧ (Lib.encodeRuneZ (num L k (k - 1))).length = k ∧ ∀ i, i < k → (Lib.encodeRuneZ (num L k (k - 1))).getD i 0 = byteAt L i

theorem enc_prefix (L : List UInt8) (r : Int) (h0 : (Lib.encodeRuneZ r).length ≤ L.length) (h : ∀ i, i < (Lib.encodeRuneZ r).length → (Lib.encodeRuneZ r).getD i 0 = byteAt L i) :
    L = Lib.encodeRune r ++ L.drop (Lib.encodeRuneZ r).length := by
  have e : Lib.encodeRune r = L.take (Lib.encodeRuneZ r).length := by
    apply List.ext_getElem
    · simp [Lib.encodeRune]; omega
    · intro i h1 h2
      have hi : i < (Lib.encodeRuneZ r).length := by simpa [Lib.encodeRune] using h1
      have := h i hi
      rw [List.getD_eq_getElem?_getD, List.getElem?_eq_getElem hi] at this
      simp only [Option.getD_some] at this
      have hb := L[i].toNat_lt
      simp only [Lib.encodeRune, List.getElem_map, List.getElem_take]
      rw [this]
      unfold byteAt
      rw [List.getD_eq_getElem?_getD, List.getElem?_eq_getElem (by omega)]
      exact (u8_eq _ _ (by simp)).symm
  rw [e, List.take_append_drop]

theorem hit_dec {L : List UInt8} {k : Nat} (h : Hit L k) : ok L = true ∧ ((decL L).1 : Int) = num L k (k - 1) ∧ (decL L).2 = k := by
  obtain ⟨h1, h2, h3, h4, h5, h6⟩ := h
  have e := enc_prefix L (num L k (k - 1)) (by omega) (by rw [h5]; exact h6)
  have := ok_of_enc (num L k (k - 1)) (L.drop (Lib.encodeRuneZ (num L k (k - 1))).length) h4
  rw [← e] at this
  refine ⟨this.2, ?_, ?_⟩
  · rw [this.1]
    have := (pt_iff _).1 h4
    simp only []
    omega
  · rw [this.1]; simp [Lib.encodeRune, h5]

theorem dec_hit {L : List UInt8} (h : ok L = true) : Hit L (decL L).2 := by
  obtain ⟨h1, h2, h3⟩ := enc_of_ok L h
  have hl := enc_len ((decL L).1 : Int)
  have hz := (Lib.encodeRuneZ_length ((decL L).1 : Int))
  have he : (Lib.encodeRuneZ ((decL L).1 : Int)).length = (decL L).2 := by rw [← h3]; simp [Lib.encodeRune]
  have hle : (decL L).2 ≤ L.length := by
    have := congrArg List.length h2
    rw [List.length_append, h3] at this
    omega
  have hby : ∀ i, i < (decL L).2 → (Lib.encodeRuneZ ((decL L).1 : Int)).getD i 0 = byteAt L i := by
    intro i hi
    have hb := Lib.encodeRuneZ_byte ((decL L).1 : Int)
    have hil : i < (Lib.encodeRuneZ ((decL L).1 : Int)).length := by omega
    have hm := hb _ (List.getElem_mem hil)
    have hg : L[i]? = (Lib.encodeRune ((decL L).1 : Int))[i]? := by
      conv => lhs; rw [h2]
      rw [List.getElem?_append_left (by rw [h3]; exact hi)]
    have hg2 : (Lib.encodeRune ((decL L).1 : Int))[i]? = some ((Lib.encodeRuneZ ((decL L).1 : Int))[i]'hil).toNat.toUInt8 := by
      simp [Lib.encodeRune, List.getElem?_eq_getElem hil]
    unfold byteAt
    rw [List.getD_eq_getElem?_getD, List.getD_eq_getElem?_getD, hg, hg2, List.getElem?_eq_getElem hil]
    simp only [Option.getD_some]
    rw [b8 _ hm.1 hm.2]
    omega
  have hn : num L (decL L).2 ((decL L).2 - 1) = ((decL L).1 : Int) := by
    have hp := (pt_iff _).1 h1
    generalize (decL L).2 = m at *
    generalize ((decL L).1 : Int) = r at *
    clear h2 h3 hl
    by_cases c1 : r ≤ 127
    · have e := Lib.encodeRuneZ_one (r := r) (by omega) c1
      rw [e] at he hby
      obtain rfl : m = 1 := he.symm
      have b0 := hby 0 (by omega)
      simp [num, hd] at b0 ⊢
      omega
    · by_cases c2 : r ≤ 2047
      · have e := Lib.encodeRuneZ_two (r := r) (by omega) c2
        rw [e] at he hby
        obtain rfl : m = 2 := he.symm
        have b0 := hby 0 (by omega)
        have b1 := hby 1 (by omega)
        simp [num, hd] at b0 b1 ⊢
        omega
      · by_cases c3 : r ≤ 65535
        · have e := Lib.encodeRuneZ_three (r := r) (by omega)
          rw [e] at he hby
          obtain rfl : m = 3 := he.symm
          have b0 := hby 0 (by omega)
          have b1 := hby 1 (by omega)
          have b2 := hby 2 (by omega)
          simp [num, hd] at b0 b1 b2 ⊢
          omega
        · have e := Lib.encodeRuneZ_four (r := r) (by omega) (by omega)
          rw [e] at he hby
          obtain rfl : m = 4 := he.symm
          have b0 := hby 0 (by omega)
          have b1 := hby 1 (by omega)
          have b2 := hby 2 (by omega)
          have b3 := hby 3 (by omega)
          simp [num, hd] at b0 b1 b2 b3 ⊢
          omega
  refine ⟨by omega, by omega, hle, ?_, ?_, ?_⟩
  · rw [hn]; exact h1
  · rw [hn]; exact he
  · rw [hn]; exact hby

/-- no hit at one to four bytes: no point begins here -/
theorem no_hit {L : List UInt8} (h : ∀ k, 1 ≤ k → k ≤ 4 → ¬ Hit L k) : ok L = false := by
  cases ho : ok L with
  | false => rfl
  | true =>
    have hh := dec_hit ho
    exact absurd hh (h _ hh.1 hh.2.1)
theorem no_hit_short {L : List UInt8} {m : Nat} (h : ∀ k, 1 ≤ k → k < m → ¬ Hit L k) (hm : L.length < m) : ok L = false :=
  no_hit fun k h1 _ hh => by
    by_cases hk : k < m
    · exact h k h1 hk hh
    · have := hh.2.2.1; omega
end Go.Proofs.YtfiahpeajccinaaGreatDoor.Pl
namespace Go.Proofs.YtfiahpeajccinaaGreatDoor
open Go.RowKit
open Pl

/-- the cells of a row of ints -/
def ints (l : List Int) : Array Value := (l.map (Value.int .i64)).toArray

theorem bytes_any (n : Int) (w : World) (h : pt n = true) : Calls Tryz.prog 118 #[.int .i64 n] w fun e w' =>
    e = .returned (.slice (some ⟨w.heap.size, 0, none⟩) (Lib.encodeRuneZ n).length (Lib.encodeRuneZ n).length) ∧ w' = w.alloc (.cells (ints (Lib.encodeRuneZ n)) 3) := by
  have hp := (pt_iff n).1 h
  clear h
  by_cases h1 : n ≤ 127
  · have e := Lib.hid (Lib.encodeRuneZ_one (r := n) (by omega) h1)
    have b : 0 ≤ n := by omega
    clear hp
    go_enter Tryz.func118, Tryz.ntmps118
    go_wp2_with fail
    rw [e.out]
    go_ret
    exact ⟨rfl, rfl⟩
  · by_cases h2 : n ≤ 2047
    · have e := Lib.hid (Lib.encodeRuneZ_two (r := n) (by omega) h2)
      have b : 128 ≤ n := by omega
      clear hp h1
      go_enter Tryz.func118, Tryz.ntmps118
      go_wp2_with fail
      rw [e.out]
      go_ret
      exact ⟨rfl, rfl⟩
    · by_cases h3 : n ≤ 65535
      · have e := Lib.hid (Lib.encodeRuneZ_three (r := n) (by omega))
        have b : 2048 ≤ n := by omega
        clear hp h1 h2
        go_enter Tryz.func118, Tryz.ntmps118
        go_wp2_with fail
        rw [e.out]
        go_ret
        exact ⟨rfl, rfl⟩
      · have e := Lib.hid (Lib.encodeRuneZ_four (r := n) (by omega) (by omega))
        have b : 65536 ≤ n := by omega
        have b2 : n ≤ 1114111 := by omega
        clear hp h1 h2 h3
        go_enter Tryz.func118, Tryz.ntmps118
        go_wp2_with fail
        rw [e.out]
        go_ret
        exact ⟨rfl, rfl⟩

theorem ints_cell (E : List Int) (w : World) (t : TypeId) (j : Nat) (h : j < E.length) : (w.alloc (.cells (ints E) t)).cell? ⟨w.heap.size, j, none⟩ = some (.int .i64 (E.getD j 0)) := by
  have := cell_of_row (w.alloc (.cells (ints E) t)) w.heap.size j (ints E) t (0, 0) (heap_alloc_new w _)
  rw [this]
  simp [ints, List.getElem?_eq_getElem h]

/-- Bytes, the world told by what stays and by the new row's cells -/
theorem bytes_row (n : Int) (w : World) (h : pt n = true) : Calls Tryz.prog 118 #[.int .i64 n] w fun e w' =>
    ∃ b, e = .returned (.slice (some ⟨b, 0, none⟩) (Lib.encodeRuneZ n).length (Lib.encodeRuneZ n).length) ∧ (∀ j, j < (Lib.encodeRuneZ n).length → w'.cell? ⟨b, j, none⟩ = some (.int .i64 ((Lib.encodeRuneZ n).getD j 0))) ∧ Below w.heap.size w w' := by
  refine (bytes_any n w h).mono ?_
  rintro e w' ⟨rfl, rfl⟩
  exact ⟨w.heap.size, rfl, fun j hj => ints_cell _ _ _ _ hj, (Below.refl _ _).alloc (Nat.le_refl _) _⟩

/-- the reference's 'same' behind j rounds -/
def sameB (L : List UInt8) (E : List Int) (k j : Nat) : Bool := decide (E.length = k) && (List.range j).all fun i => E.getD i 0 == byteAt L i
theorem sameB_zero (L : List UInt8) (E : List Int) (k : Nat) : sameB L E k 0 = decide (E.length = k) := by simp [sameB]
theorem sameB_succ (L : List UInt8) (E : List Int) (k j : Nat) : sameB L E k (j + 1) = (sameB L E k j && (E.getD j 0 == byteAt L j)) := by
  simp [sameB, List.range_succ, Bool.and_assoc]
theorem sameB_len {L : List UInt8} {E : List Int} {k j : Nat} (h : sameB L E k j = true) : E.length = k := by
  simp [sameB] at h; exact h.1
theorem sameB_hit {L : List UInt8} {k : Nat} (h1 : 1 ≤ k) (h4 : k ≤ 4) (hl : k ≤ L.length) (hp : pt (num L k (k - 1)) = true) (h : sameB L (Lib.encodeRuneZ (num L k (k - 1))) k k = true) : Hit L k := by
  simp only [sameB, Bool.and_eq_true, decide_eq_true_eq, List.all_eq_true, List.mem_range, beq_iff_eq] at h
  exact ⟨h1, h4, hl, hp, h.1, h.2⟩
theorem sameB_no {L : List UInt8} {k j : Nat} (hj : j ≤ k) (h : sameB L (Lib.encodeRuneZ (num L k (k - 1))) k j = false) : ¬ Hit L k := by
  intro hh
  have : sameB L (Lib.encodeRuneZ (num L k (k - 1))) k j = true := by
    simp only [sameB, Bool.and_eq_true, decide_eq_true_eq, List.all_eq_true, List.mem_range, beq_iff_eq]
    exact ⟨hh.2.2.2.2.1, fun i hi => hh.2.2.2.2.2 i (by omega)⟩
  rw [this] at h
  cases h

theorem wrap_byte (s : ByteArray) (i : Nat) (h : i < s.size) (L : List UInt8) (j : Nat) (a : Nat) (e : s.data.toList.drop a = L) (ei : a + j = i) : wrap64 ((s[i]'h).toNat : Int) = byteAt L j := by
  have hb := (s[i]'h).toNat_lt
  have h1 : wrap64 ((s[i]'h).toNat : Int) = ((s[i]'h).toNat : Int) := IntWalk.wrap64_in _ (by omega)
  rw [h1]
  unfold byteAt
  rw [← e, ← get_drop, ei]
  congr 2
  exact (get_at s i h).symm

set_option maxRecDepth 100000 in
set_option maxHeartbeats 4000000 in
theorem first_any (s : ByteArray) (i : Nat) (w : World) (hi : i < s.size) (hs : s.size ≤ 1000000) :
    Calls Tryz.prog 74 #[.string s, .int .i64 i] w fun e w' => e = .returned (.tuple #[.int .i64 (decN (s.data.toList.drop i)), .int .i64 (decM (s.data.toList.drop i))]) ∧ Below w.heap.size w w' := by
  have hlen : (s.data.toList.drop i).length = s.size - i := by rw [List.length_drop, Array.length_toList]; rfl
  generalize hL : s.data.toList.drop i = L at *
  have Hlen := Lib.hid hlen
  have HL := Lib.hid hL
  clear hL hlen
  have i1 : (i : Int) < (s.size : Int) := by omega
  go_enter Tryz.func74, Tryz.ntmps74
  go_wp2_with fail
  go_loopw [6] (fun m wr => ∃ k : Nat, 1 ≤ k ∧ k ≤ 5 ∧ m = .int .i64 k ∧ (∀ j, 1 ≤ j → j < k → ¬ Hit L j) ∧ Below w.heap.size w wr) (fun m _ => 5 - (intOf m).toNat)
  case atStart => exact ⟨1, by omega, by omega, rfl, fun j a b => by omega, Below.refl _ _⟩
  case round =>
    obtain ⟨k, hk1, hk5, rfl, hno, hbel⟩ := hrel
    have Hno := Lib.hid hno
    clear hno
    by_cases hk : k ≤ 4
    · by_cases hfit : i + k ≤ s.size
      · have hcell : ∀ j : Nat, j ≤ 4 → (wr.alloc (.cells #[.int .i64 0, .int .i64 0, .int .i64 192, .int .i64 224, .int .i64 240] 159)).cell? ⟨wr.heap.size, j, none⟩ = some (.int .i64 (hd j)) := by
          intro j hj
          rcases (by omega : j = 0 ∨ j = 1 ∨ j = 2 ∨ j = 3 ∨ j = 4) with rfl | rfl | rfl | rfl | rfl <;> simp [hd]
        have hck := hcell k hk
        clear hcell
        have k5 : (k : Int) < 5 := by omega
        have t1 : decide ((k : Int) ≤ 4) = true := by simp; omega
        have t2 : decide ((s.size : Int) < (i : Int) + (k : Int)) = false := by simp; omega
        have hb0 := wrap_byte s i hi L 0 i HL.out rfl
        obtain ⟨y0, y1⟩ := byteAt_lt L 0
        obtain ⟨d0, d1⟩ := hd_b k
        go_wp2_with fail
        go_quiet (fail)
        go_wp2_with fail
        clear hb0 hck
        have hbel1 : Below w.heap.size w ((wr.alloc (.cells #[.int .i64 0, .int .i64 0, .int .i64 192, .int .i64 224, .int .i64 240] 159)).drewN nq) := below_drewN (hbel.alloc hbel.size _) _
        generalize (wr.alloc (.cells #[.int .i64 0, .int .i64 0, .int .i64 192, .int .i64 224, .int .i64 240] 159)).drewN nq = w1 at *
        go_loop [8, 9] (fun n c => ∃ j : Nat, 1 ≤ j ∧ j ≤ k ∧ c = .int .i64 j ∧ n = .int .i64 (num L k (j - 1))) (fun _ c => k - (intOf c).toNat)
        case atStart => exact ⟨1, by omega, hk1, rfl, rfl⟩
        case round =>
          obtain ⟨j, hj1, hjk, rfl, rfl⟩ := hrel
          obtain ⟨z0, z1⟩ := num_le L k (j - 1) (by omega)
          by_cases hjlt : j < k
          · have hij : i + j < s.size := by omega
            have hbj := wrap_byte s (i + j) hij L j i HL.out rfl
            obtain ⟨x0, x1⟩ := byteAt_lt L j
            have hnum : num L k (j - 1) * 64 + byteAt L j - 128 = num L k j := by
              obtain ⟨j', rfl⟩ : ∃ j', j = j' + 1 := ⟨j - 1, by omega⟩
              rfl
            have Hnum := Lib.hid hnum
            clear hnum
            go_wp2_with fail
            go_round
            case rel => exact ⟨j + 1, by omega, by omega, by go_num, by rw [Nat.add_sub_cancel, ← Hnum.out]⟩
            case measure => simp [intOf]; omega
          · obtain rfl : k = j := by omega
            clear hjk hj1
            have hgo : ∀ W : World, ¬ Hit L k → Below w.heap.size w W → ∃ k' : Nat, 1 ≤ k' ∧ k' ≤ 5 ∧ Value.int .i64 ((k : Int) + 1) = .int .i64 k' ∧ (∀ j, 1 ≤ j → j < k' → ¬ Hit L j) ∧ Below w.heap.size w W := by
              intro W hnh hbw
              refine ⟨k + 1, by omega, by omega, by go_num, ?_, hbw⟩
              intro a ha hb
              by_cases haj : a < k
              · exact Hno.out a ha haj
              · obtain rfl : a = k := by omega
                exact hnh
            have Hgo := Lib.hid hgo
            clear hgo
            cases hpt : pt (num L k (k - 1)) with
            | false =>
              have hnh : ¬ Hit L k := fun hh => by rw [hh.2.2.2.1] at hpt; cases hpt
              go_wp2_with (go_at_call 117; refine (ris_no _ _ hpt).mono ?_; rintro e w' ⟨rfl, rfl⟩)
              go_roundw
              case rel => exact Hgo.out _ hnh hbel1
              case measure => simp [intOf]; omega
            | true =>
              have Hpt := Lib.hid hpt
              clear hpt
              have hEl := Lib.encodeRuneZ_length (num L k (k - 1))
              go_wp2_with (go_at_call 117; refine (ris_yes _ _ Hpt.out).mono ?_; rintro e w' ⟨rfl, rfl⟩)
              refine (bytes_row _ _ Hpt.out).mono ?_
              rintro e w2 ⟨b, rfl, hrow, hb2⟩
              have Hrow := Lib.hid hrow
              have hbel2 : Below w.heap.size w w2 := hbel1.trans (hb2.mono hbel1.size)
              clear hrow hb2 hbel1
              have HEl := Lib.hid hEl
              clear hEl
              go_wp2_with fail
              go_loopw [11, 12] (fun sm c wr' => ∃ q j : Nat, j ≤ k ∧ c = .int .i64 j ∧ sm = .bool (sameB L (Lib.encodeRuneZ (num L k (k - 1))) k j) ∧ wr' = w2.drewN q) (fun _ c _ => k - (intOf c).toNat)
              case atStart =>
                refine ⟨0, 0, by omega, rfl, ?_, rfl⟩
                rw [sameB_zero]
                congr 1
                rw [Bool.eq_iff_iff, beq_iff_eq, decide_eq_true_eq]
                omega
              case round =>
                obtain ⟨q, j, hjk, rfl, rfl, rfl⟩ := hrel
                cases hsm : sameB L (Lib.encodeRuneZ (num L k (k - 1))) k j with
                | false =>
                  have hnh := sameB_no hjk hsm
                  clear hsm
                  go_wp2_with fail
                  go_roundw
                  case rel => exact Hgo.out _ hnh (below_drewN hbel2 _)
                  case measure => simp [intOf]; omega
                | true =>
                  have hlen := sameB_len hsm
                  by_cases hjlt : j < k
                  · obtain ⟨x, hx, hc⟩ : ∃ x, (Lib.encodeRuneZ (num L k (k - 1))).getD j 0 = x ∧ w2.cell? ⟨b, j, none⟩ = some (.int .i64 x) := ⟨_, rfl, Hrow.out j (by omega)⟩
                    have hij : i + j < s.size := by omega
                    have hbj := wrap_byte s (i + j) hij L j i HL.out rfl
                    have hnext : sameB L (Lib.encodeRuneZ (num L k (k - 1))) k (j + 1) = (x == byteAt L j) := by
                      rw [sameB_succ, hsm, hx, Bool.true_and]
                    have Hnext := Lib.hid hnext
                    have Hl := Lib.hid hlen
                    have jl : (j : Int) < ((Lib.encodeRuneZ (num L k (k - 1))).length : Int) := by omega
                    have e1 : IntKind.i64.wrap ((i : Int) + (j : Int)) = (i : Int) + (j : Int) := IntWalk.i64_in _ (by omega)
                    have e2 : 0 ≤ (i : Int) + (j : Int) := by omega
                    have e3 : ((i : Int) + (j : Int)).toNat = i + j := by omega
                    have e4 : (i : Int) + (j : Int) < (s.size : Int) := by omega
                    clear hx hsm hnext hlen
                    go_wp2_with fail
                    go_quiet (fail)
                    go_wp2_with fail
                    go_roundw
                    case rel => exact ⟨q + nq, j + 1, by omega, by go_num, by rw [Hnext.out], rfl⟩
                    case measure => simp [intOf]; omega
                  · obtain rfl : k = j := by omega
                    have hh := sameB_hit hk1 hk (by rw [Hlen.out]; omega) Hpt.out hsm
                    obtain ⟨o1, o2, o3⟩ := hit_dec hh
                    have Hres := Lib.hid (show decN L = num L k (k - 1) ∧ decM L = (k : Int) from ⟨by rw [decN_yes o1, o2], by rw [decM_yes o1, o3]⟩)
                    clear hh o1 o2 o3 hlen
                    go_wp2_with fail
                    go_ret2
                    exact ⟨by rw [Hres.out.1, Hres.out.2]; rfl, below_drewN hbel2 _⟩
      · have t1 : decide ((k : Int) ≤ 4) = true := by simp; omega
        have t2 : decide ((s.size : Int) < (i : Int) + (k : Int)) = true := by simp; omega
        have ho : ok L = false := no_hit_short (m := k) (fun j h1 h2 => Hno.out j h1 h2) (by rw [Hlen.out]; omega)
        have Hres := Lib.hid (show decN L = -1 ∧ decM L = 0 from ⟨decN_no ho, decM_no ho⟩)
        clear ho
        go_wp2_with fail
        go_ret2
        exact ⟨by rw [Hres.out.1, Hres.out.2]; rfl, hbel⟩
    · have t1 : decide ((k : Int) ≤ 4) = false := by simp; omega
      have ho : ok L = false := no_hit fun j h1 h2 => Hno.out j h1 (by omega)
      have Hres := Lib.hid (show decN L = -1 ∧ decM L = 0 from ⟨decN_no ho, decM_no ho⟩)
      clear ho
      go_wp2_with fail
      go_ret2
      exact ⟨by rw [Hres.out.1, Hres.out.2]; rfl, hbel⟩

theorem first_zero (s : ByteArray) (w : World) (hi : 0 < s.size) (hs : s.size ≤ 1000000) :
    Calls Tryz.prog 74 #[.string s, .int .i64 0] w fun e w' => e = .returned (.tuple #[.int .i64 (decN s.data.toList), .int .i64 (decM s.data.toList)]) ∧ Below w.heap.size w w' :=
  first_any s 0 w hi hs
end Go.Proofs.YtfiahpeajccinaaGreatDoor
namespace Go.Proofs.YtfiahpeajccinaaGreatDoor
open Go.RowKit
open Pl

theorem info5 : (Tryz.prog.info? 5).map (fun i => (i.zero, i.size, i.bytes)) = some (some (.int .u8 0), 1, 1) := by kernel_rfl
theorem info3 : (Tryz.prog.info? 3).map (fun i => (i.zero, i.size, i.bytes)) = some (some (.int .i64 0), 1, 8) := by kernel_rfl

/-- a slice value whose elements are the ints l, in blocks below B -/
def Reads (w : World) (B : Nat) (A : Option Addr) (l : List Int) : Prop :=
  l ≠ [] → ∃ b o, A = some ⟨b, o, none⟩ ∧ b < B ∧ ∀ i, i < l.length → w.cell? ⟨b, o + i, none⟩ = some (.int .i64 (l.getD i 0))

/-- a row that the call owns, and a block of another element type, are two -/
theorem own_ne {w : World} {base : Nat} {e t : TypeId} {size n : Nat} {v : Value} {xs : List Value} {g : Nat} {cs : Array Value} {fz : Nat × Nat}
    (h : w.ownsRow base e size v n xs) (hg : w.heap[g]? = some (.cells cs t fz)) (hne : e ≠ t) : some g ≠ v.ownBlock := by
  rcases h.2 with ⟨rfl, _⟩ | ⟨g', cap, cur, rfl, _, hh, _⟩
  · simp [Value.ownBlock]
  · intro he
    have e1 : g = g' := by simpa [Value.ownBlock] using he
    rw [e1, hh] at hg
    injection hg with hg
    injection hg with _ h2 _
    exact hne h2

theorem conv_owned {w : World} {base : Nat} {v : Value} {L : List UInt8} (h : w.ownsRow base 5 1 v L.length (Lib.byteCells L)) :
    (convert 72 9 v).run Tryz.prog w = .ok (.string ⟨L.toArray⟩) w := by
  rcases h.2 with ⟨rfl, h0⟩ | ⟨g, cap, cur, rfl, _, hh, _⟩
  · obtain rfl : L = [] := List.eq_nil_of_length_eq_zero h0
    rw [run_convert_bytes_nil w 72 5 Tryz.underlying72 Tryz.underlying5 0 0 9 Tryz.underlying9]
    rfl
  · exact run_convert_bytes_back w 72 9 5 ⟨g, 0, none⟩ cap L Tryz.underlying72 Tryz.underlying5 Tryz.underlying9 fun j hj => h.cells (g := g) rfl j _ (by simp [Lib.byteCells, List.getElem?_eq_getElem hj])

/-- Bytes, its new row told whole -/
theorem bytes_blk (n : Int) (w : World) (h : pt n = true) : Calls Tryz.prog 118 #[.int .i64 n] w fun e w' =>
    ∃ b, e = .returned (.slice (some ⟨b, 0, none⟩) (Lib.encodeRuneZ n).length (Lib.encodeRuneZ n).length) ∧ w'.heap[b]? = some (.cells (ints (Lib.encodeRuneZ n)) 3 (0, 0)) ∧ w.heap.size < w'.heap.size ∧ Below w.heap.size w w' := by
  refine (bytes_any n w h).mono ?_
  rintro e w' ⟨rfl, rfl⟩
  exact ⟨w.heap.size, rfl, heap_alloc_new w _, by simp, (Below.refl _ _).alloc (Nat.le_refl _) _⟩

theorem blk_cell {E : List Int} {w : World} {b j : Nat} (h : w.heap[b]? = some (.cells (ints E) 3 (0, 0))) (hj : j < E.length) : w.cell? ⟨b, j, none⟩ = some (.int .i64 (E.getD j 0)) := by
  rw [cell_of_row w b j _ 3 (0, 0) h]
  simp [ints, List.getElem?_eq_getElem hj]

theorem flat_take_succ (l : List Int) (k : Nat) (h : k < l.length) : flat (l.take (k + 1)) = flat (l.take k) ++ Lib.encodeRune (l.getD k 0) := by
  rw [List.take_succ_eq_append_getElem h, flat_append]
  simp [flat, List.getElem?_eq_getElem h]
theorem enc_take_succ (x : Int) (j : Nat) (h : j < (Lib.encodeRuneZ x).length) :
    Lib.byteCells ((Lib.encodeRune x).take (j + 1)) = Lib.byteCells ((Lib.encodeRune x).take j) ++ [.int .u8 ((Lib.encodeRuneZ x).getD j 0)] := by
  have hb := Lib.encodeRuneZ_byte x _ (List.getElem_mem h)
  rw [List.take_succ_eq_append_getElem (by simpa [Lib.encodeRune] using h), Lib.byteCells_append]
  congr 1
  simp only [Lib.byteCells, Lib.encodeRune, List.getElem_map, List.map_cons, List.map_nil]
  rw [b8 _ hb.1 hb.2, List.getD_eq_getElem?_getD, List.getElem?_eq_getElem h]
  simp only [Option.getD_some]
  rw [Int.toNat_of_nonneg hb.1]

theorem len4 (l : List Int) : (flat l).length ≤ 4 * l.length := by
  induction l with
  | nil => simp [flat]
  | cons x l ih => rw [flat_cons, List.length_append, List.length_cons]; have := (enc_len x).2; omega

set_option maxRecDepth 100000 in
set_option maxHeartbeats 4000000 in
theorem rtext_any (l : List Int) (A : Option Addr) (c : Nat) (w : World) (hl : l.length ≤ 100000) (hr : Reads w w.heap.size A l) (hp : ∀ x ∈ l, pt x = true) :
    Calls Tryz.prog 111 #[.slice A l.length c] w fun e w' => e = .returned (.string ⟨(flat l).toArray⟩) ∧ Below w.heap.size w w' := by
  obtain ⟨i0, hi, hz0, hz1, hz2⟩ := info_parts info5
  by_cases hnil : l = []
  · subst hnil
    have hcv := conv_owned (L := []) (World.ownsRow_nil w w.heap.size 5 1)
    clear hr hp hl hi hz0 hz1 hz2
    go_enter Tryz.func111, Tryz.ntmps111
    go_wp2_with fail
    go_loop [3, 9] (fun v i => v = .slice none 0 0 ∧ i = .int .i64 0) (fun _ _ => 0)
    case atStart => exact ⟨rfl, rfl⟩
    case round =>
      obtain ⟨rfl, rfl⟩ := hrel
      go_wp2_with fail
      go_ret
      exact ⟨rfl, Below.refl _ _⟩
  · obtain ⟨b, o, rfl, hbw, hcell⟩ := hr hnil
    clear hr hnil
    have Hcell := Lib.hid hcell
    have Hp := Lib.hid hp
    clear hcell hp
    go_enter Tryz.func111, Tryz.ntmps111
    go_wp2_with fail
    go_loopw [3, 9] (fun v i wr => ∃ k : Nat, k ≤ l.length ∧ i = .int .i64 k ∧ wr.ownsRow w.heap.size 5 1 v (flat (l.take k)).length (Lib.byteCells (flat (l.take k))) ∧ Below w.heap.size w wr) (fun _ i _ => l.length - (intOf i).toNat)
    case atStart => exact ⟨0, Nat.zero_le _, rfl, World.ownsRow_nil _ _ _ _, Below.refl _ _⟩
    case round =>
      obtain ⟨k, hk, rfl, hown, hbel⟩ := hrel
      by_cases hlt : k < l.length
      · have t1 : decide ((k : Int) < (l.length : Int)) = true := decide_eq_true (by omega)
        have hck : wr.cell? ⟨b, o + k, none⟩ = some (.int .i64 (l.getD k 0)) := (hbel.cell (by exact hbw)).trans (Hcell.out k hlt)
        have hpk : pt (l.getD k 0) = true := Hp.out _ (by rw [List.getD_eq_getElem?_getD, List.getElem?_eq_getElem hlt]; exact List.getElem_mem hlt)
        have hflat := flat_take_succ l k hlt
        have Hpk := Lib.hid hpk
        have Hflat := Lib.hid hflat
        have Hown := Lib.hid hown
        have Hbel := Lib.hid hbel
        clear hpk hflat hown hbel
        generalize l.getD k 0 = x at *
        go_wp2_with fail
        refine (bytes_blk _ _ Hpk.out).mono ?_
        rintro e w2 ⟨b2, rfl, hblk, hsz2, hb2⟩
        have Hbel2 := Lib.hid (Hbel.out.trans (hb2.mono Hbel.out.size))
        have Hown2 := Lib.hid (World.ownsRow.kept Hown.out (w' := w2) (row := none) ⟨hb2.os, hb2.tape, hb2.output, hb2.size, fun a ha _ => hb2.block a ha⟩ (by cases u3 <;> simp [Value.ownBlock] <;> split <;> simp))
        have Hblk := Lib.hid hblk
        clear hblk hsz2 hb2 Hown Hbel hck
        go_wp2_with fail
        have hEl := Lib.encodeRuneZ_length x
        have hfl : (flat (l.take k)).length ≤ 400000 := by
          have h1 := len4 (l.take k)
          rw [List.length_take] at h1
          omega
        go_loopw [3, 19] (fun v i wi => ∃ j : Nat, j ≤ (Lib.encodeRuneZ x).length ∧ i = .int .i64 j ∧ wi.ownsRow w.heap.size 5 1 v ((flat (l.take k)).length + j) (Lib.byteCells (flat (l.take k)) ++ Lib.byteCells ((Lib.encodeRune x).take j)) ∧ wi.heap[b2]? = some (.cells (ints (Lib.encodeRuneZ x)) 3 (0, 0)) ∧ Below w.heap.size w wi) (fun _ i _ => (Lib.encodeRuneZ x).length - (intOf i).toNat)
        case atStart => exact ⟨0, Nat.zero_le _, rfl, by simpa [Lib.byteCells] using Hown2.out, Hblk.out, Hbel2.out⟩
        case round =>
          obtain ⟨j, hj, rfl, hown, hblk, hbel⟩ := hrel
          by_cases hjlt : j < (Lib.encodeRuneZ x).length
          · have t2 : decide ((j : Int) < ((Lib.encodeRuneZ x).length : Int)) = true := decide_eq_true (by omega)
            have hcj := blk_cell hblk hjlt
            have hby := Lib.encodeRuneZ_byte x _ (List.getElem_mem hjlt)
            have hts := enc_take_succ x j hjlt
            have hyb : 0 ≤ (Lib.encodeRuneZ x).getD j 0 ∧ (Lib.encodeRuneZ x).getD j 0 < 256 := by
              rw [List.getD_eq_getElem?_getD, List.getElem?_eq_getElem hjlt]; exact hby
            clear hby
            generalize (Lib.encodeRuneZ x).getD j 0 = y at *
            obtain ⟨y0, y1⟩ := hyb
            have hwy : IntKind.u8.wrap y = y := by rw [IntKind.wrap_u8]; omega
            have Hts := Lib.hid hts
            have Hneb := Lib.hid (own_ne hown hblk (by decide))
            have Hblk' := Lib.hid hblk
            have Hown' := Lib.hid hown
            have Hbel' := Lib.hid hbel
            clear hts hblk hown hbel
            go_wp2_with (at_builtin; refine wpList_append_own _ rfl _ _ 72 rfl w.heap.size 5 i0 (.int .u8 0) 1 1 Tryz.underlying72 hi hz0 hz1 hz2 rfl (by decide) _ _ _ rfl (Hown'.out.alloc _) ⟨wr.heap.size, 0, none⟩ 1 1 [.int .u8 y] rfl rfl ?c1 ?c2 ?c3 ?c4 ?c5 ?_)
            case c1 =>
              intro a u hu
              match a, hu with
              | 0, hu => simp at hu; subst hu; simp [Addr.add]
            case c2 => intro u hu; simp at hu; subst hu; rfl
            case c3 => unfold maxLen; omega
            case c4 => omega
            case c5 => have := Hbel'.out.size; simp; omega
            · intro v' w3 hown3 hgrow _
              have hblk3 : w3.heap[b2]? = some (.cells (ints (Lib.encodeRuneZ x)) 3 (0, 0)) := by
                have hlt2 : b2 < wr.heap.size := (Array.getElem?_eq_some_iff.1 Hblk'.out).1
                rw [hgrow.block b2 (by simp; omega) Hneb.out]
                exact (Below.heap_alloc _ _ _ hlt2).trans Hblk'.out
              have hbel3 : Below w.heap.size w w3 := (Hbel'.out.alloc Hbel'.out.size _).grown hgrow (by have := Hbel'.out.size; simp; omega) (fun a ha => (Hown'.out.lt a ha).1)
              have Hown3 := Lib.hid hown3
              have Hblk3 := Lib.hid hblk3
              have Hbel3 := Lib.hid hbel3
              clear hown3 hgrow hblk3 hbel3
              go_wp2_with fail
              go_roundw
              case rel =>
                refine ⟨j + 1, by omega, by go_num, ?_, Hblk3.out, Hbel3.out⟩
                rw [Hts.out]
                exact Hown3.out
              case measure => simp [intOf]; omega
          · obtain rfl : j = (Lib.encodeRuneZ x).length := by omega
            have t2 : decide (((Lib.encodeRuneZ x).length : Int) < ((Lib.encodeRuneZ x).length : Int)) = false := decide_eq_false (by omega)
            have Hown' := Lib.hid hown
            have Hbel' := Lib.hid hbel
            clear hown hbel hblk
            go_wp2_with fail
            go_roundw
            case rel =>
              refine ⟨k + 1, by omega, by go_num, ?_, Hbel'.out⟩
              rw [Hflat.out, List.length_append, Lib.byteCells_append]
              have he : (Lib.encodeRune x).length = (Lib.encodeRuneZ x).length := by simp [Lib.encodeRune]
              rw [he]
              have := Hown'.out
              rw [← he, List.take_length, he] at this
              exact this
            case measure => simp [intOf]; omega
      · obtain rfl : k = l.length := by omega
        have t1 : decide ((l.length : Int) < (l.length : Int)) = false := decide_eq_false (by omega)
        rw [List.take_length] at hown
        have hcv := conv_owned hown
        have Hbel := Lib.hid hbel
        clear hown hbel
        go_wp2_with fail
        go_ret
        exact ⟨rfl, Hbel.out⟩
end Go.Proofs.YtfiahpeajccinaaGreatDoor
namespace Go.Proofs.YtfiahpeajccinaaGreatDoor
open Go.RowKit
open Pl

theorem getD_take_succ (l : List Int) (k : Nat) (h : k < l.length) : l.take (k + 1) = l.take k ++ [l.getD k 0] := by
  rw [List.take_succ_eq_append_getElem h]; simp [List.getElem?_eq_getElem h]
theorem Reads.below {w w' : World} {B B' : Nat} {A : Option Addr} {l : List Int} (h : Reads w B A l) (hb : Below B' w w') (hB : B ≤ B') : Reads w' B A l := by
  intro hn
  obtain ⟨b, o, e, hlt, hc⟩ := h hn
  exact ⟨b, o, e, hlt, fun i hi => (hb.cell (p := ⟨b, o + i, none⟩) (by show b < B'; omega)).trans (hc i hi)⟩
theorem Reads.more {w : World} {B B' : Nat} {A : Option Addr} {l : List Int} (h : Reads w B A l) (hB : B ≤ B') : Reads w B' A l := by
  intro hn
  obtain ⟨b, o, e, hlt, hc⟩ := h hn
  exact ⟨b, o, e, by omega, hc⟩
theorem own_reads {w : World} {base : Nat} {v : Value} {l : List Int} (h : w.ownsRow base 3 1 v l.length (l.map (Value.int .i64))) : ∃ A c, v = .slice A l.length c ∧ Reads w w.heap.size A l := by
  rcases h.2 with ⟨rfl, h0⟩ | ⟨g, cap, cur, rfl, hb, hh, _⟩
  · obtain rfl : l = [] := List.eq_nil_of_length_eq_zero h0
    exact ⟨none, 0, rfl, fun hn => absurd rfl hn⟩
  · refine ⟨_, _, rfl, fun _ => ⟨g, 0, rfl, (Array.getElem?_eq_some_iff.1 hh).1, fun i hi => ?_⟩⟩
    have := h.cells (g := g) rfl i (.int .i64 (l.getD i 0)) (by simp [List.getElem?_eq_getElem hi])
    have hadd : (⟨g, 0, none⟩ : Addr).add i = ⟨g, 0 + i, none⟩ := by unfold Addr.add; split <;> simp_all
    rwa [hadd] at this

/-- a slice of the ints l, readable, is handed back beside something else -/
def GivesRow (l : List Int) (x : Value) (w : World) (e : Ending) (w' : World) : Prop :=
  ∃ A c, e = .returned (.tuple #[.slice A l.length c, x]) ∧ Reads w' w'.heap.size A l ∧ Below w.heap.size w w'

set_option maxRecDepth 100000 in
set_option maxHeartbeats 2000000 in
theorem rpoints_any (s : ByteArray) (l : List Int) (R : List UInt8) (h : Split s.data.toList l R) (hs : s.size ≤ 100000) (w : World) :
    Calls Tryz.prog 37 #[.string s] w (GivesRow l (.int .i64 (flat l).length) w) := by
  obtain ⟨i0, hi, hz0, hz1, hz2⟩ := info_parts info3
  have hsz := Lib.hid h.size
  have hge : (flat l).length ≤ s.size := by have := h.size; omega
  have hll : l.length ≤ 100000 := by have := len_le l; omega
  go_enter Tryz.func37, Tryz.ntmps37
  go_wp2_with fail
  go_loopw [4, 5] (fun v i wr => ∃ k : Nat, k ≤ l.length ∧ i = .int .i64 (off l k) ∧ wr.ownsRow w.heap.size 3 1 v k ((l.take k).map (Value.int .i64)) ∧ Below w.heap.size w wr) (fun _ i _ => s.size - (intOf i).toNat)
  case atStart => exact ⟨0, Nat.zero_le _, rfl, World.ownsRow_nil _ _ _ _, Below.refl _ _⟩
  case round =>
    obtain ⟨k, hk, rfl, hown, hbel⟩ := hrel
    have Hown := Lib.hid hown
    have Hbel := Lib.hid hbel
    clear hown hbel
    by_cases hlt : k < l.length
    · obtain ⟨e1, e2, hpos, h3, h4, hb, e3, hf⟩ := h.step hlt
      have ho := (h.dec hlt).2
      have hN : decN (s.data.toList.drop (off l k)) = l.getD k 0 := by
        rw [decN_yes ho, ← decode_eq, e1, e3]
      have hM : decM (s.data.toList.drop (off l k)) = (off l (k + 1) : Int) - (off l k : Int) := by
        rw [decM_yes ho, ← decode_eq]; omega
      have t1 : decide ((off l k : Int) < (s.size : Int)) = true := decide_eq_true (by omega)
      have HN := Lib.hid hN
      have HM := Lib.hid hM
      have Hts := Lib.hid (getD_take_succ l k hlt)
      clear e1 e2 e3 hf ho hN hM hb
      go_wp2_with fail
      refine (first_any s (off l k) _ hpos (by omega)).mono ?_
      rintro e w2 ⟨rfl, hb2⟩
      rw [HN.out, HM.out]
      have Hown2 := Lib.hid (World.ownsRow.kept Hown.out (w' := w2) (row := none) ⟨hb2.os, hb2.tape, hb2.output, hb2.size, fun a ha _ => hb2.block a ha⟩ (by cases u4 <;> simp [Value.ownBlock] <;> split <;> simp))
      have Hbel2 := Lib.hid (Hbel.out.trans (hb2.mono Hbel.out.size))
      have t3 : ((off l (k + 1) : Int) - (off l k : Int) == 0) = false := by simp; omega
      clear hb2 Hown Hbel
      generalize l.getD k 0 = x at *
      go_wp2_with (at_builtin; refine wpList_append_own _ rfl _ _ 83 rfl w.heap.size 3 i0 (.int .i64 0) 1 8 Tryz.underlying83 hi hz0 hz1 hz2 rfl (by decide) _ _ _ rfl (Hown2.out.alloc _) ⟨w2.heap.size, 0, none⟩ 1 1 [.int .i64 x] rfl rfl ?c1 ?c2 ?c3 ?c4 ?c5 ?_)
      case c1 =>
        intro a u hu
        match a, hu with
        | 0, hu => simp at hu; subst hu; simp [Addr.add]
      case c2 => intro u hu; simp at hu; subst hu; rfl
      case c3 => unfold maxLen; omega
      case c4 => omega
      case c5 => have := Hbel2.out.size; simp; omega
      · intro v' w3 hown3 hgrow _
        have Hbel3 := Lib.hid ((Hbel2.out.alloc Hbel2.out.size _).grown hgrow (by have := Hbel2.out.size; simp; omega) (fun a ha => (Hown2.out.lt a ha).1))
        have Hown3 := Lib.hid hown3
        clear hown3 hgrow
        go_wp2_with fail
        go_roundw
        case rel =>
          refine ⟨k + 1, hlt, ?_, ?_, Hbel3.out⟩
          · congr 1; omega
          · rw [Hts.out, List.map_append, List.map_take]; exact Hown3.out
        case measure => simp [intOf]; omega
    · obtain rfl : l.length = k := by omega
      have Hlast : Hid (∀ W : World, Below w.heap.size w W → W.ownsRow w.heap.size 3 1 u4 l.length (l.map (Value.int .i64)) → GivesRow l (.int .i64 (flat l).length) w (.returned (.tuple #[u4, .int .i64 (off l l.length)])) W) := by
        intro W hW ho
        obtain ⟨A, c, hv, hr⟩ := own_reads ho
        exact ⟨A, c, by rw [hv, off_all], hr, hW⟩
      by_cases hR : R = []
      · have t1 : decide (off l l.length < s.size) = false := decide_eq_false (by rw [off_all, hsz.out, hR]; simp)
        have hfin := Hlast.out _ Hbel.out (by have := Hown.out; rwa [List.take_length] at this)
        have Hfin := Lib.hid hfin
        clear hfin Hlast Hown Hbel hR hk hlt
        go_wp2_with fail
        go_ret2
        exact Hfin.out
      · have hpos : off l l.length < s.size := by
          have : 0 < R.length := List.length_pos_iff.2 hR
          rw [off_all, hsz.out]; omega
        have t1 : decide (off l l.length < s.size) = true := decide_eq_true (by omega)
        have ho : ok (s.data.toList.drop (off l l.length)) = false := by
          rw [off_all, h.1, drop_all]; exact h.2.1
        have HN := Lib.hid (decN_no ho)
        have HM := Lib.hid (decM_no ho)
        clear ho hR hk hlt
        go_wp2_with fail
        refine (first_any s (off l l.length) _ hpos (by omega)).mono ?_
        rintro e w2 ⟨rfl, hb2⟩
        rw [HN.out, HM.out]
        have hown2 := World.ownsRow.kept Hown.out (w' := w2) (row := none) ⟨hb2.os, hb2.tape, hb2.output, hb2.size, fun a ha _ => hb2.block a ha⟩ (by cases u4 <;> simp [Value.ownBlock] <;> split <;> simp)
        rw [List.take_length] at hown2
        have hfin := Hlast.out _ (Hbel.out.trans (hb2.mono Hbel.out.size)) hown2
        have Hfin := Lib.hid hfin
        clear hfin Hlast Hown Hbel hown2 hb2
        go_wp2_with fail
        go_ret2
        exact Hfin.out

theorem rvalid_yes (s : ByteArray) (l : List Int) (h : Split s.data.toList l []) (hs : s.size ≤ 100000) (w : World) :
    Calls Tryz.prog 22 #[.string s] w fun e w' => e = .returned (.bool true) ∧ Below w.heap.size w w' := by
  have hsz := h.size
  have He : Hid (((flat l).length : Int) = (s.size : Int)) := by simp at hsz; exact congrArg Int.ofNat hsz.symm
  clear hsz
  go_enter Tryz.func22, Tryz.ntmps22
  go_wp2_with fail
  refine (rpoints_any s l [] h hs _).mono ?_
  rintro e w1 ⟨A, c, rfl, hr, hb⟩
  rw [He.out]
  have Hb := Lib.hid hb
  clear hr hb
  go_wp2_with fail
  go_ret
  exact ⟨ret_bool (by simp), Hb.out⟩
theorem rvalid_no (s : ByteArray) (l : List Int) (R : List UInt8) (h : Split s.data.toList l R) (hR : R ≠ []) (hs : s.size ≤ 100000) (w : World) :
    Calls Tryz.prog 22 #[.string s] w fun e w' => e = .returned (.bool false) ∧ Below w.heap.size w w' := by
  have hsz := h.size
  have hp : 0 < R.length := List.length_pos_iff.2 hR
  have hlt : ((flat l).length : Int) < (s.size : Int) := by omega
  clear hsz hp
  go_enter Tryz.func22, Tryz.ntmps22
  go_wp2_with fail
  refine (rpoints_any s l R h hs _).mono ?_
  rintro e w1 ⟨A, c, rfl, hr, hb⟩
  have Hb := Lib.hid hb
  clear hr hb
  go_wp2_with fail
  go_ret
  exact ⟨ret_bool (by simp; omega), Hb.out⟩
end Go.Proofs.YtfiahpeajccinaaGreatDoor
