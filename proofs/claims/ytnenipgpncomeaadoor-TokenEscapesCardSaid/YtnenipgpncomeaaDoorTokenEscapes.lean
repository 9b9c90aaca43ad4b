/- TokenEscapes: any point's escapes, of one number or of two halves, are it; those of a half alone are told. The seven listed variables of the library (two tables of math/bits, one of internal/strconv, two of unicode/utf8, strconv.ErrRange, strconv.ErrSyntax) start as the program's text lays them: tied by the card. No other condition. -/
import Derived.Test.YtnenipgpncomeaaDoorCards
import Derived.Test.YtnenipgpncomeaaDoorTie
import Derived.WalkKit
import Derived.ProofKit
import Derived.OpenShut
import Derived.ChangeOld
import Derived.ShutString
import Derived.Below
import Derived.LaidMore
import Derived.Lib.LaidTab
import Derived.Stop.Joined
import Derived.Stop.LaidErr
import Derived.SevenTiedAt
import Derived.Lay
import Derived.Test.YtnenipgpncomeaaDoorHexL
import Derived.Test.YtnenipgpncomeaaDoorRefText
namespace Go.Proofs.YtnenipgpncomeaaDoor.tokenEscapes
open Go.ChangeShapes Go.WideShapes Go.ChangeAt Go.RowKit
open Go.ChangeMaps (open_string shut_string)
open Tk Pl
set_option linter.unusedVariables false

theorem own : ownKnob Tryd.prog.godebug = none := by kernel_rfl
theorem laidOut : laidOutB Tryd.prog = true := by kernel_rfl
theorem gRange : Tryd.prog.globalNamed "strconv.ErrRange" = some 4 := by kernel_rfl
theorem star : "*" ++ "errors.errorString" = "*errors.errorString" := by decide
theorem rowPtr (u : TypeId) (h : Tryd.prog.typeName? 3 u = some "*errors.errorString") : u = 128 :=
  typeName_ptr_named (nm := "errors.errorString") (by rw [star]; kernel_rfl) (by kernel_rfl) (by decide) u (by rw [star]; exact h)
/-- what the row's list gives -/
theorem errs {W : World} (h : laidMetH Tryd.prog Rows.tokenEscapesRow.laid W) : RangeErr W := by
  have h' : laidMet Tryd.prog Rows.tokenEscapesRow.laid W := h
  obtain ⟨a, s, hv, _⟩ := laid_sentinel h'.tail.tail.tail.tail gRange (by kernel_rfl) Tryd.underlying77 rowPtr Tryd.underlying128 Tryd.underlying130 rfl rfl Tryd.underlying9 (by kernel_rfl) (by kernel_rfl)
  exact ⟨_, _, hv⟩

theorem rtext_one (p : Int) (b : Nat) (w : World) (hp : pt p = true) (hb : b < w.heap.size) (hc : w.cell? ⟨b, 0, none⟩ = some (.int .i64 p)) :
    Calls Tryd.prog 14 #[.slice (some ⟨b, 0, none⟩) 1 1] w fun e w' => e = .returned (.string ⟨(flat [p]).toArray⟩) ∧ Below w.heap.size w w' :=
  rtext_any [p] (some ⟨b, 0, none⟩) 1 w (by simp) (fun _ => ⟨b, 0, rfl, hb, fun i hi => by
    obtain rfl : i = 0 := by simpa using hi
    exact hc⟩) (fun x hx => by obtain rfl := List.mem_singleton.1 hx; exact hp)
/-- what stands behind, as bytes; the text of it -/
def moreB (b : Nat) : ByteArray := ⟨(moreL b).toArray⟩
def lastB (b : Nat) : ByteArray := ⟨(flat (moreP b)).toArray⟩
theorem wholeS {P : Nat} {g : Bool} {b : Nat} {E : List UInt8} (S : ByteArray) (hS : S.data.toList = [34, 120] ++ (E ++ (moreL b ++ [34]))) : bt S 0 = 34 ∧ chAt S 1 = .pt 120 2 ∧ S.data.toList.drop 2 = E ++ (moreL b ++ [34]) := by
  have h0 : bt S 0 = 34 := bt_of (p := 0) (r := 120 :: (E ++ (moreL b ++ [34]))) hS
  have h1 : S.data.toList.drop 1 = Lib.encodeRune 120 ++ (E ++ (moreL b ++ [34])) := by
    rw [hS]; rfl
  have hb1 : bt S 1 = 120 := bt_of (r := E ++ (moreL b ++ [34])) h1
  exact ⟨h0, chAt_self (S := S) (p := 1) (x := 120) (by decide) h1 (by omega) (by omega), by rw [hS]; rfl⟩
theorem all_esc {S : ByteArray} {b : Nat} {E : List UInt8} {p : Int} (hS : S.data.toList = [34, 120] ++ (E ++ (moreL b ++ [34]))) (hE : ∀ r, S.data.toList.drop 2 = E ++ r → chAt S 2 = .pt p (2 + E.length)) (hb92 : bt S 2 = 92) (hb : b < 4) :
    all S 0 [] = .toks [⟨2, textOf (120 :: p :: moreP b), 0, 0, S.size⟩, ⟨0, nix, 0, S.size, S.size⟩] := by
  obtain ⟨h0, h1, h2⟩ := wholeS (P := 0) (g := true) S hS
  have hc := hE _ h2
  have he := chAt_pt hc
  have h120 : bt S 1 = 120 := bt_of (p := 1) (c := 120) (r := E ++ (moreL b ++ [34])) (by rw [hS]; rfl)
  have hm := str_more (S := S) (b := b) (p := 2 + E.length) (acc := [120, p]) hb he.2.2 (drop_next h2)
  have hst : str S (0 + 1) [] = .pts (120 :: p :: moreP b) (2 + E.length + (moreL b).length + 1) := by
    rw [str_pt (by have := (chAt_pt h1).2.2; omega) (by rw [h120]; decide) h1, str_pt (by have := (chAt_pt h1).2.2; omega) (by rw [hb92]; decide) hc]
    exact hm
  have hsz : S.size = 2 + E.length + (moreL b).length + 1 := by
    have := congrArg List.length hS
    rw [size_toList] at this
    simp at this
    omega
  have hn := next_str h0 hst
  rw [← hsz] at hn
  exact two_toks hn (show (2 : Int) ≠ 0 by decide) rfl
theorem all_lone {S : ByteArray} {b : Nat} {E : List UInt8} (hS : S.data.toList = [34, 120] ++ (E ++ (moreL b ++ [34]))) (hE : chAt S 2 = .bad 2 3) (hb92 : bt S 2 = 92) : all S 0 [] = .bad 2 3 := by
  obtain ⟨h0, h1, h2⟩ := wholeS (P := 0) (g := true) S hS
  have h120 : bt S 1 = 120 := bt_of (p := 1) (c := 120) (r := E ++ (moreL b ++ [34])) (by rw [hS]; rfl)
  have hst : str S (0 + 1) [] = .bad 2 3 := by
    rw [str_pt (by have := (chAt_pt h1).2.2; omega) (by rw [h120]; decide) h1]
    exact str_bad (by have := (chAt_pt h1).2.2; omega) (by rw [hb92]; decide) hE
  exact all_bad (Nat.zero_le _) (next_str_bad h0 hst)
theorem all_back {S : ByteArray} {E : List UInt8} {p : Int} (hS : S.data.toList = [34, 120] ++ (E ++ (moreL 4 ++ [34]))) (hE : ∀ r, S.data.toList.drop 2 = E ++ r → chAt S 2 = .pt p (2 + E.length)) (hb92 : bt S 2 = 92) :
    all S 0 [] = .bad (E.length + 4) 1 := by
  obtain ⟨h0, h1, h2⟩ := wholeS (P := 0) (g := true) S hS
  have hc := hE _ h2
  have he := chAt_pt hc
  have h120 : bt S 1 = 120 := bt_of (p := 1) (c := 120) (r := E ++ (moreL 4 ++ [34])) (by rw [hS]; rfl)
  have hst : str S (0 + 1) [] = .bad (2 + E.length + 2) 1 := by
    rw [str_pt (by have := (chAt_pt h1).2.2; omega) (by rw [h120]; decide) h1, str_pt (by have := (chAt_pt h1).2.2; omega) (by rw [hb92]; decide) hc]
    exact str_back he.2.2 (drop_next h2)
  rw [all_bad (Nat.zero_le _) (next_str_bad h0 hst)]
  congr 1
  omega
/-- the escapes of a point, or of a half -/
def escOf (g : Bool) (P : Nat) : List UInt8 := if 65536 ≤ P then escL g (55296 + (P - 65536) / 1024) ++ escL g (56320 + (P - 65536) % 1024) else escL g P
theorem escOf_pt {S : ByteArray} {g : Bool} {P : Nat} (hP : pt (P : Int) = true) : ∀ r, S.data.toList.drop 2 = escOf g P ++ r → chAt S 2 = .pt P (2 + (escOf g P).length) := by
  intro r hd
  have hb := (pt_iff _).1 hP
  unfold escOf at hd ⊢
  by_cases h : 65536 ≤ P
  · rw [if_pos h] at hd ⊢
    rw [List.append_assoc] at hd
    rw [chAt_two hd (by omega) (by omega) (by omega) (by omega), List.length_append, escL_len, escL_len]
    rw [show (65536 + (((55296 + (P - 65536) / 1024 : Nat) : Int) - 55296) * 1024 + (((56320 + (P - 65536) % 1024 : Nat) : Int) - 56320)) = (P : Int) by omega]
  · rw [if_neg h] at hd ⊢
    rw [chAt_one hd (by omega) hP, escL_len]
theorem escOf_92 {S : ByteArray} {g : Bool} {P : Nat} {r : List UInt8} (hd : S.data.toList.drop 2 = escOf g P ++ r) : bt S 2 = 92 := by
  unfold escOf at hd
  split at hd
  · rw [List.append_assoc] at hd; exact (esc_at hd).1
  · exact (esc_at hd).1
theorem escOf_lone {S : ByteArray} {g : Bool} {P b : Nat} (hb : b < 5) (hP : pt (P : Int) = false) (hP2 : P < 1114112) (hd : S.data.toList.drop 2 = escOf g P ++ (moreL b ++ [34])) : chAt S 2 = .bad 2 3 := by
  have hr : 55296 ≤ P ∧ P ≤ 57343 := by
    have : ¬ pt (P : Int) = true := by rw [hP]; decide
    rw [pt_iff] at this
    omega
  unfold escOf at hd
  rw [if_neg (by omega)] at hd
  have d8 := drop_next hd
  rw [escL_len] at d8
  refine chAt_lone hd hr.1 hr.2 ?_
  rcases (by omega : b = 0 ∨ b = 1 ∨ b = 2 ∨ b = 3 ∨ b = 4) with rfl | rfl | rfl | rfl | rfl
  · right; left; rw [show bt S (2 + 6) = 34 from bt_of (r := []) d8]; decide
  · right; left; rw [show bt S (2 + 6) = 97 from bt_of (r := [34]) d8]; decide
  · right; right; left; rw [show bt S (2 + 7) = 110 from bt_get (p := 2 + 6) (T := [92, 110]) (R := [34]) (k := 1) d8 (by decide)]; decide
  · right; right; right
    have d10 : S.data.toList.drop (2 + 8) = hexL false 4 65 ++ [34] := by
      have := drop_next (p := 2 + 6) (a := [92, 117]) (b := [48, 48, 52, 49, 34]) (by rw [d8]; rfl)
      rw [hexL_41]
      exact this
    rw [four_hex false (by decide) d10]
    rfl
  · right; right; left; rw [show bt S (2 + 7) = 34 from bt_get (p := 2 + 6) (T := [92, 34]) (R := []) (k := 1) (by rw [d8]; rfl) (by decide)]; decide
theorem index5 (k : Nat) (i : Int) (h : i = (k : Int)) (hk : k < 5) (w : World) : (Instr.index 38 (.agg #[.string ⟨#[]⟩, .string ⟨#[97]⟩, .string ⟨#[92, 110]⟩, .string ⟨#[92, 117, 48, 48, 52, 49]⟩, .string ⟨#[92]⟩]) (.int .u8 i)).run Tryd.prog w = .ok (.string (moreB k)) w := by
  subst h
  rcases (by omega : k = 0 ∨ k = 1 ∨ k = 2 ∨ k = 3 ∨ k = 4) with rfl | rfl | rfl | rfl | rfl <;> (simp [Instr.index, run_underlying Tryd.underlying38, asIntOf, go_sem]; try rfl)
theorem index4 (k : Nat) (i : Int) (h : i = (k : Int)) (hk : k < 4) (w : World) : (Instr.index 42 (.agg #[.string ⟨#[]⟩, .string ⟨#[97]⟩, .string ⟨#[10]⟩, .string ⟨#[65]⟩]) (.int .u8 i)).run Tryd.prog w = .ok (.string (lastB k)) w := by
  subst h
  rcases (by omega : k = 0 ∨ k = 1 ∨ k = 2 ∨ k = 3) with rfl | rfl | rfl | rfl <;> (simp [Instr.index, run_underlying Tryd.underlying42, asIntOf, go_sem]; try rfl)
theorem moreB_size (b : Nat) : (moreB b).size ≤ 6 := by
  show (moreL b).toArray.size ≤ 6
  rw [List.size_toArray]
  unfold moreL
  split <;> (try split) <;> (try split) <;> (try split) <;> decide
theorem lastB_size (b : Nat) : (lastB b).size ≤ 6 := by
  show (flat (moreP b)).toArray.size ≤ 6
  rw [List.size_toArray]
  unfold moreP
  split <;> (try split) <;> (try split) <;> decide
theorem escOf_len (g : Bool) (P : Nat) : (escOf g P).length ≤ 12 := by
  unfold escOf
  split
  · rw [List.length_append, escL_len, escL_len]; decide
  · rw [escL_len]; decide
theorem hexB_bytes (g : Bool) (n : Nat) : ∃ X : ByteArray, X = ⟨(hexL g 4 n).toArray⟩ ∧ X.data.toList = hexL g 4 n ∧ X.size ≤ 4 := by
  refine ⟨_, rfl, rfl, ?_⟩
  show (hexL g 4 n).toArray.size ≤ 4
  rw [List.size_toArray, hexL_len]
  exact Nat.le_refl _
theorem text_same (P : Int) (b : Nat) : textOf (120 :: P :: moreP b) = (⟨#[120]⟩ ++ ⟨(flat [P]).toArray⟩ ++ lastB b : ByteArray) := by
  apply ba_list
  have h1 : (⟨#[120]⟩ : ByteArray).data.toList = flat [120] := rfl
  rw [ByteArray.data_append, Array.toList_append, ByteArray.data_append, Array.toList_append, h1]
  show flat (120 :: P :: moreP b) = flat [120] ++ flat [P] ++ flat (moreP b)
  rw [← flat_append, ← flat_append]
  rfl
theorem flat_one_size (P : Int) : (⟨(flat [P]).toArray⟩ : ByteArray).size ≤ 4 := by
  show (flat [P]).toArray.size ≤ 4
  rw [List.size_toArray]
  have := len4 [P]
  simpa using this
set_option maxRecDepth 100000 in
set_option maxHeartbeats 8000000 in
theorem walk (n : Int) (g : Bool) (x : Int) (w : World) (hn0 : 0 ≤ n) (hn1 : n ≤ 4294967295) (hx0 : 0 ≤ x) (hx1 : x ≤ 255) (hr : RangeErr w) :
    Calls Tryd.prog 5 #[.int .u32 n, .bool g, .int .u8 x] w fun e w' => e = .returned (.bool true) ∧ Below w.heap.size w w' := by
  have HR := Lib.hid hr
  clear hr
  obtain ⟨P, hP, hP2⟩ : ∃ P : Nat, n % 1114112 = (P : Int) ∧ P < 1114112 := ⟨(n % 1114112).toNat, by omega, by omega⟩
  obtain ⟨b, hb, hb5⟩ : ∃ b : Nat, x % 5 = (b : Int) ∧ b < 5 := ⟨(x % 5).toNat, by omega, by omega⟩
  have HP := Lib.hid hP
  have HB := Lib.hid hb
  have e1 : (x % 5).toNat = b := by omega
  have i1 : (0 : Int) ≤ x % 5 := by omega
  have i2 : x % 5 < 5 := by omega
  clear hP hb
  go_enter Tryd.func5, Tryd.ntmps5
  go_wp2_with fail
  refine (awake5_any _ HR.out).mono ?_
  rintro e w1 ⟨rfl, hb1⟩
  have H1 := Lib.hid hb1
  clear hb1
  go_upto_region 4 with fail
  go_cut [8, 9] from 10 (fun a c wy => a = .string ⟨#[]⟩ ∧ c = .string (moreB b) ∧ Below w.heap.size w wy)
  case first =>
    have hxt : x.tmod 5 = (b : Int) := by rw [Int.tmod_eq_emod_of_nonneg hx0]; exact HB.out
    have hix := fun w => index5 b (x.tmod 5) hxt hb5 w
    clear hxt
    go_region_with (fail)
    all_goals
      go_wp2_with fail
      go_meet
      exact ⟨rfl, rfl, by first | exact H1.out.drew | exact below_drewN H1.out _ | exact H1.out⟩
  case rest =>
    obtain ⟨rfl, rfl, hbc⟩ := hcut
    have HBC := Lib.hid hbc
    clear hbc H1
    go_upto_if 23 with fail
    obtain ⟨wb, rfl⟩ : ∃ wb : World, wb = wc := ⟨_, rfl⟩
    go_cut [8] from 10 (fun a wy => ∃ E : ByteArray, a = .string E ∧ E.data.toList = escOf g P ∧ wy = wb)
    case first =>
      by_cases h : 65536 ≤ P
      · have u1 : decide (n % 1114112 ≥ 65536) = true := decide_eq_true (by have := HP.out; omega)
        have u2 : decide (65536 ≤ n % 1114112) = true := decide_eq_true (by have := HP.out; omega)
        have hE := Lib.hid (show escOf g P = escL g (55296 + (P - 65536) / 1024) ++ escL g (56320 + (P - 65536) % 1024) by unfold escOf; rw [if_pos h])
        have j1 : n % 1114112 - 65536 ≥ 0 := by have := HP.out; omega
        have j2 : n % 1114112 ≤ 1114112 := by omega
        go_wp2_with fail
        refine (hex_any g (55296 + (P - 65536) / 1024) _ (by have := HP.out; omega) _ (by omega)).mono ?_
        rintro e w5 ⟨rfl, rfl⟩
        obtain ⟨X, hX, hX1, hX2⟩ := hexB_bytes g (55296 + (P - 65536) / 1024)
        rw [← hX]
        have HX := Lib.hid hX1
        clear hX hX1
        go_wp2_with fail
        refine (hex_any g (56320 + (P - 65536) % 1024) _ (by have := HP.out; omega) _ (by omega)).mono ?_
        rintro e w6 ⟨rfl, rfl⟩
        obtain ⟨Y, hY, hY1, hY2⟩ := hexB_bytes g (56320 + (P - 65536) % 1024)
        rw [← hY]
        have HY := Lib.hid hY1
        clear hY hY1
        go_wp2_with fail
        go_meet
        refine ⟨_, rfl, ?_, rfl⟩
        rw [hE.out]
        simp [HX.out, HY.out, escL]
      · have u1 : decide (n % 1114112 ≥ 65536) = false := decide_eq_false (by have := HP.out; omega)
        have u2 : decide (65536 ≤ n % 1114112) = false := decide_eq_false (by have := HP.out; omega)
        have hE := Lib.hid (show escOf g P = escL g P by unfold escOf; rw [if_neg h])
        have j1 : n % 1114112 < 65536 := by have := HP.out; omega
        go_wp2_with fail
        refine (hex_any g P _ (by have := HP.out; omega) _ (by omega)).mono ?_
        rintro e w5 ⟨rfl, rfl⟩
        obtain ⟨X, hX, hX1, hX2⟩ := hexB_bytes g P
        rw [← hX]
        have HX := Lib.hid hX1
        clear hX hX1
        go_wp2_with fail
        go_meet
        refine ⟨_, rfl, ?_, rfl⟩
        rw [hE.out]
        simp [HX.out, escL]
    case rest =>
      obtain ⟨E, rfl, hE, rfl⟩ := hcut
      have hEs : E.size ≤ 12 := by rw [← size_toList, hE]; exact escOf_len g P
      have hMs := moreB_size b
      have HE := Lib.hid hE
      have HES := Lib.hid (show E.size = (escOf g P).length by rw [← size_toList, hE])
      have hS : (⟨#[34, 120]⟩ ++ E ++ moreB b ++ ⟨#[34]⟩ : ByteArray).data.toList = [34, 120] ++ (escOf g P ++ (moreL b ++ [34])) := by
        have h1 : (moreB b).data.toList = moreL b := rfl
        simp [hE, h1]
      have h92 := escOf_92 (wholeS (P := 0) (g := true) _ hS).2.2
      have HS9 := Lib.hid (show (⟨#[34, 120]⟩ ++ E ++ moreB b ++ ⟨#[34]⟩ : ByteArray).size ≤ 90000 by
        rw [ByteArray.size_append, ByteArray.size_append, ByteArray.size_append]
        show 2 + E.size + (moreB b).size + 1 ≤ 90000
        omega)
      cases hpt : pt (P : Int) with
      | false =>
        have HA := Lib.hid (all_lone hS (escOf_lone hb5 hpt hP2 (wholeS (P := 0) (g := true) _ hS).2.2) h92)
        have HIS := Lib.hid (show isPt (n % 1114112) = false by rw [HP.out, isPt_pt]; exact hpt)
        clear hS h92 hpt hE
        go_wp2_with fail
        refine (all_err5 _ _ HS9.out (HR.out.on HBC.out) HA.out).mono ?_
        rintro e w5 ⟨rfl, hb5'⟩
        have H5 := Lib.hid (HBC.out.trans (hb5'.mono HBC.out.size))
        clear hb5'
        go_wp2_with fail
        refine (ris_no _ _ HIS.out).mono ?_
        rintro e w6 ⟨rfl, rfl⟩
        go_wp2_with fail
        go_ret
        exact ⟨rfl, H5.out⟩
      | true =>
        have HIS := Lib.hid (show isPt (n % 1114112) = true by rw [HP.out, isPt_pt]; exact hpt)
        have HPT := Lib.hid (show pt (n % 1114112) = true by rw [HP.out]; exact hpt)
        by_cases hb4 : b = 4
        · skip
          subst hb4
          have HA := Lib.hid (all_back hS (escOf_pt hpt) h92)
          rw [← HES.out] at HA
          have v1 : decide (x % 5 = 4) = true := decide_eq_true HB.out
          have v2 : (x % 5 == 4) = true := beq_iff_eq.2 HB.out
          have v3 : (((E.size + 4 : Nat) : Int) == (E.size : Int) + 4) = true := by rw [beq_iff_eq]; omega
          clear hS h92 hpt hE
          go_wp2_with fail
          refine (all_err5 _ _ HS9.out (HR.out.on HBC.out) HA.out).mono ?_
          rintro e w5 ⟨rfl, hb5'⟩
          have H5 := Lib.hid (HBC.out.trans (hb5'.mono HBC.out.size))
          clear hb5'
          go_wp2_with fail
          refine (ris_yes _ _ HIS.out).mono ?_
          rintro e w6 ⟨rfl, rfl⟩
          go_wp2_with fail
          go_ret
          exact ⟨rfl, H5.out⟩
        · skip
          have HA := Lib.hid (all_esc (b := b) hS (escOf_pt hpt) h92 (by omega))
          have v2 : (x % 5 == 4) = false := beq_eq_false_iff_ne.2 (by have := HB.out; omega)
          have hTS := text_same (n % 1114112) b
          rw [← HP.out] at HA
          rw [hTS] at HA
          have hLs := lastB_size b
          have hFs := flat_one_size (n % 1114112)
          have hxt : x.tmod 5 = (b : Int) := by rw [Int.tmod_eq_emod_of_nonneg hx0]; exact HB.out
          have hix := fun w => index4 b (x.tmod 5) hxt (by omega) w
          have hix2 := fun w => index4 b (x % 5) HB.out (by omega) w
          have HTX := Lib.hid (fun b w hb hc => rtext_one (n % 1114112) b w HPT.out hb hc)
          clear hS h92 hpt hE hTS hxt
          generalize (⟨(flat [n % 1114112]).toArray⟩ : ByteArray) = X at *
          generalize lastB b = L at *
          go_wp2_with fail
          refine (all_toks _ _ HS9.out (HR.out.on HBC.out) HA.out (n := 2) rfl (by decide)).mono ?_
          rintro e w5 ⟨B5, cc, rfl, hcc, hltb, hcell, hb5'⟩
          have H5 := Lib.hid (HBC.out.trans (hb5'.mono HBC.out.size))
          have HC5 := Lib.hid (hcell 0 _ rfl).2.1
          clear hb5' hcell
          go_wp2_with fail
          refine (ris_yes _ _ HIS.out).mono ?_
          rintro e w6 ⟨rfl, rfl⟩
          go_upto_region 13 with fail
          have z1 : ¬ (⟨#[120]⟩ : ByteArray).size + X.size > 9223372036854775807 := by show ¬ 1 + X.size > _; omega
          have z2 : ¬ (⟨#[120]⟩ ++ X : ByteArray).size + L.size > 9223372036854775807 := by rw [ByteArray.size_append]; show ¬ 1 + X.size + L.size > _; omega
          have z3 : ¬ (9223372036854775807 < 1 + X.size) := by omega
          have z4 : ¬ (9223372036854775807 < 1 + X.size + L.size) := by omega
          have z5 : 1 + X.size ≤ 9223372036854775807 := by omega
          have z6 : 1 + X.size + L.size ≤ 9223372036854775807 := by omega
          have HSS := Lib.hid (show ∀ w', Below w5.heap.size w5 w' → w'.cell? ⟨B5, 1, none⟩ = some (.string (⟨#[120]⟩ ++ X ++ L)) from fun w' hb => (hb.cell (p := ⟨B5, 1, none⟩) hltb).trans HC5.out)
          have HBc := Lib.hid (Below.refl w5.heap.size w5)
          go_region_held3 (fun w' => w'.cell? ⟨B5, 1, none⟩ = some (.string (⟨#[120]⟩ ++ X ++ L)))
            (first
              | exact HSS.out _ HBc.out
              | exact HSS.out _ (below_drewN HBc.out _)
              | exact HSS.out _ HBc.out.drew
              | exact HSS.out _ (HBc.out.alloc (by simp) _)
              | exact HSS.out _ (HBc.out.alloc (by simp) _).drew
              | exact HSS.out _ (HBc.out.drew.alloc (by simp) _)
              | exact HSS.out _ (HBc.out.drew.alloc (by simp) _).drew
              | go_keep)
            (first
              | (go_at_call 14
                 refine (HTX.out _ _ (by simp) (by simp)).mono ?_
                 rintro e9 w9 ⟨rfl, hb9⟩
                 have HBc := Lib.hid (show Below w5.heap.size w5 w9 from Below.trans (by first | exact (HBc.out.alloc (by simp) _).drew | exact HBc.out.alloc (by simp) _ | exact (HBc.out.drew.alloc (by simp) _).drew | exact HBc.out.drew.alloc (by simp) _) (hb9.mono (by simp)))
                 clear hb9))
          all_goals
            go_wp2_with fail
            go_ret
            exact ⟨by first | rfl | simp, H5.out.trans (HBc.out.mono H5.out.size)⟩

set_option maxRecDepth 100000 in
theorem lifted (os : Os) (started : os.Started) (H : Type) (enc : TypeId × Value → H) :
    ReturnsInHanded {} Tryd.checked os 5 .any (fun w args => (Rows.tokenEscapesSpec.pre enc Tryd.prog Tryd.f5 [] false w args ∧ laidMetH Tryd.prog Rows.tokenEscapesRow.laid w) ∧ sizedMet enc Tryd.prog Tryd.f5 (OpenSpec.ofChange Rows.tokenEscapesSpec) false w args)
      (Rows.tokenEscapesSpec.post enc Tryd.prog Tryd.f5 false true false false) := by
  refine returnsInHanded_of_change_and (C := Tryd.checked) (X := fun w _ => laidMetH Tryd.prog Rows.tokenEscapesRow.laid w) (fun _ _ _ hh h => h.of_heap hh) own started (by kernel_rfl) Tryd.func5
    (ChangeSpec.witness_shaped (enc := enc) (C := Tryd.checked) (os := os) (X := fun w _ => laidMetH Tryd.prog Rows.tokenEscapesRow.laid w) false (World.laidAll Tryd.prog os Rows.tokenEscapesRow.laid) #[.int .u32 0, .bool false, .int .u8 0] 8 (World.laidAll_os _ _ _) (World.shaped_of_ZipB (by kernel_rfl) (by kernel_rfl)) (by kernel_rfl) (by kernel_rfl) (by kernel_rfl) (by rw [MakeChecks.laidMetH_plain _ _ _ (by kernel_rfl)]; exact laidMet_laidAll _ (by kernel_rfl) (by kernel_rfl))) ?_
  intro W base args ds gs before hval0 hW _ _ hL _
  have hval : ∀ (j : Nat) t v, Tryd.f5.params[j]? = some t → args[j]? = some v → Value.okWide Tryd.prog W .any base t v := hval0
  have hW' := hW
  obtain ⟨p, q, hA0, hV, rfl, hfz, hnd⟩ := hW
  have hA : DataW.TrodAll enc Tryd.prog W 0 (fun _ => true) true Tryd.f5.params.toList args.toList ds p := hA0
  rw [Tryd.params5] at hA hval
  obtain ⟨v0, vs0, d0, ds0, p0, q0, hargs, rfl, rfl, h0, r0⟩ := trodAll_cons hA
  obtain ⟨v1, vs1, d1, ds1, p1, q1, rfl, rfl, rfl, h1, r1⟩ := trodAll_cons r0
  obtain ⟨v2, vs2, d2, ds2, p2, q2, rfl, rfl, rfl, h2, r2⟩ := trodAll_cons r1
  obtain ⟨rfl, rfl, rfl⟩ := trodAll_nil r2
  obtain rfl : args = #[v0, v1, v2] := by cases args; simp_all
  obtain ⟨rfl, rfl⟩ := trodVars_none hV
  obtain ⟨x0, rfl, rfl, rfl, w0⟩ := open_int Tryd.underlying37 (hval 0 37 v0 rfl rfl) h0
  have b0 := w0
  simp only [Lit.wf, decide_eq_true_eq, Bool.and_eq_true] at b0
  have eu8a : IntKind.u8.min = 0 := rfl
  have eu8b : IntKind.u8.max = 255 := rfl
  have ei64a : IntKind.i64.min = -9223372036854775808 := rfl
  have ei64b : IntKind.i64.max = 9223372036854775807 := rfl
  have eu32a : IntKind.u32.min = 0 := rfl
  have eu32b : IntKind.u32.max = 4294967295 := rfl
  obtain ⟨x1, rfl, rfl, rfl⟩ := open_bool Tryd.underlying4 (hval 1 4 v1 rfl rfl) h1
  obtain ⟨x2, rfl, rfl, rfl, w2⟩ := open_int Tryd.underlying5 (hval 2 5 v2 rfl rfl) h2
  have b2 := w2
  simp only [Lit.wf, decide_eq_true_eq, Bool.and_eq_true] at b2
  have eu8a : IntKind.u8.min = 0 := rfl
  have eu8b : IntKind.u8.max = 255 := rfl
  have ei64a : IntKind.i64.min = -9223372036854775808 := rfl
  have ei64b : IntKind.i64.max = 9223372036854775807 := rfl
  have eu32a : IntKind.u32.min = 0 := rfl
  have eu32b : IntKind.u32.max = 4294967295 := rfl
  clear hA0 hval0
  refine (walk x0 x1 x2 W (by omega) (by omega) (by omega) (by omega) (errs hL)).mono fun e W' ⟨he, bel⟩ => ?_
  subst he
  exact ⟨_, rfl, _, _, _, [], _, [], hW', trodAll_mk1 (shut_bool Tryd.underlying4 _), (trodAll_cons_mk (shut_int Tryd.underlying37 w0) (trodAll_cons_mk (shut_bool Tryd.underlying4 _) (trodAll_cons_mk (shut_int Tryd.underlying5 w2) trodAll_mk0))), rfl, bel.frame _, fun h => by cases h⟩

theorem said : Rows.TokenEscapesSaid :=
  OpenClaim.holds_of_wide 5 Tryd.f5 rfl rfl rfl rfl rfl rfl rfl ⟨rfl, rfl, rfl, rfl, rfl⟩ rfl rfl rfl rfl rfl (by kernel_rfl) Tryd.func5 (by kernel_rfl)
    (of_decide_eq_true (by kernel_rfl)) (by unfold Func.isWrapper; first | (rw [if_pos (by decide +kernel)]; kernel_rfl) | (rw [if_neg (by decide +kernel)]; exact ⟨rfl, rfl⟩))
    (fun os started H enc _ => lifted os started H enc)

/-- no parameter wants a stand-in -/
theorem plain (f : FuncId) (fn : Func) (hf : Tryd.pinned.checked.prog.funcNamed "cheval/chevallaw05.TokenEscapes" = some f) (hfn : Tryd.pinned.checked.prog.funcs[f]? = some fn) :
    true = Tryd.pinned.checked.prog.looks [] ∧ ∀ (j : Nat) t, fn.params[j]? = some t → Tryd.pinned.checked.prog.wantsStandIn t = false := by
  obtain rfl : f = 5 := Option.some.inj ((show Tryd.prog.funcNamed "cheval/chevallaw05.TokenEscapes" = some 5 by kernel_rfl).symm.trans hf) |>.symm
  obtain rfl : fn = Tryd.f5 := (Option.some.inj (Tryd.func5.symm.trans hfn)).symm
  refine ⟨by kernel_rfl, fun j t ht => ?_⟩
  rw [Tryd.params5] at ht
  have hm := Array.mem_of_getElem? ht
  simp only [List.mem_toArray, List.mem_cons, List.not_mem_nil, or_false] at hm
  rcases hm with rfl | rfl | rfl
  · exact (show Tryd.prog.wantsStandIn 37 = false by kernel_rfl)
  · exact (show Tryd.prog.wantsStandIn 4 = false by kernel_rfl)
  · exact (show Tryd.prog.wantsStandIn 5 = false by kernel_rfl)

/-- The statement: the tied card. -/
theorem card : Rows.TokenEscapesCardSaid :=
  Claim7.holds_tied_plain_at .later [] _ _ _ _ said (fun _ h => by cases h) (by kernel_rfl) (fun _ h => by cases h) tokenEscapes_row_tie rfl ⟨rfl, rfl⟩ (by kernel_rfl) rfl plain (by kernel_rfl)
end Go.Proofs.YtnenipgpncomeaaDoor.tokenEscapes
