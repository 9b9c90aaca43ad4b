/- TokenSteps: asked one by one, any bytes' tokens, and the error that ends them, are the document's; at the end, and of an error, the same is told again. The seven listed variables of the library (two tables of math/bits, one of internal/strconv, two of unicode/utf8, strconv.ErrRange, strconv.ErrSyntax) start as the program's text lays them: tied by the card. No other condition. -/
import Derived.Test.YtnenipgpncomeaaGreatDoorCards
import Derived.Test.YtnenipgpncomeaaGreatDoorTie
import Derived.WalkKit
import Derived.ProofKit
import Derived.OpenShut
import Derived.ChangeOld
import Derived.ShutString
import Derived.Below
import Derived.LaidMore
import Derived.Lib.LaidTab
import Derived.Stop.Joined
import Derived.Stop.LaidErr
import Derived.SevenTiedAt
import Derived.Lay
import Derived.Test.YtnenipgpncomeaaGreatDoorAwake5
import Derived.Test.YtnenipgpncomeaaGreatDoorRG
import Derived.Test.YtnenipgpncomeaaGreatDoorTokCh
namespace Go.Proofs.YtnenipgpncomeaaGreatDoor.tokenSteps
open Go.ChangeShapes Go.WideShapes Go.ChangeAt Go.RowKit
open Go.ChangeMaps (open_string shut_string)
open Tk Pl
set_option linter.unusedVariables false

theorem own : ownKnob Tryz.prog.godebug = none := by kernel_rfl
theorem laidOut : laidOutB Tryz.prog = true := by kernel_rfl
theorem gRange : Tryz.prog.globalNamed "strconv.ErrRange" = some 4 := by kernel_rfl
theorem star : "*" ++ "errors.errorString" = "*errors.errorString" := by decide
theorem rowPtr (u : TypeId) (h : Tryz.prog.typeName? 3 u = some "*errors.errorString") : u = 146 :=
  typeName_ptr_named (nm := "errors.errorString") (by rw [star]; kernel_rfl) (by kernel_rfl) (by decide) u (by rw [star]; exact h)
/-- what the row's list gives -/
theorem errs {W : World} (h : laidMetH Tryz.prog Rows.tokenStepsRow.laid W) : RangeErr W := by
  have h' : laidMet Tryz.prog Rows.tokenStepsRow.laid W := h
  obtain ⟨a, s, hv, _⟩ := laid_sentinel h'.tail.tail.tail.tail gRange (by kernel_rfl) Tryz.underlying87 rowPtr Tryz.underlying146 Tryz.underlying148 rfl rfl Tryz.underlying9 (by kernel_rfl) (by kernel_rfl)
  exact ⟨_, _, hv⟩

theorem place_any (b : Nat) (s : ByteArray) (i : Nat) (w : World) (hl : Lx w b s i) : Calls Tryz.prog 10 #[.pointer (some ⟨b, 0, none⟩)] w fun e w' => e = .returned (.int .i64 i) ∧ w = w' := by
  have c1 := Blk.cell hl 1
  go_enter Tryz.func10, Tryz.ntmps10
  go_wp2_with fail
  go_ret
  exact ⟨rfl, rfl⟩
set_option maxRecDepth 100000 in
set_option maxHeartbeats 16000000 in
theorem walk (s : ByteArray) (m : Int) (w : World) (hz : s.size ≤ maxLen) (hm0 : 0 ≤ m) (hm1 : m ≤ 255) (hr : RangeErr w) :
    Calls Tryz.prog 4 #[.string s, .int .u8 m] w fun e w' => e = .returned (.bool true) ∧ Below w.heap.size w w' := by
  have HR := Lib.hid hr
  clear hr
  by_cases h4 : s.size ≤ 400
  · have u0 : decide ((s.size : Int) > 400) = false := decide_eq_false (by omega)
    have u0' : decide ((400 : Int) < (s.size : Int)) = false := decide_eq_false (by omega)
    have u0n : decide (400 < s.size) = false := decide_eq_false (by omega)
    go_enter Tryz.func4, Tryz.ntmps4
    go_wp2_with fail
    refine (awake5_any _ HR.out).mono ?_
    rintro e w1 ⟨rfl, hb1⟩
    have H1 := Lib.hid hb1
    clear hb1
    go_wp2_with fail
    refine (new_any5 s _).mono ?_
    rintro e w2 ⟨rfl, hw2⟩
    have hb2 : Below w1.heap.size w1 w2 := by rw [hw2]; exact (Below.refl _ _).alloc (Nat.le_refl _) _
    have hl2 : Lx w2 w1.heap.size s 0 := by rw [hw2]; exact Blk.new w1 _ _
    have H2 := Lib.hid (H1.out.trans (hb2.mono H1.out.size))
    have HL2 := Lib.hid hl2
    have hwb : w.heap.size ≤ w1.heap.size := H1.out.size
    clear hw2 hb2 hl2
    generalize w1.heap.size = b at *
    go_wp2_with fail
    refine (place_any b s 0 _ HL2.out).mono ?_
    rintro e w3 ⟨rfl, rfl⟩
    go_wp2_with fail
    obtain ⟨M, hM, hM4⟩ : ∃ M : Nat, (M : Int) = m.tmod 4 ∧ M ≤ 3 := by
      refine ⟨(m % 4).toNat, ?_, ?_⟩
      · rw [Int.tmod_eq_emod_of_nonneg hm0]; omega
      · omega
    have HM := Lib.hid hM.symm
    have HM2 := Lib.hid (show m % 4 = (M : Int) by rw [← Int.tmod_eq_emod_of_nonneg hm0]; exact hM.symm)
    clear hM
    go_loopw [6, 7] (fun x y wr => ∃ i k : Nat, i ≤ s.size ∧ k ≤ M + 1 ∧ x = .int .i64 i ∧ y = .int .i64 k ∧ Lx wr b s i ∧ Below w.heap.size w wr) (fun x y _ => (s.size - (intOf x).toNat) + (5 - (intOf y).toNat))
    case atStart => exact ⟨0, 0, Nat.zero_le _, Nat.zero_le _, rfl, rfl, HL2.out, H2.out⟩
    case round =>
      obtain ⟨i, k, hi, hk, rfl, rfl, hlx, hbel⟩ := hrel
      have HLX := Lib.hid hlx
      have HBEL := Lib.hid hbel
      clear hlx hbel
      by_cases hkM : k ≤ M
      · have u1 : decide ((k : Int) ≤ (M : Int)) = true := decide_eq_true (by omega)
        have u2 : decide (k ≤ M) = true := decide_eq_true hkM
        have u3 : decide ((k : Int) ≤ m.tmod 4) = true := by rw [HM.out]; exact u1
        have u4 : decide ((k : Int) ≤ m % 4) = true := by rw [HM2.out]; exact u1
        have HN := Lib.hid (fun w hl hr => next_any5 b s i w (by omega) hl hi hr)
        have HRN := Lib.hid (fun w => rnext_any s i w h4 hi)
        go_wp2_with fail
        refine (HN.out _ HLX.out (HR.out.on HBEL.out)).mono ?_
        rintro e w4 ⟨rfl, ha4, hl4⟩
        have hbw : b < wr.heap.size := HLX.out.lt
        have HB4 := Lib.hid (ha4.below HBEL.out hwb (by have := HBEL.out.size; omega))
        have HL4 := Lib.hid hl4
        clear ha4 hl4
        cases hn : next s i with
        | err p c =>
          have hpl : placeOf s i = i := by unfold placeOf; rw [hn]
          rw [hpl] at HL4
          rw [hn] at HRN
          have hc0 := err_num s (span isBl s i) p c hn
          have v1 : (c != c) = false := by simp
          have v2 : ((p : Int) != (p : Int)) = false := by simp
          have v3 : (c == 0) = false := by rw [beq_eq_false_iff_ne]; omega
          have v4 : (c != 0) = true := by rw [bne_iff_ne]; omega
          have v5 : ((i : Int) != (i : Int)) = false := by simp
          clear hn hpl hc0
          unfold Ans.val at HRN ⊢
          go_upto_region 9 with fail
          have hb5 : Below w4.heap.size w4 (w4.alloc (.cells #[.int .i64 0, .string ⟨#[]⟩, .int .i64 0, .int .i64 0, .int .i64 0] 32)) := (Below.refl _ _).alloc (Nat.le_refl _) _
          have hk5 : Blk (w4.alloc (.cells #[.int .i64 0, .string ⟨#[]⟩, .int .i64 0, .int .i64 0, .int .i64 0] 32)) w4.heap.size 32 #[.int .i64 0, .string ⟨#[]⟩, .int .i64 0, .int .i64 0, .int .i64 0] := Blk.new w4 _ _
          change Code.wp _ _ _ _ (w4.alloc (.cells #[.int .i64 0, .string ⟨#[]⟩, .int .i64 0, .int .i64 0, .int .i64 0] 32))
          generalize (w4.alloc (.cells #[.int .i64 0, .string ⟨#[]⟩, .int .i64 0, .int .i64 0, .int .i64 0] 32)) = W5 at *
          have HB5 := Lib.hid (HB4.out.trans (hb5.mono HB4.out.size))
          have HL5 := Lib.hid (show Lx W5 b s _ from HL4.out.onto hb5)
          have HK5 := Lib.hid hk5
          clear hb5 hk5 HB4 HL4
          generalize w4.heap.size = K5 at *
          go_wp2_with fail
          refine (HRN.out _).mono ?_
          rintro e w6 ⟨rfl, hb6⟩
          have HB6 := Lib.hid (HB5.out.trans (hb6.mono HB5.out.size))
          have HL6 := Lib.hid (show Lx w6 b s _ from HL5.out.onto hb6)
          have HK6 := Lib.hid (HK5.out.onto hb6)
          clear hb6 HB5 HL5 HK5
          go_upto_region 10 with fail
          have hb7 : Below w6.heap.size w6 (w6.alloc (.cells #[.int .i64 0, .string ⟨#[]⟩, .int .i64 0, .int .i64 0, .int .i64 0] 33)) := (Below.refl _ _).alloc (Nat.le_refl _) _
          have hk7 : Blk (w6.alloc (.cells #[.int .i64 0, .string ⟨#[]⟩, .int .i64 0, .int .i64 0, .int .i64 0] 33)) w6.heap.size 33 #[.int .i64 0, .string ⟨#[]⟩, .int .i64 0, .int .i64 0, .int .i64 0] := Blk.new w6 _ _
          have hj7 : Blk (w6.alloc (.cells #[.int .i64 0, .string ⟨#[]⟩, .int .i64 0, .int .i64 0, .int .i64 0] 33)) K5 32 #[.int .i64 0, .string ⟨#[]⟩, .int .i64 0, .int .i64 0, .int .i64 0] := HK6.out.onto hb7
          change Code.wp _ _ _ _ (w6.alloc (.cells #[.int .i64 0, .string ⟨#[]⟩, .int .i64 0, .int .i64 0, .int .i64 0] 33))
          generalize (w6.alloc (.cells #[.int .i64 0, .string ⟨#[]⟩, .int .i64 0, .int .i64 0, .int .i64 0] 33)) = W7 at *
          have HB7 := Lib.hid (HB6.out.trans (hb7.mono HB6.out.size))
          have HL7 := Lib.hid (show Lx W7 b s _ from HL6.out.onto hb7)
          have HK7 := Lib.hid hk7
          clear hb7 HB6 HL6 HK6
          generalize w6.heap.size = K7 at *
          have d0 := hj7.cell 0
          have d1 := hj7.cell 1
          have d2 := hj7.cell 2
          have d3 := hj7.cell 3
          have d4 := hj7.cell 4
          have g0 := hk7.cell 0
          have g1 := hk7.cell 1
          have g2 := hk7.cell 2
          have g3 := hk7.cell 3
          have g4 := hk7.cell 4
          clear hj7 hk7
          go_wp2_with fail
          refine (lis_any ⟨0, nix, 0, 0, 0⟩ _).mono ?_
          rintro e w8 ⟨rfl, hb8⟩
          have HB8 := Lib.hid (HB7.out.trans (hb8.mono HB7.out.size))
          have HL8 := Lib.hid (show Lx w8 b s _ from HL7.out.onto hb8)
          have hk8 := HK7.out.onto hb8
          have q0 := hk8.cell 0
          have q4 := hk8.cell 4
          clear hb8 hk8 HB7 HL7 HK7 d0 d1 d2 d3 d4 g0 g1 g2 g3 g4
          go_wp2_with fail
          refine (place_any b s i _ HL8.out).mono ?_
          rintro e w9 ⟨rfl, rfl⟩
          go_wp2_with fail
          go_roundw
          case rel => exact ⟨i, k + 1, hi, by omega, rfl, by go_num, HL8.out, HB8.out⟩
          case measure => simp [intOf]; omega
        | tok t =>
          have hpl : placeOf s i = t.fin := by unfold placeOf; rw [hn]
          rw [hpl] at HL4
          rw [hn] at HRN
          obtain ⟨-, f2, f3, f4, -, f6⟩ := next_tok hi hn
          have v1 : ((0 : Int) != 0) = false := rfl
          have v5 : ((t.fin : Int) != (t.fin : Int)) = false := by simp
          clear hn hpl
          unfold Ans.val at HRN ⊢
          by_cases hk0 : t.kind = 0
          · have v6 : (t.kind == 0) = true := beq_iff_eq.2 hk0
            clear hk0 f6
            go_upto_region 9 with fail
            have hb5 : Below w4.heap.size w4 (w4.alloc (.cells #[.int .i64 t.kind, .string t.text, .int .i64 t.num, .int .i64 t.at_, .int .i64 t.fin] 32)) := (Below.refl _ _).alloc (Nat.le_refl _) _
            have hk5 : Blk (w4.alloc (.cells #[.int .i64 t.kind, .string t.text, .int .i64 t.num, .int .i64 t.at_, .int .i64 t.fin] 32)) w4.heap.size 32 #[.int .i64 t.kind, .string t.text, .int .i64 t.num, .int .i64 t.at_, .int .i64 t.fin] := Blk.new w4 _ _
            change Code.wp _ _ _ _ (w4.alloc (.cells #[.int .i64 t.kind, .string t.text, .int .i64 t.num, .int .i64 t.at_, .int .i64 t.fin] 32))
            generalize (w4.alloc (.cells #[.int .i64 t.kind, .string t.text, .int .i64 t.num, .int .i64 t.at_, .int .i64 t.fin] 32)) = W5 at *
            have HB5 := Lib.hid (HB4.out.trans (hb5.mono HB4.out.size))
            have HL5 := Lib.hid (show Lx W5 b s _ from HL4.out.onto hb5)
            have HK5 := Lib.hid hk5
            clear hb5 hk5 HB4 HL4
            generalize w4.heap.size = K5 at *
            go_wp2_with fail
            refine (HRN.out _).mono ?_
            rintro e w6 ⟨rfl, hb6⟩
            have HB6 := Lib.hid (HB5.out.trans (hb6.mono HB5.out.size))
            have HL6 := Lib.hid (show Lx w6 b s _ from HL5.out.onto hb6)
            have HK6 := Lib.hid (HK5.out.onto hb6)
            clear hb6 HB5 HL5 HK5
            go_upto_region 10 with fail
            have hb7 : Below w6.heap.size w6 (w6.alloc (.cells #[.int .i64 t.kind, .string t.text, .int .i64 t.num, .int .i64 t.at_, .int .i64 t.fin] 33)) := (Below.refl _ _).alloc (Nat.le_refl _) _
            have hk7 : Blk (w6.alloc (.cells #[.int .i64 t.kind, .string t.text, .int .i64 t.num, .int .i64 t.at_, .int .i64 t.fin] 33)) w6.heap.size 33 #[.int .i64 t.kind, .string t.text, .int .i64 t.num, .int .i64 t.at_, .int .i64 t.fin] := Blk.new w6 _ _
            have hj7 : Blk (w6.alloc (.cells #[.int .i64 t.kind, .string t.text, .int .i64 t.num, .int .i64 t.at_, .int .i64 t.fin] 33)) K5 32 #[.int .i64 t.kind, .string t.text, .int .i64 t.num, .int .i64 t.at_, .int .i64 t.fin] := HK6.out.onto hb7
            change Code.wp _ _ _ _ (w6.alloc (.cells #[.int .i64 t.kind, .string t.text, .int .i64 t.num, .int .i64 t.at_, .int .i64 t.fin] 33))
            generalize (w6.alloc (.cells #[.int .i64 t.kind, .string t.text, .int .i64 t.num, .int .i64 t.at_, .int .i64 t.fin] 33)) = W7 at *
            have HB7 := Lib.hid (HB6.out.trans (hb7.mono HB6.out.size))
            have HL7 := Lib.hid (show Lx W7 b s _ from HL6.out.onto hb7)
            have HK7 := Lib.hid hk7
            clear hb7 HB6 HL6 HK6
            generalize w6.heap.size = K7 at *
            have d0 := hj7.cell 0
            have d1 := hj7.cell 1
            have d2 := hj7.cell 2
            have d3 := hj7.cell 3
            have d4 := hj7.cell 4
            have g0 := hk7.cell 0
            have g1 := hk7.cell 1
            have g2 := hk7.cell 2
            have g3 := hk7.cell 3
            have g4 := hk7.cell 4
            clear hj7 hk7
            go_wp2_with fail
            refine (lis_any t _).mono ?_
            rintro e w8 ⟨rfl, hb8⟩
            have HB8 := Lib.hid (HB7.out.trans (hb8.mono HB7.out.size))
            have HL8 := Lib.hid (show Lx w8 b s _ from HL7.out.onto hb8)
            have hk8 := HK7.out.onto hb8
            have q0 := hk8.cell 0
            have q4 := hk8.cell 4
            clear hb8 hk8 HB7 HL7 HK7 d0 d1 d2 d3 d4 g0 g1 g2 g3 g4
            go_wp2_with fail
            refine (place_any b s t.fin _ HL8.out).mono ?_
            rintro e w9 ⟨rfl, rfl⟩
            go_wp2_with fail
            go_roundw
            case rel => exact ⟨t.fin, k + 1, f4, by omega, rfl, by go_num, HL8.out, HB8.out⟩
            case measure => simp [intOf]; omega
          · have v6 : (t.kind == 0) = false := beq_eq_false_iff_ne.2 hk0
            have f7 := f6 hk0
            clear hk0 f6
            go_upto_region 9 with fail
            have hb5 : Below w4.heap.size w4 (w4.alloc (.cells #[.int .i64 t.kind, .string t.text, .int .i64 t.num, .int .i64 t.at_, .int .i64 t.fin] 32)) := (Below.refl _ _).alloc (Nat.le_refl _) _
            have hk5 : Blk (w4.alloc (.cells #[.int .i64 t.kind, .string t.text, .int .i64 t.num, .int .i64 t.at_, .int .i64 t.fin] 32)) w4.heap.size 32 #[.int .i64 t.kind, .string t.text, .int .i64 t.num, .int .i64 t.at_, .int .i64 t.fin] := Blk.new w4 _ _
            change Code.wp _ _ _ _ (w4.alloc (.cells #[.int .i64 t.kind, .string t.text, .int .i64 t.num, .int .i64 t.at_, .int .i64 t.fin] 32))
            generalize (w4.alloc (.cells #[.int .i64 t.kind, .string t.text, .int .i64 t.num, .int .i64 t.at_, .int .i64 t.fin] 32)) = W5 at *
            have HB5 := Lib.hid (HB4.out.trans (hb5.mono HB4.out.size))
            have HL5 := Lib.hid (show Lx W5 b s _ from HL4.out.onto hb5)
            have HK5 := Lib.hid hk5
            clear hb5 hk5 HB4 HL4
            generalize w4.heap.size = K5 at *
            go_wp2_with fail
            refine (HRN.out _).mono ?_
            rintro e w6 ⟨rfl, hb6⟩
            have HB6 := Lib.hid (HB5.out.trans (hb6.mono HB5.out.size))
            have HL6 := Lib.hid (show Lx w6 b s _ from HL5.out.onto hb6)
            have HK6 := Lib.hid (HK5.out.onto hb6)
            clear hb6 HB5 HL5 HK5
            go_upto_region 10 with fail
            have hb7 : Below w6.heap.size w6 (w6.alloc (.cells #[.int .i64 t.kind, .string t.text, .int .i64 t.num, .int .i64 t.at_, .int .i64 t.fin] 33)) := (Below.refl _ _).alloc (Nat.le_refl _) _
            have hk7 : Blk (w6.alloc (.cells #[.int .i64 t.kind, .string t.text, .int .i64 t.num, .int .i64 t.at_, .int .i64 t.fin] 33)) w6.heap.size 33 #[.int .i64 t.kind, .string t.text, .int .i64 t.num, .int .i64 t.at_, .int .i64 t.fin] := Blk.new w6 _ _
            have hj7 : Blk (w6.alloc (.cells #[.int .i64 t.kind, .string t.text, .int .i64 t.num, .int .i64 t.at_, .int .i64 t.fin] 33)) K5 32 #[.int .i64 t.kind, .string t.text, .int .i64 t.num, .int .i64 t.at_, .int .i64 t.fin] := HK6.out.onto hb7
            change Code.wp _ _ _ _ (w6.alloc (.cells #[.int .i64 t.kind, .string t.text, .int .i64 t.num, .int .i64 t.at_, .int .i64 t.fin] 33))
            generalize (w6.alloc (.cells #[.int .i64 t.kind, .string t.text, .int .i64 t.num, .int .i64 t.at_, .int .i64 t.fin] 33)) = W7 at *
            have HB7 := Lib.hid (HB6.out.trans (hb7.mono HB6.out.size))
            have HL7 := Lib.hid (show Lx W7 b s _ from HL6.out.onto hb7)
            have HK7 := Lib.hid hk7
            clear hb7 HB6 HL6 HK6
            generalize w6.heap.size = K7 at *
            have d0 := hj7.cell 0
            have d1 := hj7.cell 1
            have d2 := hj7.cell 2
            have d3 := hj7.cell 3
            have d4 := hj7.cell 4
            have g0 := hk7.cell 0
            have g1 := hk7.cell 1
            have g2 := hk7.cell 2
            have g3 := hk7.cell 3
            have g4 := hk7.cell 4
            clear hj7 hk7
            go_wp2_with fail
            refine (lis_any t _).mono ?_
            rintro e w8 ⟨rfl, hb8⟩
            have HB8 := Lib.hid (HB7.out.trans (hb8.mono HB7.out.size))
            have HL8 := Lib.hid (show Lx w8 b s _ from HL7.out.onto hb8)
            have hk8 := HK7.out.onto hb8
            have q0 := hk8.cell 0
            have q4 := hk8.cell 4
            clear hb8 hk8 HB7 HL7 HK7 d0 d1 d2 d3 d4 g0 g1 g2 g3 g4
            go_wp2_with fail
            refine (place_any b s t.fin _ HL8.out).mono ?_
            rintro e w9 ⟨rfl, rfl⟩
            go_wp2_with fail
            go_roundw
            case rel => exact ⟨t.fin, k, f4, by omega, rfl, rfl, HL8.out, HB8.out⟩
            case measure => simp [intOf]; omega
      · have u1 : decide ((k : Int) ≤ (M : Int)) = false := decide_eq_false (by omega)
        have u2 : decide (k ≤ M) = false := decide_eq_false hkM
        have u3 : decide ((k : Int) ≤ m.tmod 4) = false := by rw [HM.out]; exact u1
        have u4 : decide ((k : Int) ≤ m % 4) = false := by rw [HM2.out]; exact u1
        go_wp2_with fail
        go_ret
        exact ⟨rfl, HBEL.out⟩
  · skip
    have u0 : decide ((s.size : Int) > 400) = true := decide_eq_true (by omega)
    have u0' : decide ((400 : Int) < (s.size : Int)) = true := decide_eq_true (by omega)
    have u0n : decide (400 < s.size) = true := decide_eq_true (by omega)
    go_enter Tryz.func4, Tryz.ntmps4
    go_wp2_with fail
    refine (awake5_any _ HR.out).mono ?_
    rintro e w1 ⟨rfl, hb1⟩
    have H1 := Lib.hid hb1
    clear hb1
    go_wp2_with fail
    refine (awake5_any _ (HR.out.on H1.out)).mono ?_
    rintro e w3 ⟨rfl, hb3⟩
    have H3 := Lib.hid (H1.out.trans (hb3.mono H1.out.size))
    clear hb3
    go_wp2_with fail
    go_ret
    exact ⟨rfl, H3.out⟩

set_option maxRecDepth 100000 in
theorem lifted (os : Os) (started : os.Started) (H : Type) (enc : TypeId × Value → H) :
    ReturnsInHanded {} Tryz.checked os 4 .any (fun w args => (Rows.tokenStepsSpec.pre enc Tryz.prog Tryz.f4 [] false w args ∧ laidMetH Tryz.prog Rows.tokenStepsRow.laid w) ∧ sizedMet enc Tryz.prog Tryz.f4 (OpenSpec.ofChange Rows.tokenStepsSpec) false w args)
      (Rows.tokenStepsSpec.post enc Tryz.prog Tryz.f4 false true false false) := by
  refine returnsInHanded_of_change_and (C := Tryz.checked) (X := fun w _ => laidMetH Tryz.prog Rows.tokenStepsRow.laid w) (fun _ _ _ hh h => h.of_heap hh) own started (by kernel_rfl) Tryz.func4
    (ChangeSpec.witness_shaped (enc := enc) (C := Tryz.checked) (os := os) (X := fun w _ => laidMetH Tryz.prog Rows.tokenStepsRow.laid w) false (World.laidAll Tryz.prog os Rows.tokenStepsRow.laid) #[.string ByteArray.empty, .int .u8 0] 8 (World.laidAll_os _ _ _) (World.shaped_of_ZipB (by kernel_rfl) (by kernel_rfl)) (by kernel_rfl) (by kernel_rfl) (by kernel_rfl) (by rw [MakeChecks.laidMetH_plain _ _ _ (by kernel_rfl)]; exact laidMet_laidAll _ (by kernel_rfl) (by kernel_rfl))) ?_
  intro W base args ds gs before hval0 hW _ _ hL _
  have hval : ∀ (j : Nat) t v, Tryz.f4.params[j]? = some t → args[j]? = some v → Value.okWide Tryz.prog W .any base t v := hval0
  have hW' := hW
  obtain ⟨p, q, hA0, hV, rfl, hfz, hnd⟩ := hW
  have hA : DataW.TrodAll enc Tryz.prog W 0 (fun _ => true) true Tryz.f4.params.toList args.toList ds p := hA0
  rw [Tryz.params4] at hA hval
  obtain ⟨v0, vs0, d0, ds0, p0, q0, hargs, rfl, rfl, h0, r0⟩ := trodAll_cons hA
  obtain ⟨v1, vs1, d1, ds1, p1, q1, rfl, rfl, rfl, h1, r1⟩ := trodAll_cons r0
  obtain ⟨rfl, rfl, rfl⟩ := trodAll_nil r1
  obtain rfl : args = #[v0, v1] := by cases args; simp_all
  obtain ⟨rfl, rfl⟩ := trodVars_none hV
  obtain ⟨s0, rfl, rfl, rfl, w0⟩ := open_string Tryz.underlying9 (hval 0 9 v0 rfl rfl) h0
  obtain ⟨x1, rfl, rfl, rfl, w1⟩ := open_int Tryz.underlying5 (hval 1 5 v1 rfl rfl) h1
  have b1 := w1
  simp only [Lit.wf, decide_eq_true_eq, Bool.and_eq_true] at b1
  have eu8a : IntKind.u8.min = 0 := rfl
  have eu8b : IntKind.u8.max = 255 := rfl
  have ei64a : IntKind.i64.min = -9223372036854775808 := rfl
  have ei64b : IntKind.i64.max = 9223372036854775807 := rfl
  have eu32a : IntKind.u32.min = 0 := rfl
  have eu32b : IntKind.u32.max = 4294967295 := rfl
  clear hA0 hval0
  refine (walk s0 x1 W w0 (by omega) (by omega) (errs hL)).mono fun e W' ⟨he, bel⟩ => ?_
  subst he
  exact ⟨_, rfl, _, _, _, [], _, [], hW', trodAll_mk1 (shut_bool Tryz.underlying4 _), (trodAll_cons_mk (shut_string Tryz.underlying9 w0) (trodAll_cons_mk (shut_int Tryz.underlying5 w1) trodAll_mk0)), rfl, bel.frame _, fun h => by cases h⟩

theorem said : Rows.TokenStepsSaid :=
  OpenClaim.holds_of_wide 4 Tryz.f4 rfl rfl rfl rfl rfl rfl rfl ⟨rfl, rfl, rfl, rfl, rfl⟩ rfl rfl rfl rfl rfl (by kernel_rfl) Tryz.func4 (by kernel_rfl)
    (of_decide_eq_true (by kernel_rfl)) (by unfold Func.isWrapper; first | (rw [if_pos (by decide +kernel)]; kernel_rfl) | (rw [if_neg (by decide +kernel)]; exact ⟨rfl, rfl⟩))
    (fun os started H enc _ => lifted os started H enc)

/-- no parameter wants a stand-in -/
theorem plain (f : FuncId) (fn : Func) (hf : Tryz.pinned.checked.prog.funcNamed "cheval/chevallaw05.TokenSteps" = some f) (hfn : Tryz.pinned.checked.prog.funcs[f]? = some fn) :
    true = Tryz.pinned.checked.prog.looks [] ∧ ∀ (j : Nat) t, fn.params[j]? = some t → Tryz.pinned.checked.prog.wantsStandIn t = false := by
  obtain rfl : f = 4 := Option.some.inj ((show Tryz.prog.funcNamed "cheval/chevallaw05.TokenSteps" = some 4 by kernel_rfl).symm.trans hf) |>.symm
  obtain rfl : fn = Tryz.f4 := (Option.some.inj (Tryz.func4.symm.trans hfn)).symm
  refine ⟨by kernel_rfl, fun j t ht => ?_⟩
  rw [Tryz.params4] at ht
  have hm := Array.mem_of_getElem? ht
  simp only [List.mem_toArray, List.mem_cons, List.not_mem_nil, or_false] at hm
  rcases hm with rfl | rfl
  · exact (show Tryz.prog.wantsStandIn 9 = false by kernel_rfl)
  · exact (show Tryz.prog.wantsStandIn 5 = false by kernel_rfl)

/-- The statement: the tied card. -/
theorem card : Rows.TokenStepsCardSaid :=
  Claim7.holds_tied_plain_at .later [] _ _ _ _ said (fun _ h => by cases h) (by kernel_rfl) (fun _ h => by cases h) tokenSteps_row_tie rfl ⟨rfl, rfl⟩ (by kernel_rfl) rfl plain (by kernel_rfl)
end Go.Proofs.YtnenipgpncomeaaGreatDoor.tokenSteps
