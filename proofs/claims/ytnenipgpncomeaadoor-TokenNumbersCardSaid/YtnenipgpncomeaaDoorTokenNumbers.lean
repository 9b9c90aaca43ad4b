/- TokenNumbers: any integer's text, with blanks about it, is one Num of it; with noughts of a fraction behind it, it is told that it is none. The seven listed variables of the library (two tables of math/bits, one of internal/strconv, two of unicode/utf8, strconv.ErrRange, strconv.ErrSyntax) start as the program's text lays them: tied by the card. No other condition. -/
import Derived.Test.YtnenipgpncomeaaDoorCards
import Derived.Test.YtnenipgpncomeaaDoorTie
import Derived.WalkKit
import Derived.ProofKit
import Derived.OpenShut
import Derived.ChangeOld
import Derived.ShutString
import Derived.Below
import Derived.LaidMore
import Derived.Lib.LaidTab
import Derived.Stop.Joined
import Derived.Stop.LaidErr
import Derived.SevenTiedAt
import Derived.Lay
import Derived.Test.YtnenipgpncomeaaDoorAwake5
import Derived.Test.YtnenipgpncomeaaDoorTokNums
import Derived.Test.YtnenipgpncomeaaDoorOf
import Derived.Test.YtnenipgpncomeaaDoorRtext2
namespace Go.Proofs.YtnenipgpncomeaaDoor.tokenNumbers
open Go.ChangeShapes Go.WideShapes Go.ChangeAt Go.RowKit
open Go.ChangeMaps (open_string shut_string)
open Tk Pl
set_option linter.unusedVariables false

theorem own : ownKnob Tryd.prog.godebug = none := by kernel_rfl
theorem laidOut : laidOutB Tryd.prog = true := by kernel_rfl
theorem gRange : Tryd.prog.globalNamed "strconv.ErrRange" = some 4 := by kernel_rfl
theorem star : "*" ++ "errors.errorString" = "*errors.errorString" := by decide
theorem rowPtr (u : TypeId) (h : Tryd.prog.typeName? 3 u = some "*errors.errorString") : u = 128 :=
  typeName_ptr_named (nm := "errors.errorString") (by rw [star]; kernel_rfl) (by kernel_rfl) (by decide) u (by rw [star]; exact h)
/-- what the row's list gives -/
theorem errs {W : World} (h : laidMetH Tryd.prog Rows.tokenNumbersRow.laid W) : RangeErr W := by
  have h' : laidMet Tryd.prog Rows.tokenNumbersRow.laid W := h
  obtain ⟨a, s, hv, _⟩ := laid_sentinel h'.tail.tail.tail.tail gRange (by kernel_rfl) Tryd.underlying77 rowPtr Tryd.underlying128 Tryd.underlying130 rfl rfl Tryd.underlying9 (by kernel_rfl) (by kernel_rfl)
  exact ⟨_, _, hv⟩

theorem rep_next {k : Nat} {c : UInt8} {A x : ByteArray} (hA : A.data.toList = List.replicate k c) (h : x.data.toList = [c]) : (A ++ x).data.toList = List.replicate (k + 1) c := by
  rw [ByteArray.data_append, Array.toList_append, h, hA, List.replicate_succ']
theorem rep_size {k : Nat} {c : UInt8} {A : ByteArray} (hA : A.data.toList = List.replicate k c) : A.size = k := by
  have := congrArg List.length hA
  rw [size_toList] at this
  simpa using this
def blankOf (q : Nat) : UInt8 := [32, 10, 9, 13].getD q 0
theorem blankOf_is (q : Nat) (h : q < 4) : isBl (blankOf q).toNat = true ∧ ((⟨#[32, 10, 9, 13]⟩ : ByteArray).extract q (q + 1)).data.toList = [blankOf q] := by
  rcases (by omega : q = 0 ∨ q = 1 ∨ q = 2 ∨ q = 3) with rfl | rfl | rfl | rfl <;> exact ⟨rfl, rfl⟩
set_option maxRecDepth 100000 in
set_option maxHeartbeats 8000000 in
theorem walk (n x : Int) (fr : Bool) (w : World) (hn0 : -9223372036854775808 ≤ n) (hn1 : n ≤ 9223372036854775807) (hx0 : 0 ≤ x) (hx1 : x ≤ 255) (hr : RangeErr w) :
    Calls Tryd.prog 4 #[.int .i64 n, .int .u8 x, .bool fr] w fun e w' => e = .returned (.bool true) ∧ Below w.heap.size w w' := by
  have HR := Lib.hid hr
  clear hr
  go_enter Tryd.func4, Tryd.ntmps4
  go_wp2_with fail
  refine (awake5_any _ HR.out).mono ?_
  rintro e w1 ⟨rfl, hb1⟩
  have H1 := Lib.hid hb1
  clear hb1
  go_wp2_with fail
  obtain ⟨m, hm, hm7⟩ : ∃ m : Nat, x % 7 = (m : Int) ∧ m < 7 := ⟨(x % 7).toNat, by omega, by omega⟩
  obtain ⟨q, hq, hq4⟩ : ∃ q : Nat, x / 7 % 4 = (q : Int) ∧ q < 4 := ⟨(x / 7 % 4).toNat, by omega, by omega⟩
  have HQ := Lib.hid hq
  have HM := Lib.hid hm
  obtain ⟨hc1, hc2⟩ := blankOf_is q hq4
  have HC1 := Lib.hid hc1
  have HC2 := Lib.hid hc2
  clear hq hm hc1 hc2
  generalize blankOf q = c at *
  go_loop [7, 22] (fun a y => ∃ (k : Nat) (A : ByteArray), k ≤ m ∧ A.data.toList = List.replicate k c ∧ a = .string A ∧ y = .int .u8 k) (fun _ y => m - (intOf y).toNat)
  case atStart => exact ⟨0, ⟨#[]⟩, Nat.zero_le _, rfl, rfl, rfl⟩
  case round =>
    obtain ⟨k, A, hk, hA, rfl, rfl⟩ := hrel
    have HA := Lib.hid hA
    by_cases hlt : k < m
    · skip
      have u1 : decide ((k : Int) < x % 7) = true := by rw [HM.out]; exact decide_eq_true (by omega)
      have i1 : (0 : Int) ≤ x / 7 % 4 := by omega
      have i2 : x / 7 % 4 + 1 ≤ 4 := by omega
      have e1 : IntKind.u8.wrap (x / 7 % 4 + 1) = x / 7 % 4 + 1 := by rw [IntKind.wrap_u8]; omega
      have e2 : (x / 7 % 4).toNat = q := by have := HQ.out; omega
      have e3 : (x / 7 % 4 + 1).toNat = q + 1 := by have := HQ.out; omega
      have hAs : A.size ≤ 7 := by rw [rep_size hA]; omega
      have hEs : ((⟨#[32, 10, 9, 13]⟩ : ByteArray).extract q (q + 1)).size ≤ 4 := by rw [ByteArray.size_extract]; show min (q + 1) 4 - q ≤ 4; omega
      clear hA
      go_wp2_with fail
      go_round
      case rel => exact ⟨k + 1, _, hlt, rep_next HA.out HC2.out, rfl, by go_num⟩
      case measure => simp [intOf]; omega
    · skip
      obtain rfl : k = m := by omega
      have u1 : decide ((k : Int) < x % 7) = false := by rw [HM.out]; exact decide_eq_false (by omega)
      have hAs := rep_size hA
      have In := Lib.hid (show In64 n from ⟨hn0, hn1⟩)
      clear hA
      go_wp2_with fail
      refine (W2.of_any n _ In.out).mono ?_
      rintro e w2 h2
      obtain ⟨b2, A2, n2, c2, rfl, hz2, hb2, _⟩ := W2.nz_of h2
      have H2 := Lib.hid (H1.out.trans (hb2.mono H1.out.size))
      have HZ2 := Lib.hid hz2
      clear h2 hz2 hb2
      go_wp2_with fail
      refine (W2.rtext_any _ n _ HZ2.out ((W2.sm_in In.out).mono (by decide))).mono ?_
      rintro e w3 ⟨rfl, hb3⟩
      have H3 := Lib.hid (H2.out.trans (hb3.mono H2.out.size))
      clear hb3
      obtain ⟨T, hT⟩ : ∃ T : ByteArray, T = ⟨(Lib.itoa n).toArray⟩ := ⟨_, rfl⟩
      have hTl : T.data.toList = Lib.itoa n := by rw [hT]
      rw [← hT]
      have hTs : T.size ≤ 30 := by rw [← size_toList, hTl]; exact De.itoa_len In.out
      have hf := De.itoa_form n
      rw [← hTl] at hf
      have HFM := Lib.hid hf.1
      have HNL := Lib.hid hf.2
      have HTS := Lib.hid (size_toList T)
      clear hT hTl hf
      have vA : ((k : Int) == (A.size : Int)) = true := by rw [hAs]; simp
      cases fr with
      | true =>
        have HA1 := Lib.hid (show all (A ++ T ++ ⟨#[46, 48]⟩ : ByteArray) 0 [] = .bad k 4 from all_frac true HC1.out (by rw [← HA.out]; simp) HFM.out)
        have HA2 := Lib.hid (show all (A ++ T ++ ⟨#[69, 43, 48, 48]⟩ : ByteArray) 0 [] = .bad k 4 from all_frac false HC1.out (by rw [← HA.out]; simp) HFM.out)
        have HS1 := Lib.hid (show (A ++ T ++ ⟨#[46, 48]⟩ : ByteArray).size ≤ 90000 by rw [ByteArray.size_append, ByteArray.size_append]; show A.size + T.size + 2 ≤ _; omega)
        have HS2 := Lib.hid (show (A ++ T ++ ⟨#[69, 43, 48, 48]⟩ : ByteArray).size ≤ 90000 by rw [ByteArray.size_append, ByteArray.size_append]; show A.size + T.size + 4 ≤ _; omega)
        go_wp2_with fail
        refine (all_err5 _ _ HS1.out (HR.out.on H3.out) HA1.out).mono ?_
        rintro e w4 ⟨rfl, hb4⟩
        have H4 := Lib.hid (H3.out.trans (hb4.mono H3.out.size))
        clear hb4
        go_wp2_with fail
        refine (all_err5 _ _ HS2.out (HR.out.on H4.out) HA2.out).mono ?_
        rintro e w5 ⟨rfl, hb5⟩
        have H5 := Lib.hid (H4.out.trans (hb5.mono H4.out.size))
        clear hb5
        go_wp2_with fail
        go_ret
        exact ⟨rfl, H5.out⟩
      | false =>
        have HA1 := Lib.hid (show all (A ++ T ++ A : ByteArray) 0 [] = .toks [⟨3, nix, n, k, k + T.size⟩, ⟨0, nix, 0, (A ++ T ++ A : ByteArray).size, (A ++ T ++ A : ByteArray).size⟩] by
          rw [← HTS.out]
          exact all_num (j := k) HC1.out (by rw [← HA.out]; simp) HFM.out HNL.out ⟨hn0, hn1⟩)
        have HS1 := Lib.hid (show (A ++ T ++ A : ByteArray).size ≤ 90000 by rw [ByteArray.size_append, ByteArray.size_append]; omega)
        go_wp2_with fail
        refine (all_toks _ _ HS1.out (HR.out.on H3.out) HA1.out (n := 2) rfl (by decide)).mono ?_
        rintro e w4 ⟨b, cc, rfl, hcc, hltb, hcell, hb4⟩
        have k0 : w4.cell? ⟨b, 0, none⟩ = some (.int .i64 3) := (hcell 0 _ rfl).1
        have k2 : w4.cell? ⟨b, 2, none⟩ = some (.int .i64 n) := (hcell 0 _ rfl).2.2.1
        have k3 : w4.cell? ⟨b, 3, none⟩ = some (.int .i64 (k : Nat)) := (hcell 0 _ rfl).2.2.2.1
        have k4 : w4.cell? ⟨b, 4, none⟩ = some (.int .i64 (k + T.size : Nat)) := (hcell 0 _ rfl).2.2.2.2
        have v9 : (((k + T.size : Nat) : Int) == (A.size : Int) + (T.size : Int)) = true := by rw [beq_iff_eq, hAs]; omega
        have H4 := Lib.hid (H3.out.trans (hb4.mono H3.out.size))
        clear hb4 hcell
        go_wp2_with fail
        go_ret
        exact ⟨rfl, H4.out⟩

set_option maxRecDepth 100000 in
theorem lifted (os : Os) (started : os.Started) (H : Type) (enc : TypeId × Value → H) :
    ReturnsInHanded {} Tryd.checked os 4 .any (fun w args => (Rows.tokenNumbersSpec.pre enc Tryd.prog Tryd.f4 [] false w args ∧ laidMetH Tryd.prog Rows.tokenNumbersRow.laid w) ∧ sizedMet enc Tryd.prog Tryd.f4 (OpenSpec.ofChange Rows.tokenNumbersSpec) false w args)
      (Rows.tokenNumbersSpec.post enc Tryd.prog Tryd.f4 false true false false) := by
  refine returnsInHanded_of_change_and (C := Tryd.checked) (X := fun w _ => laidMetH Tryd.prog Rows.tokenNumbersRow.laid w) (fun _ _ _ hh h => h.of_heap hh) own started (by kernel_rfl) Tryd.func4
    (ChangeSpec.witness_shaped (enc := enc) (C := Tryd.checked) (os := os) (X := fun w _ => laidMetH Tryd.prog Rows.tokenNumbersRow.laid w) false (World.laidAll Tryd.prog os Rows.tokenNumbersRow.laid) #[.int .i64 0, .int .u8 0, .bool false] 8 (World.laidAll_os _ _ _) (World.shaped_of_ZipB (by kernel_rfl) (by kernel_rfl)) (by kernel_rfl) (by kernel_rfl) (by kernel_rfl) (by rw [MakeChecks.laidMetH_plain _ _ _ (by kernel_rfl)]; exact laidMet_laidAll _ (by kernel_rfl) (by kernel_rfl))) ?_
  intro W base args ds gs before hval0 hW _ _ hL _
  have hval : ∀ (j : Nat) t v, Tryd.f4.params[j]? = some t → args[j]? = some v → Value.okWide Tryd.prog W .any base t v := hval0
  have hW' := hW
  obtain ⟨p, q, hA0, hV, rfl, hfz, hnd⟩ := hW
  have hA : DataW.TrodAll enc Tryd.prog W 0 (fun _ => true) true Tryd.f4.params.toList args.toList ds p := hA0
  rw [Tryd.params4] at hA hval
  obtain ⟨v0, vs0, d0, ds0, p0, q0, hargs, rfl, rfl, h0, r0⟩ := trodAll_cons hA
  obtain ⟨v1, vs1, d1, ds1, p1, q1, rfl, rfl, rfl, h1, r1⟩ := trodAll_cons r0
  obtain ⟨v2, vs2, d2, ds2, p2, q2, rfl, rfl, rfl, h2, r2⟩ := trodAll_cons r1
  obtain ⟨rfl, rfl, rfl⟩ := trodAll_nil r2
  obtain rfl : args = #[v0, v1, v2] := by cases args; simp_all
  obtain ⟨rfl, rfl⟩ := trodVars_none hV
  obtain ⟨x0, rfl, rfl, rfl, w0⟩ := open_int Tryd.underlying2 (hval 0 2 v0 rfl rfl) h0
  have b0 := w0
  simp only [Lit.wf, decide_eq_true_eq, Bool.and_eq_true] at b0
  have eu8a : IntKind.u8.min = 0 := rfl
  have eu8b : IntKind.u8.max = 255 := rfl
  have ei64a : IntKind.i64.min = -9223372036854775808 := rfl
  have ei64b : IntKind.i64.max = 9223372036854775807 := rfl
  have eu32a : IntKind.u32.min = 0 := rfl
  have eu32b : IntKind.u32.max = 4294967295 := rfl
  obtain ⟨x1, rfl, rfl, rfl, w1⟩ := open_int Tryd.underlying5 (hval 1 5 v1 rfl rfl) h1
  have b1 := w1
  simp only [Lit.wf, decide_eq_true_eq, Bool.and_eq_true] at b1
  have eu8a : IntKind.u8.min = 0 := rfl
  have eu8b : IntKind.u8.max = 255 := rfl
  have ei64a : IntKind.i64.min = -9223372036854775808 := rfl
  have ei64b : IntKind.i64.max = 9223372036854775807 := rfl
  have eu32a : IntKind.u32.min = 0 := rfl
  have eu32b : IntKind.u32.max = 4294967295 := rfl
  obtain ⟨x2, rfl, rfl, rfl⟩ := open_bool Tryd.underlying4 (hval 2 4 v2 rfl rfl) h2
  clear hA0 hval0
  refine (walk x0 x1 x2 W (by omega) (by omega) (by omega) (by omega) (errs hL)).mono fun e W' ⟨he, bel⟩ => ?_
  subst he
  exact ⟨_, rfl, _, _, _, [], _, [], hW', trodAll_mk1 (shut_bool Tryd.underlying4 _), (trodAll_cons_mk (shut_int Tryd.underlying2 w0) (trodAll_cons_mk (shut_int Tryd.underlying5 w1) (trodAll_cons_mk (shut_bool Tryd.underlying4 _) trodAll_mk0))), rfl, bel.frame _, fun h => by cases h⟩

theorem said : Rows.TokenNumbersSaid :=
  OpenClaim.holds_of_wide 4 Tryd.f4 rfl rfl rfl rfl rfl rfl rfl ⟨rfl, rfl, rfl, rfl, rfl⟩ rfl rfl rfl rfl rfl (by kernel_rfl) Tryd.func4 (by kernel_rfl)
    (of_decide_eq_true (by kernel_rfl)) (by unfold Func.isWrapper; first | (rw [if_pos (by decide +kernel)]; kernel_rfl) | (rw [if_neg (by decide +kernel)]; exact ⟨rfl, rfl⟩))
    (fun os started H enc _ => lifted os started H enc)

/-- no parameter wants a stand-in -/
theorem plain (f : FuncId) (fn : Func) (hf : Tryd.pinned.checked.prog.funcNamed "cheval/chevallaw05.TokenNumbers" = some f) (hfn : Tryd.pinned.checked.prog.funcs[f]? = some fn) :
    true = Tryd.pinned.checked.prog.looks [] ∧ ∀ (j : Nat) t, fn.params[j]? = some t → Tryd.pinned.checked.prog.wantsStandIn t = false := by
  obtain rfl : f = 4 := Option.some.inj ((show Tryd.prog.funcNamed "cheval/chevallaw05.TokenNumbers" = some 4 by kernel_rfl).symm.trans hf) |>.symm
  obtain rfl : fn = Tryd.f4 := (Option.some.inj (Tryd.func4.symm.trans hfn)).symm
  refine ⟨by kernel_rfl, fun j t ht => ?_⟩
  rw [Tryd.params4] at ht
  have hm := Array.mem_of_getElem? ht
  simp only [List.mem_toArray, List.mem_cons, List.not_mem_nil, or_false] at hm
  rcases hm with rfl | rfl | rfl
  · exact (show Tryd.prog.wantsStandIn 2 = false by kernel_rfl)
  · exact (show Tryd.prog.wantsStandIn 5 = false by kernel_rfl)
  · exact (show Tryd.prog.wantsStandIn 4 = false by kernel_rfl)

/-- The statement: the tied card. -/
theorem card : Rows.TokenNumbersCardSaid :=
  Claim7.holds_tied_plain_at .later [] _ _ _ _ said (fun _ h => by cases h) (by kernel_rfl) (fun _ h => by cases h) tokenNumbers_row_tie rfl ⟨rfl, rfl⟩ (by kernel_rfl) rfl plain (by kernel_rfl)
end Go.Proofs.YtnenipgpncomeaaDoor.tokenNumbers
