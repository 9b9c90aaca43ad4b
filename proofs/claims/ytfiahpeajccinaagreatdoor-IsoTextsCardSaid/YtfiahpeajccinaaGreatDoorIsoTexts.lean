/- P11.1: the isos of what begins at any place of any bytes, and where it ends, or what is wrong, are the document's. -/
import Derived.Test.YtfiahpeajccinaaGreatDoorCards
import Derived.Test.YtfiahpeajccinaaGreatDoorTie
import Derived.WalkKit
import Derived.ProofKit
import Derived.OpenShut
import Derived.ChangeOld
import Derived.ShutString
import Derived.Below
import Derived.LaidMore
import Derived.Lib.LaidTab
import Derived.Stop.Joined
import Derived.Stop.LaidErr
import Derived.SevenTiedAt
import Derived.Lay
import Derived.Test.YtfiahpeajccinaaGreatDoorQH
import Derived.Test.YtfiahpeajccinaaGreatDoorQE
import Derived.Test.YtfiahpeajccinaaGreatDoorPI
namespace Go.Proofs.YtfiahpeajccinaaGreatDoor.isoTexts
open Go.ChangeShapes Go.WideShapes Go.ChangeAt Go.RowKit
open Go.ChangeMaps (open_string shut_string)
open Tk Pl
set_option linter.unusedVariables false

theorem own : ownKnob Tryz.prog.godebug = none := by kernel_rfl
theorem laidOut : laidOutB Tryz.prog = true := by kernel_rfl
theorem gRange : Tryz.prog.globalNamed "strconv.ErrRange" = some 2 := by kernel_rfl
theorem star : "*" ++ "errors.errorString" = "*errors.errorString" := by decide
theorem rowPtr (u : TypeId) (h : Tryz.prog.typeName? 3 u = some "*errors.errorString") : u = 230 :=
  typeName_ptr_named (nm := "errors.errorString") (by rw [star]; kernel_rfl) (by kernel_rfl) (by decide) u (by rw [star]; exact h)
/-- what the row's list gives -/
theorem errs {W : World} (h : laidMetH Tryz.prog Rows.isoTextsRow.laid W) : RangeErr W := by
  have h' : laidMet Tryz.prog Rows.isoTextsRow.laid W := h
  obtain ⟨a, s, hv, _⟩ := laid_sentinel h'.tail.tail.tail.tail gRange (by kernel_rfl) Tryz.underlying76 rowPtr Tryz.underlying230 Tryz.underlying232 rfl rfl Tryz.underlying9 (by kernel_rfl) (by kernel_rfl)
  exact ⟨_, _, hv⟩
theorem gPow5 : Tryz.prog.globalNamed "internal/strconv.uint64pow10" = some 0 := by kernel_rfl
/-- and its table -/
theorem table {W : World} (h : laidMetH Tryz.prog Rows.isoTextsRow.laid W) : Lib.TabIs Tryz.prog W "internal/strconv.uint64pow10" .u64 Lib.pow10Tab := by
  have h' : laidMet Tryz.prog Rows.isoTextsRow.laid W := h
  exact Lib.tabIs_of_head (rest := _) gPow5 (by kernel_rfl) Tryz.underlying203 Tryz.underlying179 (by kernel_rfl) (by kernel_rfl) h'.tail.tail

set_option maxRecDepth 100000 in
set_option maxHeartbeats 8000000 in
theorem walk (s : ByteArray) (i : Int) (w : World) (hs : s.size ≤ maxLen) (hi1 : -9223372036854775808 ≤ i) (hi2 : i ≤ 9223372036854775807) (hE : RangeErr w) (htb : Lib.TabIs Tryz.prog w "internal/strconv.uint64pow10" .u64 Lib.pow10Tab) :
    Calls Tryz.prog 4 #[.string s, .int .i64 i] w fun e w' => e = .returned (.bool true) ∧ Below w.heap.size w w' := by
  have HAW := Lib.hid (fun w1 (hb : Below w.heap.size w w1) => awake11_any w1 (hE.on hb) ((tab_of11 htb).on hb).2)
  have HE := Lib.hid (fun w1 (hb : Below w.heap.size w w1) => hE.on hb)
  clear hE htb
  by_cases hsz : s.size ≤ 300
  case' neg =>
    have u1 : decide ((s.size : Int) > 300) = true := decide_eq_true (by omega)
    have u2 : decide ((300 : Int) < (s.size : Int)) = true := u1
    go_enter Tryz.func4, Tryz.ntmps4
    go_wp2_with fail
    refine (HAW.out _ (Below.refl _ _)).mono ?_
    rintro e w1 ⟨rfl, hb⟩
    have HB := Lib.hid hb
    clear hb
    go_wp2_with fail
    refine (HAW.out _ HB.out).mono ?_
    rintro e w2 ⟨rfl, hb⟩
    have HB2 := Lib.hid (HB.out.trans (hb.mono HB.out.size))
    clear hb
    go_wp2_with fail
    go_ret
    exact ⟨rfl, HB2.out⟩
  have u1 : decide ((s.size : Int) > 300) = false := decide_eq_false (by omega)
  have u2 : decide ((300 : Int) < (s.size : Int)) = false := u1
  by_cases hin : 0 ≤ i ∧ i ≤ s.size
  case' neg =>
    have HP := Lib.hid (fun w1 => prefix_out s i w1 (by omega) (by omega))
    have HR := Lib.hid (fun w1 => rprefix_out s i w1 (by omega) (by omega))
    go_enter Tryz.func4, Tryz.ntmps4
    go_wp2_with fail
    refine (HAW.out _ (Below.refl _ _)).mono ?_
    rintro e w1 ⟨rfl, hb⟩
    have HB := Lib.hid hb
    clear hb
    go_wp2_with fail
    refine (HP.out _).mono ?_
    rintro e w2 ⟨rfl, rfl⟩
    go_wp2_with fail
    refine (HR.out _).mono ?_
    rintro e w2 ⟨rfl, hb⟩
    have HB2 := Lib.hid (HB.out.trans (hb.mono HB.out.size))
    clear hb
    go_upto_region 5 with fail
    refine alloc_gz (fun W3 hW hX => ?_)
    have HB3 := Lib.hid (HB2.out.trans (hW.mono HB2.out.size))
    have x0 := hX.cell 0
    have x1 := hX.cell 1
    have x2 := hX.cell 2
    clear hW hX
    go_wp2_with fail
    go_ret
    exact ⟨rfl, HB3.out⟩
  obtain ⟨n, rfl⟩ : ∃ n : Nat, i = n := ⟨i.toNat, by omega⟩
  have hn : n ≤ s.size := by omega
  have HP := Lib.hid (fun w1 h => iprefix_any s n w1 (by omega) hn h)
  have HR := Lib.hid (fun w1 => rprefix_in s n w1 (by omega) hn)
  have HC := Lib.hid (fun p c (h : Iz.isos s n = .err p c) => isosF_code _ _ _ _ _ h)
  have HL := Lib.hid (fun l p (h : Iz.isos s n = .ok l p) => isosF_len _ _ _ _ _ hn (Nat.zero_le _) h)
  generalize Iz.isos s n = r at *
  go_enter Tryz.func4, Tryz.ntmps4
  go_wp2_with fail
  refine (HAW.out _ (Below.refl _ _)).mono ?_
  rintro e w1 ⟨rfl, hb⟩
  have HB := Lib.hid hb
  clear hb
  go_wp2_with fail
  refine (HP.out _ (HE.out _ HB.out)).mono ?_
  rintro e w2 ⟨hb2, hg⟩
  have HB2 := Lib.hid (HB.out.trans (hb2.mono HB.out.size))
  clear hb2
  cases r with
  | out => exact hg.elim
  | err p c =>
    obtain rfl := hg
    have hc := HC.out p c rfl
    have v1 : (c != 0) = true := by rw [bne_iff_ne]; exact hc
    have v2 : (c == 0) = false := beq_eq_false_iff_ne.2 hc
    have v3 : (c == c) = true := by simp
    go_wp2_with fail
    refine (HR.out _).mono ?_
    rintro e w3 ⟨hb, hq⟩
    obtain rfl := hq
    have HB3 := Lib.hid (HB2.out.trans (hb.mono HB2.out.size))
    clear hb
    go_upto_region 5 with fail
    refine alloc_gz (fun W4 hW hX => ?_)
    have HB4 := Lib.hid (HB3.out.trans (hW.mono HB3.out.size))
    have x0 := hX.cell 0
    have x1 := hX.cell 1
    have x2 := hX.cell 2
    clear hW hX
    go_wp2_with fail
    go_ret
    exact ⟨rfl, HB4.out⟩
  | ok l p =>
    obtain ⟨A, c, base, _, rfl, hrow⟩ := hg
    obtain ⟨hne, hlen⟩ := HL.out l p rfl
    have HROW := Lib.hid hrow
    clear hrow
    go_wp2_with fail
    refine (HR.out _).mono ?_
    rintro e w3 ⟨hb, v, b2, _, rfl, hri⟩
    obtain ⟨B, d, rfl, hld⟩ := hri.shape
    have HB3 := Lib.hid (HB2.out.trans (hb.mono HB2.out.size))
    have HROW := Lib.hid (HROW.out.below hb)
    have HRI := Lib.hid hri
    clear hb hri
    go_upto_region 5 with fail
    refine alloc_gz (fun W4 hW hX => ?_)
    have HB4 := Lib.hid (HB3.out.trans (hW.mono HB3.out.size))
    have HROW := Lib.hid (HROW.out.below hW)
    have HRI := Lib.hid (HRI.out.below hW)
    have x0 := hX.cell 0
    have x1 := hX.cell 1
    have x2 := hX.cell 2
    clear hW hX
    go_wp2_with fail
    refine (lsame_any l A B c d _ _ _ (by omega) hne HROW.out HRI.out).mono ?_
    rintro e w5 ⟨rfl, hb⟩
    have HB5 := Lib.hid (HB4.out.trans (hb.mono HB4.out.size))
    clear hb
    go_wp2_with fail
    go_ret
    exact ⟨rfl, HB5.out⟩

set_option maxRecDepth 100000 in
theorem lifted (os : Os) (started : os.Started) (H : Type) (enc : TypeId × Value → H) :
    ReturnsInHanded {} Tryz.checked os 4 .any (fun w args => (Rows.isoTextsSpec.pre enc Tryz.prog Tryz.f4 [] false w args ∧ laidMetH Tryz.prog Rows.isoTextsRow.laid w) ∧ sizedMet enc Tryz.prog Tryz.f4 (OpenSpec.ofChange Rows.isoTextsSpec) false w args)
      (Rows.isoTextsSpec.post enc Tryz.prog Tryz.f4 false true false false) := by
  refine returnsInHanded_of_change_and (C := Tryz.checked) (X := fun w _ => laidMetH Tryz.prog Rows.isoTextsRow.laid w) (fun _ _ _ hh h => h.of_heap hh) own started (by kernel_rfl) Tryz.func4
    (ChangeSpec.witness_shaped (enc := enc) (C := Tryz.checked) (os := os) (X := fun w _ => laidMetH Tryz.prog Rows.isoTextsRow.laid w) false (World.laidAll Tryz.prog os Rows.isoTextsRow.laid) #[.string ByteArray.empty, .int .i64 0] 8 (World.laidAll_os _ _ _) (World.shaped_of_ZipB (by kernel_rfl) (by kernel_rfl)) (by kernel_rfl) (by kernel_rfl) (by kernel_rfl) (by rw [MakeChecks.laidMetH_plain _ _ _ (by kernel_rfl)]; exact laidMet_laidAll _ (by kernel_rfl) (by kernel_rfl))) ?_
  intro W base args ds gs before hval0 hW _ _ hL _
  have hval : ∀ (j : Nat) t v, Tryz.f4.params[j]? = some t → args[j]? = some v → Value.okWide Tryz.prog W .any base t v := hval0
  have hW' := hW
  obtain ⟨p, q, hA0, hV, rfl, hfz, hnd⟩ := hW
  have hA : DataW.TrodAll enc Tryz.prog W 0 (fun _ => true) true Tryz.f4.params.toList args.toList ds p := hA0
  rw [Tryz.params4] at hA hval
  obtain ⟨v0, vs0, d0, ds0, p0, q0, hargs, rfl, rfl, h0, r0⟩ := trodAll_cons hA
  obtain ⟨v1, vs1, d1, ds1, p1, q1, rfl, rfl, rfl, h1, r1⟩ := trodAll_cons r0
  obtain ⟨rfl, rfl, rfl⟩ := trodAll_nil r1
  obtain rfl : args = #[v0, v1] := by cases args; simp_all
  obtain ⟨rfl, rfl⟩ := trodVars_none hV
  obtain ⟨s0, rfl, rfl, rfl, w0⟩ := open_string Tryz.underlying9 (hval 0 9 v0 rfl rfl) h0
  obtain ⟨x1, rfl, rfl, rfl, w1⟩ := open_int Tryz.underlying3 (hval 1 3 v1 rfl rfl) h1
  have b1 := w1
  simp only [Lit.wf, decide_eq_true_eq, Bool.and_eq_true] at b1
  have eu8a : IntKind.u8.min = 0 := rfl
  have eu8b : IntKind.u8.max = 255 := rfl
  have ei64a : IntKind.i64.min = -9223372036854775808 := rfl
  have ei64b : IntKind.i64.max = 9223372036854775807 := rfl
  have eu32a : IntKind.u32.min = 0 := rfl
  have eu32b : IntKind.u32.max = 4294967295 := rfl
  clear hA0 hval0
  refine (walk s0 x1 W w0 (by omega) (by omega) (errs hL) (table hL)).mono fun e W' ⟨he, bel⟩ => ?_
  subst he
  exact ⟨_, rfl, _, _, _, [], _, [], hW', trodAll_mk1 (shut_bool Tryz.underlying4 _), (trodAll_cons_mk (shut_string Tryz.underlying9 w0) (trodAll_cons_mk (shut_int Tryz.underlying3 w1) trodAll_mk0)), rfl, bel.frame _, fun h => by cases h⟩

theorem said : Rows.IsoTextsSaid :=
  OpenClaim.holds_of_wide 4 Tryz.f4 rfl rfl rfl rfl rfl rfl rfl ⟨rfl, rfl, rfl, rfl, rfl⟩ rfl rfl rfl rfl rfl (by kernel_rfl) Tryz.func4 (by kernel_rfl)
    (of_decide_eq_true (by kernel_rfl)) (by unfold Func.isWrapper; first | (rw [if_pos (by decide +kernel)]; kernel_rfl) | (rw [if_neg (by decide +kernel)]; exact ⟨rfl, rfl⟩))
    (fun os started H enc _ => lifted os started H enc)

/-- no parameter wants a stand-in -/
theorem plain (f : FuncId) (fn : Func) (hf : Tryz.pinned.checked.prog.funcNamed "cheval/chevallaw11.IsoTexts" = some f) (hfn : Tryz.pinned.checked.prog.funcs[f]? = some fn) :
    true = Tryz.pinned.checked.prog.looks [] ∧ ∀ (j : Nat) t, fn.params[j]? = some t → Tryz.pinned.checked.prog.wantsStandIn t = false := by
  obtain rfl : f = 4 := Option.some.inj ((show Tryz.prog.funcNamed "cheval/chevallaw11.IsoTexts" = some 4 by kernel_rfl).symm.trans hf) |>.symm
  obtain rfl : fn = Tryz.f4 := (Option.some.inj (Tryz.func4.symm.trans hfn)).symm
  refine ⟨by kernel_rfl, fun j t ht => ?_⟩
  rw [Tryz.params4] at ht
  have hm := Array.mem_of_getElem? ht
  simp only [List.mem_toArray, List.mem_cons, List.not_mem_nil, or_false] at hm
  rcases hm with rfl | rfl
  · exact (show Tryz.prog.wantsStandIn 9 = false by kernel_rfl)
  · exact (show Tryz.prog.wantsStandIn 3 = false by kernel_rfl)

/-- The statement: the tied card. -/
theorem card : Rows.IsoTextsCardSaid :=
  Claim7.holds_tied_plain_at .later [] _ _ _ _ said (fun _ h => by cases h) (by kernel_rfl) (fun _ h => by cases h) isoTexts_row_tie rfl ⟨rfl, rfl⟩ (by kernel_rfl) rfl plain (by kernel_rfl)
end Go.Proofs.YtfiahpeajccinaaGreatDoor.isoTexts
