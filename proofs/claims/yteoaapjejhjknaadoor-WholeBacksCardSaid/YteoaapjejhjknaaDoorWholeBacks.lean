/- WholeBacks: an integer's text is the document's, and is parsed as it. No conditions on the argument: any int64. The five listed variables of the library (two tables of math/bits, one of internal/strconv, strconv.ErrRange, strconv.ErrSyntax) start as the program's text lays them: tied by the card, over the pruned copy of the project. -/
import Derived.Test.YteoaapjejhjknaaDoorCards
import Derived.Test.YteoaapjejhjknaaDoorTie
import Derived.WalkKit
import Derived.ProofKit
import Derived.OpenShut
import Derived.ShutString
import Derived.Below
import Derived.LaidMore
import Derived.Lib.LaidTab
import Derived.Stop.Joined
import Derived.Stop.LaidErr
import Derived.SevenTiedAt
import Derived.Test.YteoaapjejhjknaaDoorRtext
import Derived.Test.YteoaapjejhjknaaDoorItoa
namespace Go.Proofs.YteoaapjejhjknaaDoor.wholeBacks
open Go.ChangeShapes Go.WideShapes Go.ChangeAt Go.RowKit
open Go.ChangeMaps (open_string shut_string)
open Fg De
set_option linter.unusedVariables false

theorem own : ownKnob Tryd.prog.godebug = none := by kernel_rfl
theorem gRange : Tryd.prog.globalNamed "strconv.ErrRange" = some 1 := by kernel_rfl
theorem gPow : Tryd.prog.globalNamed "internal/strconv.uint64pow10" = some 2 := by kernel_rfl

set_option maxRecDepth 100000 in
set_option maxHeartbeats 2000000 in
theorem walk (n : Int) (w : World) (hn : In64 n) (ht : Lib.TabIs Tryd.prog w "internal/strconv.uint64pow10" .u64 Lib.pow10Tab) :
    Calls Tryd.prog 4 #[.int .i64 n] w fun e w' => e = .returned (.bool true) ∧ Below w.heap.size w w' := by
  have Hn := Lib.hid hn
  have Ht := Lib.hid ht
  obtain ⟨f1, f2⟩ := itoa_form n
  obtain ⟨S, HS⟩ : ∃ S : ByteArray, Hid ((⟨(Lib.itoa n).toArray⟩ : ByteArray) = S) := ⟨_, Lib.hid rfl⟩
  have HSL := Lib.hid (show S.data.toList = Lib.itoa n by rw [← HS.out])
  have HSz := Lib.hid (show S.size ≤ 100000 by rw [size_len, HSL.out]; have := itoa_len hn; omega)
  have HF := Lib.hid (show form S.data.toList = true by rw [HSL.out]; exact f1)
  have HNum := Lib.hid (show numL S.data.toList = n by rw [HSL.out]; exact f2)
  have Sn := Lib.hid ((sm_in hn).mono (by decide : 5 ≤ 100))
  have hnn : (n == n) = true := by simp
  have hSS : (S.toList == S.toList) = true := by simp
  clear hn ht f1 f2
  go_enter Tryd.func4, Tryd.ntmps4
  go_wp2_with fail
  refine (awake_any _).mono ?_
  rintro e w' ⟨rfl, rfl⟩
  go_wp2_with fail
  refine (text_any n _ Hn.out Ht.out).mono ?_
  rintro e w2 ⟨rfl, hb2⟩
  rw [HS.out]
  have B2 := Lib.hid hb2
  clear hb2
  go_wp2_with fail
  refine (parse_ok S _ HSz.out HF.out (by rw [HNum.out]; exact Hn.out)).mono ?_
  rintro e w3 ⟨rfl, hb3⟩
  rw [HNum.out]
  have B3 := Lib.hid (B2.out.trans (hb3.mono B2.out.size))
  clear hb3
  go_wp2_with fail
  refine (of_any n _ Hn.out).mono ?_
  rintro e w4 h4
  obtain ⟨b4, A4, n4, c4, rfl, hn4, hb4, _⟩ := nz_of h4
  have B4 := Lib.hid (B3.out.trans (hb4.mono B3.out.size))
  have N4 := Lib.hid hn4
  clear h4 hn4 hb4
  go_wp2_with fail
  refine (rtext_any _ n _ N4.out Sn.out).mono ?_
  rintro e w5 ⟨rfl, hb5⟩
  rw [HS.out]
  have B5 := Lib.hid (B4.out.trans (hb5.mono B4.out.size))
  clear hb5
  go_wp2_with fail
  go_ret
  exact ⟨rfl, B5.out⟩
/-- what the row's list gives -/
theorem table {W : World} (h : laidMetH Tryd.prog Rows.wholeBacksRow.laid W) : Lib.TabIs Tryd.prog W "internal/strconv.uint64pow10" .u64 Lib.pow10Tab := by
  have h' : laidMet Tryd.prog Rows.wholeBacksRow.laid W := h
  exact Lib.tabIs_of_head (rest := _) gPow (by kernel_rfl) Tryd.underlying76 Tryd.underlying52 (by kernel_rfl) (by kernel_rfl) h'.tail.tail

/-- the door's own heap meets the condition -/
theorem door_met (os : Os) (args : Array Value) : laidMetH Tryd.prog Rows.wholeBacksRow.laid ((World.doorLaid Tryd.prog 4000 os).forCall (fun _ _ => 0) ⟨#[], args, []⟩).memory :=
  laidMetH_of_parts3 (fuel := 8) (laidMet_of_run' 8 (by kernel_rfl) (by kernel_rfl)) (by kernel_rfl) (by kernel_rfl)

set_option maxRecDepth 100000 in
theorem lifted (os : Os) (started : os.Started) (H : Type) (enc : TypeId × Value → H) :
    ReturnsInHanded {} Tryd.checked os 4 .any (fun w args => (Rows.wholeBacksSpec.pre enc Tryd.prog Tryd.f4 [] false w args ∧ laidMetH Tryd.prog Rows.wholeBacksRow.laid w) ∧ sizedMet enc Tryd.prog Tryd.f4 (OpenSpec.ofChange Rows.wholeBacksSpec) false w args)
      (Rows.wholeBacksSpec.post enc Tryd.prog Tryd.f4 false true false false) := by
  refine returnsInHanded_of_change_and (C := Tryd.checked) (X := fun w _ => laidMetH Tryd.prog Rows.wholeBacksRow.laid w) (fun _ _ _ hh h => h.of_heap hh) own started (by kernel_rfl) Tryd.func4
    (ChangeSpec.witness_shaped (enc := enc) (C := Tryd.checked) (os := os) (X := fun w _ => laidMetH Tryd.prog Rows.wholeBacksRow.laid w) false (World.doorLaid Tryd.prog 4000 os) #[.int .i64 0] 8 rfl (World.shaped_of_RefB (by kernel_rfl) (by kernel_rfl)) (by kernel_rfl) (by kernel_rfl) (by kernel_rfl) (door_met os _)) ?_
  intro W base args ds gs before hval0 hW _ _ hL _
  have hval : ∀ (j : Nat) t v, Tryd.f4.params[j]? = some t → args[j]? = some v → Value.okWide Tryd.prog W .any base t v := hval0
  have hW' := hW
  obtain ⟨p, q, hA0, hV, rfl, hfz, hnd⟩ := hW
  have hA : DataW.TrodAll enc Tryd.prog W 0 (fun _ => true) true Tryd.f4.params.toList args.toList ds p := hA0
  rw [Tryd.params4] at hA hval
  obtain ⟨v0, d0, rfl, rfl, h0⟩ := trodAll_one hA
  obtain ⟨rfl, rfl⟩ := trodVars_none hV
  obtain ⟨n, rfl, rfl, rfl, hwn⟩ := open_int Tryd.underlying2 (hval 0 2 v0 rfl rfl) h0
  clear hA0 hval0
  simp only [List.append_nil] at hW'
  refine (walk n W (in_of n hwn) (table hL)).mono fun e W' ⟨he, bel⟩ => ?_
  subst he
  exact ⟨_, rfl, _, _, _, [], _, [], hW', trodAll_mk1 (shut_bool Tryd.underlying4 _), (trodAll_mk1 (shut_int Tryd.underlying2 hwn)), rfl, bel.frame _, fun h => by cases h⟩

theorem said : Rows.WholeBacksSaid :=
  OpenClaim.holds_of_wide 4 Tryd.f4 rfl rfl rfl rfl rfl rfl rfl ⟨rfl, rfl, rfl, rfl, rfl⟩ rfl rfl rfl rfl rfl (by kernel_rfl) Tryd.func4 (by kernel_rfl)
    (of_decide_eq_true (by kernel_rfl)) (by unfold Func.isWrapper; first | (rw [if_pos (by decide +kernel)]; kernel_rfl) | (rw [if_neg (by decide +kernel)]; exact ⟨rfl, rfl⟩))
    (fun os started H enc _ => lifted os started H enc)

/-- no parameter wants a stand-in -/
theorem plain (f : FuncId) (fn : Func) (hf : Tryd.pinned.checked.prog.funcNamed "cheval/chevallaw02.WholeBacks" = some f) (hfn : Tryd.pinned.checked.prog.funcs[f]? = some fn) :
    true = Tryd.pinned.checked.prog.looks [] ∧ ∀ (j : Nat) t, fn.params[j]? = some t → Tryd.pinned.checked.prog.wantsStandIn t = false := by
  obtain rfl : f = 4 := Option.some.inj ((show Tryd.prog.funcNamed "cheval/chevallaw02.WholeBacks" = some 4 by kernel_rfl).symm.trans hf) |>.symm
  obtain rfl : fn = Tryd.f4 := (Option.some.inj (Tryd.func4.symm.trans hfn)).symm
  refine ⟨by kernel_rfl, fun j t ht => ?_⟩
  rw [Tryd.params4] at ht
  obtain rfl : t = 2 := by simpa using Array.mem_of_getElem? ht
  exact (show Tryd.prog.wantsStandIn 2 = false by kernel_rfl)

/-- The statement: the tied card. -/
theorem card : Rows.WholeBacksCardSaid :=
  Claim7.holds_tied_plain_at .later [] _ _ _ _ said (fun _ h => by cases h) (by kernel_rfl) (fun _ h => by cases h) wholeBacks_row_tie rfl ⟨rfl, rfl⟩ (by kernel_rfl) rfl plain (by kernel_rfl)
end Go.Proofs.YteoaapjejhjknaaDoor.wholeBacks
