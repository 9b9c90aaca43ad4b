/- WholeTexts: the integer of any text, or why it has none, is the document's. No conditions on the argument: any string (the law itself asks nothing of more than 60 bytes). The five listed variables of the library (two tables of math/bits, one of internal/strconv, strconv.ErrRange, strconv.ErrSyntax) start as the program's text lays them: tied by the card, over the pruned copy of the project. -/
import Derived.Test.YteoaapjejhjknaaDoorCards
import Derived.Test.YteoaapjejhjknaaDoorTie
import Derived.WalkKit
import Derived.ProofKit
import Derived.OpenShut
import Derived.ShutString
import Derived.Below
import Derived.LaidMore
import Derived.Lib.LaidTab
import Derived.Stop.Joined
import Derived.Stop.LaidErr
import Derived.SevenTiedAt
import Derived.Test.YteoaapjejhjknaaDoorRtext
namespace Go.Proofs.YteoaapjejhjknaaDoor.wholeTexts
open Go.ChangeShapes Go.WideShapes Go.ChangeAt Go.RowKit
open Go.ChangeMaps (open_string shut_string)
open Fg De
set_option linter.unusedVariables false

theorem own : ownKnob Tryd.prog.godebug = none := by kernel_rfl
theorem gRange : Tryd.prog.globalNamed "strconv.ErrRange" = some 1 := by kernel_rfl
theorem gPow : Tryd.prog.globalNamed "internal/strconv.uint64pow10" = some 2 := by kernel_rfl

set_option maxRecDepth 100000 in
set_option maxHeartbeats 2000000 in
theorem walk (s : ByteArray) (tp : TypeId) (p : Value) (w : World) (hv : w.var? Tryd.prog "strconv.ErrRange" = some #[.iface tp p]) :
    Calls Tryd.prog 3 #[.string s] w fun e w' => e = .returned (.bool true) ∧ Below w.heap.size w w' := by
  by_cases h60 : s.size ≤ 60
  · have t0 : decide ((60 : Int) < (s.size : Int)) = false := decide_eq_false (by omega)
    have t0' : decide (60 < s.size) = false := decide_eq_false (by omega)
    have Hv := Lib.hid hv
    clear hv
    cases hf : form s.data.toList with
    | false =>
      have Hf := Lib.hid hf
      clear hf
      go_enter Tryd.func3, Tryd.ntmps3
      go_wp2_with fail
      refine (awake_any _).mono ?_
      rintro e w' ⟨rfl, rfl⟩
      go_wp2_with fail
      refine (parse_bad s _ (by omega) Hf.out).mono ?_
      rintro e w2 ⟨rfl, hb2⟩
      have B2 := Lib.hid hb2
      clear hb2
      go_wp2_with fail
      refine (rparse_bad s _ (by omega) Hf.out).mono ?_
      rintro e w3 ⟨rfl, hb3⟩
      have B3 := Lib.hid (B2.out.trans (hb3.mono B2.out.size))
      clear hb3
      go_wp2_with fail
      go_ret
      exact ⟨rfl, B3.out.alloc B3.out.size _⟩
    | true =>
      have Hf := Lib.hid hf
      clear hf
      by_cases hi : In64 (numL s.data.toList)
      · have Hi := Lib.hid hi
        clear hi
        generalize hz : numL s.data.toList = z at *
        have Hz := Lib.hid hz
        have hzz : (z == z) = true := by simp
        clear hz
        go_enter Tryd.func3, Tryd.ntmps3
        go_wp2_with fail
        refine (awake_any _).mono ?_
        rintro e w' ⟨rfl, rfl⟩
        go_wp2_with fail
        refine (parse_ok s _ (by omega) Hf.out (by rw [Hz.out]; exact Hi.out)).mono ?_
        rintro e w2 ⟨rfl, hb2⟩
        rw [Hz.out]
        have B2 := Lib.hid hb2
        clear hb2
        go_wp2_with fail
        refine (rparse_ok s _ h60 Hf.out (by rw [Hz.out]; exact Hi.out)).mono ?_
        rintro e w3 ⟨b3, A3, n3, c3, rfl, hn3, hb3⟩
        rw [Hz.out] at hn3
        have B3 := Lib.hid (B2.out.trans (hb3.mono B2.out.size))
        have N3 := Lib.hid hn3
        clear hb3 hn3
        go_wp2_with fail
        have k3 := Blk.new w3 28 #[.bool b3, .slice A3 n3 c3]
        have hw : Below w3.heap.size w3 (w3.alloc (Obj.cells #[.bool b3, .slice A3 n3 c3] 28)) := (Below.refl _ _).alloc (Nat.le_refl _) _
        refine (int_any _ z _ (N3.out.on hw) Hi.out).mono ?_
        rintro e w4 ⟨rfl, hb4⟩
        have B4 := Lib.hid ((B3.out.trans (hw.mono B3.out.size)).trans (hb4.mono (Nat.le_trans B3.out.size hw.size)))
        clear hb4 k3 hw
        go_wp2_with fail
        go_ret
        exact ⟨rfl, B4.out⟩
      · have Hi := Lib.hid hi
        clear hi
        go_enter Tryd.func3, Tryd.ntmps3
        go_wp2_with fail
        refine (awake_any _).mono ?_
        rintro e w' ⟨rfl, rfl⟩
        go_wp2_with fail
        refine (parse_far s tp p _ (by omega) Hf.out Hi.out Hv.out).mono ?_
        rintro e w2 ⟨rfl, hb2⟩
        have B2 := Lib.hid hb2
        clear hb2
        go_wp2_with fail
        refine (rparse_far s _ h60 Hf.out Hi.out).mono ?_
        rintro e w3 ⟨rfl, hb3⟩
        have B3 := Lib.hid (B2.out.trans (hb3.mono B2.out.size))
        clear hb3
        go_wp2_with fail
        go_ret
        exact ⟨rfl, B3.out.alloc B3.out.size _⟩
  · have t0 : decide ((60 : Int) < (s.size : Int)) = true := decide_eq_true (by omega)
    have t0' : decide (60 < s.size) = true := decide_eq_true (by omega)
    clear hv
    go_enter Tryd.func3, Tryd.ntmps3
    go_wp2_with fail
    refine (awake_any _).mono ?_
    rintro e w' ⟨rfl, rfl⟩
    go_wp2_with fail
    refine (awake_any _).mono ?_
    rintro e w' ⟨rfl, rfl⟩
    go_wp2_with fail
    go_ret
    exact ⟨rfl, Below.refl _ _⟩
theorem star : "*" ++ "errors.errorString" = "*errors.errorString" := by decide
theorem rowPtr (u : TypeId) (h : Tryd.prog.typeName? 3 u = some "*errors.errorString") : u = 82 :=
  typeName_ptr_named (nm := "errors.errorString") (by rw [star]; kernel_rfl) (by kernel_rfl) (by decide) u (by rw [star]; exact h)
/-- what the row's list gives -/
theorem sentinel {W : World} (h : laidMetH Tryd.prog Rows.wholeTextsRow.laid W) : ∃ p, W.var? Tryd.prog "strconv.ErrRange" = some #[.iface 82 p] := by
  have h' : laidMet Tryd.prog Rows.wholeTextsRow.laid W := h
  obtain ⟨a, s, hv, _⟩ := laid_sentinel h'.tail.tail.tail gRange (by kernel_rfl) Tryd.underlying39 rowPtr Tryd.underlying82 Tryd.underlying84 rfl rfl Tryd.underlying9 (by kernel_rfl) (by kernel_rfl)
  exact ⟨_, hv⟩

/-- the door's own heap meets the condition -/
theorem door_met (os : Os) (args : Array Value) : laidMetH Tryd.prog Rows.wholeTextsRow.laid ((World.doorLaid Tryd.prog 4000 os).forCall (fun _ _ => 0) ⟨#[], args, []⟩).memory :=
  laidMetH_of_parts3 (fuel := 8) (laidMet_of_run' 8 (by kernel_rfl) (by kernel_rfl)) (by kernel_rfl) (by kernel_rfl)

set_option maxRecDepth 100000 in
theorem lifted (os : Os) (started : os.Started) (H : Type) (enc : TypeId × Value → H) :
    ReturnsInHanded {} Tryd.checked os 3 .any (fun w args => (Rows.wholeTextsSpec.pre enc Tryd.prog Tryd.f3 [] false w args ∧ laidMetH Tryd.prog Rows.wholeTextsRow.laid w) ∧ sizedMet enc Tryd.prog Tryd.f3 (OpenSpec.ofChange Rows.wholeTextsSpec) false w args)
      (Rows.wholeTextsSpec.post enc Tryd.prog Tryd.f3 false true false false) := by
  refine returnsInHanded_of_change_and (C := Tryd.checked) (X := fun w _ => laidMetH Tryd.prog Rows.wholeTextsRow.laid w) (fun _ _ _ hh h => h.of_heap hh) own started (by kernel_rfl) Tryd.func3
    (ChangeSpec.witness_shaped (enc := enc) (C := Tryd.checked) (os := os) (X := fun w _ => laidMetH Tryd.prog Rows.wholeTextsRow.laid w) false (World.doorLaid Tryd.prog 4000 os) #[.string ⟨#[48]⟩] 8 rfl (World.shaped_of_RefB (by kernel_rfl) (by kernel_rfl)) (by kernel_rfl) (by kernel_rfl) (by kernel_rfl) (door_met os _)) ?_
  intro W base args ds gs before hval0 hW _ _ hL _
  have hval : ∀ (j : Nat) t v, Tryd.f3.params[j]? = some t → args[j]? = some v → Value.okWide Tryd.prog W .any base t v := hval0
  have hW' := hW
  obtain ⟨p, q, hA0, hV, rfl, hfz, hnd⟩ := hW
  have hA : DataW.TrodAll enc Tryd.prog W 0 (fun _ => true) true Tryd.f3.params.toList args.toList ds p := hA0
  rw [Tryd.params3] at hA hval
  obtain ⟨v0, d0, rfl, rfl, h0⟩ := trodAll_one hA
  obtain ⟨rfl, rfl⟩ := trodVars_none hV
  obtain ⟨s, rfl, rfl, rfl, ws⟩ := open_string Tryd.underlying9 (hval 0 9 v0 rfl rfl) h0
  obtain ⟨p0, hv0⟩ := sentinel hL
  clear hA0 hval0
  simp only [List.append_nil] at hW'
  refine (walk s _ p0 W hv0).mono fun e W' ⟨he, bel⟩ => ?_
  subst he
  exact ⟨_, rfl, _, _, _, [], _, [], hW', trodAll_mk1 (shut_bool Tryd.underlying4 _), (trodAll_mk1 (shut_string Tryd.underlying9 ws)), rfl, bel.frame _, fun h => by cases h⟩

theorem said : Rows.WholeTextsSaid :=
  OpenClaim.holds_of_wide 3 Tryd.f3 rfl rfl rfl rfl rfl rfl rfl ⟨rfl, rfl, rfl, rfl, rfl⟩ rfl rfl rfl rfl rfl (by kernel_rfl) Tryd.func3 (by kernel_rfl)
    (of_decide_eq_true (by kernel_rfl)) (by unfold Func.isWrapper; first | (rw [if_pos (by decide +kernel)]; kernel_rfl) | (rw [if_neg (by decide +kernel)]; exact ⟨rfl, rfl⟩))
    (fun os started H enc _ => lifted os started H enc)

/-- no parameter wants a stand-in -/
theorem plain (f : FuncId) (fn : Func) (hf : Tryd.pinned.checked.prog.funcNamed "cheval/chevallaw02.WholeTexts" = some f) (hfn : Tryd.pinned.checked.prog.funcs[f]? = some fn) :
    true = Tryd.pinned.checked.prog.looks [] ∧ ∀ (j : Nat) t, fn.params[j]? = some t → Tryd.pinned.checked.prog.wantsStandIn t = false := by
  obtain rfl : f = 3 := Option.some.inj ((show Tryd.prog.funcNamed "cheval/chevallaw02.WholeTexts" = some 3 by kernel_rfl).symm.trans hf) |>.symm
  obtain rfl : fn = Tryd.f3 := (Option.some.inj (Tryd.func3.symm.trans hfn)).symm
  refine ⟨by kernel_rfl, fun j t ht => ?_⟩
  rw [Tryd.params3] at ht
  obtain rfl : t = 9 := by simpa using Array.mem_of_getElem? ht
  exact (show Tryd.prog.wantsStandIn 9 = false by kernel_rfl)

/-- The statement: the tied card. -/
theorem card : Rows.WholeTextsCardSaid :=
  Claim7.holds_tied_plain_at .later [] _ _ _ _ said (fun _ h => by cases h) (by kernel_rfl) (fun _ h => by cases h) wholeTexts_row_tie rfl ⟨rfl, rfl⟩ (by kernel_rfl) rfl plain (by kernel_rfl)
end Go.Proofs.YteoaapjejhjknaaDoor.wholeTexts
