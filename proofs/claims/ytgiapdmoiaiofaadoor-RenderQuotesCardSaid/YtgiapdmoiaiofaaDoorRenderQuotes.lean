/- Any text in quotation marks is the document's, and is its value's text, and two texts' are the same just if they are: for all texts, at the library's variables as the card says. -/
import Derived.Test.YtgiapdmoiaiofaaDoorCards
import Derived.Test.YtgiapdmoiaiofaaDoorTie
import Derived.WalkKit
import Derived.ProofKit
import Derived.OpenShut
import Derived.ChangeOld
import Derived.ShutString
import Derived.Below
import Derived.LaidMore
import Derived.Lib.LaidTab
import Derived.Stop.Joined
import Derived.Stop.LaidErr
import Derived.SevenTiedAt
import Derived.Test.YtgiapdmoiaiofaaDoorWrJ
namespace Go.Proofs.YtgiapdmoiaiofaaDoor.renderQuotes
open Go.ChangeShapes Go.WideShapes Go.ChangeAt Go.RowKit
open Go.ChangeMaps (open_string shut_string)
set_option linter.unusedVariables false

theorem own : ownKnob Tryd.prog.godebug = none := by kernel_rfl
theorem laidOut : laidOutB Tryd.prog = true := by kernel_rfl
theorem gPow5 : Tryd.prog.globalNamed "internal/strconv.uint64pow10" = some 1 := by kernel_rfl
/-- what the row's list gives -/
theorem table {W : World} (h : laidMetH Tryd.prog Rows.renderQuotesRow.laid W) : Lib.TabIs Tryd.prog W "internal/strconv.uint64pow10" .u64 Lib.pow10Tab := by
  have h' : laidMet Tryd.prog Rows.renderQuotesRow.laid W := h
  exact Lib.tabIs_of_head (rest := _) gPow5 (by kernel_rfl) Tryd.underlying133 Tryd.underlying115 (by kernel_rfl) (by kernel_rfl) h'.tail.tail

theorem bl_ne7 {a b : ByteArray} (h : a ≠ b) : (a.toList == b.toList) = false := by
  rw [beq_eq_false_iff_ne]
  intro e
  rw [ByteArray.toList_eq, ByteArray.toList_eq] at e
  exact h (ba_ext e)
theorem quo_mk {a b : ByteArray} : mkB (Q.quo a.data.toList) = mkB (Q.quo b.data.toList) ↔ a = b := by
  constructor
  · intro h
    have h1 : Q.quo a.data.toList = Q.quo b.data.toList := by
      have := congrArg (fun x : ByteArray => x.data.toList) h
      simpa [mkB] using this
    exact ba_ext (Q.quo_inj.1 h1)
  · intro h; rw [h]
set_option maxRecDepth 100000 in
set_option maxHeartbeats 8000000 in
theorem walk (s : ByteArray) (t : ByteArray) (w : World) (hs : s.size ≤ maxLen) (ht : t.size ≤ maxLen) (hT : Lib.TabIs Tryd.prog w "internal/strconv.uint64pow10" .u64 Lib.pow10Tab) :
    Calls Tryd.prog 3 #[.string s, .string t] w fun e w' => e = .returned (.bool true) ∧ Below w.heap.size w w' := by
  have HT := Lib.hid (tab_of hT)
  unfold maxLen at hs ht
  clear hT
  by_cases hs2 : s.size ≤ 200
  · by_cases ht2 : t.size ≤ 200
    · have us : decide ((s.size : Int) > 200) = false := decide_eq_false (by omega)
      have us' : decide ((200 : Int) < (s.size : Int)) = false := decide_eq_false (by omega)
      have usn : decide (200 < s.size) = false := decide_eq_false (by omega)
      have ut : decide ((t.size : Int) > 200) = false := decide_eq_false (by omega)
      have ut' : decide ((200 : Int) < (t.size : Int)) = false := decide_eq_false (by omega)
      have utn : decide (200 < t.size) = false := decide_eq_false (by omega)
      by_cases hvs : okText s
      · have HVs := Lib.hid hvs
        clear hvs
        by_cases hvt : okText t
        · have HVt := Lib.hid hvt
          clear hvt
          go_enter Tryd.func3, Tryd.ntmps3
          go_wp2_with fail
          refine (awake7_any _ HT.out.2).mono ?_
          rintro e w1 ⟨rfl, hb1⟩
          have H1 := Lib.hid hb1
          clear hb1
          go_wp2_with fail
          refine (rval_yes s _ HVs.out (by omega)).mono ?_
          rintro e w2 ⟨rfl, hb2⟩
          have H2 := Lib.hid (H1.out.trans (hb2.mono H1.out.size))
          clear hb2
          go_wp2_with fail
          refine (rval_yes t _ HVt.out (by omega)).mono ?_
          rintro e w3 ⟨rfl, hb3⟩
          have H3 := Lib.hid (H2.out.trans (hb3.mono H2.out.size))
          clear hb3
          go_wp2_with fail
          have HQs := Lib.hid (fun W => rnquote_any s W (by omega))
          have HQt := Lib.hid (fun W => rnquote_any t W (by omega))
          have HRs := Lib.hid (fun W => rquote_any s W (by omega))
          have HTs := Lib.hid (fun W => rntext_str s W (by omega))
          have hinj : mkB (Q.quo s.data.toList) = mkB (Q.quo t.data.toList) ↔ s = t := quo_mk
          generalize mkB (Q.quo s.data.toList) = qs at *
          generalize mkB (Q.quo t.data.toList) = qt at *
          have e1 : (qs.toList == qs.toList) = true := beq_self_eq_true _
          by_cases hst : s = t
          · have e2 : (qs.toList == qt.toList) = true := by rw [hinj.2 hst]; exact beq_self_eq_true _
            have e3 : (s.toList == t.toList) = true := by rw [hst]; exact beq_self_eq_true _
            clear hst hinj
            refine (HQs.out _).mono ?_
            rintro e w4 ⟨rfl, hb4⟩
            have H4 := Lib.hid (H3.out.trans (hb4.mono H3.out.size))
            clear hb4
            go_wp2_with fail
            refine (HRs.out _).mono ?_
            rintro e w5 ⟨rfl, hb5⟩
            have H5 := Lib.hid (H4.out.trans (hb5.mono H4.out.size))
            clear hb5
            go_wp2_with fail
            refine (HQs.out _).mono ?_
            rintro e w6 ⟨rfl, hb6⟩
            have H6 := Lib.hid (H5.out.trans (hb6.mono H5.out.size))
            clear hb6
            go_wp2_with fail
            refine (text_any s _).mono ?_
            rintro e w7 ⟨rfl, hb7⟩
            have H7 := Lib.hid (H6.out.trans (hb7.mono H6.out.size))
            clear hb7
            rw [show (T.ofStr s).agg none 0 none 0 = .agg #[.int .i64 3, .bool false, .int .i64 0, .string s, .slice none 0 0, .slice none 0 0] from rfl]
            go_wp2_with fail
            refine (HTs.out _).mono ?_
            rintro e w8 ⟨rfl, hb8⟩
            have H8 := Lib.hid (H7.out.trans (hb8.mono H7.out.size))
            clear hb8
            go_wp2_with fail
            refine (HQs.out _).mono ?_
            rintro e w9 ⟨rfl, hb9⟩
            have H9 := Lib.hid (H8.out.trans (hb9.mono H8.out.size))
            clear hb9
            go_wp2_with fail
            refine (HQt.out _).mono ?_
            rintro e w10 ⟨rfl, hb10⟩
            have H10 := Lib.hid (H9.out.trans (hb10.mono H9.out.size))
            clear hb10
            go_wp2_with fail
            go_ret
            exact ⟨rfl, H10.out⟩
          · have e2 : (qs.toList == qt.toList) = false := bl_ne7 fun e => hst (hinj.1 e)
            have e3 : (s.toList == t.toList) = false := bl_ne7 hst
            clear hst hinj
            refine (HQs.out _).mono ?_
            rintro e w4 ⟨rfl, hb4⟩
            have H4 := Lib.hid (H3.out.trans (hb4.mono H3.out.size))
            clear hb4
            go_wp2_with fail
            refine (HRs.out _).mono ?_
            rintro e w5 ⟨rfl, hb5⟩
            have H5 := Lib.hid (H4.out.trans (hb5.mono H4.out.size))
            clear hb5
            go_wp2_with fail
            refine (HQs.out _).mono ?_
            rintro e w6 ⟨rfl, hb6⟩
            have H6 := Lib.hid (H5.out.trans (hb6.mono H5.out.size))
            clear hb6
            go_wp2_with fail
            refine (text_any s _).mono ?_
            rintro e w7 ⟨rfl, hb7⟩
            have H7 := Lib.hid (H6.out.trans (hb7.mono H6.out.size))
            clear hb7
            rw [show (T.ofStr s).agg none 0 none 0 = .agg #[.int .i64 3, .bool false, .int .i64 0, .string s, .slice none 0 0, .slice none 0 0] from rfl]
            go_wp2_with fail
            refine (HTs.out _).mono ?_
            rintro e w8 ⟨rfl, hb8⟩
            have H8 := Lib.hid (H7.out.trans (hb8.mono H7.out.size))
            clear hb8
            go_wp2_with fail
            refine (HQs.out _).mono ?_
            rintro e w9 ⟨rfl, hb9⟩
            have H9 := Lib.hid (H8.out.trans (hb9.mono H8.out.size))
            clear hb9
            go_wp2_with fail
            refine (HQt.out _).mono ?_
            rintro e w10 ⟨rfl, hb10⟩
            have H10 := Lib.hid (H9.out.trans (hb10.mono H9.out.size))
            clear hb10
            go_wp2_with fail
            go_ret
            exact ⟨rfl, H10.out⟩
        · have HVt := Lib.hid hvt
          clear hvt
          go_enter Tryd.func3, Tryd.ntmps3
          go_wp2_with fail
          refine (awake7_any _ HT.out.2).mono ?_
          rintro e w1 ⟨rfl, hb1⟩
          have H1 := Lib.hid hb1
          clear hb1
          go_wp2_with fail
          refine (rval_yes s _ HVs.out (by omega)).mono ?_
          rintro e w2 ⟨rfl, hb2⟩
          have H2 := Lib.hid (H1.out.trans (hb2.mono H1.out.size))
          clear hb2
          go_wp2_with fail
          refine (rval_no t _ HVt.out (by omega)).mono ?_
          rintro e w3 ⟨rfl, hb3⟩
          have H3 := Lib.hid (H2.out.trans (hb3.mono H2.out.size))
          clear hb3
          go_wp2_with fail
          refine (awake7_any _ (HT.out.on H3.out).2).mono ?_
          rintro e w9 ⟨rfl, hb9⟩
          have H9 := Lib.hid (H3.out.trans (hb9.mono H3.out.size))
          clear hb9
          go_wp2_with fail
          go_ret
          exact ⟨rfl, H9.out⟩
      · have HVs := Lib.hid hvs
        clear hvs
        go_enter Tryd.func3, Tryd.ntmps3
        go_wp2_with fail
        refine (awake7_any _ HT.out.2).mono ?_
        rintro e w1 ⟨rfl, hb1⟩
        have H1 := Lib.hid hb1
        clear hb1
        go_wp2_with fail
        refine (rval_no s _ HVs.out (by omega)).mono ?_
        rintro e w2 ⟨rfl, hb2⟩
        have H2 := Lib.hid (H1.out.trans (hb2.mono H1.out.size))
        clear hb2
        go_wp2_with fail
        refine (awake7_any _ (HT.out.on H2.out).2).mono ?_
        rintro e w9 ⟨rfl, hb9⟩
        have H9 := Lib.hid (H2.out.trans (hb9.mono H2.out.size))
        clear hb9
        go_wp2_with fail
        go_ret
        exact ⟨rfl, H9.out⟩
    · have us : decide ((s.size : Int) > 200) = false := decide_eq_false (by omega)
      have us' : decide ((200 : Int) < (s.size : Int)) = false := decide_eq_false (by omega)
      have usn : decide (200 < s.size) = false := decide_eq_false (by omega)
      have ut : decide ((t.size : Int) > 200) = true := decide_eq_true (by omega)
      have ut' : decide ((200 : Int) < (t.size : Int)) = true := decide_eq_true (by omega)
      have utn : decide (200 < t.size) = true := decide_eq_true (by omega)
      go_enter Tryd.func3, Tryd.ntmps3
      go_wp2_with fail
      refine (awake7_any _ HT.out.2).mono ?_
      rintro e w1 ⟨rfl, hb1⟩
      have H1 := Lib.hid hb1
      clear hb1
      go_wp2_with fail
      refine (awake7_any _ (HT.out.on H1.out).2).mono ?_
      rintro e w9 ⟨rfl, hb9⟩
      have H9 := Lib.hid (H1.out.trans (hb9.mono H1.out.size))
      clear hb9
      go_wp2_with fail
      go_ret
      exact ⟨rfl, H9.out⟩
  · have us : decide ((s.size : Int) > 200) = true := decide_eq_true (by omega)
    have us' : decide ((200 : Int) < (s.size : Int)) = true := decide_eq_true (by omega)
    have usn : decide (200 < s.size) = true := decide_eq_true (by omega)
    go_enter Tryd.func3, Tryd.ntmps3
    go_wp2_with fail
    refine (awake7_any _ HT.out.2).mono ?_
    rintro e w1 ⟨rfl, hb1⟩
    have H1 := Lib.hid hb1
    clear hb1
    go_wp2_with fail
    refine (awake7_any _ (HT.out.on H1.out).2).mono ?_
    rintro e w9 ⟨rfl, hb9⟩
    have H9 := Lib.hid (H1.out.trans (hb9.mono H1.out.size))
    clear hb9
    go_wp2_with fail
    go_ret
    exact ⟨rfl, H9.out⟩

/-- the door's own heap meets the condition -/
theorem door_met (os : Os) (args : Array Value) : laidMetH Tryd.prog Rows.renderQuotesRow.laid ((World.doorLaid Tryd.prog 4000 os).forCall (fun _ _ => 0) ⟨#[], args, []⟩).memory :=
  laidMetH_of_parts3 (fuel := 8) (laidMet_of_run' 8 (by kernel_rfl) (by kernel_rfl)) (by kernel_rfl) (by kernel_rfl)

set_option maxRecDepth 100000 in
theorem lifted (os : Os) (started : os.Started) (H : Type) (enc : TypeId × Value → H) :
    ReturnsInHanded {} Tryd.checked os 3 .any (fun w args => (Rows.renderQuotesSpec.pre enc Tryd.prog Tryd.f3 [] false w args ∧ laidMetH Tryd.prog Rows.renderQuotesRow.laid w) ∧ sizedMet enc Tryd.prog Tryd.f3 (OpenSpec.ofChange Rows.renderQuotesSpec) false w args)
      (Rows.renderQuotesSpec.post enc Tryd.prog Tryd.f3 false true false false) := by
  refine returnsInHanded_of_change_and (C := Tryd.checked) (X := fun w _ => laidMetH Tryd.prog Rows.renderQuotesRow.laid w) (fun _ _ _ hh h => h.of_heap hh) own started (by kernel_rfl) Tryd.func3
    (ChangeSpec.witness_shaped (enc := enc) (C := Tryd.checked) (os := os) (X := fun w _ => laidMetH Tryd.prog Rows.renderQuotesRow.laid w) false (World.doorLaid Tryd.prog 4000 os) #[.string ByteArray.empty, .string ByteArray.empty] 8 rfl (World.shaped_of_RefB (by kernel_rfl) (by kernel_rfl)) (by kernel_rfl) (by kernel_rfl) (by kernel_rfl) (door_met os _)) ?_
  intro W base args ds gs before hval0 hW _ _ hL _
  have hval : ∀ (j : Nat) t v, Tryd.f3.params[j]? = some t → args[j]? = some v → Value.okWide Tryd.prog W .any base t v := hval0
  have hW' := hW
  obtain ⟨p, q, hA0, hV, rfl, hfz, hnd⟩ := hW
  have hA : DataW.TrodAll enc Tryd.prog W 0 (fun _ => true) true Tryd.f3.params.toList args.toList ds p := hA0
  rw [Tryd.params3] at hA hval
  obtain ⟨v0, vs0, d0, ds0, p0, q0, hargs, rfl, rfl, h0, r0⟩ := trodAll_cons hA
  obtain ⟨v1, vs1, d1, ds1, p1, q1, rfl, rfl, rfl, h1, r1⟩ := trodAll_cons r0
  obtain ⟨rfl, rfl, rfl⟩ := trodAll_nil r1
  obtain rfl : args = #[v0, v1] := by cases args; simp_all
  obtain ⟨rfl, rfl⟩ := trodVars_none hV
  obtain ⟨s0, rfl, rfl, rfl, w0⟩ := open_string Tryd.underlying9 (hval 0 9 v0 rfl rfl) h0
  obtain ⟨s1, rfl, rfl, rfl, w1⟩ := open_string Tryd.underlying9 (hval 1 9 v1 rfl rfl) h1
  clear hA0 hval0
  refine (walk s0 s1 W w0 w1 (table hL)).mono fun e W' ⟨he, bel⟩ => ?_
  subst he
  exact ⟨_, rfl, _, _, _, [], _, [], hW', trodAll_mk1 (shut_bool Tryd.underlying4 _), (trodAll_cons_mk (shut_string Tryd.underlying9 w0) (trodAll_cons_mk (shut_string Tryd.underlying9 w1) trodAll_mk0)), rfl, bel.frame _, fun h => by cases h⟩

theorem said : Rows.RenderQuotesSaid :=
  OpenClaim.holds_of_wide 3 Tryd.f3 rfl rfl rfl rfl rfl rfl rfl ⟨rfl, rfl, rfl, rfl, rfl⟩ rfl rfl rfl rfl rfl (by kernel_rfl) Tryd.func3 (by kernel_rfl)
    (of_decide_eq_true (by kernel_rfl)) (by unfold Func.isWrapper; first | (rw [if_pos (by decide +kernel)]; kernel_rfl) | (rw [if_neg (by decide +kernel)]; exact ⟨rfl, rfl⟩))
    (fun os started H enc _ => lifted os started H enc)

/-- no parameter wants a stand-in -/
theorem plain (f : FuncId) (fn : Func) (hf : Tryd.pinned.checked.prog.funcNamed "cheval/chevallaw07.RenderQuotes" = some f) (hfn : Tryd.pinned.checked.prog.funcs[f]? = some fn) :
    false = Tryd.pinned.checked.prog.looks [] ∧ ∀ (j : Nat) t, fn.params[j]? = some t → Tryd.pinned.checked.prog.wantsStandIn t = false := by
  obtain rfl : f = 3 := Option.some.inj ((show Tryd.prog.funcNamed "cheval/chevallaw07.RenderQuotes" = some 3 by kernel_rfl).symm.trans hf) |>.symm
  obtain rfl : fn = Tryd.f3 := (Option.some.inj (Tryd.func3.symm.trans hfn)).symm
  refine ⟨by kernel_rfl, fun j t ht => ?_⟩
  rw [Tryd.params3] at ht
  have hm := Array.mem_of_getElem? ht
  simp only [List.mem_toArray, List.mem_cons, List.not_mem_nil, or_false] at hm
  rcases hm with rfl | rfl
  · exact (show Tryd.prog.wantsStandIn 9 = false by kernel_rfl)
  · exact (show Tryd.prog.wantsStandIn 9 = false by kernel_rfl)

/-- The statement: the tied card. -/
theorem card : Rows.RenderQuotesCardSaid :=
  Claim7.holds_tied_plain_at .later [] _ _ _ _ said (fun _ h => by cases h) (by kernel_rfl) (fun _ h => by cases h) renderQuotes_row_tie rfl ⟨rfl, rfl⟩ (by kernel_rfl) rfl plain (by kernel_rfl)
end Go.Proofs.YtgiapdmoiaiofaaDoor.renderQuotes
