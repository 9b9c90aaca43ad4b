/- The path of any bytes, or the place and the kind of what is wrong, is the document's: for all bytes, at the library's variables as the card says. -/
import Derived.Test.YtmcacmhjhejfeaaGreatDoorCards
import Derived.Test.YtmcacmhjhejfeaaGreatDoorTie
import Derived.WalkKit
import Derived.ProofKit
import Derived.OpenShut
import Derived.ChangeOld
import Derived.ShutString
import Derived.Below
import Derived.LaidMore
import Derived.Lib.LaidTab
import Derived.Stop.Joined
import Derived.Stop.LaidErr
import Derived.SevenTiedAt
import Derived.Lay
import Derived.Test.YtmcacmhjhejfeaaGreatDoorWrap
import Derived.Test.YtmcacmhjhejfeaaGreatDoorPthB
import Derived.Test.YtmcacmhjhejfeaaGreatDoorPthC
import Derived.Test.YtmcacmhjhejfeaaGreatDoorPthD
import Derived.Test.YtmcacmhjhejfeaaGreatDoorSteps
import Derived.Test.YtmcacmhjhejfeaaGreatDoorAwake4
import Derived.Test.YtmcacmhjhejfeaaGreatDoorLTree
import Derived.Test.YtmcacmhjhejfeaaGreatDoorOpen
namespace Go.Proofs.YtmcacmhjhejfeaaGreatDoor.pathParses
open Go.ChangeShapes Go.WideShapes Go.ChangeAt Go.RowKit
open Go.ChangeMaps (open_string shut_string)
open Tk Pl
set_option linter.unusedVariables false

theorem own : ownKnob Tryz.prog.godebug = none := by kernel_rfl
theorem laidOut : laidOutB Tryz.prog = true := by kernel_rfl
theorem gRange : Tryz.prog.globalNamed "strconv.ErrRange" = some 4 := by kernel_rfl
theorem star : "*" ++ "errors.errorString" = "*errors.errorString" := by decide
theorem rowPtr (u : TypeId) (h : Tryz.prog.typeName? 3 u = some "*errors.errorString") : u = 168 :=
  typeName_ptr_named (nm := "errors.errorString") (by rw [star]; kernel_rfl) (by kernel_rfl) (by decide) u (by rw [star]; exact h)
/-- a cell of a variable -/
theorem cell_of_var {W : World} {nm : String} {g : Nat} {v : Value} (hg : Tryz.prog.globalNamed nm = some g) (h : W.var? Tryz.prog nm = some #[v]) : W.cell? ⟨g, 0, none⟩ = some v := by
  unfold World.var? at h
  rw [hg] at h
  simp only [Option.bind_some] at h
  unfold World.cell?
  cases hh : W.heap[g]? with
  | none => rw [hh] at h; cases h
  | some o => rw [hh] at h; cases o <;> simp_all
theorem gSyntax : Tryz.prog.globalNamed "strconv.ErrSyntax" = some 3 := by kernel_rfl
/-- what the row's list gives -/
theorem errs {W : World} (h : laidMetH Tryz.prog Rows.pathParsesRow.laid W) : Errs W := by
  have h' : laidMet Tryz.prog Rows.pathParsesRow.laid W := h
  obtain ⟨a, s, hv, _⟩ := laid_sentinel h'.tail.tail.tail.tail gRange (by kernel_rfl) Tryz.underlying67 rowPtr Tryz.underlying168 Tryz.underlying170 rfl rfl Tryz.underlying9 (by kernel_rfl) (by kernel_rfl)
  obtain ⟨a2, s2, hv2, _⟩ := laid_sentinel h'.tail.tail.tail.tail.tail gSyntax (by kernel_rfl) Tryz.underlying67 rowPtr Tryz.underlying168 Tryz.underlying170 rfl rfl Tryz.underlying9 (by kernel_rfl) (by kernel_rfl)
  exact ⟨⟨_, _, cell_of_var gSyntax hv2⟩, ⟨_, _, cell_of_var gRange hv⟩⟩
theorem maxlen {W : World} (h : W.ShapedOpen Tryz.prog) : MaxLen W := Tryz.laysM146.s1_3 W h
theorem cut_cnt (l : List UInt8) : (Sl.cut l).length ≤ l.length + 1 := by
  induction l with
  | nil => exact Nat.le_refl _
  | cons b l ih =>
    obtain ⟨q, r, hq⟩ := Sl.cut_ex l
    rw [hq] at ih
    by_cases hb : b = 47
    · subst hb
      rw [Sl.cut_slash, hq]
      simp only [List.length_cons] at ih ⊢
      omega
    · rw [Sl.cut_other hb hq]
      simp only [List.length_cons] at ih ⊢
      omega
theorem prs_len {s : ByteArray} {l : List Int} {R : List UInt8} {st : List (List UInt8)} (h : prs s l R = .ok st) : st.length ≤ s.size + 1 := by
  unfold prs at h
  split at h
  · have h1 := Sl.pr_mk h
    subst h1
    have : s.data.toList.length = s.size := rfl
    generalize s.data.toList = L at *
    cases L with
    | nil => simp [Sl.steps]
    | cons b L =>
      have := cut_cnt L
      rw [Sl.steps, Sl.go_cut, List.length_map]
      simp only [List.length_cons] at *
      omega
  · cases h
set_option maxRecDepth 100000 in
set_option maxHeartbeats 8000000 in
theorem walk (s : ByteArray) (w : World) (hz : s.size ≤ maxLen) (he : Errs w) (hm : MaxLen w) :
    Calls Tryz.prog 3 #[.string s] w fun e w' => e = .returned (.bool true) ∧ Below w.heap.size w w' := by
  have HE := Lib.hid he
  have HM := Lib.hid hm
  clear he hm
  by_cases h200 : s.size ≤ 200
  · have u0 : decide ((s.size : Int) > 200) = false := decide_eq_false (by omega)
    have u0' : decide ((200 : Int) < (s.size : Int)) = false := decide_eq_false (by omega)
    have u0n : decide (200 < s.size) = false := decide_eq_false (by omega)
    obtain ⟨l, R, hsp⟩ := split_ex _ s.data.toList (Nat.le_refl _)
    have HA := Lib.hid (fun w hm => parse_any4 s l R hsp (by omega) w hm)
    have HB := Lib.hid (fun w => rparse_any4 s l R hsp (by omega) w)
    have HL := Lib.hid (fun st (h : prs s l R = .ok st) => prs_len h)
    generalize prs s l R = ans at *
    clear hsp
    go_enter Tryz.func3, Tryz.ntmps3
    go_wp2_with fail
    refine (awake4_any _ HE.out).mono ?_
    rintro e w1 ⟨rfl, hb1⟩
    have H1 := Lib.hid hb1
    clear hb1
    go_wp2_with fail
    refine (HA.out _ (HM.out.on H1.out)).mono ?_
    cases ans with
    | ok st =>
      rintro e w2 ⟨⟨A, c, rfl, hc, hrd⟩, hb2⟩
      have H2 := Lib.hid (H1.out.trans (hb2.mono H1.out.size))
      have HR := Lib.hid hrd
      clear hb2 hrd HA
      go_wp2_with fail
      refine (HB.out _).mono ?_
      rintro e w3 ⟨⟨A2, c2, rfl, hc2, hrd2⟩, hb3⟩
      have H3 := Lib.hid (H2.out.trans (hb3.mono H2.out.size))
      have HS := Lib.hid (fun (w4 : World) (hb : Below w3.heap.size w3 w4) => by
        have := same_yes4 (st.map Sl.mk) A c A2 c2 w4 (by rw [List.length_map]; have := HL.out st rfl; omega) ((HR.out.on hb3).on hb) (hrd2.on hb)
        rwa [List.length_map] at this)
      clear hb3 hrd2 HB
      go_wp2_with fail
      refine (HS.out _ (Below.refl _ _)).mono ?_
      rintro e w4 ⟨rfl, hb4⟩
      have H4 := Lib.hid (H3.out.trans (hb4.mono H3.out.size))
      clear hb4
      go_wp2_with fail
      go_ret
      exact ⟨rfl, H4.out⟩
    | bad p c =>
      have n1 : (c == c) = true := beq_self_eq_true _
      have n2 : ((p : Int) == (p : Int)) = true := beq_self_eq_true _
      rintro e w2 ⟨rfl, hb2⟩
      have H2 := Lib.hid (H1.out.trans (hb2.mono H1.out.size))
      clear hb2 HA
      go_wp2_with fail
      refine (HB.out _).mono ?_
      rintro e w3 ⟨rfl, hb3⟩
      have H3 := Lib.hid (H2.out.trans (hb3.mono H2.out.size))
      have HS := Lib.hid (same_yes4 [] none 0 none 0 w3 (by simp) (SReads.none_ _ _ _) (SReads.none_ _ _ _))
      clear hb3 HB
      go_wp2_with fail
      refine HS.out.mono ?_
      rintro e w4 ⟨rfl, hb4⟩
      have H4 := Lib.hid (H3.out.trans (hb4.mono H3.out.size))
      clear hb4
      go_wp2_with fail
      go_ret
      exact ⟨rfl, H4.out⟩
  · have u0 : decide ((s.size : Int) > 200) = true := decide_eq_true (by omega)
    have u0' : decide ((200 : Int) < (s.size : Int)) = true := decide_eq_true (by omega)
    have u0n : decide (200 < s.size) = true := decide_eq_true (by omega)
    go_enter Tryz.func3, Tryz.ntmps3
    go_wp2_with fail
    refine (awake4_any _ HE.out).mono ?_
    rintro e w1 ⟨rfl, hb1⟩
    have H1 := Lib.hid hb1
    clear hb1
    go_wp2_with fail
    refine (awake4_any _ (HE.out.on H1.out)).mono ?_
    rintro e w2 ⟨rfl, hb2⟩
    have H2 := Lib.hid (H1.out.trans (hb2.mono H1.out.size))
    clear hb2
    go_wp2_with fail
    go_ret
    exact ⟨rfl, H2.out⟩

set_option maxRecDepth 100000 in
theorem lifted (os : Os) (started : os.Started) (H : Type) (enc : TypeId × Value → H) :
    ReturnsInHanded {} Tryz.checked os 3 .any (fun w args => (Rows.pathParsesSpec.pre enc Tryz.prog Tryz.f3 [] false w args ∧ laidMetH Tryz.prog Rows.pathParsesRow.laid w) ∧ sizedMet enc Tryz.prog Tryz.f3 (OpenSpec.ofChange Rows.pathParsesSpec) false w args)
      (Rows.pathParsesSpec.post enc Tryz.prog Tryz.f3 false true false false) := by
  refine wrap_shaped (C := Tryz.checked) (X := fun w _ => laidMetH Tryz.prog Rows.pathParsesRow.laid w) (fun _ _ _ hh h => h.of_heap hh) own started (by kernel_rfl) Tryz.func3
    (ChangeSpec.witness_shaped (enc := enc) (C := Tryz.checked) (os := os) (X := fun w _ => laidMetH Tryz.prog Rows.pathParsesRow.laid w) false (World.laidAll Tryz.prog os Rows.pathParsesRow.laid) #[.string ByteArray.empty] 8 (World.laidAll_os _ _ _) (World.shaped_of_ZipB (by kernel_rfl) (by kernel_rfl)) (by kernel_rfl) (by kernel_rfl) (by kernel_rfl) (by rw [MakeChecks.laidMetH_plain _ _ _ (by kernel_rfl)]; exact laidMet_laidAll _ (by kernel_rfl) (by kernel_rfl))) ?_
  intro W base args ds gs before hval0 hW hL hSh
  have hval : ∀ (j : Nat) t v, Tryz.f3.params[j]? = some t → args[j]? = some v → Value.okWide Tryz.prog W .any base t v := hval0
  have hW' := hW
  obtain ⟨p, q, hA0, hV, rfl, hfz, hnd⟩ := hW
  have hA : DataW.TrodAll enc Tryz.prog W 0 (fun _ => true) true Tryz.f3.params.toList args.toList ds p := hA0
  rw [Tryz.params3] at hA hval
  obtain ⟨v0, vs0, d0, ds0, p0, q0, hargs, rfl, rfl, h0, r0⟩ := trodAll_cons hA
  obtain ⟨rfl, rfl, rfl⟩ := trodAll_nil r0
  obtain rfl : args = #[v0] := by cases args; simp_all
  obtain ⟨rfl, rfl⟩ := trodVars_none hV
  obtain ⟨s0, rfl, rfl, rfl, w0⟩ := open_string Tryz.underlying9 (hval 0 9 v0 rfl rfl) h0
  clear hA0 hval0
  refine (walk s0 W w0 (errs hL) (maxlen hSh)).mono fun e W' ⟨he, bel⟩ => ?_
  subst he
  exact ⟨_, rfl, _, _, _, [], _, [], hW', trodAll_mk1 (shut_bool Tryz.underlying4 _), (trodAll_cons_mk (shut_string Tryz.underlying9 w0) trodAll_mk0), rfl, bel.frame _, fun h => by cases h⟩

theorem said : Rows.PathParsesSaid :=
  OpenClaim.holds_of_wide 3 Tryz.f3 rfl rfl rfl rfl rfl rfl rfl ⟨rfl, rfl, rfl, rfl, rfl⟩ rfl rfl rfl rfl rfl (by kernel_rfl) Tryz.func3 (by kernel_rfl)
    (of_decide_eq_true (by kernel_rfl)) (by unfold Func.isWrapper; first | (rw [if_pos (by decide +kernel)]; kernel_rfl) | (rw [if_neg (by decide +kernel)]; exact ⟨rfl, rfl⟩))
    (fun os started H enc _ => lifted os started H enc)

/-- no parameter wants a stand-in -/
theorem plain (f : FuncId) (fn : Func) (hf : Tryz.pinned.checked.prog.funcNamed "cheval/chevallaw04.PathParses" = some f) (hfn : Tryz.pinned.checked.prog.funcs[f]? = some fn) :
    true = Tryz.pinned.checked.prog.looks [] ∧ ∀ (j : Nat) t, fn.params[j]? = some t → Tryz.pinned.checked.prog.wantsStandIn t = false := by
  obtain rfl : f = 3 := Option.some.inj ((show Tryz.prog.funcNamed "cheval/chevallaw04.PathParses" = some 3 by kernel_rfl).symm.trans hf) |>.symm
  obtain rfl : fn = Tryz.f3 := (Option.some.inj (Tryz.func3.symm.trans hfn)).symm
  refine ⟨by kernel_rfl, fun j t ht => ?_⟩
  rw [Tryz.params3] at ht
  have hm := Array.mem_of_getElem? ht
  simp only [List.mem_toArray, List.mem_cons, List.not_mem_nil, or_false] at hm
  subst hm
  exact (show Tryz.prog.wantsStandIn 9 = false by kernel_rfl)

/-- The statement: the tied card. -/
theorem card : Rows.PathParsesCardSaid :=
  Claim7.holds_tied_plain_at .later [] _ _ _ _ said (fun _ h => by cases h) (by kernel_rfl) (fun _ h => by cases h) pathParses_row_tie rfl ⟨rfl, rfl⟩ (by kernel_rfl) rfl plain (by kernel_rfl)
end Go.Proofs.YtmcacmhjhejfeaaGreatDoor.pathParses
