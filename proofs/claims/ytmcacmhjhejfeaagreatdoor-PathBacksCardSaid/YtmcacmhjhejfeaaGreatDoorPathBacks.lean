/- A path's text, printed, is the document's, and is parsed as it: for every path, at the library's variables as the card says. -/
import Derived.Test.YtmcacmhjhejfeaaGreatDoorCards
import Derived.Test.YtmcacmhjhejfeaaGreatDoorTie
import Derived.WalkKit
import Derived.ProofKit
import Derived.OpenShut
import Derived.ChangeOld
import Derived.ShutString
import Derived.Below
import Derived.LaidMore
import Derived.Lib.LaidTab
import Derived.Stop.Joined
import Derived.Stop.LaidErr
import Derived.SevenTiedAt
import Derived.Lay
import Derived.Test.YtmcacmhjhejfeaaGreatDoorWrap
import Derived.Test.YtmcacmhjhejfeaaGreatDoorPthB
import Derived.Test.YtmcacmhjhejfeaaGreatDoorPthD
import Derived.Test.YtmcacmhjhejfeaaGreatDoorSteps
import Derived.Test.YtmcacmhjhejfeaaGreatDoorAwake4
import Derived.Test.YtmcacmhjhejfeaaGreatDoorLTree
import Derived.Test.YtmcacmhjhejfeaaGreatDoorOpen
namespace Go.Proofs.YtmcacmhjhejfeaaGreatDoor.pathBacks
open Go.ChangeShapes Go.WideShapes Go.ChangeAt Go.RowKit
open Go.ChangeMaps (open_string shut_string)
open Tk Pl
set_option linter.unusedVariables false

theorem own : ownKnob Tryz.prog.godebug = none := by kernel_rfl
theorem laidOut : laidOutB Tryz.prog = true := by kernel_rfl
theorem gRange : Tryz.prog.globalNamed "strconv.ErrRange" = some 4 := by kernel_rfl
theorem star : "*" ++ "errors.errorString" = "*errors.errorString" := by decide
theorem rowPtr (u : TypeId) (h : Tryz.prog.typeName? 3 u = some "*errors.errorString") : u = 168 :=
  typeName_ptr_named (nm := "errors.errorString") (by rw [star]; kernel_rfl) (by kernel_rfl) (by decide) u (by rw [star]; exact h)
/-- a cell of a variable -/
theorem cell_of_var {W : World} {nm : String} {g : Nat} {v : Value} (hg : Tryz.prog.globalNamed nm = some g) (h : W.var? Tryz.prog nm = some #[v]) : W.cell? ⟨g, 0, none⟩ = some v := by
  unfold World.var? at h
  rw [hg] at h
  simp only [Option.bind_some] at h
  unfold World.cell?
  cases hh : W.heap[g]? with
  | none => rw [hh] at h; cases h
  | some o => rw [hh] at h; cases o <;> simp_all
theorem gSyntax : Tryz.prog.globalNamed "strconv.ErrSyntax" = some 3 := by kernel_rfl
/-- what the row's list gives -/
theorem errs {W : World} (h : laidMetH Tryz.prog Rows.pathBacksRow.laid W) : Errs W := by
  have h' : laidMet Tryz.prog Rows.pathBacksRow.laid W := h
  obtain ⟨a, s, hv, _⟩ := laid_sentinel h'.tail.tail.tail.tail gRange (by kernel_rfl) Tryz.underlying67 rowPtr Tryz.underlying168 Tryz.underlying170 rfl rfl Tryz.underlying9 (by kernel_rfl) (by kernel_rfl)
  obtain ⟨a2, s2, hv2, _⟩ := laid_sentinel h'.tail.tail.tail.tail.tail gSyntax (by kernel_rfl) Tryz.underlying67 rowPtr Tryz.underlying168 Tryz.underlying170 rfl rfl Tryz.underlying9 (by kernel_rfl) (by kernel_rfl)
  exact ⟨⟨_, _, cell_of_var gSyntax hv2⟩, ⟨_, _, cell_of_var gRange hv⟩⟩
theorem maxlen {W : World} (h : W.ShapedOpen Tryz.prog) : MaxLen W := Tryz.laysM146.s1_3 W h
theorem mk_lists (p : List ByteArray) : (lists p).map Sl.mk = p := by
  unfold lists; rw [List.map_map]; exact List.map_id p
theorem backs_split (p : List ByteArray) (h : ∀ s ∈ p, okText s) : ∃ l, Split (Sl.mk (Sl.txt (lists p))).data.toList l [] := Sl.okText_txt p h
set_option maxRecDepth 100000 in
set_option maxHeartbeats 8000000 in
theorem walk (p : List ByteArray) (P : Option Addr) (cp : Nat) (w : World) (hlc : p.length ≤ cp) (hpm : cp ≤ maxLen) (hp : SReads w (· < w.heap.size) P p) (hz : ∀ s ∈ p, s.size ≤ maxLen) (he : Errs w) (hm : MaxLen w) :
    Calls Tryz.prog 4 #[.slice P p.length cp] w fun e w' => e = .returned (.bool true) ∧ Below w.heap.size w w' := by
  have HP := Lib.hid hp
  have HE := Lib.hid he
  have HM := Lib.hid hm
  clear he hm hp hz
  go_enter Tryz.func4, Tryz.ntmps4
  go_wp2_with fail
  refine (awake4_any _ HE.out).mono ?_
  rintro e w1 ⟨rfl, hb1⟩
  have H1 := Lib.hid hb1
  clear hb1
  go_wp2_with fail
  refine (steps_any p P cp _ (by omega) (HP.out.on H1.out)).mono ?_
  rintro e w2 ⟨b, rfl, hst, hb2⟩
  have H2 := Lib.hid (H1.out.trans (hb2.mono H1.out.size))
  have HST := Lib.hid hst
  clear hb2 hst H1
  cases b with
  | false =>
    go_wp2_with fail
    refine (awake4_any _ (HE.out.on H2.out)).mono ?_
    rintro e w3 ⟨rfl, hb3⟩
    have H3 := Lib.hid (H2.out.trans (hb3.mono H2.out.size))
    clear hb3
    go_wp2_with fail
    go_ret
    exact ⟨rfl, H3.out⟩
  | true =>
    have hp60 := (HST.out rfl).1
    have hp10 := (HST.out rfl).2
    have HP6 := Lib.hid (show ∀ q ∈ p, q.size ≤ 1000 from fun q hq => by have := (hp60 q hq).1; omega)
    obtain ⟨l, hsp⟩ := backs_split p fun q hq => (hp60 q hq).2
    have hsz : (Sl.mk (Sl.txt (lists p))).size ≤ 100000 := by
      have h1 := Sl.txt_len 60 (lists p) (fun s hs => by
        obtain ⟨q, hq, rfl⟩ := List.mem_map.1 hs
        exact (hp60 q hq).1)
      have h2 : (lists p).length ≤ 10 := by unfold lists; rw [List.length_map]; exact hp10
      have h3 : (2 * 60 + 1) * (lists p).length ≤ (2 * 60 + 1) * 10 := Nat.mul_le_mul_left _ h2
      show (Sl.txt (lists p)).length ≤ _
      omega
    have HA := Lib.hid (fun w hm => parse_any4 (Sl.mk (Sl.txt (lists p))) l [] hsp hsz w hm)
    rw [prs_yes rfl, Sl.pr_txt] at HA
    have HTT := Lib.hid (bl_eq (a := Sl.mk (Sl.txt (lists p))) rfl)
    have hll : (lists p).length = p.length := by unfold lists; rw [List.length_map]
    clear hp60 HST hsp hsz
    go_wp2_with fail
    refine (print_any4 p P cp _ (by omega) HP6.out (HP.out.on H2.out) (HM.out.on H2.out)).mono ?_
    rintro e w3 ⟨rfl, hb3⟩
    have H3 := Lib.hid (H2.out.trans (hb3.mono H2.out.size))
    clear hb3 H2
    go_wp2_with fail
    refine (HA.out _ (HM.out.on H3.out)).mono ?_
    rintro e w4 ⟨⟨A, c, rfl, hc, hrd⟩, hb4⟩
    rw [mk_lists] at hrd
    rw [hll] at hc ⊢
    have H4 := Lib.hid (H3.out.trans (hb4.mono H3.out.size))
    have HR := Lib.hid hrd
    clear hb4 hrd HA H3
    go_wp2_with fail
    refine (rprint_any4 p P cp _ (by omega) HP6.out (HP.out.on H4.out)).mono ?_
    rintro e w5 ⟨rfl, hb5⟩
    have H5 := Lib.hid (H4.out.trans (hb5.mono H4.out.size))
    have HR5 := Lib.hid (HR.out.on hb5)
    have tt := HTT.out
    clear hb5 HR H4
    generalize Sl.mk (Sl.txt (lists p)) = S at *
    go_wp2_with fail
    refine (same_yes4 p A c P cp _ (by omega) HR5.out (HP.out.on H5.out)).mono ?_
    rintro e w6 ⟨rfl, hb6⟩
    have H6 := Lib.hid (H5.out.trans (hb6.mono H5.out.size))
    clear hb6
    go_wp2_with fail
    go_ret
    exact ⟨rfl, H6.out⟩

set_option maxRecDepth 100000 in
theorem lifted (os : Os) (started : os.Started) (H : Type) (enc : TypeId × Value → H) :
    ReturnsInHanded {} Tryz.checked os 4 .any (fun w args => (Rows.pathBacksSpec.pre enc Tryz.prog Tryz.f4 [] false w args ∧ laidMetH Tryz.prog Rows.pathBacksRow.laid w) ∧ sizedMet enc Tryz.prog Tryz.f4 (OpenSpec.ofChange Rows.pathBacksSpec) false w args)
      (Rows.pathBacksSpec.post enc Tryz.prog Tryz.f4 false true false false) := by
  refine wrap_shaped (C := Tryz.checked) (X := fun w _ => laidMetH Tryz.prog Rows.pathBacksRow.laid w) (fun _ _ _ hh h => h.of_heap hh) own started (by kernel_rfl) Tryz.func4
    (ChangeSpec.witness_shaped (enc := enc) (C := Tryz.checked) (os := os) (X := fun w _ => laidMetH Tryz.prog Rows.pathBacksRow.laid w) false (World.laidAll Tryz.prog os Rows.pathBacksRow.laid) #[.slice none 0 0] 8 (World.laidAll_os _ _ _) (World.shaped_of_ZipB (by kernel_rfl) (by kernel_rfl)) (by kernel_rfl) (by kernel_rfl) (by kernel_rfl) (by rw [MakeChecks.laidMetH_plain _ _ _ (by kernel_rfl)]; exact laidMet_laidAll _ (by kernel_rfl) (by kernel_rfl))) ?_
  intro W base args ds gs before hval0 hW hL hSh
  have hval : ∀ (j : Nat) t v, Tryz.f4.params[j]? = some t → args[j]? = some v → Value.okWide Tryz.prog W .any base t v := hval0
  have hW' := hW
  obtain ⟨p, q, hA0, hV, rfl, hfz, hnd⟩ := hW
  have hA : DataW.TrodAll enc Tryz.prog W 0 (fun _ => true) true Tryz.f4.params.toList args.toList ds p := hA0
  rw [Tryz.params4] at hA hval
  obtain ⟨v0, vs0, d0, ds0, p0, q0, hargs, rfl, rfl, h0, r0⟩ := trodAll_cons hA
  obtain ⟨rfl, rfl, rfl⟩ := trodAll_nil r0
  obtain rfl : args = #[v0] := by cases args; simp_all
  obtain ⟨rfl, rfl⟩ := trodVars_none hV
  obtain ⟨a0, n0, c0, rfl⟩ := okWide_slice Tryz.underlying23 (hval 0 23 v0 rfl rfl)
  have k0 := h0
  have lt0 : ∀ x ∈ p0, x.block < W.heap.size := by obtain ⟨m, hm⟩ := k0; exact DataW.trod_lt m _ _ _ hm
  obtain ⟨f0, hf0⟩ := h0
  obtain ⟨hnc0, hcm0, l0, rfl, hr0, hz0⟩ := strs_open (show DataW.trod enc Tryz.prog W 0 _ _ f0 23 [.slice a0 n0 c0] = some (d0, p0) from hf0)
  clear hA0 hval0
  refine (walk l0 a0 c0 W hnc0 hcm0 hr0 hz0 (errs hL) (maxlen hSh)).mono fun e W' ⟨he, bel⟩ => ?_
  subst he
  exact ⟨_, rfl, _, _, _, [], _, [], hW', trodAll_mk1 (shut_bool Tryz.underlying4 _), (trodAll_cons_mk (Below.trod laidOut (by kernel_rfl) (of_decide_eq_true (by kernel_rfl)) k0 bel lt0) trodAll_mk0), rfl, bel.frame _, fun h => by cases h⟩

theorem said : Rows.PathBacksSaid :=
  OpenClaim.holds_of_wide 4 Tryz.f4 rfl rfl rfl rfl rfl rfl rfl ⟨rfl, rfl, rfl, rfl, rfl⟩ rfl rfl rfl rfl rfl (by kernel_rfl) Tryz.func4 (by kernel_rfl)
    (of_decide_eq_true (by kernel_rfl)) (by unfold Func.isWrapper; first | (rw [if_pos (by decide +kernel)]; kernel_rfl) | (rw [if_neg (by decide +kernel)]; exact ⟨rfl, rfl⟩))
    (fun os started H enc _ => lifted os started H enc)

/-- no parameter wants a stand-in -/
theorem plain (f : FuncId) (fn : Func) (hf : Tryz.pinned.checked.prog.funcNamed "cheval/chevallaw04.PathBacks" = some f) (hfn : Tryz.pinned.checked.prog.funcs[f]? = some fn) :
    true = Tryz.pinned.checked.prog.looks [] ∧ ∀ (j : Nat) t, fn.params[j]? = some t → Tryz.pinned.checked.prog.wantsStandIn t = false := by
  obtain rfl : f = 4 := Option.some.inj ((show Tryz.prog.funcNamed "cheval/chevallaw04.PathBacks" = some 4 by kernel_rfl).symm.trans hf) |>.symm
  obtain rfl : fn = Tryz.f4 := (Option.some.inj (Tryz.func4.symm.trans hfn)).symm
  refine ⟨by kernel_rfl, fun j t ht => ?_⟩
  rw [Tryz.params4] at ht
  have hm := Array.mem_of_getElem? ht
  simp only [List.mem_toArray, List.mem_cons, List.not_mem_nil, or_false] at hm
  subst hm
  exact (show Tryz.prog.wantsStandIn 23 = false by kernel_rfl)

/-- The statement: the tied card. -/
theorem card : Rows.PathBacksCardSaid :=
  Claim7.holds_tied_plain_at .later [] _ _ _ _ said (fun _ h => by cases h) (by kernel_rfl) (fun _ h => by cases h) pathBacks_row_tie rfl ⟨rfl, rfl⟩ (by kernel_rfl) rfl plain (by kernel_rfl)
end Go.Proofs.YtmcacmhjhejfeaaGreatDoor.pathBacks
