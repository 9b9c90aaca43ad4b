/- DrawPrints: any sequence's text is the document's, and is parsed as it. No conditions: any slice of ints (the law itself asks nothing of more than 100 numbers); the library's variables are tied to the program's own text. -/
import Derived.Test.YtgblenoaeanogaaGreatDoorCards
import Derived.Test.YtgblenoaeanogaaGreatDoorTie
import Derived.WalkKit
import Derived.ProofKit
import Derived.OpenShut
import Derived.ChangeOld
import Derived.ShutString
import Derived.Below
import Derived.LaidMore
import Derived.Lib.LaidTab
import Derived.Stop.Joined
import Derived.Stop.LaidErr
import Derived.SevenTiedAt
import Derived.Lay
import Derived.Test.YtgblenoaeanogaaGreatDoorDG
import Derived.Test.YtgblenoaeanogaaGreatDoorDF
import Derived.Test.YtgblenoaeanogaaGreatDoorDH
set_option linter.unusedVariables false
set_option maxRecDepth 100000
set_option maxHeartbeats 8000000
open Go.Lib (hid)
namespace Go.Proofs.YtgblenoaeanogaaGreatDoor.drawPrints
open Go.ChangeShapes Go.WideShapes Go.ChangeAt Go.RowKit
open Go.ChangeMaps (open_string shut_string)
open Tk Pl
theorem own : ownKnob Tryz.prog.godebug = none := by kernel_rfl
theorem laidOut : laidOutB Tryz.prog = true := by kernel_rfl
theorem gRange : Tryz.prog.globalNamed "strconv.ErrRange" = some 7 := by kernel_rfl
theorem star : "*" ++ "errors.errorString" = "*errors.errorString" := by decide
theorem rowPtr (u : TypeId) (h : Tryz.prog.typeName? 3 u = some "*errors.errorString") : u = 253 :=
 typeName_ptr_named (nm := "errors.errorString") (by rw [star]; kernel_rfl) (by kernel_rfl) (by decide) u (by rw [star]; exact h)
theorem errs {W : World} (h : laidMetH Tryz.prog Rows.drawPrintsRow.laid W) : RangeErr W := by
 have h' : laidMet Tryz.prog Rows.drawPrintsRow.laid W := h
 obtain ⟨a, s, hv, _⟩ := laid_sentinel h'.tail.tail.tail.tail gRange (by kernel_rfl) Tryz.underlying116 rowPtr Tryz.underlying253 Tryz.underlying255 rfl rfl Tryz.underlying9 (by kernel_rfl) (by kernel_rfl)
 exact ⟨_, _, hv⟩
theorem gPow5 : Tryz.prog.globalNamed "internal/strconv.uint64pow10" = some 0 := by kernel_rfl
theorem table {W : World} (h : laidMetH Tryz.prog Rows.drawPrintsRow.laid W) : Lib.TabIs Tryz.prog W "internal/strconv.uint64pow10" .u64 Lib.pow10Tab := by
 have h' : laidMet Tryz.prog Rows.drawPrintsRow.laid W := h
 exact Lib.tabIs_of_head (rest := _) gPow5 (by kernel_rfl) Tryz.underlying203 Tryz.underlying70 (by kernel_rfl) (by kernel_rfl) h'.tail.tail
theorem walk (l : List Int) (A : Option Addr) (c : Nat) (w : World) (hn : A = none → c = 0 ∧ l = []) (hb : ∀ y ∈ l, -9223372036854775808 ≤ y ∧ y ≤ 9223372036854775807) (hr : RI w w.heap.size A l) (hE : RangeErr w) (htb : Lib.TabIs Tryz.prog w "internal/strconv.uint64pow10" .u64 Lib.pow10Tab) :
 Calls Tryz.prog 4 #[.slice A l.length c] w fun e w' => e = .returned (.bool true) ∧ Below w.heap.size w w' := by
 have HE := hid hE
 have HTB := hid (tab_of htb)
 have HR := hid hr
 have HIN := hid (show ∀ x ∈ l, Tk.In64 x from hb)
 clear hn hb hr hE htb
 by_cases h100 : l.length ≤ 100
 ·
  have t0 : decide ((100 : Int) < (l.length : Int)) = false := decide_eq_false (by omega)
  cases hg : goodD l
  ·
   have HG := hid hg
   clear hg
   go_enter Tryz.func4, Tryz.ntmps4
   go_wp2_with fail
   refine (awake12_any _).mono ?_
   rintro e w1 ⟨rfl, hb1⟩
   have HB1 := hid hb1
   have HR1 := hid (HR.out.onto hb1)
   clear hb1
   go_wp2_with fail
   refine (rgoodD_any l A c _ (by omega) HR1.out).mono ?_
   rintro e w2 ⟨rfl, rfl⟩
   rw [HG.out]
   go_wp2_with fail
   refine (awake12_any _).mono ?_
   rintro e w2 ⟨rfl, hb2⟩
   have HB2 := hid (HB1.out.trans (hb2.mono HB1.out.size))
   clear hb2
   go_wp2_with fail
   go_ret
   exact ⟨rfl, HB2.out⟩
  ·
   have HG := hid hg
   clear hg
   have htl : (seqT l).txt.length ≤ 2400 := by
    have h := txK_len HIN.out (Nat.le_refl l.length)
    rw [seq_txt]
    unfold txK at h
    rw [List.take_length] at h
    simp only [List.length_cons, List.length_append, List.length_nil] at h ⊢
    omega
   have HRD := hid (show ansD (Rd.parseR (mkB (seqT l).txt) 1) = (l, 0, 0) from by
    have h := seq_read (s := mkB (seqT l).txt) (l := l) HIN.out (by show (seqT l).txt.toArray.toList = _; simp) (by show (seqT l).txt.toArray.size ≤ 16384; simp; omega)
    rw [h, if_neg (by omega), if_pos HG.out])
   have HPR := hid (fun w' (hb : Below w.heap.size w w') => dprint_any l A c w' h100 HIN.out htl (HR.out.onto hb) (HTB.out.on hb).2)
   have HRP := hid (fun w' (hb : Below w.heap.size w w') => rdprint_any l A c w' h100 HIN.out (HR.out.onto hb))
   have HPA := hid (fun w' (hb : Below w.heap.size w w') => dparse_any (mkB (seqT l).txt) w' (HE.out.on hb))
   rw [HRD.out] at HPA
   clear HRD htl
   generalize mkB (seqT l).txt = S at *
   go_enter Tryz.func4, Tryz.ntmps4
   go_wp2_with fail
   refine (awake12_any _).mono ?_
   rintro e w1 ⟨rfl, hb1⟩
   have HB1 := hid hb1
   have HR1 := hid (HR.out.onto hb1)
   clear hb1
   go_wp2_with fail
   refine (rgoodD_any l A c _ (by omega) HR1.out).mono ?_
   rintro e w2 ⟨rfl, rfl⟩
   rw [HG.out]
   go_wp2_with fail
   refine (HPR.out _ HB1.out).mono ?_
   rintro e w3 ⟨rfl, hb⟩
   have HB3 := hid (HB1.out.trans (hb.mono HB1.out.size))
   clear hb
   go_wp2_with fail
   refine (HPA.out _ HB3.out).mono ?_
   rintro e w4 ⟨B, d, rfl, hri, hb⟩
   have HB4 := hid (HB3.out.trans (hb.mono HB3.out.size))
   have HRI := hid hri
   clear hri hb
   go_wp2_with fail
   refine (HRP.out _ HB4.out).mono ?_
   rintro e w5 ⟨rfl, hb⟩
   have HB5 := hid (HB4.out.trans (hb.mono HB4.out.size))
   have HRI5 := hid (HRI.out.onto hb)
   have HR5 := hid (HR.out.onto HB5.out)
   clear hb
   have e2 : (S.toList == S.toList) = true := beq_self_eq_true _
   go_wp2_with fail
   refine (lisI_any l B A d c _ (by omega) HRI5.out HR5.out).mono ?_
   rintro e w6 ⟨rfl, hb⟩
   have HB6 := hid (HB5.out.trans (hb.mono HB5.out.size))
   clear hb
   go_wp2_with fail
   go_ret
   exact ⟨rfl, HB6.out⟩
 ·
  have t0 : decide ((100 : Int) < (l.length : Int)) = true := decide_eq_true (by omega)
  go_enter Tryz.func4, Tryz.ntmps4
  go_wp2_with fail
  refine (awake12_any _).mono ?_
  rintro e w1 ⟨rfl, hb1⟩
  have HB1 := hid hb1
  clear hb1
  go_wp2_with fail
  refine (awake12_any _).mono ?_
  rintro e w2 ⟨rfl, hb2⟩
  have HB2 := hid (HB1.out.trans (hb2.mono HB1.out.size))
  clear hb2
  go_wp2_with fail
  go_ret
  exact ⟨rfl, HB2.out⟩
theorem lifted (os : Os) (started : os.Started) (H : Type) (enc : TypeId × Value → H) :
 ReturnsInHanded {} Tryz.checked os 4 .any (fun w args => (Rows.drawPrintsSpec.pre enc Tryz.prog Tryz.f4 [] false w args ∧ laidMetH Tryz.prog Rows.drawPrintsRow.laid w) ∧ sizedMet enc Tryz.prog Tryz.f4 (OpenSpec.ofChange Rows.drawPrintsSpec) false w args)
  (Rows.drawPrintsSpec.post enc Tryz.prog Tryz.f4 false true false false) := by
 refine returnsInHanded_of_change_and (C := Tryz.checked) (X := fun w _ => laidMetH Tryz.prog Rows.drawPrintsRow.laid w) (fun _ _ _ hh h => h.of_heap hh) own started (by kernel_rfl) Tryz.func4
  (ChangeSpec.witness_shaped (enc := enc) (C := Tryz.checked) (os := os) (X := fun w _ => laidMetH Tryz.prog Rows.drawPrintsRow.laid w) false (World.laidAll Tryz.prog os Rows.drawPrintsRow.laid) #[.slice none 0 0] 8 (World.laidAll_os _ _ _) (World.shaped_of_ZipB (by kernel_rfl) (by kernel_rfl)) (by kernel_rfl) (by kernel_rfl) (by kernel_rfl) (by rw [MakeChecks.laidMetH_plain _ _ _ (by kernel_rfl)]; exact laidMet_laidAll _ (by kernel_rfl) (by kernel_rfl))) ?_
 intro W base args ds gs before hval0 hW _ _ hL _
 have hval : ∀ (j : Nat) t v, Tryz.f4.params[j]? = some t → args[j]? = some v → Value.okWide Tryz.prog W .any base t v := hval0
 have hW' := hW
 obtain ⟨p, q, hA0, hV, rfl, hfz, hnd⟩ := hW
 have hA : DataW.TrodAll enc Tryz.prog W 0 (fun _ => true) true Tryz.f4.params.toList args.toList ds p := hA0
 rw [Tryz.params4] at hA hval
 obtain ⟨v0, vs0, d0, ds0, p0, q0, hargs, rfl, rfl, h0, r0⟩ := trodAll_cons hA
 obtain ⟨rfl, rfl, rfl⟩ := trodAll_nil r0
 obtain rfl : args = #[v0] := by cases args; simp_all
 obtain ⟨rfl, rfl⟩ := trodVars_none hV
 obtain ⟨a0, n0, c0, rfl⟩ := okWide_slice Tryz.underlying23 (hval 0 23 v0 rfl rfl)
 have k0 := h0
 have lt0 : ∀ x ∈ p0, x.block < W.heap.size := by obtain ⟨m, hm⟩ := k0; exact DataW.trod_lt m _ _ _ hm
 obtain ⟨f0, hf0⟩ := h0
 obtain ⟨l0, rfl, _, hm0, hn0, hw0, hr0⟩ := row_open Tryz.underlying23 Tryz.underlying3 (by kernel_rfl) (show DataW.trod enc Tryz.prog W 0 _ _ f0 23 [.slice a0 n0 c0] = some (d0, p0) from hf0)
 clear hA0 hval0
 refine (walk l0 a0 c0 W hn0 (fun y hy => in64_wf (hw0 y hy)) hr0 (errs hL) (table hL)).mono fun e W' ⟨he, bel⟩ => ?_
 subst he
 exact ⟨_, rfl, _, _, _, [], _, [], hW', trodAll_mk1 (shut_bool Tryz.underlying4 _), (trodAll_cons_mk (Below.trod laidOut (by kernel_rfl) (of_decide_eq_true (by kernel_rfl)) k0 bel lt0) trodAll_mk0), rfl, bel.frame _, fun h => by cases h⟩
theorem said : Rows.DrawPrintsSaid :=
 OpenClaim.holds_of_wide 4 Tryz.f4 rfl rfl rfl rfl rfl rfl rfl ⟨rfl, rfl, rfl, rfl, rfl⟩ rfl rfl rfl rfl rfl (by kernel_rfl) Tryz.func4 (by kernel_rfl)
  (of_decide_eq_true (by kernel_rfl)) (by unfold Func.isWrapper; first | (rw [if_pos (by decide +kernel)]; kernel_rfl) | (rw [if_neg (by decide +kernel)]; exact ⟨rfl, rfl⟩))
  (fun os started H enc _ => lifted os started H enc)
theorem plain (f : FuncId) (fn : Func) (hf : Tryz.pinned.checked.prog.funcNamed "cheval/chevallaw12.DrawPrints" = some f) (hfn : Tryz.pinned.checked.prog.funcs[f]? = some fn) :
 true = Tryz.pinned.checked.prog.looks [] ∧ ∀ (j : Nat) t, fn.params[j]? = some t → Tryz.pinned.checked.prog.wantsStandIn t = false := by
 obtain rfl : f = 4 := Option.some.inj ((show Tryz.prog.funcNamed "cheval/chevallaw12.DrawPrints" = some 4 by kernel_rfl).symm.trans hf) |>.symm
 obtain rfl : fn = Tryz.f4 := (Option.some.inj (Tryz.func4.symm.trans hfn)).symm
 refine ⟨by kernel_rfl, fun j t ht => ?_⟩
 rw [Tryz.params4] at ht
 have hm := Array.mem_of_getElem? ht
 simp only [List.mem_toArray, List.mem_cons, List.not_mem_nil, or_false] at hm
 subst hm
 exact (show Tryz.prog.wantsStandIn 23 = false by kernel_rfl)
theorem card : Rows.DrawPrintsCardSaid :=
 Claim7.holds_tied_plain_at .later [] _ _ _ _ said (fun _ h => by cases h) (by kernel_rfl) (fun _ h => by cases h) drawPrints_row_tie rfl ⟨rfl, rfl⟩ (by kernel_rfl) rfl plain (by kernel_rfl)
end Go.Proofs.YtgblenoaeanogaaGreatDoor.drawPrints
