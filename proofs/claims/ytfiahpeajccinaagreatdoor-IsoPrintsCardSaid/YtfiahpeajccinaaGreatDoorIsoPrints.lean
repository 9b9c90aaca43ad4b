/- P11.1: any isos' text is the document's, and is read as them, whatever stands behind a comma: the statement, proved. -/
import Derived.Test.YtfiahpeajccinaaGreatDoorCards
import Derived.Test.YtfiahpeajccinaaGreatDoorTie
import Derived.WalkKit
import Derived.ProofKit
import Derived.OpenShut
import Derived.ChangeOld
import Derived.ShutString
import Derived.Below
import Derived.LaidMore
import Derived.Lib.LaidTab
import Derived.Stop.Joined
import Derived.Stop.LaidErr
import Derived.SevenTiedAt
import Derived.Lay
import Derived.Test.YtfiahpeajccinaaGreatDoorQM
import Derived.Test.YtfiahpeajccinaaGreatDoorQN
import Derived.Test.YtfiahpeajccinaaGreatDoorQL
import Derived.Test.YtfiahpeajccinaaGreatDoorQE
import Derived.Test.YtfiahpeajccinaaGreatDoorQH
import Derived.Test.YtfiahpeajccinaaGreatDoorPI
namespace Go.Proofs.YtfiahpeajccinaaGreatDoor.isoPrints
open Go.ChangeShapes Go.WideShapes Go.ChangeAt Go.RowKit
open Go.ChangeMaps (open_string shut_string)
open Tk Pl
set_option linter.unusedVariables false

theorem own : ownKnob Tryz.prog.godebug = none := by kernel_rfl
theorem laidOut : laidOutB Tryz.prog = true := by kernel_rfl
theorem gRange : Tryz.prog.globalNamed "strconv.ErrRange" = some 2 := by kernel_rfl
theorem star : "*" ++ "errors.errorString" = "*errors.errorString" := by decide
theorem rowPtr (u : TypeId) (h : Tryz.prog.typeName? 3 u = some "*errors.errorString") : u = 230 :=
  typeName_ptr_named (nm := "errors.errorString") (by rw [star]; kernel_rfl) (by kernel_rfl) (by decide) u (by rw [star]; exact h)
/-- what the row's list gives -/
theorem errs {W : World} (h : laidMetH Tryz.prog Rows.isoPrintsRow.laid W) : RangeErr W := by
  have h' : laidMet Tryz.prog Rows.isoPrintsRow.laid W := h
  obtain ⟨a, s, hv, _⟩ := laid_sentinel h'.tail.tail.tail.tail gRange (by kernel_rfl) Tryz.underlying76 rowPtr Tryz.underlying230 Tryz.underlying232 rfl rfl Tryz.underlying9 (by kernel_rfl) (by kernel_rfl)
  exact ⟨_, _, hv⟩
theorem gPow5 : Tryz.prog.globalNamed "internal/strconv.uint64pow10" = some 0 := by kernel_rfl
/-- and its table -/
theorem table {W : World} (h : laidMetH Tryz.prog Rows.isoPrintsRow.laid W) : Lib.TabIs Tryz.prog W "internal/strconv.uint64pow10" .u64 Lib.pow10Tab := by
  have h' : laidMet Tryz.prog Rows.isoPrintsRow.laid W := h
  exact Lib.tabIs_of_head (rest := _) gPow5 (by kernel_rfl) Tryz.underlying203 Tryz.underlying179 (by kernel_rfl) (by kernel_rfl) h'.tail.tail

theorem cat3 (a : List UInt8) (m : ByteArray) : ((⟨a.toArray⟩ : ByteArray) ++ (⟨#[44]⟩ : ByteArray) ++ m).data.toList = a ++ (44 :: m.data.toList) := by
  rw [cat_data, cat_data, List.append_assoc]
  rfl
set_option maxRecDepth 100000 in
set_option maxHeartbeats 8000000 in
theorem walk (l : List Pk) (A : Option Addr) (c : Nat) (more : ByteArray) (w : World) (hnc : l.length ≤ c) (hcm : c ≤ maxLen) (hin : ∀ y ∈ l, y.a ≤ 255 ∧ -9223372036854775808 ≤ y.n ∧ y.n ≤ 9223372036854775807) (hr : PkRow w w.heap.size A l) (hs : more.size ≤ maxLen) (hE : RangeErr w) (htb : Lib.TabIs Tryz.prog w "internal/strconv.uint64pow10" .u64 Lib.pow10Tab) :
    Calls Tryz.prog 5 #[.slice A l.length c, .string more] w fun e w' => e = .returned (.bool true) ∧ Below w.heap.size w w' := by
  have HAW := Lib.hid (fun w1 (hb : Below w.heap.size w w1) => awake11_any w1 (hE.on hb) ((tab_of11 htb).on hb).2)
  have HE := Lib.hid (fun w1 (hb : Below w.heap.size w w1) => hE.on hb)
  have HT := Lib.hid (fun w1 (hb : Below w.heap.size w w1) => ((tab_of11 htb).on hb).raise hb.size)
  clear hE htb
  by_cases hsz : more.size ≤ 50
  case' neg =>
    have u1 : decide ((more.size : Int) > 50) = true := decide_eq_true (by omega)
    have u2 : decide ((50 : Int) < (more.size : Int)) = true := u1
    go_enter Tryz.func5, Tryz.ntmps5
    go_wp2_with fail
    refine (HAW.out _ (Below.refl _ _)).mono ?_
    rintro e w1 ⟨rfl, hb⟩
    have HB := Lib.hid hb
    clear hb
    go_wp2_with fail
    refine (HAW.out _ HB.out).mono ?_
    rintro e w2 ⟨rfl, hb⟩
    have HB2 := Lib.hid (HB.out.trans (hb.mono HB.out.size))
    clear hb
    go_wp2_with fail
    go_ret
    exact ⟨rfl, HB2.out⟩
  have u1 : decide ((more.size : Int) > 50) = false := decide_eq_false (by omega)
  have u2 : decide ((50 : Int) < (more.size : Int)) = false := u1
  by_cases hne : l = []
  case' pos =>
    subst hne
    have HL := Lib.hid (fun w1 => llist_nil A c w1 hcm)
    have HPR := Lib.hid (fun w1 (hb : Below w.heap.size w w1) => print_c [] none 0 w1 (Nat.le_refl _) (Nat.zero_le _) (fun x hx => (nomatch hx)) (fun x hx => (nomatch hx)) (HT.out w1 hb) (fun h => absurd rfl h))
    rw [show (⟨(prL []).toArray⟩ : ByteArray) = ⟨#[]⟩ from rfl] at HPR
    rw [show ([] : List Iz.Iso).length = 0 from rfl] at HPR
    rw [show ([] : List Pk).length = 0 from rfl]
    clear hr hin hnc
    go_enter Tryz.func5, Tryz.ntmps5
    go_wp2_with fail
    refine (HAW.out _ (Below.refl _ _)).mono ?_
    rintro e w1 ⟨rfl, hb⟩
    have HB := Lib.hid hb
    clear hb
    go_wp2_with fail
    refine (HL.out _).mono ?_
    rintro e w2 ⟨rfl, hb⟩
    have HB2 := Lib.hid (HB.out.trans (hb.mono HB.out.size))
    clear hb
    go_wp2_with fail
    refine (HPR.out _ HB2.out).mono ?_
    rintro e w3 ⟨rfl, hb⟩
    have HB3 := Lib.hid (HB2.out.trans (hb.mono HB2.out.size))
    clear hb
    go_wp2_with fail
    go_ret
    exact ⟨rfl, HB3.out⟩
  obtain ⟨m, hm⟩ : ∃ m, m = min l.length 6 := ⟨_, rfl⟩
  have HL := Lib.hid (fun w1 (hb : Below w.heap.size w w1) => llist_any l A c m w1 hm hnc hcm hin hne (hr.on hb))
  obtain ⟨L, hL⟩ : ∃ L, (l.take m).map ofPk = L := ⟨_, rfl⟩
  have hLne : L ≠ [] := by rw [← hL]; exact take_ne hm hne
  have hLl : L.length ≤ 6 := by rw [← hL, List.length_map, List.length_take]; omega
  have hF : ∀ x ∈ L, GoodP x ∧ SmP x ∧ Iz.use x.name ≠ 0 := by
    intro x hx
    rw [← hL] at hx
    obtain ⟨y, hy, rfl⟩ := List.mem_map.1 hx
    obtain ⟨h1, h2, h3⟩ := hin y (List.mem_of_mem_take hy)
    exact ofPk_facts h1 ⟨h2, h3⟩
  rw [hL] at HL
  have HF := Lib.hid hF
  clear hF hL hm hr hin
  have HIS := Lib.hid (show Iz.isos ((⟨(prL L).toArray⟩ : ByteArray) ++ (⟨#[44]⟩ : ByteArray) ++ more) 0 = .ok L (prL L).length by
    cases L with
    | nil => exact absurd rfl hLne
    | cons x r =>
      have h := isos_print (s := (⟨(prL (x :: r)).toArray⟩ : ByteArray) ++ (⟨#[44]⟩ : ByteArray) ++ more) (R := more.data.toList) (HF.out x (by simp)).1 (fun y hy => (HF.out y (List.mem_cons_of_mem _ hy)).1) (by rw [cat3, prL, List.append_assoc])
      rw [h, prL, List.length_append])
  have hpl : (prL L).length ≤ 6000 := by
    have := prL_len L (fun x hx => (HF.out x hx).2.1) L.length
    rw [List.take_length] at this
    omega
  obtain ⟨P, hP⟩ : ∃ P : ByteArray, (⟨(prL L).toArray⟩ : ByteArray) = P := ⟨_, rfl⟩
  have hPs : P.size = (prL L).length := by rw [← hP]; rfl
  have HPR := Lib.hid (fun (A' : Option Addr) (c' : Nat) (w1 : World) (h : L.length ≤ c') (hb : Below w.heap.size w w1) hp => print_c L A' c' w1 h hLl (fun x hx => (HF.out x hx).2.1) (fun x hx => (HF.out x hx).2.2) (HT.out w1 hb) hp)
  have HRP := Lib.hid (fun (b o c' : Nat) (w1 : World) (h : L.length ≤ c') (hb : b < w1.heap.size) hp => rprint_c L b o c' w1 h hLl hb (fun x hx => (HF.out x hx).2.1) (fun x hx => (HF.out x hx).2.2) hp)
  rw [hP] at HIS HPR HRP
  rw [← hPs] at HIS hpl
  have HPP := Lib.hid (show (P ++ (⟨#[44]⟩ : ByteArray) ++ more).size = P.size + 1 + more.size from by rw [cat_s, cat_s]; rfl)
  have HIP := Lib.hid (fun w1 h => iprefix_any (P ++ (⟨#[44]⟩ : ByteArray) ++ more) 0 w1 (by rw [HPP.out]; omega) (Nat.zero_le _) h)
  rw [HIS.out] at HIP
  have e0 : decide ((L.length : Int) = 0) = false := decide_eq_false (by intro h; exact hLne (List.length_eq_zero_iff.1 (by omega)))
  have e1 : ((L.length : Int) == 0) = false := by rw [beq_eq_false_iff_ne]; intro h; exact hLne (List.length_eq_zero_iff.1 (by omega))
  have zb1 : ¬ (9223372036854775807 < P.size + 1) := by omega
  have zb2 : ¬ ((9223372036854775807 : Int) < (P.size : Int) + 1) := by omega
  have zb3 : ¬ (9223372036854775807 < (P ++ (⟨#[44]⟩ : ByteArray)).size) := by rw [cat_s]; show ¬ (9223372036854775807 < P.size + 1); omega
  have zb4 : ¬ (9223372036854775807 < P.size + 1 + more.size) := by omega
  have zb5 : ¬ ((9223372036854775807 : Int) < (P.size : Int) + 1 + (more.size : Int)) := by omega
  have zb6 : ¬ (9223372036854775807 < (P ++ (⟨#[44]⟩ : ByteArray)).size + more.size) := by rw [cat_s]; show ¬ (9223372036854775807 < P.size + 1 + more.size); omega
  have zb7 : ¬ (9223372036854775807 < (P ++ (⟨#[44]⟩ : ByteArray) ++ more).size) := by rw [HPP.out]; omega
  clear hP hPs
  go_enter Tryz.func5, Tryz.ntmps5
  go_wp2_with fail
  refine (HAW.out _ (Below.refl _ _)).mono ?_
  rintro e w1 ⟨rfl, hb⟩
  have HB := Lib.hid hb
  clear hb
  go_wp2_with fail
  refine (HL.out _ HB.out).mono ?_
  rintro e w2 ⟨A', c', rfl, hrow, hb⟩
  have HB2 := Lib.hid (HB.out.trans (hb.mono HB.out.size))
  have HROW := Lib.hid hrow
  clear hb hrow
  go_wp2_with fail
  refine (lreal_any L A' c' _ _ hLl hLne HROW.out).mono ?_
  rintro e w3 ⟨v, rfl, hrz, hb⟩
  obtain ⟨Z, cz, rfl, hcz⟩ := hrz.shape3
  have HB3 := Lib.hid (HB2.out.trans (hb.mono HB2.out.size))
  have HROW := Lib.hid (HROW.out.below hb)
  have HRZ := Lib.hid hrz
  clear hb hrz
  go_wp2_with fail
  refine (HPR.out Z cz _ hcz HB3.out (by
    intro _
    obtain ⟨g, cc, ee, hg, _, hc⟩ := HRZ.out.cells hLne
    injection ee with ee _ _
    exact ⟨g, 0, ee, hg, fun k x hx => by rw [Nat.zero_add]; exact hc k x hx⟩)).mono ?_
  rintro e w4 ⟨rfl, hb⟩
  have HB4 := Lib.hid (HB3.out.trans (hb.mono HB3.out.size))
  have HROW := Lib.hid (HROW.out.below hb)
  clear hb
  go_wp2_with fail
  refine (HIP.out _ (HE.out _ HB4.out)).mono ?_
  rintro e w5 ⟨hb, B, d, base, _, rfl, hrow⟩
  have HB5 := Lib.hid (HB4.out.trans (hb.mono HB4.out.size))
  have HROW := Lib.hid (HROW.out.below hb)
  have HGOT := Lib.hid hrow
  clear hb hrow zb1 zb2 zb3 zb4 zb5 zb6 zb7
  obtain ⟨gi, ci, ei, hgi, hlci, hci⟩ := HROW.out.cells hLne
  have HCI := Lib.hid hci
  have HRP := Lib.hid (HRP.out gi 0 ci w5 hlci hgi HCI.out)
  have hei : (Value.slice A' L.length c') = (.slice (some ⟨gi, 0, none⟩) L.length ci) := ei
  injection hei with h1 _ h3
  subst h1 h3
  clear hci ei hgi
  go_wp2_with fail
  refine HRP.out.mono ?_
  rintro e w6 ⟨rfl, hb⟩
  have HB6 := Lib.hid (HB5.out.trans (hb.mono HB5.out.size))
  have HROW := Lib.hid (HROW.out.below hb)
  have HGOT := Lib.hid (HGOT.out.below hb)
  clear hb
  go_wp2_with fail
  refine (lsame_any L B (some ⟨gi, 0, none⟩) d c' base w1.heap.size w6 (by omega) hLne HGOT.out HROW.out).mono ?_
  rintro e w7 ⟨rfl, hb⟩
  have HB7 := Lib.hid (HB6.out.trans (hb.mono HB6.out.size))
  clear hb
  go_wp2_with fail
  go_ret
  exact ⟨rfl, HB7.out⟩

set_option maxRecDepth 100000 in
theorem lifted (os : Os) (started : os.Started) (H : Type) (enc : TypeId × Value → H) :
    ReturnsInHanded {} Tryz.checked os 5 .any (fun w args => (Rows.isoPrintsSpec.pre enc Tryz.prog Tryz.f5 [] false w args ∧ laidMetH Tryz.prog Rows.isoPrintsRow.laid w) ∧ sizedMet enc Tryz.prog Tryz.f5 (OpenSpec.ofChange Rows.isoPrintsSpec) false w args)
      (Rows.isoPrintsSpec.post enc Tryz.prog Tryz.f5 false true false false) := by
  refine returnsInHanded_of_change_and (C := Tryz.checked) (X := fun w _ => laidMetH Tryz.prog Rows.isoPrintsRow.laid w) (fun _ _ _ hh h => h.of_heap hh) own started (by kernel_rfl) Tryz.func5
    (ChangeSpec.witness_shaped (enc := enc) (C := Tryz.checked) (os := os) (X := fun w _ => laidMetH Tryz.prog Rows.isoPrintsRow.laid w) false (World.laidAll Tryz.prog os Rows.isoPrintsRow.laid) #[.slice none 0 0, .string ByteArray.empty] 8 (World.laidAll_os _ _ _) (World.shaped_of_ZipB (by kernel_rfl) (by kernel_rfl)) (by kernel_rfl) (by kernel_rfl) (by kernel_rfl) (by rw [MakeChecks.laidMetH_plain _ _ _ (by kernel_rfl)]; exact laidMet_laidAll _ (by kernel_rfl) (by kernel_rfl))) ?_
  intro W base args ds gs before hval0 hW _ _ hL _
  have hval : ∀ (j : Nat) t v, Tryz.f5.params[j]? = some t → args[j]? = some v → Value.okWide Tryz.prog W .any base t v := hval0
  have hW' := hW
  obtain ⟨p, q, hA0, hV, rfl, hfz, hnd⟩ := hW
  have hA : DataW.TrodAll enc Tryz.prog W 0 (fun _ => true) true Tryz.f5.params.toList args.toList ds p := hA0
  rw [Tryz.params5] at hA hval
  obtain ⟨v0, vs0, d0, ds0, p0, q0, hargs, rfl, rfl, h0, r0⟩ := trodAll_cons hA
  obtain ⟨v1, vs1, d1, ds1, p1, q1, rfl, rfl, rfl, h1, r1⟩ := trodAll_cons r0
  obtain ⟨rfl, rfl, rfl⟩ := trodAll_nil r1
  obtain rfl : args = #[v0, v1] := by cases args; simp_all
  obtain ⟨rfl, rfl⟩ := trodVars_none hV
  obtain ⟨a0, n0, c0, rfl⟩ := okWide_slice Tryz.underlying43 (hval 0 43 v0 rfl rfl)
  have k0 := h0
  have lt0 : ∀ x ∈ p0, x.block < W.heap.size := by obtain ⟨m, hm⟩ := k0; exact DataW.trod_lt m _ _ _ hm
  obtain ⟨f0, hf0⟩ := h0
  obtain ⟨hnc0, hcm0, l0, rfl, hb0, hr0⟩ := picks_open (show DataW.trod enc Tryz.prog W 0 _ _ f0 43 [.slice a0 n0 c0] = some (d0, p0) from hf0)
  obtain ⟨s1, rfl, rfl, rfl, w1⟩ := open_string Tryz.underlying9 (hval 1 9 v1 rfl rfl) h1
  clear hA0 hval0
  refine (walk l0 a0 c0 s1 W hnc0 hcm0 hb0 hr0 w1 (errs hL) (table hL)).mono fun e W' ⟨he, bel⟩ => ?_
  subst he
  exact ⟨_, rfl, _, _, _, [], _, [], hW', trodAll_mk1 (shut_bool Tryz.underlying4 _), (trodAll_cons_mk (Below.trod laidOut (by kernel_rfl) (of_decide_eq_true (by kernel_rfl)) k0 bel lt0) (trodAll_cons_mk (shut_string Tryz.underlying9 w1) trodAll_mk0)), rfl, bel.frame _, fun h => by cases h⟩

theorem said : Rows.IsoPrintsSaid :=
  OpenClaim.holds_of_wide 5 Tryz.f5 rfl rfl rfl rfl rfl rfl rfl ⟨rfl, rfl, rfl, rfl, rfl⟩ rfl rfl rfl rfl rfl (by kernel_rfl) Tryz.func5 (by kernel_rfl)
    (of_decide_eq_true (by kernel_rfl)) (by unfold Func.isWrapper; first | (rw [if_pos (by decide +kernel)]; kernel_rfl) | (rw [if_neg (by decide +kernel)]; exact ⟨rfl, rfl⟩))
    (fun os started H enc _ => lifted os started H enc)

/-- no parameter wants a stand-in -/
theorem plain (f : FuncId) (fn : Func) (hf : Tryz.pinned.checked.prog.funcNamed "cheval/chevallaw11.IsoPrints" = some f) (hfn : Tryz.pinned.checked.prog.funcs[f]? = some fn) :
    true = Tryz.pinned.checked.prog.looks [] ∧ ∀ (j : Nat) t, fn.params[j]? = some t → Tryz.pinned.checked.prog.wantsStandIn t = false := by
  obtain rfl : f = 5 := Option.some.inj ((show Tryz.prog.funcNamed "cheval/chevallaw11.IsoPrints" = some 5 by kernel_rfl).symm.trans hf) |>.symm
  obtain rfl : fn = Tryz.f5 := (Option.some.inj (Tryz.func5.symm.trans hfn)).symm
  refine ⟨by kernel_rfl, fun j t ht => ?_⟩
  rw [Tryz.params5] at ht
  have hm := Array.mem_of_getElem? ht
  simp only [List.mem_toArray, List.mem_cons, List.not_mem_nil, or_false] at hm
  rcases hm with rfl | rfl
  · exact (show Tryz.prog.wantsStandIn 43 = false by kernel_rfl)
  · exact (show Tryz.prog.wantsStandIn 9 = false by kernel_rfl)

/-- The statement: the tied card. -/
theorem card : Rows.IsoPrintsCardSaid :=
  Claim7.holds_tied_plain_at .later [] _ _ _ _ said (fun _ h => by cases h) (by kernel_rfl) (fun _ h => by cases h) isoPrints_row_tie rfl ⟨rfl, rfl⟩ (by kernel_rfl) rfl plain (by kernel_rfl)
end Go.Proofs.YtfiahpeajccinaaGreatDoor.isoPrints
