/- TokenAlls: the tokens of any bytes, or the place and the kind of what is wrong first, are the document's. The seven listed variables of the library (two tables of math/bits, one of internal/strconv, two of unicode/utf8, strconv.ErrRange, strconv.ErrSyntax) start as the program's text lays them: tied by the card. No other condition. -/
import Derived.Test.YtnenipgpncomeaaGreatDoorCards
import Derived.Test.YtnenipgpncomeaaGreatDoorTie
import Derived.WalkKit
import Derived.ProofKit
import Derived.OpenShut
import Derived.ChangeOld
import Derived.ShutString
import Derived.Below
import Derived.LaidMore
import Derived.Lib.LaidTab
import Derived.Stop.Joined
import Derived.Stop.LaidErr
import Derived.SevenTiedAt
import Derived.Lay
import Derived.Test.YtnenipgpncomeaaGreatDoorAwake5
import Derived.Test.YtnenipgpncomeaaGreatDoorRG
import Derived.Test.YtnenipgpncomeaaGreatDoorTokCh
namespace Go.Proofs.YtnenipgpncomeaaGreatDoor.tokenAlls
open Go.ChangeShapes Go.WideShapes Go.ChangeAt Go.RowKit
open Go.ChangeMaps (open_string shut_string)
open Tk Pl
set_option linter.unusedVariables false

theorem own : ownKnob Tryz.prog.godebug = none := by kernel_rfl
theorem laidOut : laidOutB Tryz.prog = true := by kernel_rfl
theorem gRange : Tryz.prog.globalNamed "strconv.ErrRange" = some 4 := by kernel_rfl
theorem star : "*" ++ "errors.errorString" = "*errors.errorString" := by decide
theorem rowPtr (u : TypeId) (h : Tryz.prog.typeName? 3 u = some "*errors.errorString") : u = 146 :=
  typeName_ptr_named (nm := "errors.errorString") (by rw [star]; kernel_rfl) (by kernel_rfl) (by decide) u (by rw [star]; exact h)
/-- what the row's list gives -/
theorem errs {W : World} (h : laidMetH Tryz.prog Rows.tokenAllsRow.laid W) : RangeErr W := by
  have h' : laidMet Tryz.prog Rows.tokenAllsRow.laid W := h
  obtain ⟨a, s, hv, _⟩ := laid_sentinel h'.tail.tail.tail.tail gRange (by kernel_rfl) Tryz.underlying87 rowPtr Tryz.underlying146 Tryz.underlying148 rfl rfl Tryz.underlying9 (by kernel_rfl) (by kernel_rfl)
  exact ⟨_, _, hv⟩

set_option maxRecDepth 100000 in
set_option maxHeartbeats 8000000 in
theorem walk (s : ByteArray) (w : World) (hz : s.size ≤ maxLen) (hr : RangeErr w) :
    Calls Tryz.prog 3 #[.string s] w fun e w' => e = .returned (.bool true) ∧ Below w.heap.size w w' := by
  have HR := Lib.hid hr
  clear hr
  by_cases h4 : s.size ≤ 400
  · have u0 : decide ((s.size : Int) > 400) = false := decide_eq_false (by omega)
    have u0' : decide ((400 : Int) < (s.size : Int)) = false := decide_eq_false (by omega)
    have u0n : decide (400 < s.size) = false := decide_eq_false (by omega)
    go_enter Tryz.func3, Tryz.ntmps3
    go_wp2_with fail
    refine (awake5_any _ HR.out).mono ?_
    rintro e w1 ⟨rfl, hb1⟩
    have H1 := Lib.hid hb1
    clear hb1
    go_wp2_with fail
    have HAL := Lib.hid (fun w hr => all_any5 s w (by omega) hr)
    have HRA := Lib.hid (fun w => rall_any s w h4)
    have HLEN := Lib.hid (fun l (h : all s 0 [] = .toks l) => (ch_len l 0 (Nat.zero_le _) (all_ch h)).2)
    generalize all s 0 [] = al at *
    refine (HAL.out _ (HR.out.on H1.out)).mono ?_
    rintro e w2 ⟨hcase, hb2⟩
    have H2 := Lib.hid (H1.out.trans (hb2.mono H1.out.size))
    clear hb2
    cases al with
    | bad p c =>
      obtain rfl := hcase
      go_wp2_with fail
      refine (HRA.out _).mono ?_
      rintro e w3 ⟨hcase, hb3⟩
      have H3 := Lib.hid (H2.out.trans (hb3.mono H2.out.size))
      clear hb3
      obtain rfl := hcase
      have v1 : (c != c) = false := by simp
      have v2 : ((p : Int) != (p : Int)) = false := by simp
      go_wp2_with fail
      go_loop [47] (fun x => x = .int .i64 0) (fun _ => 0)
      case atStart => rfl
      case round =>
        obtain rfl := hrel
        go_wp2_with fail
        go_ret
        exact ⟨rfl, H3.out⟩
    | toks l =>
      obtain ⟨A, c, rfl, hc, hrd⟩ := hcase
      have HRD := Lib.hid hrd
      clear hrd
      go_wp2_with fail
      refine (HRA.out _).mono ?_
      rintro e w3 ⟨hcase, hb3⟩
      have H3 := Lib.hid (H2.out.trans (hb3.mono H2.out.size))
      have HRD3 := Lib.hid (HRD.out.on hb3)
      clear hb3 HRD
      obtain ⟨A2, c2, rfl, hc2, hrd2⟩ := hcase
      have HRE := Lib.hid hrd2
      clear hrd2
      have hlen := HLEN.out l rfl
      generalize hn : l.length = n at *
      have HN := Lib.hid hn
      clear hn
      have v2 : ((n : Int) != (n : Int)) = false := by simp
      go_wp2_with fail
      go_loopw [47] (fun y wr => ∃ k : Nat, k ≤ n ∧ y = .int .i64 k ∧ Below w3.heap.size w3 wr) (fun y _ => n - (intOf y).toNat)
      case atStart => exact ⟨0, Nat.zero_le _, rfl, Below.refl _ _⟩
      case round =>
        obtain ⟨k, hk, rfl, hbel⟩ := hrel
        have HBEL := Lib.hid hbel
        by_cases hkn : k < n
        · have hlk : k < l.length := by rw [HN.out]; exact hkn
          have hne : l ≠ [] := by rintro rfl; simp at hlk
          obtain ⟨t, ht⟩ : ∃ t, l[k]? = some t := ⟨_, List.getElem?_eq_getElem hlk⟩
          obtain ⟨b1, rfl, hlt1, hcell1⟩ := HRD3.out hne
          obtain ⟨b2, rfl, hlt2, hcell2⟩ := HRE.out hne
          have d := hcell1 k t ht
          have g := hcell2 k t ht
          rw [Nat.mul_comm 5 k] at d g
          have HSS := Lib.hid (show ∀ w', Below wr.heap.size wr w' → (w'.cell? ⟨b1, k * 5, none⟩ = some (.int .i64 t.kind) ∧ w'.cell? ⟨b1, k * 5 + 1, none⟩ = some (.string t.text) ∧ w'.cell? ⟨b1, k * 5 + 2, none⟩ = some (.int .i64 t.num) ∧ w'.cell? ⟨b1, k * 5 + 3, none⟩ = some (.int .i64 t.at_) ∧ w'.cell? ⟨b1, k * 5 + 4, none⟩ = some (.int .i64 t.fin)) ∧ (w'.cell? ⟨b2, k * 5, none⟩ = some (.int .i64 t.kind) ∧ w'.cell? ⟨b2, k * 5 + 1, none⟩ = some (.string t.text) ∧ w'.cell? ⟨b2, k * 5 + 2, none⟩ = some (.int .i64 t.num) ∧ w'.cell? ⟨b2, k * 5 + 3, none⟩ = some (.int .i64 t.at_) ∧ w'.cell? ⟨b2, k * 5 + 4, none⟩ = some (.int .i64 t.fin)) from fun w' hb => by
            have h9 := HBEL.out.trans (hb.mono HBEL.out.size)
            exact ⟨⟨(h9.cell (p := ⟨b1, k * 5, none⟩) hlt1).trans d.1, (h9.cell (p := ⟨b1, k * 5 + 1, none⟩) hlt1).trans d.2.1, (h9.cell (p := ⟨b1, k * 5 + 2, none⟩) hlt1).trans d.2.2.1, (h9.cell (p := ⟨b1, k * 5 + 3, none⟩) hlt1).trans d.2.2.2.1, (h9.cell (p := ⟨b1, k * 5 + 4, none⟩) hlt1).trans d.2.2.2.2⟩, ⟨(h9.cell (p := ⟨b2, k * 5, none⟩) hlt2).trans g.1, (h9.cell (p := ⟨b2, k * 5 + 1, none⟩) hlt2).trans g.2.1, (h9.cell (p := ⟨b2, k * 5 + 2, none⟩) hlt2).trans g.2.2.1, (h9.cell (p := ⟨b2, k * 5 + 3, none⟩) hlt2).trans g.2.2.2.1, (h9.cell (p := ⟨b2, k * 5 + 4, none⟩) hlt2).trans g.2.2.2.2⟩⟩)
          have i1 : (k : Int) < (n : Int) := by omega
          have i2 : (0 : Int) ≤ (k : Int) := by omega
          have u1 : decide ((k : Int) < (n : Int)) = true := decide_eq_true i1
          have u2 : decide (k < n) = true := decide_eq_true hkn
          have HBc := Lib.hid (Below.refl wr.heap.size wr)
          clear hbel hne d g ht hcell1 hcell2 hlk
          go_upto_region 10 with fail
          go_region_held3 (fun w' => (w'.cell? ⟨b1, k * 5, none⟩ = some (.int .i64 t.kind) ∧ w'.cell? ⟨b1, k * 5 + 1, none⟩ = some (.string t.text) ∧ w'.cell? ⟨b1, k * 5 + 2, none⟩ = some (.int .i64 t.num) ∧ w'.cell? ⟨b1, k * 5 + 3, none⟩ = some (.int .i64 t.at_) ∧ w'.cell? ⟨b1, k * 5 + 4, none⟩ = some (.int .i64 t.fin)) ∧ (w'.cell? ⟨b2, k * 5, none⟩ = some (.int .i64 t.kind) ∧ w'.cell? ⟨b2, k * 5 + 1, none⟩ = some (.string t.text) ∧ w'.cell? ⟨b2, k * 5 + 2, none⟩ = some (.int .i64 t.num) ∧ w'.cell? ⟨b2, k * 5 + 3, none⟩ = some (.int .i64 t.at_) ∧ w'.cell? ⟨b2, k * 5 + 4, none⟩ = some (.int .i64 t.fin)))
            (first
              | exact HSS.out _ HBc.out
              | exact HSS.out _ (below_drewN HBc.out _)
              | exact HSS.out _ HBc.out.drew
              | go_keep)
            (first
              | (go_at_call 8
                 refine (lis_any t _).mono ?_
                 rintro e9 w9 ⟨rfl, hb9⟩
                 have HBc := Lib.hid (show Below wr.heap.size wr w9 from by first | with_reducible exact HBc.out.trans (hb9.mono HBc.out.size) | with_reducible exact (below_drewN HBc.out _).trans (hb9.mono HBc.out.size) | exact HBc.out.drew.trans (hb9.mono HBc.out.size))
                 clear hb9))
          all_goals
            have HZ := Lib.hid (HBEL.out.trans (HBc.out.mono HBEL.out.size))
            go_wp2_with fail
            go_roundw
            case rel => exact ⟨k + 1, hkn, by go_num, HZ.out⟩
            case measure => simp [intOf]; omega
        · obtain rfl : k = n := by omega
          have u1 : decide ((k : Int) < (k : Int)) = false := decide_eq_false (by omega)
          have u2 : decide (k < k) = false := decide_eq_false (by omega)
          go_wp2_with fail
          go_ret
          exact ⟨rfl, H3.out.trans (HBEL.out.mono H3.out.size)⟩
  · skip
    have u0 : decide ((s.size : Int) > 400) = true := decide_eq_true (by omega)
    have u0' : decide ((400 : Int) < (s.size : Int)) = true := decide_eq_true (by omega)
    have u0n : decide (400 < s.size) = true := decide_eq_true (by omega)
    go_enter Tryz.func3, Tryz.ntmps3
    go_wp2_with fail
    refine (awake5_any _ HR.out).mono ?_
    rintro e w1 ⟨rfl, hb1⟩
    have H1 := Lib.hid hb1
    clear hb1
    go_wp2_with fail
    refine (awake5_any _ (HR.out.on H1.out)).mono ?_
    rintro e w3 ⟨rfl, hb3⟩
    have H3 := Lib.hid (H1.out.trans (hb3.mono H1.out.size))
    clear hb3
    go_wp2_with fail
    go_ret
    exact ⟨rfl, H3.out⟩

set_option maxRecDepth 100000 in
theorem lifted (os : Os) (started : os.Started) (H : Type) (enc : TypeId × Value → H) :
    ReturnsInHanded {} Tryz.checked os 3 .any (fun w args => (Rows.tokenAllsSpec.pre enc Tryz.prog Tryz.f3 [] false w args ∧ laidMetH Tryz.prog Rows.tokenAllsRow.laid w) ∧ sizedMet enc Tryz.prog Tryz.f3 (OpenSpec.ofChange Rows.tokenAllsSpec) false w args)
      (Rows.tokenAllsSpec.post enc Tryz.prog Tryz.f3 false true false false) := by
  refine returnsInHanded_of_change_and (C := Tryz.checked) (X := fun w _ => laidMetH Tryz.prog Rows.tokenAllsRow.laid w) (fun _ _ _ hh h => h.of_heap hh) own started (by kernel_rfl) Tryz.func3
    (ChangeSpec.witness_shaped (enc := enc) (C := Tryz.checked) (os := os) (X := fun w _ => laidMetH Tryz.prog Rows.tokenAllsRow.laid w) false (World.laidAll Tryz.prog os Rows.tokenAllsRow.laid) #[.string ByteArray.empty] 8 (World.laidAll_os _ _ _) (World.shaped_of_ZipB (by kernel_rfl) (by kernel_rfl)) (by kernel_rfl) (by kernel_rfl) (by kernel_rfl) (by rw [MakeChecks.laidMetH_plain _ _ _ (by kernel_rfl)]; exact laidMet_laidAll _ (by kernel_rfl) (by kernel_rfl))) ?_
  intro W base args ds gs before hval0 hW _ _ hL _
  have hval : ∀ (j : Nat) t v, Tryz.f3.params[j]? = some t → args[j]? = some v → Value.okWide Tryz.prog W .any base t v := hval0
  have hW' := hW
  obtain ⟨p, q, hA0, hV, rfl, hfz, hnd⟩ := hW
  have hA : DataW.TrodAll enc Tryz.prog W 0 (fun _ => true) true Tryz.f3.params.toList args.toList ds p := hA0
  rw [Tryz.params3] at hA hval
  obtain ⟨v0, vs0, d0, ds0, p0, q0, hargs, rfl, rfl, h0, r0⟩ := trodAll_cons hA
  obtain ⟨rfl, rfl, rfl⟩ := trodAll_nil r0
  obtain rfl : args = #[v0] := by cases args; simp_all
  obtain ⟨rfl, rfl⟩ := trodVars_none hV
  obtain ⟨s0, rfl, rfl, rfl, w0⟩ := open_string Tryz.underlying9 (hval 0 9 v0 rfl rfl) h0
  clear hA0 hval0
  refine (walk s0 W w0 (errs hL)).mono fun e W' ⟨he, bel⟩ => ?_
  subst he
  exact ⟨_, rfl, _, _, _, [], _, [], hW', trodAll_mk1 (shut_bool Tryz.underlying4 _), (trodAll_cons_mk (shut_string Tryz.underlying9 w0) trodAll_mk0), rfl, bel.frame _, fun h => by cases h⟩

theorem said : Rows.TokenAllsSaid :=
  OpenClaim.holds_of_wide 3 Tryz.f3 rfl rfl rfl rfl rfl rfl rfl ⟨rfl, rfl, rfl, rfl, rfl⟩ rfl rfl rfl rfl rfl (by kernel_rfl) Tryz.func3 (by kernel_rfl)
    (of_decide_eq_true (by kernel_rfl)) (by unfold Func.isWrapper; first | (rw [if_pos (by decide +kernel)]; kernel_rfl) | (rw [if_neg (by decide +kernel)]; exact ⟨rfl, rfl⟩))
    (fun os started H enc _ => lifted os started H enc)

/-- no parameter wants a stand-in -/
theorem plain (f : FuncId) (fn : Func) (hf : Tryz.pinned.checked.prog.funcNamed "cheval/chevallaw05.TokenAlls" = some f) (hfn : Tryz.pinned.checked.prog.funcs[f]? = some fn) :
    true = Tryz.pinned.checked.prog.looks [] ∧ ∀ (j : Nat) t, fn.params[j]? = some t → Tryz.pinned.checked.prog.wantsStandIn t = false := by
  obtain rfl : f = 3 := Option.some.inj ((show Tryz.prog.funcNamed "cheval/chevallaw05.TokenAlls" = some 3 by kernel_rfl).symm.trans hf) |>.symm
  obtain rfl : fn = Tryz.f3 := (Option.some.inj (Tryz.func3.symm.trans hfn)).symm
  refine ⟨by kernel_rfl, fun j t ht => ?_⟩
  rw [Tryz.params3] at ht
  have hm := Array.mem_of_getElem? ht
  simp only [List.mem_toArray, List.mem_cons, List.not_mem_nil, or_false] at hm
  subst hm
  exact (show Tryz.prog.wantsStandIn 9 = false by kernel_rfl)

/-- The statement: the tied card. -/
theorem card : Rows.TokenAllsCardSaid :=
  Claim7.holds_tied_plain_at .later [] _ _ _ _ said (fun _ h => by cases h) (by kernel_rfl) (fun _ h => by cases h) tokenAlls_row_tie rfl ⟨rfl, rfl⟩ (by kernel_rfl) rfl plain (by kernel_rfl)
end Go.Proofs.YtnenipgpncomeaaGreatDoor.tokenAlls
