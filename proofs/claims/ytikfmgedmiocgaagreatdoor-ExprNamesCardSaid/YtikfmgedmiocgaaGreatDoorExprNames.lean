/- Whether any text is a name is the document's; just one is a var by itself. -/
import Derived.Test.YtikfmgedmiocgaaGreatDoorCards
import Derived.Test.YtikfmgedmiocgaaGreatDoorTie
import Derived.WalkKit
import Derived.ProofKit
import Derived.OpenShut
import Derived.ChangeOld
import Derived.ShutString
import Derived.Below
import Derived.LaidMore
import Derived.Lib.LaidTab
import Derived.Stop.Joined
import Derived.Stop.LaidErr
import Derived.SevenTiedAt
import Derived.Lay
import Derived.Test.YtikfmgedmiocgaaGreatDoorES
import Derived.Test.YtikfmgedmiocgaaGreatDoorRX
import Derived.Test.YtikfmgedmiocgaaGreatDoorRN
namespace Go.Proofs.YtikfmgedmiocgaaGreatDoor.exprNames
open Go.ChangeShapes Go.WideShapes Go.ChangeAt Go.RowKit
open Go.ChangeMaps (open_string shut_string)
open Tk Pl
set_option linter.unusedVariables false

theorem own : ownKnob Tryz.prog.godebug = none := by kernel_rfl
theorem laidOut : laidOutB Tryz.prog = true := by kernel_rfl
theorem gRange : Tryz.prog.globalNamed "strconv.ErrRange" = some 7 := by kernel_rfl
theorem star : "*" ++ "errors.errorString" = "*errors.errorString" := by decide
theorem rowPtr (u : TypeId) (h : Tryz.prog.typeName? 3 u = some "*errors.errorString") : u = 272 :=
  typeName_ptr_named (nm := "errors.errorString") (by rw [star]; kernel_rfl) (by kernel_rfl) (by decide) u (by rw [star]; exact h)
/-- what the row's list gives -/
theorem errs {W : World} (h : laidMetH Tryz.prog Rows.exprNamesRow.laid W) : RangeErr W := by
  have h' : laidMet Tryz.prog Rows.exprNamesRow.laid W := h
  obtain ⟨a, s, hv, _⟩ := laid_sentinel h'.tail.tail.tail.tail gRange (by kernel_rfl) Tryz.underlying118 rowPtr Tryz.underlying272 Tryz.underlying274 rfl rfl Tryz.underlying9 (by kernel_rfl) (by kernel_rfl)
  exact ⟨_, _, hv⟩
theorem gPow5 : Tryz.prog.globalNamed "internal/strconv.uint64pow10" = some 3 := by kernel_rfl
/-- and its table -/
theorem table {W : World} (h : laidMetH Tryz.prog Rows.exprNamesRow.laid W) : Lib.TabIs Tryz.prog W "internal/strconv.uint64pow10" .u64 Lib.pow10Tab := by
  have h' : laidMet Tryz.prog Rows.exprNamesRow.laid W := h
  exact Lib.tabIs_of_head (rest := _) gPow5 (by kernel_rfl) Tryz.underlying227 Tryz.underlying220 (by kernel_rfl) (by kernel_rfl) h'.tail.tail

open Ex
theorem parse_ends (s : ByteArray) : parse s ≠ .out := by
  unfold parse
  split
  · intro h; cases h
  · have h0 := top_out (s := s) (Nat.zero_le s.size)
    cases hx : top s 0 with
    | ok e p =>
      dsimp only
      split
      · intro h; cases h
      · split
        · intro h; cases h
        · intro h; cases h
    | err p c => intro h; cases h
    | out => exact absurd hx h0
set_option maxRecDepth 100000 in
set_option maxHeartbeats 8000000 in
theorem walk (s : ByteArray) (w : World) (hz : s.size ≤ maxLen) (hr : RangeErr w) (htb : Lib.TabIs Tryz.prog w "internal/strconv.uint64pow10" .u64 Lib.pow10Tab) :
    Calls Tryz.prog 4 #[.string s] w fun e w' => e = .returned (.bool true) ∧ Below w.heap.size w w' := by
  have HR := Lib.hid hr
  have HT := Lib.hid (tab_of8 htb)
  clear hr htb
  by_cases h100 : 100 < s.size
  · have u1 : decide ((s.size : Int) > 100) = true := decide_eq_true (by omega)
    have u2 : decide ((100 : Int) < (s.size : Int)) = true := decide_eq_true (by omega)
    have u3 : decide (100 < s.size) = true := decide_eq_true (by omega)
    go_enter Tryz.func4, Tryz.ntmps4
    go_wp2_with fail
    refine (awake8_any _ HR.out HT.out.2).mono ?_
    rintro e w1 ⟨rfl, hb1⟩
    have H1 := Lib.hid hb1
    clear hb1
    go_wp2_with fail
    refine (awake8_any _ (HR.out.on H1.out) (HT.out.on H1.out).2).mono ?_
    rintro e w2 ⟨rfl, hb2⟩
    have H2 := Lib.hid (H1.out.trans (hb2.mono H1.out.size))
    clear hb2
    go_wp2_with fail
    go_ret
    exact ⟨rfl, H2.out⟩
  · have u1 : decide ((s.size : Int) > 100) = false := decide_eq_false (by omega)
    have u2 : decide ((100 : Int) < (s.size : Int)) = false := decide_eq_false (by omega)
    have u3 : decide (100 < s.size) = false := decide_eq_false (by omega)
    go_enter Tryz.func4, Tryz.ntmps4
    go_wp2_with fail
    refine (awake8_any _ HR.out HT.out.2).mono ?_
    rintro e w1 ⟨rfl, hb1⟩
    have H1 := Lib.hid hb1
    clear hb1
    have HXN := Lib.hid (fun w5 => xname_any s w5 (by omega))
    have HRN := Lib.hid (fun w5 => r8name_any s w5 (by omega))
    cases hn : isName s with
    | true =>
      have HP := Lib.hid (show Calls Tryz.prog 8 #[.string s] w1 (ReadP (.ok (.mk varB s Rd.nulT []) 0) w1) from xparse_short s w1 (by omega) (HR.out.on H1.out) _ (parse_name hn (by omega)))
      rw [hn] at HXN HRN
      clear hn
      go_wp2_with fail
      refine HP.out.mono ?_
      intro e w2 hrd
      obtain ⟨⟨hL, hl1, hL', hl2, hA1, hc1⟩, rfl, hev, hb2⟩ := hrd
      have H2 := Lib.hid (H1.out.trans (hb2.mono H1.out.size))
      clear hb2 hev
      have hecs : ecs (.mk varB s Rd.nulT []) ⟨hL, hl1, hL', hl2, hA1, hc1⟩ = #[.string ⟨#[118, 97, 114]⟩, .string s, .int .i64 0, .bool false, .int .i64 0, .string ⟨#[]⟩, .slice hL 0 hl1, .slice hL' 0 hl2, .slice hA1 0 hc1] := rfl
      rw [hecs]
      clear hecs
      go_upto_region 4 with fail
      change Code.wp _ _ _ _ (w2.alloc (.cells #[.string ⟨#[118, 97, 114]⟩, .string s, .int .i64 0, .bool false, .int .i64 0, .string ⟨#[]⟩, .slice hL 0 hl1, .slice hL' 0 hl2, .slice hA1 0 hc1] 30))
      have hB : Blk (w2.alloc (.cells #[.string ⟨#[118, 97, 114]⟩, .string s, .int .i64 0, .bool false, .int .i64 0, .string ⟨#[]⟩, .slice hL 0 hl1, .slice hL' 0 hl2, .slice hA1 0 hc1] 30)) w2.heap.size 30 #[.string ⟨#[118, 97, 114]⟩, .string s, .int .i64 0, .bool false, .int .i64 0, .string ⟨#[]⟩, .slice hL 0 hl1, .slice hL' 0 hl2, .slice hA1 0 hc1] := Blk.new w2 _ _
      have hW : Below w2.heap.size w2 (w2.alloc (.cells #[.string ⟨#[118, 97, 114]⟩, .string s, .int .i64 0, .bool false, .int .i64 0, .string ⟨#[]⟩, .slice hL 0 hl1, .slice hL' 0 hl2, .slice hA1 0 hc1] 30)) := (Below.refl _ _).alloc (Nat.le_refl _) _
      have HW := Lib.hid (H2.out.trans (hW.mono H2.out.size))
      generalize (w2.alloc (.cells #[.string ⟨#[118, 97, 114]⟩, .string s, .int .i64 0, .bool false, .int .i64 0, .string ⟨#[]⟩, .slice hL 0 hl1, .slice hL' 0 hl2, .slice hA1 0 hc1] 30)) = W at *
      generalize w2.heap.size = g at *
      have a0 := hB.cell 0
      have a1 := hB.cell 1
      have a2 := hB.cell 2
      have a3 := hB.cell 3
      have a4 := hB.cell 4
      have a5 := hB.cell 5
      have a6 := hB.cell 6
      have a7 := hB.cell 7
      have a8 := hB.cell 8
      clear hB hW
      go_wp2_with fail
      refine (HXN.out _).mono ?_
      rintro e w3 ⟨rfl, rfl⟩
      go_wp2_with fail
      refine (HRN.out _).mono ?_
      rintro e w3 ⟨rfl, rfl⟩
      go_wp2_with fail
      refine (HRN.out _).mono ?_
      rintro e w3 ⟨rfl, rfl⟩
      go_wp2_with fail
      refine (l8ref_leaf ⟨#[118, 97, 114]⟩ s hL hl1 hL' hl2 hA1 hc1 _).mono ?_
      rintro e w4 ⟨rfl, hb4⟩
      have H4 := Lib.hid (HW.out.trans (hb4.mono HW.out.size))
      clear hb4 a0 a1 a2 a3 a4 a5 a6 a7 a8
      go_wp2_with fail
      refine (r8same_leaf ⟨#[118, 97, 114]⟩ s none 0 hL' hl2 none 0 none 0 none 0 none 0 _).mono ?_
      rintro e w5 ⟨rfl, hb5⟩
      have H5 := Lib.hid (H4.out.trans (hb5.mono H4.out.size))
      clear hb5
      go_wp2_with fail
      go_ret
      exact ⟨rfl, H5.out⟩
    | false =>
      have HP := Lib.hid (xparse_short s w1 (by omega) (HR.out.on H1.out) _ rfl)
      have HOUT := Lib.hid (parse_ends s)
      rw [hn] at HXN HRN
      clear hn
      generalize parse s = R at *
      go_wp2_with fail
      refine HP.out.mono ?_
      intro e w2 hrd
      cases R with
      | out => exact absurd rfl HOUT.out
      | err p c =>
        obtain ⟨rfl, hb2⟩ := hrd
        have H2 := Lib.hid (H1.out.trans (hb2.mono H1.out.size))
        clear hb2
        unfold nul9
        go_upto_region 4 with fail
        change Code.wp _ _ _ _ (w2.alloc (.cells #[.string ⟨#[]⟩, .string ⟨#[]⟩, .int .i64 0, .bool false, .int .i64 0, .string ⟨#[]⟩, .slice none 0 0, .slice none 0 0, .slice none 0 0] 30))
        have hW : Below w2.heap.size w2 (w2.alloc (.cells #[.string ⟨#[]⟩, .string ⟨#[]⟩, .int .i64 0, .bool false, .int .i64 0, .string ⟨#[]⟩, .slice none 0 0, .slice none 0 0, .slice none 0 0] 30)) := (Below.refl _ _).alloc (Nat.le_refl _) _
        have HW := Lib.hid (H2.out.trans (hW.mono H2.out.size))
        generalize (w2.alloc (.cells #[.string ⟨#[]⟩, .string ⟨#[]⟩, .int .i64 0, .bool false, .int .i64 0, .string ⟨#[]⟩, .slice none 0 0, .slice none 0 0, .slice none 0 0] 30)) = W at *
        generalize w2.heap.size = g at *
        clear hW
        go_wp2_with fail
        refine (HXN.out _).mono ?_
        rintro e w3 ⟨rfl, rfl⟩
        go_wp2_with fail
        refine (HRN.out _).mono ?_
        rintro e w3 ⟨rfl, rfl⟩
        go_wp2_with fail
        refine (HRN.out _).mono ?_
        rintro e w3 ⟨rfl, rfl⟩
        go_wp2_with fail
        go_ret
        exact ⟨rfl, HW.out⟩
      | ok x p =>
        obtain ⟨⟨hL, hl1, hL', hl2, hA1, hc1⟩, rfl, hev, hb2⟩ := hrd
        have H2 := Lib.hid (H1.out.trans (hb2.mono H1.out.size))
        clear hb2 hev
        unfold ecs
        dsimp only
        go_upto_region 4 with fail
        change Code.wp _ _ _ _ (w2.alloc (.cells #[.string x.op, .string x.name, .int .i64 x.lit.kind, .bool x.lit.tr, .int .i64 x.lit.num, .string x.lit.str, .slice hL x.lit.items.length hl1, .slice hL' x.lit.keys.length hl2, .slice hA1 x.args.length hc1] 30))
        have hW : Below w2.heap.size w2 (w2.alloc (.cells #[.string x.op, .string x.name, .int .i64 x.lit.kind, .bool x.lit.tr, .int .i64 x.lit.num, .string x.lit.str, .slice hL x.lit.items.length hl1, .slice hL' x.lit.keys.length hl2, .slice hA1 x.args.length hc1] 30)) := (Below.refl _ _).alloc (Nat.le_refl _) _
        have HW := Lib.hid (H2.out.trans (hW.mono H2.out.size))
        generalize (w2.alloc (.cells #[.string x.op, .string x.name, .int .i64 x.lit.kind, .bool x.lit.tr, .int .i64 x.lit.num, .string x.lit.str, .slice hL x.lit.items.length hl1, .slice hL' x.lit.keys.length hl2, .slice hA1 x.args.length hc1] 30)) = W at *
        generalize w2.heap.size = g at *
        clear hW
        go_wp2_with fail
        refine (HXN.out _).mono ?_
        rintro e w3 ⟨rfl, rfl⟩
        go_wp2_with fail
        refine (HRN.out _).mono ?_
        rintro e w3 ⟨rfl, rfl⟩
        go_wp2_with fail
        refine (HRN.out _).mono ?_
        rintro e w3 ⟨rfl, rfl⟩
        go_wp2_with fail
        go_ret
        exact ⟨rfl, HW.out⟩

set_option maxRecDepth 100000 in
theorem lifted (os : Os) (started : os.Started) (H : Type) (enc : TypeId × Value → H) :
    ReturnsInHanded {} Tryz.checked os 4 .any (fun w args => (Rows.exprNamesSpec.pre enc Tryz.prog Tryz.f4 [] false w args ∧ laidMetH Tryz.prog Rows.exprNamesRow.laid w) ∧ sizedMet enc Tryz.prog Tryz.f4 (OpenSpec.ofChange Rows.exprNamesSpec) false w args)
      (Rows.exprNamesSpec.post enc Tryz.prog Tryz.f4 false true false false) := by
  refine returnsInHanded_of_change_and (C := Tryz.checked) (X := fun w _ => laidMetH Tryz.prog Rows.exprNamesRow.laid w) (fun _ _ _ hh h => h.of_heap hh) own started (by kernel_rfl) Tryz.func4
    (ChangeSpec.witness_shaped (enc := enc) (C := Tryz.checked) (os := os) (X := fun w _ => laidMetH Tryz.prog Rows.exprNamesRow.laid w) false (World.laidAll Tryz.prog os Rows.exprNamesRow.laid) #[.string ByteArray.empty] 8 (World.laidAll_os _ _ _) (World.shaped_of_ZipB (by kernel_rfl) (by kernel_rfl)) (by kernel_rfl) (by kernel_rfl) (by kernel_rfl) (by rw [MakeChecks.laidMetH_plain _ _ _ (by kernel_rfl)]; exact laidMet_laidAll _ (by kernel_rfl) (by kernel_rfl))) ?_
  intro W base args ds gs before hval0 hW _ _ hL _
  have hval : ∀ (j : Nat) t v, Tryz.f4.params[j]? = some t → args[j]? = some v → Value.okWide Tryz.prog W .any base t v := hval0
  have hW' := hW
  obtain ⟨p, q, hA0, hV, rfl, hfz, hnd⟩ := hW
  have hA : DataW.TrodAll enc Tryz.prog W 0 (fun _ => true) true Tryz.f4.params.toList args.toList ds p := hA0
  rw [Tryz.params4] at hA hval
  obtain ⟨v0, vs0, d0, ds0, p0, q0, hargs, rfl, rfl, h0, r0⟩ := trodAll_cons hA
  obtain ⟨rfl, rfl, rfl⟩ := trodAll_nil r0
  obtain rfl : args = #[v0] := by cases args; simp_all
  obtain ⟨rfl, rfl⟩ := trodVars_none hV
  obtain ⟨s0, rfl, rfl, rfl, w0⟩ := open_string Tryz.underlying9 (hval 0 9 v0 rfl rfl) h0
  clear hA0 hval0
  refine (walk s0 W w0 (errs hL) (table hL)).mono fun e W' ⟨he, bel⟩ => ?_
  subst he
  exact ⟨_, rfl, _, _, _, [], _, [], hW', trodAll_mk1 (shut_bool Tryz.underlying4 _), (trodAll_cons_mk (shut_string Tryz.underlying9 w0) trodAll_mk0), rfl, bel.frame _, fun h => by cases h⟩

theorem said : Rows.ExprNamesSaid :=
  OpenClaim.holds_of_wide 4 Tryz.f4 rfl rfl rfl rfl rfl rfl rfl ⟨rfl, rfl, rfl, rfl, rfl⟩ rfl rfl rfl rfl rfl (by kernel_rfl) Tryz.func4 (by kernel_rfl)
    (of_decide_eq_true (by kernel_rfl)) (by unfold Func.isWrapper; first | (rw [if_pos (by decide +kernel)]; kernel_rfl) | (rw [if_neg (by decide +kernel)]; exact ⟨rfl, rfl⟩))
    (fun os started H enc _ => lifted os started H enc)

/-- no parameter wants a stand-in -/
theorem plain (f : FuncId) (fn : Func) (hf : Tryz.pinned.checked.prog.funcNamed "cheval/chevallaw08.ExprNames" = some f) (hfn : Tryz.pinned.checked.prog.funcs[f]? = some fn) :
    true = Tryz.pinned.checked.prog.looks [] ∧ ∀ (j : Nat) t, fn.params[j]? = some t → Tryz.pinned.checked.prog.wantsStandIn t = false := by
  obtain rfl : f = 4 := Option.some.inj ((show Tryz.prog.funcNamed "cheval/chevallaw08.ExprNames" = some 4 by kernel_rfl).symm.trans hf) |>.symm
  obtain rfl : fn = Tryz.f4 := (Option.some.inj (Tryz.func4.symm.trans hfn)).symm
  refine ⟨by kernel_rfl, fun j t ht => ?_⟩
  rw [Tryz.params4] at ht
  have hm := Array.mem_of_getElem? ht
  simp only [List.mem_toArray, List.mem_cons, List.not_mem_nil, or_false] at hm
  subst hm
  exact (show Tryz.prog.wantsStandIn 9 = false by kernel_rfl)

/-- The statement: the tied card. -/
theorem card : Rows.ExprNamesCardSaid :=
  Claim7.holds_tied_plain_at .later [] _ _ _ _ said (fun _ h => by cases h) (by kernel_rfl) (fun _ h => by cases h) exprNames_row_tie rfl ⟨rfl, rfl⟩ (by kernel_rfl) rfl plain (by kernel_rfl)
end Go.Proofs.YtikfmgedmiocgaaGreatDoor.exprNames
