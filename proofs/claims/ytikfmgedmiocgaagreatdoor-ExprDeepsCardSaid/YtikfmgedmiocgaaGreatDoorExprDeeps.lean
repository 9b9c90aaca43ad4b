/- An expression is as deep as it may be, by signs ahead, by sums, by indexes, and not one deeper. -/
import Derived.Test.YtikfmgedmiocgaaGreatDoorCards
import Derived.Test.YtikfmgedmiocgaaGreatDoorTie
import Derived.WalkKit
import Derived.ProofKit
import Derived.OpenShut
import Derived.ChangeOld
import Derived.ShutString
import Derived.Below
import Derived.LaidMore
import Derived.Lib.LaidTab
import Derived.Stop.Joined
import Derived.Stop.LaidErr
import Derived.SevenTiedAt
import Derived.Lay
import Derived.Test.YtikfmgedmiocgaaGreatDoorES
import Derived.Test.YtikfmgedmiocgaaGreatDoorEZ
import Derived.Test.YtikfmgedmiocgaaGreatDoorEO
namespace Go.Proofs.YtikfmgedmiocgaaGreatDoor.exprDeeps
open Go.ChangeShapes Go.WideShapes Go.ChangeAt Go.RowKit
open Go.ChangeMaps (open_string shut_string)
open Tk Pl
set_option linter.unusedVariables false

theorem own : ownKnob Tryz.prog.godebug = none := by kernel_rfl
theorem laidOut : laidOutB Tryz.prog = true := by kernel_rfl
theorem gRange : Tryz.prog.globalNamed "strconv.ErrRange" = some 7 := by kernel_rfl
theorem star : "*" ++ "errors.errorString" = "*errors.errorString" := by decide
theorem rowPtr (u : TypeId) (h : Tryz.prog.typeName? 3 u = some "*errors.errorString") : u = 272 :=
  typeName_ptr_named (nm := "errors.errorString") (by rw [star]; kernel_rfl) (by kernel_rfl) (by decide) u (by rw [star]; exact h)
/-- what the row's list gives -/
theorem errs {W : World} (h : laidMetH Tryz.prog Rows.exprDeepsRow.laid W) : RangeErr W := by
  have h' : laidMet Tryz.prog Rows.exprDeepsRow.laid W := h
  obtain ⟨a, s, hv, _⟩ := laid_sentinel h'.tail.tail.tail.tail gRange (by kernel_rfl) Tryz.underlying118 rowPtr Tryz.underlying272 Tryz.underlying274 rfl rfl Tryz.underlying9 (by kernel_rfl) (by kernel_rfl)
  exact ⟨_, _, hv⟩
theorem gPow5 : Tryz.prog.globalNamed "internal/strconv.uint64pow10" = some 3 := by kernel_rfl
/-- and its table -/
theorem table {W : World} (h : laidMetH Tryz.prog Rows.exprDeepsRow.laid W) : Lib.TabIs Tryz.prog W "internal/strconv.uint64pow10" .u64 Lib.pow10Tab := by
  have h' : laidMet Tryz.prog Rows.exprDeepsRow.laid W := h
  exact Lib.tabIs_of_head (rest := _) gPow5 (by kernel_rfl) Tryz.underlying227 Tryz.underlying220 (by kernel_rfl) (by kernel_rfl) h'.tail.tail

open Ex
theorem dat_size8 {A : ByteArray} {L : List UInt8} (h : A.data.toList = L) : A.size = L.length := by
  rw [← h]; simp
theorem cat_data (A B : ByteArray) : (A ++ B).data.toList = A.data.toList ++ B.data.toList := by
  rw [ByteArray.data_append, Array.toList_append]
/-- what a round makes of a text -/
def nextB (k : Nat) (A : ByteArray) : ByteArray := if k = 0 then ⟨#[110, 111, 116, 32]⟩ ++ A else if k = 1 then ⟨#[45]⟩ ++ A else if k = 2 then A ++ ⟨#[32, 43, 32, 49]⟩ else A ++ ⟨#[91, 48, 93]⟩
theorem next_frm {k j : Nat} (hk : k < 4) {A : ByteArray} (h : A.data.toList = frm k j) : (nextB k A).data.toList = frm k (j + 1) := by
  unfold nextB
  rcases (by omega : k = 0 ∨ k = 1 ∨ k = 2 ∨ k = 3) with rfl | rfl | rfl | rfl
  · rw [if_pos rfl, cat_data, h, frm_not]
  · rw [if_neg (by decide), if_pos rfl, cat_data, h, frm_minus]
  · rw [if_neg (by decide), if_neg (by decide), if_pos rfl, cat_data, h, frm_plus]
  · rw [if_neg (by decide), if_neg (by decide), if_neg (by decide), cat_data, h, frm_idx]
theorem index4 (k : Nat) (i : Int) (h : i = (k : Int)) (hk : k < 4) (A : ByteArray) (w : World) : (Instr.index 23 (.agg #[.string (⟨#[110, 111, 116, 32]⟩ ++ A), .string (⟨#[45]⟩ ++ A), .string (A ++ ⟨#[32, 43, 32, 49]⟩), .string (A ++ ⟨#[91, 48, 93]⟩)]) (.int .u8 i)).run Tryz.prog w = .ok (.string (nextB k A)) w := by
  subst h
  rcases (by omega : k = 0 ∨ k = 1 ∨ k = 2 ∨ k = 3) with rfl | rfl | rfl | rfl <;> (simp [Instr.index, run_underlying Tryz.underlying23, asIntOf, go_sem]; try rfl)
set_option maxRecDepth 100000 in
set_option maxHeartbeats 8000000 in
theorem walk (n x : Int) (w : World) (hn0 : 0 ≤ n) (hn1 : n ≤ 255) (hx0 : 0 ≤ x) (hx1 : x ≤ 255) (hr : RangeErr w) (htb : Lib.TabIs Tryz.prog w "internal/strconv.uint64pow10" .u64 Lib.pow10Tab) :
    Calls Tryz.prog 3 #[.int .u8 n, .int .u8 x] w fun e w' => e = .returned (.bool true) ∧ Below w.heap.size w w' := by
  have HR := Lib.hid hr
  have HT := Lib.hid htb
  clear hr htb
  obtain ⟨m, hm, hm7⟩ : ∃ m : Nat, n % 50 = (m : Int) ∧ m < 50 := ⟨(n % 50).toNat, by omega, by omega⟩
  obtain ⟨d, hd, hd7⟩ : ∃ d : Nat, x % 4 = (d : Int) ∧ d < 4 := ⟨(x % 4).toNat, by omega, by omega⟩
  have hmt : n.tmod 50 = (m : Int) := by rw [Int.tmod_eq_emod_of_nonneg hn0]; exact hm
  have HIX := Lib.hid (fun A w1 => index4 d (x % 4) hd hd7 A w1)
  have HD := Lib.hid hd
  clear hd
  go_enter Tryz.func3, Tryz.ntmps3
  go_wp2_with fail
  refine (awake8_any _ HR.out HT.out).mono ?_
  rintro e w1 ⟨rfl, hb1⟩
  have H1 := Lib.hid hb1
  clear hb1
  go_wp2_with fail
  go_loop [6, 16] (fun a y => ∃ (k : Nat) (A : ByteArray), k ≤ m ∧ A.data.toList = frm d k ∧ a = .string A ∧ y = .int .i64 k) (fun _ y => m - (intOf y).toNat)
  case atStart => exact ⟨0, ⟨#[120]⟩, Nat.zero_le _, by rw [frm_zero], rfl, rfl⟩
  case round =>
    obtain ⟨k, A, hk, hA, rfl, rfl⟩ := hrel
    have HA := Lib.hid hA
    have hAs : A.size ≤ 201 := by have := frm_size hA; omega
    clear hA
    by_cases hlt : k < m
    · have u1 : decide (k < m) = true := decide_eq_true hlt
      have u2 : decide ((k : Int) < (m : Int)) = true := decide_eq_true (by omega)
      have hix := HIX.out A
      have hx4 : x % 4 < 4 := by omega
      have hx5 : 0 ≤ x % 4 := by omega
      go_wp2_with fail
      go_round
      case rel => exact ⟨k + 1, _, hlt, next_frm hd7 HA.out, rfl, by go_num⟩
      case measure => simp [intOf]; omega
    · obtain rfl : k = m := by omega
      have u1 : decide (k < k) = false := decide_eq_false (by omega)
      have u2 : decide ((k : Int) < (k : Int)) = false := decide_eq_false (by omega)
      by_cases h31 : 31 < k
      · have v1 : decide ((k : Int) > 31) = true := decide_eq_true (by omega)
        have v2 : decide (31 < k) = true := decide_eq_true (by omega)
        have v3 : decide ((31 : Int) < (k : Int)) = true := decide_eq_true (by omega)
        have HP := Lib.hid (show Calls Tryz.prog 8 #[.string A] w1 (ReadP (.err 0 6) w1) from xparse_short A w1 (by omega) (HR.out.on H1.out) _ (frm_deep HA.out hm7 h31))
        go_wp2_with fail
        refine HP.out.mono ?_
        rintro e w2 ⟨rfl, hb2⟩
        have H2 := Lib.hid (H1.out.trans (hb2.mono H1.out.size))
        clear hb2
        unfold nul9
        go_upto_region 10 with fail
        change Code.wp _ _ _ _ (w2.alloc (.cells #[.string ⟨#[]⟩, .string ⟨#[]⟩, .int .i64 0, .bool false, .int .i64 0, .string ⟨#[]⟩, .slice none 0 0, .slice none 0 0, .slice none 0 0] 30))
        have hB : Blk (w2.alloc (.cells #[.string ⟨#[]⟩, .string ⟨#[]⟩, .int .i64 0, .bool false, .int .i64 0, .string ⟨#[]⟩, .slice none 0 0, .slice none 0 0, .slice none 0 0] 30)) w2.heap.size 30 nul9 := Blk.new w2 _ _
        have hW : Below w2.heap.size w2 (w2.alloc (.cells #[.string ⟨#[]⟩, .string ⟨#[]⟩, .int .i64 0, .bool false, .int .i64 0, .string ⟨#[]⟩, .slice none 0 0, .slice none 0 0, .slice none 0 0] 30)) := (Below.refl _ _).alloc (Nat.le_refl _) _
        have HW := Lib.hid (H2.out.trans (hW.mono H2.out.size))
        generalize (w2.alloc (.cells #[.string ⟨#[]⟩, .string ⟨#[]⟩, .int .i64 0, .bool false, .int .i64 0, .string ⟨#[]⟩, .slice none 0 0, .slice none 0 0, .slice none 0 0] 30)) = W at *
        generalize w2.heap.size = g at *
        have a0 : W.cell? ⟨g, 0, none⟩ = some (.string ⟨#[]⟩) := hB.cell 0
        clear hB hW
        go_wp2_with fail
        go_ret
        exact ⟨rfl, HW.out⟩
      · have v1 : decide ((k : Int) > 31) = false := decide_eq_false (by omega)
        have v2 : decide (31 < k) = false := decide_eq_false (by omega)
        have v3 : decide ((31 : Int) < (k : Int)) = false := decide_eq_false (by omega)
        obtain ⟨E0, hE0, hE1, hE2⟩ := frm_ok HA.out (by omega)
        have HP := Lib.hid (show Calls Tryz.prog 8 #[.string A] w1 (ReadP (.ok E0 0) w1) from xparse_short A w1 (by omega) (HR.out.on H1.out) _ hE0)
        have HE1 := Lib.hid hE1
        have HDP := Lib.hid (fun (h : Hd) (w5 : World) (hv : EV w5 (· < w5.heap.size) E0 h) => xdepth_any E0 (by omega) h w5 (· < w5.heap.size) (fun q hq => hq) hv)
        clear hE0 hE1 hE2
        go_wp2_with fail
        refine HP.out.mono ?_
        intro e w2 hrd
        obtain ⟨⟨hL, hl1, hL', hl2, hA1, hc1⟩, rfl, hev, hb2⟩ := hrd
        have H2 := Lib.hid (H1.out.trans (hb2.mono H1.out.size))
        have HEV := Lib.hid (hev.wide (S' := (· < w2.heap.size)) fun q hq => hq.2)
        have HDQ := Lib.hid (fun (w5 : World) hv => HDP.out ⟨hL, hl1, hL', hl2, hA1, hc1⟩ w5 hv)
        clear hb2 hev
        rw [HE1.out] at HDQ
        unfold ecs at HDQ ⊢
        dsimp only at HDQ ⊢
        go_upto_region 10 with fail
        change Code.wp _ _ _ _ (w2.alloc (.cells #[.string E0.op, .string E0.name, .int .i64 E0.lit.kind, .bool E0.lit.tr, .int .i64 E0.lit.num, .string E0.lit.str, .slice hL E0.lit.items.length hl1, .slice hL' E0.lit.keys.length hl2, .slice hA1 E0.args.length hc1] 30))
        have hB : Blk (w2.alloc (.cells #[.string E0.op, .string E0.name, .int .i64 E0.lit.kind, .bool E0.lit.tr, .int .i64 E0.lit.num, .string E0.lit.str, .slice hL E0.lit.items.length hl1, .slice hL' E0.lit.keys.length hl2, .slice hA1 E0.args.length hc1] 30)) w2.heap.size 30 #[.string E0.op, .string E0.name, .int .i64 E0.lit.kind, .bool E0.lit.tr, .int .i64 E0.lit.num, .string E0.lit.str, .slice hL E0.lit.items.length hl1, .slice hL' E0.lit.keys.length hl2, .slice hA1 E0.args.length hc1] := Blk.new w2 _ _
        have hW : Below w2.heap.size w2 (w2.alloc (.cells #[.string E0.op, .string E0.name, .int .i64 E0.lit.kind, .bool E0.lit.tr, .int .i64 E0.lit.num, .string E0.lit.str, .slice hL E0.lit.items.length hl1, .slice hL' E0.lit.keys.length hl2, .slice hA1 E0.args.length hc1] 30)) := (Below.refl _ _).alloc (Nat.le_refl _) _
        have HW := Lib.hid (H2.out.trans (hW.mono H2.out.size))
        have HEV2 := Lib.hid (HEV.out.on hW)
        generalize (w2.alloc (.cells #[.string E0.op, .string E0.name, .int .i64 E0.lit.kind, .bool E0.lit.tr, .int .i64 E0.lit.num, .string E0.lit.str, .slice hL E0.lit.items.length hl1, .slice hL' E0.lit.keys.length hl2, .slice hA1 E0.args.length hc1] 30)) = W at *
        generalize w2.heap.size = g at *
        have a0 := hB.cell 0
        have a1 := hB.cell 1
        have a2 := hB.cell 2
        have a3 := hB.cell 3
        have a4 := hB.cell 4
        have a5 := hB.cell 5
        have a6 := hB.cell 6
        have a7 := hB.cell 7
        have a8 := hB.cell 8
        have HDD := Lib.hid (HDQ.out W HEV2.out)
        have z1 : (((k + 1 : Nat) : Int) == (k : Int) + 1) = true := by simp
        clear hB hW
        go_wp2_with fail
        refine HDD.out.mono ?_
        rintro e w4 ⟨rfl, hb4⟩
        have H4 := Lib.hid (HW.out.trans (hb4.mono HW.out.size))
        clear hb4 a0 a1 a2 a3 a4 a5 a6 a7 a8
        go_wp2_with fail
        go_ret
        exact ⟨rfl, H4.out⟩

set_option maxRecDepth 100000 in
theorem lifted (os : Os) (started : os.Started) (H : Type) (enc : TypeId × Value → H) :
    ReturnsInHanded {} Tryz.checked os 3 .any (fun w args => (Rows.exprDeepsSpec.pre enc Tryz.prog Tryz.f3 [] false w args ∧ laidMetH Tryz.prog Rows.exprDeepsRow.laid w) ∧ sizedMet enc Tryz.prog Tryz.f3 (OpenSpec.ofChange Rows.exprDeepsSpec) false w args)
      (Rows.exprDeepsSpec.post enc Tryz.prog Tryz.f3 false true false false) := by
  refine returnsInHanded_of_change_and (C := Tryz.checked) (X := fun w _ => laidMetH Tryz.prog Rows.exprDeepsRow.laid w) (fun _ _ _ hh h => h.of_heap hh) own started (by kernel_rfl) Tryz.func3
    (ChangeSpec.witness_shaped (enc := enc) (C := Tryz.checked) (os := os) (X := fun w _ => laidMetH Tryz.prog Rows.exprDeepsRow.laid w) false (World.laidAll Tryz.prog os Rows.exprDeepsRow.laid) #[.int .u8 0, .int .u8 0] 8 (World.laidAll_os _ _ _) (World.shaped_of_ZipB (by kernel_rfl) (by kernel_rfl)) (by kernel_rfl) (by kernel_rfl) (by kernel_rfl) (by rw [MakeChecks.laidMetH_plain _ _ _ (by kernel_rfl)]; exact laidMet_laidAll _ (by kernel_rfl) (by kernel_rfl))) ?_
  intro W base args ds gs before hval0 hW _ _ hL _
  have hval : ∀ (j : Nat) t v, Tryz.f3.params[j]? = some t → args[j]? = some v → Value.okWide Tryz.prog W .any base t v := hval0
  have hW' := hW
  obtain ⟨p, q, hA0, hV, rfl, hfz, hnd⟩ := hW
  have hA : DataW.TrodAll enc Tryz.prog W 0 (fun _ => true) true Tryz.f3.params.toList args.toList ds p := hA0
  rw [Tryz.params3] at hA hval
  obtain ⟨v0, vs0, d0, ds0, p0, q0, hargs, rfl, rfl, h0, r0⟩ := trodAll_cons hA
  obtain ⟨v1, vs1, d1, ds1, p1, q1, rfl, rfl, rfl, h1, r1⟩ := trodAll_cons r0
  obtain ⟨rfl, rfl, rfl⟩ := trodAll_nil r1
  obtain rfl : args = #[v0, v1] := by cases args; simp_all
  obtain ⟨rfl, rfl⟩ := trodVars_none hV
  obtain ⟨x0, rfl, rfl, rfl, w0⟩ := open_int Tryz.underlying5 (hval 0 5 v0 rfl rfl) h0
  have b0 := w0
  simp only [Lit.wf, decide_eq_true_eq, Bool.and_eq_true] at b0
  have eu8a : IntKind.u8.min = 0 := rfl
  have eu8b : IntKind.u8.max = 255 := rfl
  have ei64a : IntKind.i64.min = -9223372036854775808 := rfl
  have ei64b : IntKind.i64.max = 9223372036854775807 := rfl
  have eu32a : IntKind.u32.min = 0 := rfl
  have eu32b : IntKind.u32.max = 4294967295 := rfl
  obtain ⟨x1, rfl, rfl, rfl, w1⟩ := open_int Tryz.underlying5 (hval 1 5 v1 rfl rfl) h1
  have b1 := w1
  simp only [Lit.wf, decide_eq_true_eq, Bool.and_eq_true] at b1
  have eu8a : IntKind.u8.min = 0 := rfl
  have eu8b : IntKind.u8.max = 255 := rfl
  have ei64a : IntKind.i64.min = -9223372036854775808 := rfl
  have ei64b : IntKind.i64.max = 9223372036854775807 := rfl
  have eu32a : IntKind.u32.min = 0 := rfl
  have eu32b : IntKind.u32.max = 4294967295 := rfl
  clear hA0 hval0
  refine (walk x0 x1 W (by omega) (by omega) (by omega) (by omega) (errs hL) (table hL)).mono fun e W' ⟨he, bel⟩ => ?_
  subst he
  exact ⟨_, rfl, _, _, _, [], _, [], hW', trodAll_mk1 (shut_bool Tryz.underlying4 _), (trodAll_cons_mk (shut_int Tryz.underlying5 w0) (trodAll_cons_mk (shut_int Tryz.underlying5 w1) trodAll_mk0)), rfl, bel.frame _, fun h => by cases h⟩

theorem said : Rows.ExprDeepsSaid :=
  OpenClaim.holds_of_wide 3 Tryz.f3 rfl rfl rfl rfl rfl rfl rfl ⟨rfl, rfl, rfl, rfl, rfl⟩ rfl rfl rfl rfl rfl (by kernel_rfl) Tryz.func3 (by kernel_rfl)
    (of_decide_eq_true (by kernel_rfl)) (by unfold Func.isWrapper; first | (rw [if_pos (by decide +kernel)]; kernel_rfl) | (rw [if_neg (by decide +kernel)]; exact ⟨rfl, rfl⟩))
    (fun os started H enc _ => lifted os started H enc)

/-- no parameter wants a stand-in -/
theorem plain (f : FuncId) (fn : Func) (hf : Tryz.pinned.checked.prog.funcNamed "cheval/chevallaw08.ExprDeeps" = some f) (hfn : Tryz.pinned.checked.prog.funcs[f]? = some fn) :
    true = Tryz.pinned.checked.prog.looks [] ∧ ∀ (j : Nat) t, fn.params[j]? = some t → Tryz.pinned.checked.prog.wantsStandIn t = false := by
  obtain rfl : f = 3 := Option.some.inj ((show Tryz.prog.funcNamed "cheval/chevallaw08.ExprDeeps" = some 3 by kernel_rfl).symm.trans hf) |>.symm
  obtain rfl : fn = Tryz.f3 := (Option.some.inj (Tryz.func3.symm.trans hfn)).symm
  refine ⟨by kernel_rfl, fun j t ht => ?_⟩
  rw [Tryz.params3] at ht
  have hm := Array.mem_of_getElem? ht
  simp only [List.mem_toArray, List.mem_cons, List.not_mem_nil, or_false] at hm
  rcases hm with rfl | rfl
  · exact (show Tryz.prog.wantsStandIn 5 = false by kernel_rfl)
  · exact (show Tryz.prog.wantsStandIn 5 = false by kernel_rfl)

/-- The statement: the tied card. -/
theorem card : Rows.ExprDeepsCardSaid :=
  Claim7.holds_tied_plain_at .later [] _ _ _ _ said (fun _ h => by cases h) (by kernel_rfl) (fun _ h => by cases h) exprDeeps_row_tie rfl ⟨rfl, rfl⟩ (by kernel_rfl) rfl plain (by kernel_rfl)
end Go.Proofs.YtikfmgedmiocgaaGreatDoor.exprDeeps
