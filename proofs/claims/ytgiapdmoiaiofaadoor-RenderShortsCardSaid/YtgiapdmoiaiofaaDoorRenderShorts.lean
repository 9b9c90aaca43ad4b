/- A value's text, cut short, is the document's, has no more bytes than are allowed, and is a text: for all values and all numbers, at the library's variables as the card says. -/
import Derived.Test.YtgiapdmoiaiofaaDoorCards
import Derived.Test.YtgiapdmoiaiofaaDoorTie
import Derived.WalkKit
import Derived.ProofKit
import Derived.OpenShut
import Derived.ChangeOld
import Derived.ShutString
import Derived.Below
import Derived.LaidMore
import Derived.Lib.LaidTab
import Derived.Stop.Joined
import Derived.Stop.LaidErr
import Derived.SevenTiedAt
import Derived.Test.YtgiapdmoiaiofaaDoorSht
import Derived.Test.YtgiapdmoiaiofaaDoorCells
import Derived.Test.YtgiapdmoiaiofaaDoorLTree
import Derived.Test.YtgiapdmoiaiofaaDoorOpen
import Derived.Test.YtgiapdmoiaiofaaDoorWrK
namespace Go.Proofs.YtgiapdmoiaiofaaDoor.renderShorts
open Go.ChangeShapes Go.WideShapes Go.ChangeAt Go.RowKit
open Go.ChangeMaps (open_string shut_string)
set_option linter.unusedVariables false

theorem own : ownKnob Tryd.prog.godebug = none := by kernel_rfl
theorem laidOut : laidOutB Tryd.prog = true := by kernel_rfl
theorem gPow5 : Tryd.prog.globalNamed "internal/strconv.uint64pow10" = some 1 := by kernel_rfl
/-- what the row's list gives -/
theorem table {W : World} (h : laidMetH Tryd.prog Rows.renderShortsRow.laid W) : Lib.TabIs Tryd.prog W "internal/strconv.uint64pow10" .u64 Lib.pow10Tab := by
  have h' : laidMet Tryd.prog Rows.renderShortsRow.laid W := h
  exact Lib.tabIs_of_head (rest := _) gPow5 (by kernel_rfl) Tryd.underlying133 Tryd.underlying115 (by kernel_rfl) (by kernel_rfl) h'.tail.tail

open Pl in
theorem cut_le (L : List UInt8) : ∀ m, cutL L m ≤ m
  | 0 => Nat.le_refl _
  | m + 1 => by
    unfold cutL
    split
    · exact Nat.le_refl _
    · exact Nat.le_succ_of_le (cut_le L m)
theorem short_len (L : List UInt8) (most : Int) : ((short L most).length : Int) ≤ most ∨ short L most = [] := by
  unfold short
  split
  · exact .inl (by assumption)
  split
  · exact .inr rfl
  · left
    have := cut_le L (most - 3).toNat
    simp only [List.length_append, List.length_take, List.length_cons, List.length_nil]
    omega
open Pl in
theorem ex_off {l : List Int} {m : Nat} : ∀ n, n ≤ l.length → m < off l n → ∃ k, k < n ∧ off l k ≤ m ∧ m < off l (k + 1)
  | 0, _, h => by rw [off_zero] at h; omega
  | n + 1, hn, h => by
    rcases Nat.lt_or_ge m (off l n) with h1 | h1
    · obtain ⟨k, h2, h3, h4⟩ := ex_off n (by omega) h1
      exact ⟨k, by omega, h3, h4⟩
    · exact ⟨n, by omega, h1, h⟩
open Pl in
theorem it_short {L : List UInt8} (h : IsText L) (most : Int) : IsText (short L most) := by
  unfold short
  split
  · exact h
  split
  · exact it_nil
  · obtain ⟨l, rfl, hp⟩ := h
    obtain ⟨k, h1, h2, h3⟩ := ex_off (l := l) (m := (most - 3).toNat) l.length (Nat.le_refl _) (by rw [off_all]; omega)
    rw [cut_of h1 h2 h3, take_off]
    exact it_app ⟨_, rfl, fun x hx => hp x (List.mem_of_mem_take hx)⟩ (it_ascii (by simp))
open Pl in
theorem ok_mk {L : List UInt8} (h : IsText L) : okText (mkB L) := by
  obtain ⟨l, h1, h2⟩ := h
  exact ⟨l, by rw [mkB_data, List.append_nil]; exact h1, rfl, h2⟩
set_option maxRecDepth 100000 in
set_option maxHeartbeats 8000000 in
theorem walk (A0 : Option Addr) (n0 c0 : Nat) (most : Int) (w : World) (hnc : n0 ≤ c0) (hcm : c0 ≤ maxLen) (hN : Nodes w (· < w.heap.size) A0 n0) (hm0 : -9223372036854775808 ≤ most) (hm1 : most ≤ 9223372036854775807) (hT : Lib.TabIs Tryd.prog w "internal/strconv.uint64pow10" .u64 Lib.pow10Tab) :
    Calls Tryd.prog 4 #[.slice A0 n0 c0, .int .i64 most] w fun e w' => e = .returned (.bool true) ∧ Below w.heap.size w w' := by
  have HT := Lib.hid (tab_of hT)
  have HN := Lib.hid hN
  clear hT hN
  go_enter Tryd.func4, Tryd.ntmps4
  go_wp2_with fail
  refine (awake7_any _ HT.out.2).mono ?_
  rintro e w1 ⟨rfl, hb1⟩
  have H1 := Lib.hid hb1
  clear hb1
  go_wp2_with fail
  refine (tree_any A0 n0 c0 _ hnc hcm (HN.out.on H1.out)).mono ?_
  rintro e w2 ⟨t, B, d, B', d', rfl, hnice, htv, hb2⟩
  have H2 := Lib.hid (H1.out.trans (hb2.mono H1.out.size))
  have HTV := Lib.hid htv
  have HNI := Lib.hid hnice
  clear hb2 htv hnice
  unfold T.agg
  go_upto_region 4 with fail
  have hb0 : Below w2.heap.size w2 (w2.alloc (.cells #[.int .i64 t.kind, .bool t.tr, .int .i64 t.num, .string t.str, .slice B t.items.length d, .slice B' t.keys.length d'] 35)) := (Below.refl _ _).alloc (Nat.le_refl _) _
  have hX : Blk (w2.alloc (.cells #[.int .i64 t.kind, .bool t.tr, .int .i64 t.num, .string t.str, .slice B t.items.length d, .slice B' t.keys.length d'] 35)) w2.heap.size 35 #[.int .i64 t.kind, .bool t.tr, .int .i64 t.num, .string t.str, .slice B t.items.length d, .slice B' t.keys.length d'] := Blk.new w2 _ _
  change Code.wp _ _ _ _ (w2.alloc (.cells #[.int .i64 t.kind, .bool t.tr, .int .i64 t.num, .string t.str, .slice B t.items.length d, .slice B' t.keys.length d'] 35))
  have HT3 := Lib.hid (HTV.out.on hb0)
  have H3 := Lib.hid (H2.out.trans (hb0.mono H2.out.size))
  generalize (w2.alloc (.cells #[.int .i64 t.kind, .bool t.tr, .int .i64 t.num, .string t.str, .slice B t.items.length d, .slice B' t.keys.length d'] 35)) = W at *
  have HX := Lib.hid hX
  clear hb0 hX HTV
  generalize w2.heap.size = G at *
  obtain ⟨a0, a1, a2, a3, a4, a5⟩ : W.cell? ⟨G, 0, none⟩ = some (.int .i64 t.kind) ∧ W.cell? ⟨G, 1, none⟩ = some (.bool t.tr) ∧ W.cell? ⟨G, 2, none⟩ = some (.int .i64 t.num) ∧ W.cell? ⟨G, 3, none⟩ = some (.string t.str) ∧ W.cell? ⟨G, 4, none⟩ = some (.slice B t.items.length d) ∧ W.cell? ⟨G, 5, none⟩ = some (.slice B' t.keys.length d') := ⟨HX.out.cell 0, HX.out.cell 1, HX.out.cell 2, HX.out.cell 3, HX.out.cell 4, HX.out.cell 5⟩
  obtain ⟨SB, hSB⟩ : ∃ SB, mkB (short t.txt most) = SB := ⟨_, rfl⟩
  have HSB := Lib.hid hSB
  have hsl := mkB_size (short t.txt most)
  rw [hSB] at hsl
  have HOK := Lib.hid (show okText SB from hSB ▸ ok_mk (it_short (it_txt t HNI.out.good) most))
  have htl := txt_len t HNI.out.fit
  have htz := HNI.out.size
  have hlen : (short t.txt most).length ≤ 100000 := by
    unfold short
    split
    · omega
    split
    · simp
    · simp only [List.length_append, List.length_take, List.length_cons, List.length_nil]; omega
  have hcase := short_len t.txt most
  have hcase2 : (SB.size : Int) ≤ most ∨ SB = ⟨#[]⟩ := by
    rcases hcase with h | h
    · exact .inl (by omega)
    · exact .inr (by rw [← hSB, h]; rfl)
  have hs100 : SB.size ≤ 100000 := by omega
  clear hcase hlen htl htz hsl
  have e1 : (SB.toList == SB.toList) = true := beq_self_eq_true _
  go_wp2_with fail
  refine (real_cells t B d B' d' _ HNI.out.le HNI.out.small HT3.out).mono ?_
  rintro e w4 ⟨E, e1', E', e2', rfl, hT4, hb4⟩
  unfold T.agg
  have HR4 := Lib.hid (show TV w4 (· < w4.heap.size) t E e1' E' e2' from hT4.wide fun b hb => hb.2)
  have H4 := Lib.hid (H3.out.trans (hb4.mono H3.out.size))
  have HX4 := Lib.hid (HX.out.onto hb4)
  have HT4 := Lib.hid (HT3.out.on hb4)
  clear hT4 hb4 a0 a1 a2 a3 a4 a5
  go_wp2_with fail
  refine (short_any t E e1' E' e2' most _ HNI.out.fine (HT.out.on H4.out).2 hm0 hm1 HR4.out).mono ?_
  rintro e w5 ⟨rfl, hb5⟩
  rw [HSB.out]
  have H5 := Lib.hid (H4.out.trans (hb5.mono H4.out.size))
  have hX5 := HX4.out.onto hb5
  have HT5 := Lib.hid (HT4.out.on hb5)
  obtain ⟨a0, a1, a2, a3, a4, a5⟩ : w5.cell? ⟨G, 0, none⟩ = some (.int .i64 t.kind) ∧ w5.cell? ⟨G, 1, none⟩ = some (.bool t.tr) ∧ w5.cell? ⟨G, 2, none⟩ = some (.int .i64 t.num) ∧ w5.cell? ⟨G, 3, none⟩ = some (.string t.str) ∧ w5.cell? ⟨G, 4, none⟩ = some (.slice B t.items.length d) ∧ w5.cell? ⟨G, 5, none⟩ = some (.slice B' t.keys.length d') := ⟨hX5.cell 0, hX5.cell 1, hX5.cell 2, hX5.cell 3, hX5.cell 4, hX5.cell 5⟩
  clear hb5 hX5 hSB
  by_cases hle : (SB.size : Int) ≤ most
  · have u1 : decide ((SB.size : Int) ≤ most) = true := decide_eq_true hle
    clear hcase2 hle
    go_wp2_with fail
    refine (rshort_any t B d B' d' most _ HNI.out.fine hm0 hm1 HT5.out).mono ?_
    rintro e w6 ⟨rfl, hb6⟩
    rw [HSB.out]
    have H6 := Lib.hid (H5.out.trans (hb6.mono H5.out.size))
    clear hb6
    go_wp2_with fail
    refine (rval_yes SB _ HOK.out (by omega)).mono ?_
    rintro e w7 ⟨rfl, hb7⟩
    have H7 := Lib.hid (H6.out.trans (hb7.mono H6.out.size))
    clear hb7
    go_wp2_with fail
    go_ret
    exact ⟨rfl, H7.out⟩
  · have u1 : decide ((SB.size : Int) ≤ most) = false := decide_eq_false hle
    have hSE : SB = ⟨#[]⟩ := by
      rcases hcase2 with h | h
      · exact absurd h hle
      · exact h
    have u2 : (SB.toList == (⟨#[]⟩ : ByteArray).toList) = true := by rw [hSE]; exact beq_self_eq_true _
    have u3 : SB.toList.isEmpty = true := by rw [hSE]; decide +kernel
    clear hcase2 hle hSE
    go_wp2_with fail
    refine (rshort_any t B d B' d' most _ HNI.out.fine hm0 hm1 HT5.out).mono ?_
    rintro e w6 ⟨rfl, hb6⟩
    rw [HSB.out]
    have H6 := Lib.hid (H5.out.trans (hb6.mono H5.out.size))
    clear hb6
    go_wp2_with fail
    refine (rval_yes SB _ HOK.out (by omega)).mono ?_
    rintro e w7 ⟨rfl, hb7⟩
    have H7 := Lib.hid (H6.out.trans (hb7.mono H6.out.size))
    clear hb7
    go_wp2_with fail
    go_ret
    exact ⟨rfl, H7.out⟩

/-- the door's own heap meets the condition -/
theorem door_met (os : Os) (args : Array Value) : laidMetH Tryd.prog Rows.renderShortsRow.laid ((World.doorLaid Tryd.prog 4000 os).forCall (fun _ _ => 0) ⟨#[], args, []⟩).memory :=
  laidMetH_of_parts3 (fuel := 8) (laidMet_of_run' 8 (by kernel_rfl) (by kernel_rfl)) (by kernel_rfl) (by kernel_rfl)

set_option maxRecDepth 100000 in
theorem lifted (os : Os) (started : os.Started) (H : Type) (enc : TypeId × Value → H) :
    ReturnsInHanded {} Tryd.checked os 4 .any (fun w args => (Rows.renderShortsSpec.pre enc Tryd.prog Tryd.f4 [] false w args ∧ laidMetH Tryd.prog Rows.renderShortsRow.laid w) ∧ sizedMet enc Tryd.prog Tryd.f4 (OpenSpec.ofChange Rows.renderShortsSpec) false w args)
      (Rows.renderShortsSpec.post enc Tryd.prog Tryd.f4 false true false false) := by
  refine returnsInHanded_of_change_and (C := Tryd.checked) (X := fun w _ => laidMetH Tryd.prog Rows.renderShortsRow.laid w) (fun _ _ _ hh h => h.of_heap hh) own started (by kernel_rfl) Tryd.func4
    (ChangeSpec.witness_shaped (enc := enc) (C := Tryd.checked) (os := os) (X := fun w _ => laidMetH Tryd.prog Rows.renderShortsRow.laid w) false (World.doorLaid Tryd.prog 4000 os) #[.slice none 0 0, .int .i64 0] 8 rfl (World.shaped_of_RefB (by kernel_rfl) (by kernel_rfl)) (by kernel_rfl) (by kernel_rfl) (by kernel_rfl) (door_met os _)) ?_
  intro W base args ds gs before hval0 hW _ _ hL _
  have hval : ∀ (j : Nat) t v, Tryd.f4.params[j]? = some t → args[j]? = some v → Value.okWide Tryd.prog W .any base t v := hval0
  have hW' := hW
  obtain ⟨p, q, hA0, hV, rfl, hfz, hnd⟩ := hW
  have hA : DataW.TrodAll enc Tryd.prog W 0 (fun _ => true) true Tryd.f4.params.toList args.toList ds p := hA0
  rw [Tryd.params4] at hA hval
  obtain ⟨v0, vs0, d0, ds0, p0, q0, hargs, rfl, rfl, h0, r0⟩ := trodAll_cons hA
  obtain ⟨v1, vs1, d1, ds1, p1, q1, rfl, rfl, rfl, h1, r1⟩ := trodAll_cons r0
  obtain ⟨rfl, rfl, rfl⟩ := trodAll_nil r1
  obtain rfl : args = #[v0, v1] := by cases args; simp_all
  obtain ⟨rfl, rfl⟩ := trodVars_none hV
  obtain ⟨a0, n0, c0, rfl⟩ := okWide_slice Tryd.underlying32 (hval 0 32 v0 rfl rfl)
  have k0 := h0
  have lt0 : ∀ x ∈ p0, x.block < W.heap.size := by obtain ⟨m, hm⟩ := k0; exact DataW.trod_lt m _ _ _ hm
  obtain ⟨f0, hf0⟩ := h0
  obtain ⟨hnc0, hcm0, hN0⟩ := nodes_open (show DataW.trod enc Tryd.prog W 0 _ _ f0 32 [.slice a0 n0 c0] = some (d0, p0) from hf0)
  obtain ⟨x1, rfl, rfl, rfl, w1⟩ := open_int Tryd.underlying3 (hval 1 3 v1 rfl rfl) h1
  have b1 := w1
  simp only [Lit.wf, decide_eq_true_eq, Bool.and_eq_true] at b1
  have eu8a : IntKind.u8.min = 0 := rfl
  have eu8b : IntKind.u8.max = 255 := rfl
  have eu16a : IntKind.u16.min = 0 := rfl
  have eu16b : IntKind.u16.max = 65535 := rfl
  have ei64a : IntKind.i64.min = -9223372036854775808 := rfl
  have ei64b : IntKind.i64.max = 9223372036854775807 := rfl
  clear hA0 hval0
  refine (walk a0 n0 c0 x1 W hnc0 hcm0 hN0 (by omega) (by omega) (table hL)).mono fun e W' ⟨he, bel⟩ => ?_
  subst he
  exact ⟨_, rfl, _, _, _, [], _, [], hW', trodAll_mk1 (shut_bool Tryd.underlying4 _), (trodAll_cons_mk (Below.trod laidOut (by kernel_rfl) (of_decide_eq_true (by kernel_rfl)) k0 bel lt0) (trodAll_cons_mk (shut_int Tryd.underlying3 w1) trodAll_mk0)), rfl, bel.frame _, fun h => by cases h⟩

theorem said : Rows.RenderShortsSaid :=
  OpenClaim.holds_of_wide 4 Tryd.f4 rfl rfl rfl rfl rfl rfl rfl ⟨rfl, rfl, rfl, rfl, rfl⟩ rfl rfl rfl rfl rfl (by kernel_rfl) Tryd.func4 (by kernel_rfl)
    (of_decide_eq_true (by kernel_rfl)) (by unfold Func.isWrapper; first | (rw [if_pos (by decide +kernel)]; kernel_rfl) | (rw [if_neg (by decide +kernel)]; exact ⟨rfl, rfl⟩))
    (fun os started H enc _ => lifted os started H enc)

/-- no parameter wants a stand-in -/
theorem plain (f : FuncId) (fn : Func) (hf : Tryd.pinned.checked.prog.funcNamed "cheval/chevallaw07.RenderShorts" = some f) (hfn : Tryd.pinned.checked.prog.funcs[f]? = some fn) :
    false = Tryd.pinned.checked.prog.looks [] ∧ ∀ (j : Nat) t, fn.params[j]? = some t → Tryd.pinned.checked.prog.wantsStandIn t = false := by
  obtain rfl : f = 4 := Option.some.inj ((show Tryd.prog.funcNamed "cheval/chevallaw07.RenderShorts" = some 4 by kernel_rfl).symm.trans hf) |>.symm
  obtain rfl : fn = Tryd.f4 := (Option.some.inj (Tryd.func4.symm.trans hfn)).symm
  refine ⟨by kernel_rfl, fun j t ht => ?_⟩
  rw [Tryd.params4] at ht
  have hm := Array.mem_of_getElem? ht
  simp only [List.mem_toArray, List.mem_cons, List.not_mem_nil, or_false] at hm
  rcases hm with rfl | rfl
  · exact (show Tryd.prog.wantsStandIn 32 = false by kernel_rfl)
  · exact (show Tryd.prog.wantsStandIn 3 = false by kernel_rfl)

/-- The statement: the tied card. -/
theorem card : Rows.RenderShortsCardSaid :=
  Claim7.holds_tied_plain_at .later [] _ _ _ _ said (fun _ h => by cases h) (by kernel_rfl) (fun _ h => by cases h) renderShorts_row_tie rfl ⟨rfl, rfl⟩ (by kernel_rfl) rfl plain (by kernel_rfl)
end Go.Proofs.YtgiapdmoiaiofaaDoor.renderShorts
