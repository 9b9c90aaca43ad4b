/- All paths of any value, with what they lead to, are told in the document's order, as far as it is asked: for all values and all numbers, at the library's variables as the card says. -/
import Derived.Test.YthkpeomdklcnmaaDoorCards
import Derived.Test.YthkpeomdklcnmaaDoorTie
import Derived.WalkKit
import Derived.ProofKit
import Derived.OpenShut
import Derived.ChangeOld
import Derived.ShutString
import Derived.Below
import Derived.LaidMore
import Derived.Lib.LaidTab
import Derived.Stop.Joined
import Derived.Stop.LaidErr
import Derived.SevenTiedAt
import Derived.Test.YthkpeomdklcnmaaDoorHandE
import Derived.Test.YthkpeomdklcnmaaDoorAwake4
import Derived.Test.YthkpeomdklcnmaaDoorLTree
import Derived.Test.YthkpeomdklcnmaaDoorCells
import Derived.Test.YthkpeomdklcnmaaDoorOpen
namespace Go.Proofs.YthkpeomdklcnmaaDoor.pathAlls
open Go.ChangeShapes Go.WideShapes Go.ChangeAt Go.RowKit
open Go.ChangeMaps (open_string shut_string)
set_option linter.unusedVariables false

theorem own : ownKnob Tryd.prog.godebug = none := by kernel_rfl
theorem laidOut : laidOutB Tryd.prog = true := by kernel_rfl
theorem gRange : Tryd.prog.globalNamed "strconv.ErrRange" = some 1 := by kernel_rfl
theorem gSyntax : Tryd.prog.globalNamed "strconv.ErrSyntax" = some 0 := by kernel_rfl
theorem cell_of_var {W : World} {nm : String} {g : Nat} {v : Value} (hg : Tryd.prog.globalNamed nm = some g) (h : W.var? Tryd.prog nm = some #[v]) : W.cell? ⟨g, 0, none⟩ = some v := by
  unfold World.var? at h
  rw [hg] at h
  simp only [Option.bind_some] at h
  unfold World.cell?
  cases hh : W.heap[g]? with
  | none => rw [hh] at h; cases h
  | some o => rw [hh] at h; cases o <;> simp_all
theorem star : "*" ++ "errors.errorString" = "*errors.errorString" := by decide
theorem rowPtr (u : TypeId) (h : Tryd.prog.typeName? 3 u = some "*errors.errorString") : u = 151 :=
  typeName_ptr_named (nm := "errors.errorString") (by rw [star]; kernel_rfl) (by kernel_rfl) (by decide) u (by rw [star]; exact h)
/-- what the row's list gives -/
theorem errs {W : World} (h : laidMetH Tryd.prog Rows.pathAllsRow.laid W) : Errs W := by
  have h' : laidMet Tryd.prog Rows.pathAllsRow.laid W := h
  obtain ⟨a, s, hv, _⟩ := laid_sentinel h'.tail.tail.tail gRange (by kernel_rfl) Tryd.underlying117 rowPtr Tryd.underlying151 Tryd.underlying153 rfl rfl Tryd.underlying9 (by kernel_rfl) (by kernel_rfl)
  obtain ⟨a2, s2, hv2, _⟩ := laid_sentinel h'.tail.tail.tail.tail gSyntax (by kernel_rfl) Tryd.underlying117 rowPtr Tryd.underlying151 Tryd.underlying153 rfl rfl Tryd.underlying9 (by kernel_rfl) (by kernel_rfl)
  exact ⟨⟨_, _, cell_of_var gSyntax hv2⟩, ⟨_, _, cell_of_var gRange hv⟩⟩

set_option maxRecDepth 100000 in
set_option maxHeartbeats 16000000 in
theorem walk (A0 : Option Addr) (n0 c0 : Nat) (x : Int) (w : World) (hnc : n0 ≤ c0) (hcm : c0 ≤ maxLen) (hN : Nodes w (· < w.heap.size) A0 n0) (hx0 : 0 ≤ x) (hx1 : x ≤ 255) (he : Errs w) :
    Calls Tryd.prog 5 #[.slice A0 n0 c0, .int .u8 x] w fun e w' => e = .returned (.bool true) ∧ Below w.heap.size w w' := by
  obtain ⟨m, rfl⟩ : ∃ m : Nat, x = m := ⟨x.toNat, by omega⟩
  have hm : m ≤ 255 := by omega
  have HN := Lib.hid hN
  have HE := Lib.hid he
  clear hN he hx0 hx1
  go_enter Tryd.func5, Tryd.ntmps5
  go_upto_region 1 with fail
  have hB : Blk (w.alloc (.cells #[.int .u8 m] 5)) w.heap.size 5 #[.int .u8 m] := Blk.new w _ _
  have hW : Below w.heap.size w (w.alloc (.cells #[.int .u8 m] 5)) := (Below.refl _ _).alloc (Nat.le_refl _) _
  change Code.wp _ _ _ _ (w.alloc (.cells #[.int .u8 m] 5))
  generalize (w.alloc (.cells #[.int .u8 m] 5)) = W0 at *
  have HB3 := Lib.hid hB
  have HW0 := Lib.hid hW
  have hl0 := hB.lt
  clear hB hW
  go_wp2_with fail
  refine (awake4_any _ (HE.out.on HW0.out)).mono ?_
  rintro e w1 ⟨rfl, hb1⟩
  have H1 := Lib.hid hb1
  clear hb1
  go_wp2_with fail
  refine (tree_any A0 n0 c0 _ hnc hcm (HN.out.on (HW0.out.trans (H1.out.mono (by omega))))).mono ?_
  rintro e w2 ⟨t, B, d, B', d', rfl, hnice, htv, hb2⟩
  have H2 := Lib.hid (H1.out.trans (hb2.mono H1.out.size))
  have HT := Lib.hid htv
  have HNI := Lib.hid hnice
  clear hb2 H1 htv hnice
  unfold T.agg
  go_upto_region 4 with fail
  have hb4 : Below w2.heap.size w2 (w2.alloc (.cells #[.int .i64 t.kind, .bool t.tr, .int .i64 t.num, .string t.str, .slice B t.items.length d, .slice B' t.keys.length d'] 28)) := (Below.refl _ _).alloc (Nat.le_refl _) _
  have hB4 : Blk (w2.alloc (.cells #[.int .i64 t.kind, .bool t.tr, .int .i64 t.num, .string t.str, .slice B t.items.length d, .slice B' t.keys.length d'] 28)) w2.heap.size 28 #[.int .i64 t.kind, .bool t.tr, .int .i64 t.num, .string t.str, .slice B t.items.length d, .slice B' t.keys.length d'] := Blk.new w2 _ _
  change Code.wp _ _ _ _ (w2.alloc (.cells #[.int .i64 t.kind, .bool t.tr, .int .i64 t.num, .string t.str, .slice B t.items.length d, .slice B' t.keys.length d'] 28))
  have HT4 := Lib.hid (HT.out.on hb4)
  have H4 := Lib.hid (H2.out.trans (hb4.mono H2.out.size))
  generalize (w2.alloc (.cells #[.int .i64 t.kind, .bool t.tr, .int .i64 t.num, .string t.str, .slice B t.items.length d, .slice B' t.keys.length d'] 28)) = W4 at *
  have HB5 := Lib.hid hB4
  have hl4 := hB4.lt
  obtain ⟨a0, a1, a2, a3, a4, a5⟩ : W4.cell? ⟨w2.heap.size, 0, none⟩ = some (.int .i64 t.kind) ∧ W4.cell? ⟨w2.heap.size, 1, none⟩ = some (.bool t.tr) ∧ W4.cell? ⟨w2.heap.size, 2, none⟩ = some (.int .i64 t.num) ∧ W4.cell? ⟨w2.heap.size, 3, none⟩ = some (.string t.str) ∧ W4.cell? ⟨w2.heap.size, 4, none⟩ = some (.slice B t.items.length d) ∧ W4.cell? ⟨w2.heap.size, 5, none⟩ = some (.slice B' t.keys.length d') := ⟨hB4.cell 0, hB4.cell 1, hB4.cell 2, hB4.cell 3, hB4.cell 4, hB4.cell 5⟩
  clear hB4 hb4 HT H2
  generalize w2.heap.size = g5 at *
  clear w2
  go_wp2_with fail
  refine (show Calls Tryd.prog 17 #[.agg #[.int .i64 t.kind, .bool t.tr, .int .i64 t.num, .string t.str, .slice B t.items.length d, .slice B' t.keys.length d'], .slice none 0 0] W4 (AllPost (· < W4.heap.size) t [] W4) from rall_at 80 (· < W4.heap.size) t [] none 0 B d B' d' W4 HNI.out.fine.size (Nat.le_refl _) HNI.out.fine (Nat.le_refl _) (by simp) (fun b hb => hb) (SReads.none_ _ _ _) HT4.out).mono ?_
  rintro e w5 ⟨A2, c2, rfl, hc2, hpr, hb5⟩
  have H5 := Lib.hid (H4.out.trans (hb5.mono H4.out.size))
  have HPR := Lib.hid (show PReads w5 (· < w5.heap.size) A2 t.size (t.parts []) from preads_wide hpr fun b hb => by
    have h1 := hb5.size
    rcases hb with hb | hb
    · exact Nat.lt_of_lt_of_le hb h1
    · exact hb.2)
  have HB55 := Lib.hid (HB5.out.onto hb5)
  have HT5 := Lib.hid (HT4.out.on hb5)
  clear hpr hb5 HB5 HT4 H4 a0 a1 a2 a3 a4 a5
  go_upto_region 6 with fail
  have hlen := parts_len t []
  have HLEN := Lib.hid hlen
  have W56 : Below w5.heap.size w5 (((w5.alloc (.cells #[.slice A2 t.size c2] 49)).alloc (.cells #[.int .i64 0] 3)).alloc (.cells #[.bool true] 4)) := (((Below.refl _ _).alloc (Nat.le_refl _) _).alloc (by simp) _).alloc (by simp; omega) _
  have q6 : Blk (((w5.alloc (.cells #[.slice A2 t.size c2] 49)).alloc (.cells #[.int .i64 0] 3)).alloc (.cells #[.bool true] 4)) w5.heap.size 49 #[.slice A2 t.size c2] := ((Blk.new w5 _ _).alloc _).alloc _
  have q7 : Blk (((w5.alloc (.cells #[.slice A2 t.size c2] 49)).alloc (.cells #[.int .i64 0] 3)).alloc (.cells #[.bool true] 4)) (w5.heap.size + 1) 3 #[.int .i64 0] := by
    have := (Blk.new (w5.alloc (.cells #[.slice A2 t.size c2] 49)) 3 #[.int .i64 0]).alloc (.cells #[.bool true] 4)
    simpa using this
  have q8 : Blk (((w5.alloc (.cells #[.slice A2 t.size c2] 49)).alloc (.cells #[.int .i64 0] 3)).alloc (.cells #[.bool true] 4)) (w5.heap.size + 1 + 1) 4 #[.bool true] := by
    have := Blk.new ((w5.alloc (.cells #[.slice A2 t.size c2] 49)).alloc (.cells #[.int .i64 0] 3)) 4 #[.bool true]
    simpa using this
  change Code.wp _ _ _ _ (((w5.alloc (.cells #[.slice A2 t.size c2] 49)).alloc (.cells #[.int .i64 0] 3)).alloc (.cells #[.bool true] 4))
  generalize (((w5.alloc (.cells #[.slice A2 t.size c2] 49)).alloc (.cells #[.int .i64 0] 3)).alloc (.cells #[.bool true] 4)) = W6 at *
  have HW6 := Lib.hid (show Below W0.heap.size W0 W6 from H5.out.trans (W56.mono H5.out.size))
  have HBW := Lib.hid (show Below w.heap.size w W6 from HW0.out.trans (HW6.out.mono (by omega)))
  have HTo := Lib.hid (show Told W6 (w5.heap.size + 1 + 1) (w5.heap.size + 1) w5.heap.size w.heap.size (t.parts []) m 0 (· < w5.heap.size) A2 c2 from
    ⟨q8, q7, by rw [hlen]; exact q6, HB3.out.onto HW6.out, by rw [hlen]; exact HPR.out.keep (.of_below W56)⟩)
  have hq8 := q8.lt
  have HT6 := Lib.hid (HT5.out.on W56)
  have hB5 := HB55.out.onto W56
  have hw5 : W0.heap.size ≤ w5.heap.size := H5.out.size
  obtain ⟨a0, a1, a2, a3, a4, a5⟩ : W6.cell? ⟨g5, 0, none⟩ = some (.int .i64 t.kind) ∧ W6.cell? ⟨g5, 1, none⟩ = some (.bool t.tr) ∧ W6.cell? ⟨g5, 2, none⟩ = some (.int .i64 t.num) ∧ W6.cell? ⟨g5, 3, none⟩ = some (.string t.str) ∧ W6.cell? ⟨g5, 4, none⟩ = some (.slice B t.items.length d) ∧ W6.cell? ⟨g5, 5, none⟩ = some (.slice B' t.keys.length d') := ⟨hB5.cell 0, hB5.cell 1, hB5.cell 2, hB5.cell 3, hB5.cell 4, hB5.cell 5⟩
  clear q6 q7 q8 W56 hB5 HB55 HT5 HPR H5 HB3 hlen
  generalize w5.heap.size = g6 at *
  clear w5
  go_wp2_with fail
  refine (real_cells t B d B' d' _ HNI.out.le HNI.out.small HT6.out).mono ?_
  rintro e w7 ⟨E, e1, E', e1', rfl, hT7, hb7⟩
  unfold T.agg
  have HT7 := Lib.hid (show TV w7 (· < w7.heap.size) t E e1 E' e1' from hT7.wide fun b hb => hb.2)
  have H7 := Lib.hid hb7
  clear hT7 hb7 a0 a1 a2 a3 a4 a5
  go_wp2_with fail
  refine (alls_any t E e1 E' e1' w7 HNI.out.fine HT7.out).mono ?_
  rintro e w8 ⟨gk, F, f, F', f', rfl, hgk, hbk, hT8, hb8⟩
  have H8 := Lib.hid (H7.out.trans (hb8.mono H7.out.size))
  have HBK := Lib.hid hbk
  have HT8 := Lib.hid hT8
  have hs7 := H7.out.size
  have hs8 := H8.out.size
  have HT88 := Lib.hid (HTo.out.on H8.out fun b hb => by have : b < g6 := hb; omega)
  clear hbk hT8 hb8 HT7 H7 HTo
  go_wp2_with fail
  refine (all1_any (g6 + 1 + 1) (g6 + 1) g6 w.heap.size (t.parts []) m (· < g6) A2 c2 (by rw [HLEN.out]; have := HNI.out.fine.size; omega) hm (fun b => w7.heap.size ≤ b ∧ b < w8.heap.size) t F f F' f' gk w8 HNI.out.fine HBK.out HT8.out (fun b hb => by
    rcases hb with hb | hb
    · refine ⟨hb.2, ?_⟩
      have h1 := hb.1
      rintro (h | h) <;> omega
    · have hb : b < g6 := hb
      refine ⟨by omega, ?_⟩
      rintro (h | h) <;> omega) HT88.out rfl).mono ?_
  rintro e w9 ⟨⟨v, rfl⟩, hT9, hb9⟩
  have HW9 := Lib.hid (show Below w.heap.size w w9 from HBW.out.trans (Below.trans (H8.out.mono (by have := HBW.out.size; omega)) (hb9.below (fun k hk => by rcases hk with rfl | rfl <;> omega) (by have := HBW.out.size; omega))))
  have y8 : w9.cell? ⟨g6 + 1 + 1, 0, none⟩ = some (.bool true) := hT9.ok.cell 0
  have y7 : w9.cell? ⟨g6 + 1, 0, none⟩ = some (.int .i64 ((min t.size (max m 1) : Nat) : Int)) := hT9.n.cell 0
  have y6 : w9.cell? ⟨g6, 0, none⟩ = some (.slice A2 t.size c2) := by have := hT9.l.cell 0; rw [HLEN.out] at this; exact this
  have y3 : w9.cell? ⟨w.heap.size, 0, none⟩ = some (.int .u8 m) := hT9.m.cell 0
  have hmw : IntKind.i64.wrap (m : Int) = m := IntWalk.i64_in _ (by omega)
  have hts := HNI.out.fine.size
  clear hT9 hb9
  go_wp2_with fail
  have hfin : (((min t.size (max m 1) : Nat) : Int) == min (t.size : Int) (max (m : Int) 1)) = true := by rw [beq_iff_eq]; omega
  go_ret
  refine ⟨?_, HW9.out⟩
  show Ending.returned (.bool _) = _
  rw [hfin]

/-- the door's own heap meets the condition -/
theorem door_met (os : Os) (args : Array Value) : laidMetH Tryd.prog Rows.pathAllsRow.laid ((World.doorLaid Tryd.prog 4000 os).forCall (fun _ _ => 0) ⟨#[], args, []⟩).memory :=
  laidMetH_of_parts3 (fuel := 8) (laidMet_of_run' 8 (by kernel_rfl) (by kernel_rfl)) (by kernel_rfl) (by kernel_rfl)

set_option maxRecDepth 100000 in
theorem lifted (os : Os) (started : os.Started) (H : Type) (enc : TypeId × Value → H) :
    ReturnsInHanded {} Tryd.checked os 5 .any (fun w args => (Rows.pathAllsSpec.pre enc Tryd.prog Tryd.f5 [] false w args ∧ laidMetH Tryd.prog Rows.pathAllsRow.laid w) ∧ sizedMet enc Tryd.prog Tryd.f5 (OpenSpec.ofChange Rows.pathAllsSpec) false w args)
      (Rows.pathAllsSpec.post enc Tryd.prog Tryd.f5 false true false false) := by
  refine returnsInHanded_of_change_and (C := Tryd.checked) (X := fun w _ => laidMetH Tryd.prog Rows.pathAllsRow.laid w) (fun _ _ _ hh h => h.of_heap hh) own started (by kernel_rfl) Tryd.func5
    (ChangeSpec.witness_shaped (enc := enc) (C := Tryd.checked) (os := os) (X := fun w _ => laidMetH Tryd.prog Rows.pathAllsRow.laid w) false (World.doorLaid Tryd.prog 4000 os) #[.slice none 0 0, .int .u8 0] 8 rfl (World.shaped_of_RefB (by kernel_rfl) (by kernel_rfl)) (by kernel_rfl) (by kernel_rfl) (by kernel_rfl) (door_met os _)) ?_
  intro W base args ds gs before hval0 hW _ _ hL _
  have hval : ∀ (j : Nat) t v, Tryd.f5.params[j]? = some t → args[j]? = some v → Value.okWide Tryd.prog W .any base t v := hval0
  have hW' := hW
  obtain ⟨p, q, hA0, hV, rfl, hfz, hnd⟩ := hW
  have hA : DataW.TrodAll enc Tryd.prog W 0 (fun _ => true) true Tryd.f5.params.toList args.toList ds p := hA0
  rw [Tryd.params5] at hA hval
  obtain ⟨v0, vs0, d0, ds0, p0, q0, hargs, rfl, rfl, h0, r0⟩ := trodAll_cons hA
  obtain ⟨v1, vs1, d1, ds1, p1, q1, rfl, rfl, rfl, h1, r1⟩ := trodAll_cons r0
  obtain ⟨rfl, rfl, rfl⟩ := trodAll_nil r1
  obtain rfl : args = #[v0, v1] := by cases args; simp_all
  obtain ⟨rfl, rfl⟩ := trodVars_none hV
  obtain ⟨a0, n0, c0, rfl⟩ := okWide_slice Tryd.underlying22 (hval 0 22 v0 rfl rfl)
  have k0 := h0
  have lt0 : ∀ x ∈ p0, x.block < W.heap.size := by obtain ⟨m, hm⟩ := k0; exact DataW.trod_lt m _ _ _ hm
  obtain ⟨f0, hf0⟩ := h0
  obtain ⟨hnc0, hcm0, hN0⟩ := nodes_open (show DataW.trod enc Tryd.prog W 0 _ _ f0 22 [.slice a0 n0 c0] = some (d0, p0) from hf0)
  obtain ⟨x1, rfl, rfl, rfl, w1⟩ := open_int Tryd.underlying5 (hval 1 5 v1 rfl rfl) h1
  have b1 := w1
  simp only [Lit.wf, decide_eq_true_eq, Bool.and_eq_true] at b1
  have eu8a : IntKind.u8.min = 0 := rfl
  have eu8b : IntKind.u8.max = 255 := rfl
  have ei64a : IntKind.i64.min = -9223372036854775808 := rfl
  have ei64b : IntKind.i64.max = 9223372036854775807 := rfl
  clear hA0 hval0
  refine (walk a0 n0 c0 x1 W hnc0 hcm0 hN0 (by omega) (by omega) (errs hL)).mono fun e W' ⟨he, bel⟩ => ?_
  subst he
  exact ⟨_, rfl, _, _, _, [], _, [], hW', trodAll_mk1 (shut_bool Tryd.underlying4 _), (trodAll_cons_mk (Below.trod laidOut (by kernel_rfl) (of_decide_eq_true (by kernel_rfl)) k0 bel lt0) (trodAll_cons_mk (shut_int Tryd.underlying5 w1) trodAll_mk0)), rfl, bel.frame _, fun h => by cases h⟩

theorem said : Rows.PathAllsSaid :=
  OpenClaim.holds_of_wide 5 Tryd.f5 rfl rfl rfl rfl rfl rfl rfl ⟨rfl, rfl, rfl, rfl, rfl⟩ rfl rfl rfl rfl rfl (by kernel_rfl) Tryd.func5 (by kernel_rfl)
    (of_decide_eq_true (by kernel_rfl)) (by unfold Func.isWrapper; first | (rw [if_pos (by decide +kernel)]; kernel_rfl) | (rw [if_neg (by decide +kernel)]; exact ⟨rfl, rfl⟩))
    (fun os started H enc _ => lifted os started H enc)

/-- no parameter wants a stand-in -/
theorem plain (f : FuncId) (fn : Func) (hf : Tryd.pinned.checked.prog.funcNamed "cheval/chevallaw04.PathAlls" = some f) (hfn : Tryd.pinned.checked.prog.funcs[f]? = some fn) :
    true = Tryd.pinned.checked.prog.looks [] ∧ ∀ (j : Nat) t, fn.params[j]? = some t → Tryd.pinned.checked.prog.wantsStandIn t = false := by
  obtain rfl : f = 5 := Option.some.inj ((show Tryd.prog.funcNamed "cheval/chevallaw04.PathAlls" = some 5 by kernel_rfl).symm.trans hf) |>.symm
  obtain rfl : fn = Tryd.f5 := (Option.some.inj (Tryd.func5.symm.trans hfn)).symm
  refine ⟨by kernel_rfl, fun j t ht => ?_⟩
  rw [Tryd.params5] at ht
  have hm := Array.mem_of_getElem? ht
  simp only [List.mem_toArray, List.mem_cons, List.not_mem_nil, or_false] at hm
  rcases hm with rfl | rfl
  · exact (show Tryd.prog.wantsStandIn 22 = false by kernel_rfl)
  · exact (show Tryd.prog.wantsStandIn 5 = false by kernel_rfl)

/-- The statement: the tied card. -/
theorem card : Rows.PathAllsCardSaid :=
  Claim7.holds_tied_plain_at .later [] _ _ _ _ said (fun _ h => by cases h) (by kernel_rfl) (fun _ h => by cases h) pathAlls_row_tie rfl ⟨rfl, rfl⟩ (by kernel_rfl) rfl plain (by kernel_rfl)
end Go.Proofs.YthkpeomdklcnmaaDoor.pathAlls
