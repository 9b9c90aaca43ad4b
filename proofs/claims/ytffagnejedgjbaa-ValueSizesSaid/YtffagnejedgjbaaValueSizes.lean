/- ValueSizes: the size and the depth of any value are the document's. No conditions: any list of nodes. -/
import Derived.Test.YtffagnejedgjbaaRows
import Derived.Test.YtffagnejedgjbaaOpen
import Derived.Test.YtffagnejedgjbaaReal
import Derived.Test.YtffagnejedgjbaaSizes
import Derived.Test.YtffagnejedgjbaaAwake
import Derived.WalkKit
import Derived.ProofKit
import Derived.OpenShut
import Derived.ChangeOld
import Derived.ShutString
import Derived.Below
namespace Go.Proofs.Ytffagnejedgjbaa.valueSizes
open Go.ChangeShapes Go.WideShapes Go.ChangeAt Go.RowKit
open Go.ChangeMaps (open_string shut_string)
set_option linter.unusedVariables false

theorem own : ownKnob Try.prog.godebug = none := by kernel_rfl
theorem laidOut : laidOutB Try.prog = true := by kernel_rfl

set_option maxRecDepth 100000 in
theorem vsize_cells (t : T) (A : Option Addr) (c : Nat) (A' : Option Addr) (c' : Nat) (w : World) (ht : t.size ≤ 100000) (hv : TV w (· < w.heap.size) t A c A' c') :
    Calls Try.prog 22 #[.agg #[.int .i64 t.kind, .bool t.tr, .int .i64 t.num, .string t.str, .slice A t.items.length c, .slice A' t.keys.length c']] w fun e w' => e = .returned (.int .i64 t.size) ∧ Below w.heap.size w w' := vsize_any 100000 t A c A' c' w ht (Nat.le_refl _) hv
set_option maxRecDepth 100000 in
theorem vdepth_cells (t : T) (A : Option Addr) (c : Nat) (A' : Option Addr) (c' : Nat) (w : World) (ht : t.size ≤ 100000) (hv : TV w (· < w.heap.size) t A c A' c') :
    Calls Try.prog 24 #[.agg #[.int .i64 t.kind, .bool t.tr, .int .i64 t.num, .string t.str, .slice A t.items.length c, .slice A' t.keys.length c']] w fun e w' => e = .returned (.int .i64 t.depth) ∧ Below w.heap.size w w' := vdepth_any 100000 t A c A' c' w ht (Nat.le_refl _) hv
set_option maxRecDepth 100000 in
theorem rdepth_cells (t : T) (A : Option Addr) (c : Nat) (A' : Option Addr) (c' : Nat) (w : World) (ht : t.size ≤ 100000) (hk : t.Kinds) (hv : TV w (· < w.heap.size) t A c A' c') :
    Calls Try.prog 25 #[.agg #[.int .i64 t.kind, .bool t.tr, .int .i64 t.num, .string t.str, .slice A t.items.length c, .slice A' t.keys.length c']] w fun e w' => e = .returned (.int .i64 t.depth) ∧ Below w.heap.size w w' := rdepth_any 100000 t A c A' c' w ht (Nat.le_refl _) hk hv
set_option maxRecDepth 100000 in
theorem real_cells (t : T) (A : Option Addr) (c : Nat) (A' : Option Addr) (c' : Nat) (w : World) (ht : t.size ≤ 100000) (hs : t.Small) (hv : TV w (· < w.heap.size) t A c A' c') :
    Calls Try.prog 11 #[.agg #[.int .i64 t.kind, .bool t.tr, .int .i64 t.num, .string t.str, .slice A t.items.length c, .slice A' t.keys.length c']] w (GivesT t w) := real_any t A c A' c' w ht hs hv

set_option maxRecDepth 100000 in
set_option maxHeartbeats 8000000 in
theorem walk (A : Option Addr) (n c : Nat) (w : World) (hnc : n ≤ c) (hcm : c ≤ maxLen) (hN : Nodes w (· < w.heap.size) A n) :
    Calls Try.prog 6 #[.slice A n c] w fun e w' => e = .returned (.bool true) ∧ Below w.heap.size w w' := by
  have HN := Lib.hid hN
  clear hN
  go_enter Try.func6, Try.ntmps6
  go_wp2_with fail
  refine (awake_any _).mono ?_
  rintro e w1 ⟨rfl, hb1⟩
  have H1 := Lib.hid hb1
  clear hb1
  go_wp2_with fail
  refine (tree_any A n c _ hnc hcm (HN.out.on H1.out)).mono ?_
  rintro e w2 ⟨t, B, d, B', d', rfl, hnice, htv, hb2⟩
  have H2 := Lib.hid (H1.out.trans (hb2.mono H1.out.size))
  have HT := Lib.hid htv
  have hsz := hnice.le
  have HSM := Lib.hid hnice.small
  have HKI := Lib.hid hnice.good.kinds
  clear hb2 H1 htv hnice
  unfold T.agg
  go_upto_region 4 with fail
  have hW : Below w.heap.size w (w2.alloc (.cells #[.int .i64 t.kind, .bool t.tr, .int .i64 t.num, .string t.str, .slice B t.items.length d, .slice B' t.keys.length d'] 30)) := H2.out.alloc H2.out.size _
  have hB : Blk (w2.alloc (.cells #[.int .i64 t.kind, .bool t.tr, .int .i64 t.num, .string t.str, .slice B t.items.length d, .slice B' t.keys.length d'] 30)) w2.heap.size 30 #[.int .i64 t.kind, .bool t.tr, .int .i64 t.num, .string t.str, .slice B t.items.length d, .slice B' t.keys.length d'] := Blk.new w2 _ _
  have hT : TV (w2.alloc (.cells #[.int .i64 t.kind, .bool t.tr, .int .i64 t.num, .string t.str, .slice B t.items.length d, .slice B' t.keys.length d'] 30)) (· < (w2.alloc (.cells #[.int .i64 t.kind, .bool t.tr, .int .i64 t.num, .string t.str, .slice B t.items.length d, .slice B' t.keys.length d'] 30)).heap.size) t B d B' d' := HT.out.on ((Below.refl _ _).alloc (Nat.le_refl _) _)
  change Code.wp _ _ _ _ (w2.alloc (.cells #[.int .i64 t.kind, .bool t.tr, .int .i64 t.num, .string t.str, .slice B t.items.length d, .slice B' t.keys.length d'] 30))
  generalize (w2.alloc (.cells #[.int .i64 t.kind, .bool t.tr, .int .i64 t.num, .string t.str, .slice B t.items.length d, .slice B' t.keys.length d'] 30)) = W at *
  clear HT
  have HW := Lib.hid hW
  have HT := Lib.hid hT
  have hl := hB.lt
  have HSS := Lib.hid (show ∀ w', Below W.heap.size W w' → w'.cell? ⟨w2.heap.size, 0, none⟩ = some (.int .i64 t.kind) ∧ w'.cell? ⟨w2.heap.size, 1, none⟩ = some (.bool t.tr) ∧ w'.cell? ⟨w2.heap.size, 2, none⟩ = some (.int .i64 t.num) ∧ w'.cell? ⟨w2.heap.size, 3, none⟩ = some (.string t.str) ∧ w'.cell? ⟨w2.heap.size, 4, none⟩ = some (.slice B t.items.length d) ∧ w'.cell? ⟨w2.heap.size, 5, none⟩ = some (.slice B' t.keys.length d') from fun w' hb => ⟨(hb.cell (p := ⟨w2.heap.size, 0, none⟩) hl).trans (hB.cell 0), (hb.cell (p := ⟨w2.heap.size, 1, none⟩) hl).trans (hB.cell 1), (hb.cell (p := ⟨w2.heap.size, 2, none⟩) hl).trans (hB.cell 2), (hb.cell (p := ⟨w2.heap.size, 3, none⟩) hl).trans (hB.cell 3), (hb.cell (p := ⟨w2.heap.size, 4, none⟩) hl).trans (hB.cell 4), (hb.cell (p := ⟨w2.heap.size, 5, none⟩) hl).trans (hB.cell 5)⟩)
  obtain ⟨a0, a1, a2, a3, a4, a5⟩ := HSS.out W (Below.refl _ _)
  clear hW hT hB
  have HBc := Lib.hid (Below.refl W.heap.size W)
  go_region_held3 (fun w' => w'.cell? ⟨w2.heap.size, 0, none⟩ = some (.int .i64 t.kind) ∧ w'.cell? ⟨w2.heap.size, 1, none⟩ = some (.bool t.tr) ∧ w'.cell? ⟨w2.heap.size, 2, none⟩ = some (.int .i64 t.num) ∧ w'.cell? ⟨w2.heap.size, 3, none⟩ = some (.string t.str) ∧ w'.cell? ⟨w2.heap.size, 4, none⟩ = some (.slice B t.items.length d) ∧ w'.cell? ⟨w2.heap.size, 5, none⟩ = some (.slice B' t.keys.length d'))
    (first
      | with_reducible exact HSS.out _ HBc.out
      | with_reducible exact HSS.out _ (below_drewN HBc.out _)
      | exact HSS.out _ HBc.out.drew
      | go_keep)
    (first
      | (go_at_call 11
         with_reducible refine (real_cells t B d B' d' _ hsz HSM.out (HT.out.on ?_)).mono ?_
         · exact (by first | with_reducible exact HBc.out | with_reducible exact below_drewN HBc.out _ | exact HBc.out.drew)
         rintro e3 w3 ⟨C, f, C', f', rfl, hT3, hb3⟩
         unfold T.agg
         have HBc := Lib.hid (show Below W.heap.size W w3 from by first | with_reducible exact HBc.out.trans (hb3.mono HBc.out.size) | with_reducible exact (below_drewN HBc.out _).trans (hb3.mono HBc.out.size) | exact HBc.out.drew.trans (hb3.mono HBc.out.size))
         have HR := Lib.hid (show TV w3 (· < w3.heap.size) t C f C' f' from hT3.wide fun b hb => hb.2)
         have HBr := Lib.hid (Below.refl w3.heap.size w3)
         clear hT3 hb3)
      | (go_at_call 22
         with_reducible refine (vsize_cells t C f C' f' _ hsz (HR.out.on ?_)).mono ?_
         · exact (by first | with_reducible exact HBr.out | with_reducible exact below_drewN HBr.out _ | exact HBr.out.drew)
         rintro e4 w4 ⟨rfl, hb4⟩
         have HBc := Lib.hid (show Below W.heap.size W w4 from by first | with_reducible exact HBc.out.trans (hb4.mono HBc.out.size) | with_reducible exact (below_drewN HBc.out _).trans (hb4.mono HBc.out.size) | exact HBc.out.drew.trans (hb4.mono HBc.out.size))
         clear hb4)
      | (go_at_call 24
         with_reducible refine (vdepth_cells t C f C' f' _ hsz (HR.out.on ?_)).mono ?_
         · exact (by first | with_reducible exact HBr.out | with_reducible exact below_drewN HBr.out _ | exact HBr.out.drew)
         rintro e5 w5 ⟨rfl, hb5⟩
         have HBc := Lib.hid (show Below W.heap.size W w5 from by first | with_reducible exact HBc.out.trans (hb5.mono HBc.out.size) | with_reducible exact (below_drewN HBc.out _).trans (hb5.mono HBc.out.size) | exact HBc.out.drew.trans (hb5.mono HBc.out.size))
         clear hb5)
      | (go_at_call 23
         with_reducible refine (rsize_cells t B d B' d' _ hsz (HT.out.on ?_)).mono ?_
         · exact (by first | with_reducible exact HBc.out | with_reducible exact below_drewN HBc.out _ | exact HBc.out.drew)
         rintro e6 w6 ⟨rfl, hb6⟩
         first
           | (have HBr := Lib.hid (show Below w3.heap.size w3 w6 from by first | with_reducible exact HBr.out.trans (hb6.mono HBr.out.size) | with_reducible exact (below_drewN HBr.out _).trans (hb6.mono HBr.out.size) | exact HBr.out.drew.trans (hb6.mono HBr.out.size)))
           | skip
         have HBc := Lib.hid (show Below W.heap.size W w6 from by first | with_reducible exact HBc.out.trans (hb6.mono HBc.out.size) | with_reducible exact (below_drewN HBc.out _).trans (hb6.mono HBc.out.size) | exact HBc.out.drew.trans (hb6.mono HBc.out.size))
         clear hb6)
      | (go_at_call 25
         with_reducible refine (rdepth_cells t B d B' d' _ hsz HKI.out (HT.out.on ?_)).mono ?_
         · exact (by first | with_reducible exact HBc.out | with_reducible exact below_drewN HBc.out _ | exact HBc.out.drew)
         rintro e7 w7 ⟨rfl, hb7⟩
         first
           | (have HBr := Lib.hid (show Below w3.heap.size w3 w7 from by first | with_reducible exact HBr.out.trans (hb7.mono HBr.out.size) | with_reducible exact (below_drewN HBr.out _).trans (hb7.mono HBr.out.size) | exact HBr.out.drew.trans (hb7.mono HBr.out.size)))
           | skip
         have HBc := Lib.hid (show Below W.heap.size W w7 from by first | with_reducible exact HBc.out.trans (hb7.mono HBc.out.size) | with_reducible exact (below_drewN HBc.out _).trans (hb7.mono HBc.out.size) | exact HBc.out.drew.trans (hb7.mono HBc.out.size))
         clear hb7))
  all_goals
    go_wp2_with fail
    go_ret
    exact ⟨rfl, HW.out.trans (HBc.out.mono HW.out.size)⟩

set_option maxRecDepth 100000 in
theorem lifted (os : Os) (started : os.Started) (H : Type) (enc : TypeId × Value → H) :
    ReturnsInHanded {} Try.checked os 6 .any (Rows.valueSizesSpec.pre6 enc Try.prog Try.f6 Rows.valueSizesRow.domain false) (Rows.valueSizesSpec.post enc Try.prog Try.f6 false true false false) := by
  refine returnsInHanded_of_change (C := Try.checked) own started (by kernel_rfl) Try.func6
    (ChangeSpec.witness6 (enc := enc) (C := Try.checked) false ⟨#[], #[.slice none 0 0], []⟩ 8 (by kernel_rfl) (by kernel_rfl) (by kernel_rfl) (by kernel_rfl)) ?_
  intro W base args ds gs before hval0 hW hcnd _
  have hval : ∀ (j : Nat) t v, Try.f6.params[j]? = some t → args[j]? = some v → Value.okWide Try.prog W .any base t v := hval0
  have hW' := hW
  obtain ⟨p, q, hA0, hV, rfl, hfz, hnd⟩ := hW
  have hA : DataW.TrodAll enc Try.prog W 0 (fun _ => true) true Try.f6.params.toList args.toList ds p := hA0
  rw [Try.params6] at hA hval
  obtain ⟨v0, vs0, d0, ds0, p0, q0, hargs, rfl, rfl, h0, r0⟩ := trodAll_cons hA
  obtain ⟨rfl, rfl, rfl⟩ := trodAll_nil r0
  obtain rfl : args = #[v0] := by cases args; simp_all
  obtain ⟨rfl, rfl⟩ := trodVars_none hV
  obtain ⟨a0, n0, c0, rfl⟩ := okWide_slice Try.underlying22 (hval 0 22 v0 rfl rfl)
  have k0 := h0
  have lt0 : ∀ x ∈ p0, x.block < W.heap.size := by obtain ⟨m, hm⟩ := k0; exact DataW.trod_lt m _ _ _ hm
  obtain ⟨f0, hf0⟩ := h0
  obtain ⟨hnc0, hcm0, hN0⟩ := nodes_open (show DataW.trod enc Try.prog W 0 _ _ f0 22 [.slice a0 n0 c0] = some (d0, p0) from hf0)
  clear hA0 hval0
  refine (walk a0 n0 c0 W hnc0 hcm0 hN0).mono fun e W' ⟨he, bel⟩ => ?_
  subst he
  exact ⟨_, rfl, _, _, _, [], _, [], hW', trodAll_mk1 (shut_bool Try.underlying4 _), (trodAll_cons_mk (Below.trod laidOut (by kernel_rfl) (of_decide_eq_true (by kernel_rfl)) k0 bel lt0) trodAll_mk0), rfl, bel.frame _, fun h => by cases h⟩

theorem over : Rows.valueSizesRow.holds Try.pinned (OpenSpec.ofChange Rows.valueSizesSpec) :=
  OpenClaim.holds_of_wide 6 Try.f6 rfl rfl rfl rfl rfl rfl rfl ⟨rfl, rfl, rfl, rfl, rfl⟩ rfl rfl rfl rfl rfl (by kernel_rfl) Try.func6 (by kernel_rfl)
    (of_decide_eq_true (by kernel_rfl)) (by unfold Func.isWrapper; first | (rw [if_pos (by decide +kernel)]; kernel_rfl) | (rw [if_neg (by decide +kernel)]; exact ⟨rfl, rfl⟩))
    (fun os started H enc _ => lifted os started H enc)

/-- The statement. -/
theorem proved : Rows.ValueSizesSaid := over
end Go.Proofs.Ytffagnejedgjbaa.valueSizes
