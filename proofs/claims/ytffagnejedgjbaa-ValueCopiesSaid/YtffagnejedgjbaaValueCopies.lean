/- ValueCopies: a copy of any value is the same value, and shares nothing with it. No conditions: any list of nodes. -/
import Derived.Test.YtffagnejedgjbaaRows
import Derived.Test.YtffagnejedgjbaaOpen
import Derived.Test.YtffagnejedgjbaaSpoil
import Derived.Test.YtffagnejedgjbaaAwake
import Derived.WalkKit
import Derived.ProofKit
import Derived.OpenShut
import Derived.ChangeOld
import Derived.ShutString
import Derived.Below
namespace Go.Proofs.Ytffagnejedgjbaa.valueCopies
open Go.ChangeShapes Go.WideShapes Go.ChangeAt Go.RowKit
open Go.ChangeMaps (open_string shut_string)
set_option linter.unusedVariables false

theorem own : ownKnob Try.prog.godebug = none := by kernel_rfl
theorem laidOut : laidOutB Try.prog = true := by kernel_rfl

set_option maxRecDepth 100000 in
set_option maxHeartbeats 8000000 in
theorem walk (A : Option Addr) (n c : Nat) (w : World) (hnc : n ≤ c) (hcm : c ≤ maxLen) (hN : Nodes w (· < w.heap.size) A n) :
    Calls Try.prog 8 #[.slice A n c] w fun e w' => e = .returned (.bool true) ∧ Below w.heap.size w w' := by
  have HN := Lib.hid hN
  clear hN
  go_enter Try.func8, Try.ntmps8
  go_wp2_with fail
  refine (awake_any _).mono ?_
  rintro e w1 ⟨rfl, hb1⟩
  have H1 := Lib.hid hb1
  clear hb1
  go_wp2_with fail
  refine (tree_any A n c _ hnc hcm (HN.out.on H1.out)).mono ?_
  rintro e w2 ⟨t, B, d, B', d', rfl, hnice, htv, hb2⟩
  have H2 := Lib.hid (H1.out.trans (hb2.mono H1.out.size))
  have HT := Lib.hid htv
  have hsz := hnice.le
  have HNI := Lib.hid hnice
  clear hb2 H1 htv hnice
  unfold T.agg
  go_upto_region 4 with fail
  have hW : Below w.heap.size w (w2.alloc (.cells #[.int .i64 t.kind, .bool t.tr, .int .i64 t.num, .string t.str, .slice B t.items.length d, .slice B' t.keys.length d'] 30)) := H2.out.alloc H2.out.size _
  have hB : Blk (w2.alloc (.cells #[.int .i64 t.kind, .bool t.tr, .int .i64 t.num, .string t.str, .slice B t.items.length d, .slice B' t.keys.length d'] 30)) w2.heap.size 30 #[.int .i64 t.kind, .bool t.tr, .int .i64 t.num, .string t.str, .slice B t.items.length d, .slice B' t.keys.length d'] := Blk.new w2 _ _
  have hT : TV (w2.alloc (.cells #[.int .i64 t.kind, .bool t.tr, .int .i64 t.num, .string t.str, .slice B t.items.length d, .slice B' t.keys.length d'] 30)) (· < (w2.alloc (.cells #[.int .i64 t.kind, .bool t.tr, .int .i64 t.num, .string t.str, .slice B t.items.length d, .slice B' t.keys.length d'] 30)).heap.size) t B d B' d' := HT.out.on ((Below.refl _ _).alloc (Nat.le_refl _) _)
  change Code.wp _ _ _ _ (w2.alloc (.cells #[.int .i64 t.kind, .bool t.tr, .int .i64 t.num, .string t.str, .slice B t.items.length d, .slice B' t.keys.length d'] 30))
  generalize (w2.alloc (.cells #[.int .i64 t.kind, .bool t.tr, .int .i64 t.num, .string t.str, .slice B t.items.length d, .slice B' t.keys.length d'] 30)) = W at *
  clear HT H2
  have HW := Lib.hid hW
  have HT := Lib.hid hT
  have HB := Lib.hid hB
  generalize w2.heap.size = G at *
  clear w2
  have a0 : W.cell? ⟨G, 0, none⟩ = some (.int .i64 t.kind) := hB.cell 0
  have a1 : W.cell? ⟨G, 1, none⟩ = some (.bool t.tr) := hB.cell 1
  have a2 : W.cell? ⟨G, 2, none⟩ = some (.int .i64 t.num) := hB.cell 2
  have a3 : W.cell? ⟨G, 3, none⟩ = some (.string t.str) := hB.cell 3
  have a4 : W.cell? ⟨G, 4, none⟩ = some (.slice B t.items.length d) := hB.cell 4
  have a5 : W.cell? ⟨G, 5, none⟩ = some (.slice B' t.keys.length d') := hB.cell 5
  clear hW hT hB
  go_wp2_with fail
  refine (real_cells t B d B' d' _ hsz HNI.out.small HT.out).mono ?_
  rintro e w3 ⟨C, f, C', f', rfl, hT3, hb3⟩
  unfold T.agg
  have HR3 := Lib.hid (show TV w3 (· < w3.heap.size) t C f C' f' from hT3.wide fun b hb => hb.2)
  have H3 := Lib.hid hb3
  clear hT3 hb3 a0 a1 a2 a3 a4 a5
  go_upto_region 5 with fail
  have hX2 : Below W.heap.size W (w3.alloc (.cells #[.int .i64 t.kind, .bool t.tr, .int .i64 t.num, .string t.str, .slice C t.items.length f, .slice C' t.keys.length f'] 34)) := H3.out.alloc H3.out.size _
  have hB2 : Blk (w3.alloc (.cells #[.int .i64 t.kind, .bool t.tr, .int .i64 t.num, .string t.str, .slice C t.items.length f, .slice C' t.keys.length f'] 34)) w3.heap.size 34 #[.int .i64 t.kind, .bool t.tr, .int .i64 t.num, .string t.str, .slice C t.items.length f, .slice C' t.keys.length f'] := Blk.new w3 _ _
  have hR2 : TV (w3.alloc (.cells #[.int .i64 t.kind, .bool t.tr, .int .i64 t.num, .string t.str, .slice C t.items.length f, .slice C' t.keys.length f'] 34)) (· < (w3.alloc (.cells #[.int .i64 t.kind, .bool t.tr, .int .i64 t.num, .string t.str, .slice C t.items.length f, .slice C' t.keys.length f'] 34)).heap.size) t C f C' f' := HR3.out.on ((Below.refl _ _).alloc (Nat.le_refl _) _)
  change Code.wp _ _ _ _ (w3.alloc (.cells #[.int .i64 t.kind, .bool t.tr, .int .i64 t.num, .string t.str, .slice C t.items.length f, .slice C' t.keys.length f'] 34))
  generalize (w3.alloc (.cells #[.int .i64 t.kind, .bool t.tr, .int .i64 t.num, .string t.str, .slice C t.items.length f, .slice C' t.keys.length f'] 34)) = W2 at *
  clear HR3 H3
  have HW2 := Lib.hid (HW.out.trans (hX2.mono HW.out.size))
  have HB1 := Lib.hid (HB.out.onto hX2)
  have HT1 := Lib.hid (HT.out.on hX2)
  have HB2 := Lib.hid hB2
  have HR := Lib.hid hR2
  generalize w3.heap.size = G2 at *
  clear w3
  have b0 : W2.cell? ⟨G2, 0, none⟩ = some (.int .i64 t.kind) := hB2.cell 0
  have b1 : W2.cell? ⟨G2, 1, none⟩ = some (.bool t.tr) := hB2.cell 1
  have b2 : W2.cell? ⟨G2, 2, none⟩ = some (.int .i64 t.num) := hB2.cell 2
  have b3 : W2.cell? ⟨G2, 3, none⟩ = some (.string t.str) := hB2.cell 3
  have b4 : W2.cell? ⟨G2, 4, none⟩ = some (.slice C t.items.length f) := hB2.cell 4
  have b5 : W2.cell? ⟨G2, 5, none⟩ = some (.slice C' t.keys.length f') := hB2.cell 5
  clear hX2 hB2 hR2 HW HB HT W
  go_wp2_with fail
  refine (copy_cells t C f C' f' _ hsz HNI.out.small HR.out).mono ?_
  rintro e w4 ⟨E, g, E', g', rfl, how, hb4⟩
  unfold T.agg
  have HO4 := Lib.hid how
  have H4 := Lib.hid hb4
  clear how hb4 b0 b1 b2 b3 b4 b5
  go_upto_region 6 with fail
  have hX3 : Below W2.heap.size W2 (w4.alloc (.cells #[.int .i64 t.kind, .bool t.tr, .int .i64 t.num, .string t.str, .slice E t.items.length g, .slice E' t.keys.length g'] 34)) := H4.out.alloc H4.out.size _
  have hB3 : Blk (w4.alloc (.cells #[.int .i64 t.kind, .bool t.tr, .int .i64 t.num, .string t.str, .slice E t.items.length g, .slice E' t.keys.length g'] 34)) w4.heap.size 34 #[.int .i64 t.kind, .bool t.tr, .int .i64 t.num, .string t.str, .slice E t.items.length g, .slice E' t.keys.length g'] := Blk.new w4 _ _
  have hO3 : Own (w4.alloc (.cells #[.int .i64 t.kind, .bool t.tr, .int .i64 t.num, .string t.str, .slice E t.items.length g, .slice E' t.keys.length g'] 34)) W2.heap.size w4.heap.size t E g E' g' := HO4.out.keep fun b hb => Below.heap_alloc _ _ _ hb.2
  change Code.wp _ _ _ _ (w4.alloc (.cells #[.int .i64 t.kind, .bool t.tr, .int .i64 t.num, .string t.str, .slice E t.items.length g, .slice E' t.keys.length g'] 34))
  generalize (w4.alloc (.cells #[.int .i64 t.kind, .bool t.tr, .int .i64 t.num, .string t.str, .slice E t.items.length g, .slice E' t.keys.length g'] 34)) = W3 at *
  have hl4 := H4.out.size
  clear HO4 H4
  have H23 := Lib.hid hX3
  have HB3 := Lib.hid hB3
  have HO3 := Lib.hid hO3
  clear hX3 hB3 hO3
  generalize w4.heap.size = G3 at *
  clear w4
  have hl3 := HB3.out.lt
  have hl1 := HB1.out.lt
  have hl2 := HB2.out.lt
  have HTV3 := Lib.hid (show TV W3 (· < W3.heap.size) t E g E' g' from HO3.out.tv.wide fun b hb => by show b < W3.heap.size; omega)
  have HT3 := Lib.hid (HT1.out.on H23.out)
  have HSS := Lib.hid (show ∀ w', Below W3.heap.size W3 w' → (w'.cell? ⟨G3, 0, none⟩ = some (.int .i64 t.kind) ∧ w'.cell? ⟨G3, 1, none⟩ = some (.bool t.tr) ∧ w'.cell? ⟨G3, 2, none⟩ = some (.int .i64 t.num) ∧ w'.cell? ⟨G3, 3, none⟩ = some (.string t.str) ∧ w'.cell? ⟨G3, 4, none⟩ = some (.slice E t.items.length g) ∧ w'.cell? ⟨G3, 5, none⟩ = some (.slice E' t.keys.length g')) ∧ w'.cell? ⟨G, 0, none⟩ = some (.int .i64 t.kind) ∧ w'.cell? ⟨G, 1, none⟩ = some (.bool t.tr) ∧ w'.cell? ⟨G, 2, none⟩ = some (.int .i64 t.num) ∧ w'.cell? ⟨G, 3, none⟩ = some (.string t.str) ∧ w'.cell? ⟨G, 4, none⟩ = some (.slice B t.items.length d) ∧ w'.cell? ⟨G, 5, none⟩ = some (.slice B' t.keys.length d') from fun w' hb => by
    have k3 := HB3.out.onto hb
    have k1 := HB1.out.onto (H23.out.trans (hb.mono H23.out.size))
    exact ⟨⟨k3.cell 0, k3.cell 1, k3.cell 2, k3.cell 3, k3.cell 4, k3.cell 5⟩, k1.cell 0, k1.cell 1, k1.cell 2, k1.cell 3, k1.cell 4, k1.cell 5⟩)
  obtain ⟨⟨x0, x1, x2, x3, x4, x5⟩, y0, y1, y2, y3, y4, y5⟩ := HSS.out W3 (Below.refl _ _)
  have HBc := Lib.hid (Below.refl W3.heap.size W3)
  go_cut [18] (fun s18 wy => s18 = .bool false ∧ Below W3.heap.size W3 wy)
  case first =>
    go_region_held3 (fun w' => (w'.cell? ⟨G3, 0, none⟩ = some (.int .i64 t.kind) ∧ w'.cell? ⟨G3, 1, none⟩ = some (.bool t.tr) ∧ w'.cell? ⟨G3, 2, none⟩ = some (.int .i64 t.num) ∧ w'.cell? ⟨G3, 3, none⟩ = some (.string t.str) ∧ w'.cell? ⟨G3, 4, none⟩ = some (.slice E t.items.length g) ∧ w'.cell? ⟨G3, 5, none⟩ = some (.slice E' t.keys.length g')) ∧ w'.cell? ⟨G, 0, none⟩ = some (.int .i64 t.kind) ∧ w'.cell? ⟨G, 1, none⟩ = some (.bool t.tr) ∧ w'.cell? ⟨G, 2, none⟩ = some (.int .i64 t.num) ∧ w'.cell? ⟨G, 3, none⟩ = some (.string t.str) ∧ w'.cell? ⟨G, 4, none⟩ = some (.slice B t.items.length d) ∧ w'.cell? ⟨G, 5, none⟩ = some (.slice B' t.keys.length d'))
      (first
        | with_reducible exact HSS.out _ HBc.out
        | with_reducible exact HSS.out _ (below_drewN HBc.out _)
        | exact HSS.out _ HBc.out.drew
        | go_keep)
      (first
        | (go_at_call 18
           with_reducible refine (ref_cells _ t E g E' g' _ hsz (Nat.le_refl _) (HTV3.out.on ?_)).mono ?_
           · exact (by first | with_reducible exact HBc.out | with_reducible exact below_drewN HBc.out _ | exact HBc.out.drew)
           rintro e7 w7 ⟨L, m, L', m', rfl, hL, hb7⟩
           unfold T.agg
           have HL := Lib.hid (show TV w7 (· < w7.heap.size) t L m L' m' from hL.wide fun b hb => by have h1 := hb7.size; have h2 := hb; show b < w7.heap.size; rcases h2 with h2 | h2 <;> omega)
           have HBc := Lib.hid (show Below W3.heap.size W3 w7 from by first | with_reducible exact HBc.out.trans (hb7.mono HBc.out.size) | with_reducible exact (below_drewN HBc.out _).trans (hb7.mono HBc.out.size) | exact HBc.out.drew.trans (hb7.mono HBc.out.size))
           have HBr := Lib.hid (Below.refl w7.heap.size w7)
           clear hL hb7)
        | (go_at_call 17
           with_reducible refine (rsame_cells t L m L' m' B d B' d' _ hsz HNI.out.small (HL.out.on ?_) (HT3.out.on ?_)).mono ?_
           · exact (by first | with_reducible exact HBr.out | with_reducible exact below_drewN HBr.out _ | exact HBr.out.drew)
           · exact (by first | with_reducible exact HBc.out | with_reducible exact below_drewN HBc.out _ | exact HBc.out.drew)
           rintro e8 w8 ⟨rfl, hb8⟩
           have HBc := Lib.hid (show Below W3.heap.size W3 w8 from by first | with_reducible exact HBc.out.trans (hb8.mono HBc.out.size) | with_reducible exact (below_drewN HBc.out _).trans (hb8.mono HBc.out.size) | exact HBc.out.drew.trans (hb8.mono HBc.out.size))
           clear hb8))
    all_goals
      go_wp2_with fail
      go_meet
      exact ⟨rfl, HBc.out⟩
  case rest =>
    obtain ⟨rfl, hb6⟩ := hcut
    obtain ⟨⟨x0, x1, x2, x3, x4, x5⟩, _⟩ := HSS.out wc hb6
    have H6 := Lib.hid hb6
    have HO6 := Lib.hid (HO3.out.keep fun b hb => hb6.block b (by omega))
    have hz6 := hb6.size
    clear hb6 y0 y1 y2 y3 y4 y5 HBc
    go_wp2_with fail
    refine (spoil_any t E g E' g' W2.heap.size G3 _ HNI.out (by omega) HO6.out).mono ?_
    rintro e w7 ⟨rfl, hap⟩
    have H27 := Lib.hid ((H23.out.trans (H6.out.mono H23.out.size)).trans hap.1)
    clear hap
    have hl7 := H27.out.size
    have HR7 := Lib.hid (HR.out.on H27.out)
    have HT7 := Lib.hid (HT1.out.on H27.out)
    have HSS2 := Lib.hid (show ∀ w', Below w7.heap.size w7 w' → (w'.cell? ⟨G2, 0, none⟩ = some (.int .i64 t.kind) ∧ w'.cell? ⟨G2, 1, none⟩ = some (.bool t.tr) ∧ w'.cell? ⟨G2, 2, none⟩ = some (.int .i64 t.num) ∧ w'.cell? ⟨G2, 3, none⟩ = some (.string t.str) ∧ w'.cell? ⟨G2, 4, none⟩ = some (.slice C t.items.length f) ∧ w'.cell? ⟨G2, 5, none⟩ = some (.slice C' t.keys.length f')) ∧ w'.cell? ⟨G, 0, none⟩ = some (.int .i64 t.kind) ∧ w'.cell? ⟨G, 1, none⟩ = some (.bool t.tr) ∧ w'.cell? ⟨G, 2, none⟩ = some (.int .i64 t.num) ∧ w'.cell? ⟨G, 3, none⟩ = some (.string t.str) ∧ w'.cell? ⟨G, 4, none⟩ = some (.slice B t.items.length d) ∧ w'.cell? ⟨G, 5, none⟩ = some (.slice B' t.keys.length d') from fun w' hb => by
      have k3 := HB2.out.onto (H27.out.trans (hb.mono hl7))
      have k1 := HB1.out.onto (H27.out.trans (hb.mono hl7))
      exact ⟨⟨k3.cell 0, k3.cell 1, k3.cell 2, k3.cell 3, k3.cell 4, k3.cell 5⟩, k1.cell 0, k1.cell 1, k1.cell 2, k1.cell 3, k1.cell 4, k1.cell 5⟩)
    obtain ⟨⟨z0, z1, z2, z3, z4, z5⟩, y0, y1, y2, y3, y4, y5⟩ := HSS2.out w7 (Below.refl _ _)
    have HBc := Lib.hid (Below.refl w7.heap.size w7)
    clear x0 x1 x2 x3 x4 x5
    go_wp2_with fail
    go_region_held3 (fun w' => (w'.cell? ⟨G2, 0, none⟩ = some (.int .i64 t.kind) ∧ w'.cell? ⟨G2, 1, none⟩ = some (.bool t.tr) ∧ w'.cell? ⟨G2, 2, none⟩ = some (.int .i64 t.num) ∧ w'.cell? ⟨G2, 3, none⟩ = some (.string t.str) ∧ w'.cell? ⟨G2, 4, none⟩ = some (.slice C t.items.length f) ∧ w'.cell? ⟨G2, 5, none⟩ = some (.slice C' t.keys.length f')) ∧ w'.cell? ⟨G, 0, none⟩ = some (.int .i64 t.kind) ∧ w'.cell? ⟨G, 1, none⟩ = some (.bool t.tr) ∧ w'.cell? ⟨G, 2, none⟩ = some (.int .i64 t.num) ∧ w'.cell? ⟨G, 3, none⟩ = some (.string t.str) ∧ w'.cell? ⟨G, 4, none⟩ = some (.slice B t.items.length d) ∧ w'.cell? ⟨G, 5, none⟩ = some (.slice B' t.keys.length d'))
      (first
        | with_reducible exact HSS2.out _ HBc.out
        | with_reducible exact HSS2.out _ (below_drewN HBc.out _)
        | exact HSS2.out _ HBc.out.drew
        | go_keep)
      (first
        | (go_at_call 18
           with_reducible refine (ref_cells _ t C f C' f' _ hsz (Nat.le_refl _) (HR7.out.on ?_)).mono ?_
           · exact (by first | with_reducible exact HBc.out | with_reducible exact below_drewN HBc.out _ | exact HBc.out.drew)
           rintro e7 w8 ⟨L, m, L', m', rfl, hL, hb7⟩
           unfold T.agg
           have HL := Lib.hid (show TV w8 (· < w8.heap.size) t L m L' m' from hL.wide fun b hb => by have h1 := hb7.size; have h2 := hb; show b < w8.heap.size; rcases h2 with h2 | h2 <;> omega)
           have HBc := Lib.hid (show Below w7.heap.size w7 w8 from by first | with_reducible exact HBc.out.trans (hb7.mono HBc.out.size) | with_reducible exact (below_drewN HBc.out _).trans (hb7.mono HBc.out.size) | exact HBc.out.drew.trans (hb7.mono HBc.out.size))
           have HBr := Lib.hid (Below.refl w8.heap.size w8)
           clear hL hb7)
        | (go_at_call 17
           with_reducible refine (rsame_cells t L m L' m' B d B' d' _ hsz HNI.out.small (HL.out.on ?_) (HT7.out.on ?_)).mono ?_
           · exact (by first | with_reducible exact HBr.out | with_reducible exact below_drewN HBr.out _ | exact HBr.out.drew)
           · exact (by first | with_reducible exact HBc.out | with_reducible exact below_drewN HBc.out _ | exact HBc.out.drew)
           rintro e8 w9 ⟨rfl, hb8⟩
           have HBc := Lib.hid (show Below w7.heap.size w7 w9 from by first | with_reducible exact HBc.out.trans (hb8.mono HBc.out.size) | with_reducible exact (below_drewN HBc.out _).trans (hb8.mono HBc.out.size) | exact HBc.out.drew.trans (hb8.mono HBc.out.size))
           clear hb8))
    all_goals
      go_wp2_with fail
      go_ret
      exact ⟨rfl, HW2.out.trans ((H27.out.trans (HBc.out.mono hl7)).mono HW2.out.size)⟩

set_option maxRecDepth 100000 in
theorem lifted (os : Os) (started : os.Started) (H : Type) (enc : TypeId × Value → H) :
    ReturnsInHanded {} Try.checked os 8 .any (Rows.valueCopiesSpec.pre6 enc Try.prog Try.f8 Rows.valueCopiesRow.domain false) (Rows.valueCopiesSpec.post enc Try.prog Try.f8 false true false false) := by
  refine returnsInHanded_of_change (C := Try.checked) own started (by kernel_rfl) Try.func8
    (ChangeSpec.witness6 (enc := enc) (C := Try.checked) false ⟨#[], #[.slice none 0 0], []⟩ 8 (by kernel_rfl) (by kernel_rfl) (by kernel_rfl) (by kernel_rfl)) ?_
  intro W base args ds gs before hval0 hW hcnd _
  have hval : ∀ (j : Nat) t v, Try.f8.params[j]? = some t → args[j]? = some v → Value.okWide Try.prog W .any base t v := hval0
  have hW' := hW
  obtain ⟨p, q, hA0, hV, rfl, hfz, hnd⟩ := hW
  have hA : DataW.TrodAll enc Try.prog W 0 (fun _ => true) true Try.f8.params.toList args.toList ds p := hA0
  rw [Try.params8] at hA hval
  obtain ⟨v0, vs0, d0, ds0, p0, q0, hargs, rfl, rfl, h0, r0⟩ := trodAll_cons hA
  obtain ⟨rfl, rfl, rfl⟩ := trodAll_nil r0
  obtain rfl : args = #[v0] := by cases args; simp_all
  obtain ⟨rfl, rfl⟩ := trodVars_none hV
  obtain ⟨a0, n0, c0, rfl⟩ := okWide_slice Try.underlying22 (hval 0 22 v0 rfl rfl)
  have k0 := h0
  have lt0 : ∀ x ∈ p0, x.block < W.heap.size := by obtain ⟨m, hm⟩ := k0; exact DataW.trod_lt m _ _ _ hm
  obtain ⟨f0, hf0⟩ := h0
  obtain ⟨hnc0, hcm0, hN0⟩ := nodes_open (show DataW.trod enc Try.prog W 0 _ _ f0 22 [.slice a0 n0 c0] = some (d0, p0) from hf0)
  clear hA0 hval0
  refine (walk a0 n0 c0 W hnc0 hcm0 hN0).mono fun e W' ⟨he, bel⟩ => ?_
  subst he
  exact ⟨_, rfl, _, _, _, [], _, [], hW', trodAll_mk1 (shut_bool Try.underlying4 _), (trodAll_cons_mk (Below.trod laidOut (by kernel_rfl) (of_decide_eq_true (by kernel_rfl)) k0 bel lt0) trodAll_mk0), rfl, bel.frame _, fun h => by cases h⟩

theorem over : Rows.valueCopiesRow.holds Try.pinned (OpenSpec.ofChange Rows.valueCopiesSpec) :=
  OpenClaim.holds_of_wide 8 Try.f8 rfl rfl rfl rfl rfl rfl rfl ⟨rfl, rfl, rfl, rfl, rfl⟩ rfl rfl rfl rfl rfl (by kernel_rfl) Try.func8 (by kernel_rfl)
    (of_decide_eq_true (by kernel_rfl)) (by unfold Func.isWrapper; first | (rw [if_pos (by decide +kernel)]; kernel_rfl) | (rw [if_neg (by decide +kernel)]; exact ⟨rfl, rfl⟩))
    (fun os started H enc _ => lifted os started H enc)

/-- The statement. -/
theorem proved : Rows.ValueCopiesSaid := over
end Go.Proofs.Ytffagnejedgjbaa.valueCopies
