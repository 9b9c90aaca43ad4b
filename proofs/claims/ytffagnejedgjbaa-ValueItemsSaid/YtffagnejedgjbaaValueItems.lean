/- ValueItems: the item of any key of any value, or that there is none, is the document's. No conditions: any list of nodes, any key (the law itself asks nothing of keys of more than 100 bytes). -/
import Derived.Test.YtffagnejedgjbaaRows
import Derived.Test.YtffagnejedgjbaaOpen
import Derived.Test.YtffagnejedgjbaaCells
import Derived.Test.YtffagnejedgjbaaAwake
import Derived.WalkKit
import Derived.ProofKit
import Derived.OpenShut
import Derived.ChangeOld
import Derived.ShutString
import Derived.Below
namespace Go.Proofs.Ytffagnejedgjbaa.valueItems
open Go.ChangeShapes Go.WideShapes Go.ChangeAt Go.RowKit
open Go.ChangeMaps (open_string shut_string)
set_option linter.unusedVariables false

theorem own : ownKnob Try.prog.godebug = none := by kernel_rfl
theorem laidOut : laidOutB Try.prog = true := by kernel_rfl

theorem pos_of_mem {l : List ByteArray} {q : ByteArray} (h : Rising l) (hq : q ∈ l) : ∃ p, l[p]? = some q ∧ ∀ (i : Nat) (x : ByteArray), i < p → l[i]? = some x → x ≠ q := by
  obtain ⟨p, hp⟩ := List.mem_iff_getElem?.1 hq
  exact ⟨p, hp, fun i x hi hx he => by
    have := h.mono hx p q hi hp
    rw [he, sl_irrefl] at this
    cases this⟩
set_option maxRecDepth 100000 in
set_option maxHeartbeats 8000000 in
theorem walk (A : Option Addr) (n c : Nat) (s : ByteArray) (w : World) (hnc : n ≤ c) (hcm : c ≤ maxLen) (hN : Nodes w (· < w.heap.size) A n) (hs : s.size ≤ maxLen) :
    Calls Try.prog 7 #[.slice A n c, .string s] w fun e w' => e = .returned (.bool true) ∧ Below w.heap.size w w' := by
  have HN := Lib.hid hN
  clear hN
  by_cases h100 : s.size ≤ 100
  · have t0 : decide ((100 : Int) < (s.size : Int)) = false := decide_eq_false (by omega)
    go_enter Try.func7, Try.ntmps7
    go_wp2_with fail
    refine (awake_any _).mono ?_
    rintro e w1 ⟨rfl, hb1⟩
    have H1 := Lib.hid hb1
    clear hb1
    go_wp2_with fail
    refine (tree_any A n c _ hnc hcm (HN.out.on H1.out)).mono ?_
    rintro e w2 ⟨t, B, d, B', d', rfl, hnice, htv, hb2⟩
    have H2 := Lib.hid (H1.out.trans (hb2.mono H1.out.size))
    have HT := Lib.hid htv
    have hsz := hnice.le
    have HNI := Lib.hid hnice
    clear hb2 H1 htv hnice
    unfold T.agg
    go_upto_region 4 with fail
    have hW : Below w.heap.size w (w2.alloc (.cells #[.int .i64 t.kind, .bool t.tr, .int .i64 t.num, .string t.str, .slice B t.items.length d, .slice B' t.keys.length d'] 30)) := H2.out.alloc H2.out.size _
    have hB : Blk (w2.alloc (.cells #[.int .i64 t.kind, .bool t.tr, .int .i64 t.num, .string t.str, .slice B t.items.length d, .slice B' t.keys.length d'] 30)) w2.heap.size 30 #[.int .i64 t.kind, .bool t.tr, .int .i64 t.num, .string t.str, .slice B t.items.length d, .slice B' t.keys.length d'] := Blk.new w2 _ _
    have hT : TV (w2.alloc (.cells #[.int .i64 t.kind, .bool t.tr, .int .i64 t.num, .string t.str, .slice B t.items.length d, .slice B' t.keys.length d'] 30)) (· < (w2.alloc (.cells #[.int .i64 t.kind, .bool t.tr, .int .i64 t.num, .string t.str, .slice B t.items.length d, .slice B' t.keys.length d'] 30)).heap.size) t B d B' d' := HT.out.on ((Below.refl _ _).alloc (Nat.le_refl _) _)
    change Code.wp _ _ _ _ (w2.alloc (.cells #[.int .i64 t.kind, .bool t.tr, .int .i64 t.num, .string t.str, .slice B t.items.length d, .slice B' t.keys.length d'] 30))
    generalize (w2.alloc (.cells #[.int .i64 t.kind, .bool t.tr, .int .i64 t.num, .string t.str, .slice B t.items.length d, .slice B' t.keys.length d'] 30)) = W at *
    clear HT H2
    have HW := Lib.hid hW
    have HT := Lib.hid hT
    have HB := Lib.hid hB
    have hl := hB.lt
    generalize w2.heap.size = G at *
    clear w2
    have a0 : W.cell? ⟨G, 0, none⟩ = some (.int .i64 t.kind) := hB.cell 0
    have a1 : W.cell? ⟨G, 1, none⟩ = some (.bool t.tr) := hB.cell 1
    have a2 : W.cell? ⟨G, 2, none⟩ = some (.int .i64 t.num) := hB.cell 2
    have a3 : W.cell? ⟨G, 3, none⟩ = some (.string t.str) := hB.cell 3
    have a4 : W.cell? ⟨G, 4, none⟩ = some (.slice B t.items.length d) := hB.cell 4
    have a5 : W.cell? ⟨G, 5, none⟩ = some (.slice B' t.keys.length d') := hB.cell 5
    clear hW hT hB
    go_wp2_with fail
    refine (real_cells t B d B' d' _ hsz HNI.out.small HT.out).mono ?_
    rintro e w3 ⟨C, f, C', f', rfl, hT3, hb3⟩
    unfold T.agg
    have HR := Lib.hid (show TV w3 (· < w3.heap.size) t C f C' f' from hT3.wide fun b hb => hb.2)
    have H3 := Lib.hid hb3
    clear hT3 hb3
    have hkl : t.keys.length ≤ 100000 := by have := HNI.out.good.here.klen; have := T.len_size t; omega
    by_cases hq : s ∈ t.keys
    · obtain ⟨p, hp, hpb⟩ := pos_of_mem HNI.out.good.here.kris hq
      have h5 : t.kind = 5 := by
        by_cases h5 : t.kind = 5
        · exact h5
        · rw [HNI.out.good.here.keys h5] at hp; simp at hp
      have hpl := lt_of_get hp
      have hpi : p < t.items.length := by rw [← HNI.out.good.here.lens h5]; exact hpl
      obtain ⟨bE, oE, x, E, g, E', g', rfl, hbE, hx, h6, hX⟩ := HT.out.at_ hpi
      have HP := Lib.hid hp
      have HPB := Lib.hid hpb
      have HX := Lib.hid hx
      have HXN := Lib.hid (HNI.out.at_ hx)
      have HXT := Lib.hid hX
      have hxz := (HNI.out.at_ hx).le
      have H6 := Lib.hid h6
      clear hp hpb hx hX h6 hq h5
      go_wp2_with fail
      refine (item_some t C f C' f' s p x _ HNI.out HR.out HP.out HX.out).mono ?_
      rintro e w4 ⟨J, i, J', i', rfl, hJ, hb4⟩
      have H4 := Lib.hid (H3.out.trans (hb4.mono H3.out.size))
      have HJ := Lib.hid hJ
      clear H3 hb4 hJ
      go_upto_region 5 with fail
      have hb5 : Below W.heap.size W (w4.alloc (.cells #[.int .i64 x.kind, .bool x.tr, .int .i64 x.num, .string x.str, .slice J x.items.length i, .slice J' x.keys.length i'] 34)) := H4.out.alloc H4.out.size _
      have hB5 : Blk (w4.alloc (.cells #[.int .i64 x.kind, .bool x.tr, .int .i64 x.num, .string x.str, .slice J x.items.length i, .slice J' x.keys.length i'] 34)) w4.heap.size 34 #[.int .i64 x.kind, .bool x.tr, .int .i64 x.num, .string x.str, .slice J x.items.length i, .slice J' x.keys.length i'] := Blk.new w4 _ _
      have hJ5 : TV (w4.alloc (.cells #[.int .i64 x.kind, .bool x.tr, .int .i64 x.num, .string x.str, .slice J x.items.length i, .slice J' x.keys.length i'] 34)) (· < (w4.alloc (.cells #[.int .i64 x.kind, .bool x.tr, .int .i64 x.num, .string x.str, .slice J x.items.length i, .slice J' x.keys.length i'] 34)).heap.size) x J i J' i' := HJ.out.on ((Below.refl _ _).alloc (Nat.le_refl _) _)
      change Code.wp _ _ _ _ (w4.alloc (.cells #[.int .i64 x.kind, .bool x.tr, .int .i64 x.num, .string x.str, .slice J x.items.length i, .slice J' x.keys.length i'] 34))
      generalize (w4.alloc (.cells #[.int .i64 x.kind, .bool x.tr, .int .i64 x.num, .string x.str, .slice J x.items.length i, .slice J' x.keys.length i'] 34)) = V at *
      clear HJ H4
      have H5 := Lib.hid hb5
      have HB5 := Lib.hid hB5
      have HJ := Lib.hid hJ5
      clear hb5 hB5 hJ5
      generalize w4.heap.size = K at *
      clear w4
      have c0 := (H5.out.cell (p := ⟨G, 0, none⟩) hl).trans a0
      have c1 := (H5.out.cell (p := ⟨G, 1, none⟩) hl).trans a1
      have c2 := (H5.out.cell (p := ⟨G, 2, none⟩) hl).trans a2
      have c3 := (H5.out.cell (p := ⟨G, 3, none⟩) hl).trans a3
      have c4 := (H5.out.cell (p := ⟨G, 4, none⟩) hl).trans a4
      have c5 := (H5.out.cell (p := ⟨G, 5, none⟩) hl).trans a5
      have HT5 := Lib.hid (HT.out.on H5.out)
      go_wp2_with fail
      refine (rfind_cells t _ d B' d' s p _ hkl HT5.out.keys (Nat.le_of_lt hpl) HPB.out (fun _ => HP.out) (p : Int) (fun _ => rfl) (fun h => by omega)).mono ?_
      rintro e w6 ⟨rfl, hb6⟩
      have H6' := Lib.hid hb6
      clear hb6
      have u0 : decide ((p : Int) < 0) = false := decide_eq_false (by omega)
      go_upto_region 8 with fail
      have hKV := HB5.out.lt
      have HW6 := Lib.hid (H5.out.trans (H6'.out.mono H5.out.size))
      have HSS := Lib.hid (show ∀ w', Below w6.heap.size w6 w' → (w'.cell? ⟨K, 0, none⟩ = some (.int .i64 x.kind) ∧ w'.cell? ⟨K, 1, none⟩ = some (.bool x.tr) ∧ w'.cell? ⟨K, 2, none⟩ = some (.int .i64 x.num) ∧ w'.cell? ⟨K, 3, none⟩ = some (.string x.str) ∧ w'.cell? ⟨K, 4, none⟩ = some (.slice J x.items.length i) ∧ w'.cell? ⟨K, 5, none⟩ = some (.slice J' x.keys.length i')) ∧ w'.cell? ⟨G, 4, none⟩ = some (.slice (some ⟨bE, oE, none⟩) t.items.length d) ∧ w'.cell? ⟨bE, oE + p * 6, none⟩ = some (.int .i64 x.kind) ∧ w'.cell? ⟨bE, oE + p * 6 + 1, none⟩ = some (.bool x.tr) ∧ w'.cell? ⟨bE, oE + p * 6 + 2, none⟩ = some (.int .i64 x.num) ∧ w'.cell? ⟨bE, oE + p * 6 + 3, none⟩ = some (.string x.str) ∧ w'.cell? ⟨bE, oE + p * 6 + 4, none⟩ = some (.slice E x.items.length g) ∧ w'.cell? ⟨bE, oE + p * 6 + 5, none⟩ = some (.slice E' x.keys.length g') from fun w' hb => by
        have hk := HB5.out.onto (H6'.out.trans (hb.mono H6'.out.size))
        have hw := HW6.out.trans (hb.mono HW6.out.size)
        exact ⟨⟨hk.cell 0, hk.cell 1, hk.cell 2, hk.cell 3, hk.cell 4, hk.cell 5⟩, (hw.cell (p := ⟨G, 4, none⟩) hl).trans a4, H6.out.keep (S := (· < W.heap.size)) hbE (.of_below hw)⟩)
      obtain ⟨⟨k0, k1, k2, k3, k4, k5⟩, k6, k7, k8, k9, k10, k11, k12⟩ := HSS.out w6 (Below.refl _ _)
      have n0 : (0 : Int) ≤ (p : Int) := by omega
      have n1 : (p : Int) < (t.items.length : Int) := by omega
      have HJ6 := Lib.hid (HJ.out.on H6'.out)
      have HX6 := Lib.hid (HXT.out.on HW6.out)
      have HBc := Lib.hid (Below.refl w6.heap.size w6)
      clear c0 c1 c2 c3 c4 c5 a0 a1 a2 a3 a4 a5
      go_region_held3 (fun w' => (w'.cell? ⟨K, 0, none⟩ = some (.int .i64 x.kind) ∧ w'.cell? ⟨K, 1, none⟩ = some (.bool x.tr) ∧ w'.cell? ⟨K, 2, none⟩ = some (.int .i64 x.num) ∧ w'.cell? ⟨K, 3, none⟩ = some (.string x.str) ∧ w'.cell? ⟨K, 4, none⟩ = some (.slice J x.items.length i) ∧ w'.cell? ⟨K, 5, none⟩ = some (.slice J' x.keys.length i')) ∧ w'.cell? ⟨G, 4, none⟩ = some (.slice (some ⟨bE, oE, none⟩) t.items.length d) ∧ w'.cell? ⟨bE, oE + p * 6, none⟩ = some (.int .i64 x.kind) ∧ w'.cell? ⟨bE, oE + p * 6 + 1, none⟩ = some (.bool x.tr) ∧ w'.cell? ⟨bE, oE + p * 6 + 2, none⟩ = some (.int .i64 x.num) ∧ w'.cell? ⟨bE, oE + p * 6 + 3, none⟩ = some (.string x.str) ∧ w'.cell? ⟨bE, oE + p * 6 + 4, none⟩ = some (.slice E x.items.length g) ∧ w'.cell? ⟨bE, oE + p * 6 + 5, none⟩ = some (.slice E' x.keys.length g'))
        (first
          | with_reducible exact HSS.out _ HBc.out
          | with_reducible exact HSS.out _ (below_drewN HBc.out _)
          | exact HSS.out _ HBc.out.drew
          | go_keep)
        (first
          | (go_at_call 18
             with_reducible refine (ref_cells _ x J i J' i' _ hxz (Nat.le_refl _) (HJ6.out.on ?_)).mono ?_
             · exact (by first | with_reducible exact HBc.out | with_reducible exact below_drewN HBc.out _ | exact HBc.out.drew)
             rintro e7 w7 ⟨L, m, L', m', rfl, hL, hb7⟩
             unfold T.agg
             have HL := Lib.hid (show TV w7 (· < w7.heap.size) x L m L' m' from hL.wide fun b hb => by have h1 := hb7.size; have h2 := hb; show b < w7.heap.size; rcases h2 with h2 | h2 <;> omega)
             have HBc := Lib.hid (show Below w6.heap.size w6 w7 from by first | with_reducible exact HBc.out.trans (hb7.mono HBc.out.size) | with_reducible exact (below_drewN HBc.out _).trans (hb7.mono HBc.out.size) | exact HBc.out.drew.trans (hb7.mono HBc.out.size))
             have HBr := Lib.hid (Below.refl w7.heap.size w7)
             clear hL hb7)
          | (go_at_call 17
             with_reducible refine (rsame_cells x L m L' m' E g E' g' _ hxz HXN.out.small (HL.out.on ?_) (HX6.out.on ?_)).mono ?_
             · exact (by first | with_reducible exact HBr.out | with_reducible exact below_drewN HBr.out _ | exact HBr.out.drew)
             · exact (by first | with_reducible exact HBc.out | with_reducible exact below_drewN HBc.out _ | exact HBc.out.drew)
             rintro e8 w8 ⟨rfl, hb8⟩
             have HBc := Lib.hid (show Below w6.heap.size w6 w8 from by first | with_reducible exact HBc.out.trans (hb8.mono HBc.out.size) | with_reducible exact (below_drewN HBc.out _).trans (hb8.mono HBc.out.size) | exact HBc.out.drew.trans (hb8.mono HBc.out.size))
             clear hb8))
      all_goals
        go_wp2_with fail
        go_ret
        exact ⟨rfl, HW.out.trans ((HW6.out.trans (HBc.out.mono HW6.out.size)).mono HW.out.size)⟩
    · have HQ := Lib.hid hq
      clear hq
      go_wp2_with fail
      refine (item_none t C f C' f' s _ HNI.out HR.out HQ.out).mono ?_
      rintro e w4 ⟨rfl, hb4⟩
      have H4 := Lib.hid (H3.out.trans (hb4.mono H3.out.size))
      clear H3 hb4
      go_upto_region 5 with fail
      have hb5 : Below W.heap.size W (w4.alloc (.cells #[.int .i64 0, .bool false, .int .i64 0, .string ⟨#[]⟩, .slice none 0 0, .slice none 0 0] 34)) := H4.out.alloc H4.out.size _
      have hB5 : Blk (w4.alloc (.cells #[.int .i64 0, .bool false, .int .i64 0, .string ⟨#[]⟩, .slice none 0 0, .slice none 0 0] 34)) w4.heap.size 34 #[.int .i64 0, .bool false, .int .i64 0, .string ⟨#[]⟩, .slice none 0 0, .slice none 0 0] := Blk.new w4 _ _
      change Code.wp _ _ _ _ (w4.alloc (.cells #[.int .i64 0, .bool false, .int .i64 0, .string ⟨#[]⟩, .slice none 0 0, .slice none 0 0] 34))
      generalize (w4.alloc (.cells #[.int .i64 0, .bool false, .int .i64 0, .string ⟨#[]⟩, .slice none 0 0, .slice none 0 0] 34)) = V at *
      clear H4
      have H5 := Lib.hid hb5
      have HB5 := Lib.hid hB5
      clear hb5 hB5
      generalize w4.heap.size = K at *
      clear w4
      have c0 := (H5.out.cell (p := ⟨G, 0, none⟩) hl).trans a0
      have c1 := (H5.out.cell (p := ⟨G, 1, none⟩) hl).trans a1
      have c2 := (H5.out.cell (p := ⟨G, 2, none⟩) hl).trans a2
      have c3 := (H5.out.cell (p := ⟨G, 3, none⟩) hl).trans a3
      have c4 := (H5.out.cell (p := ⟨G, 4, none⟩) hl).trans a4
      have c5 := (H5.out.cell (p := ⟨G, 5, none⟩) hl).trans a5
      have HT5 := Lib.hid (HT.out.on H5.out)
      clear a0 a1 a2 a3 a4 a5
      go_wp2_with fail
      refine (rfind_cells t _ d B' d' s t.keys.length _ hkl HT5.out.keys (Nat.le_refl _) (fun i x _ hx h => HQ.out (h ▸ List.mem_of_getElem? hx)) (fun h => by omega) (-1) (fun h => by omega) (fun _ => rfl)).mono ?_
      rintro e w6 ⟨rfl, hb6⟩
      have hk6 := HB5.out.onto hb6
      have k0 : w6.cell? ⟨K, 0, none⟩ = some (.int .i64 0) := hk6.cell 0
      have k1 : w6.cell? ⟨K, 1, none⟩ = some (.bool false) := hk6.cell 1
      have k2 : w6.cell? ⟨K, 2, none⟩ = some (.int .i64 0) := hk6.cell 2
      have k3 : w6.cell? ⟨K, 3, none⟩ = some (.string ⟨#[]⟩) := hk6.cell 3
      have k4 : w6.cell? ⟨K, 4, none⟩ = some (.slice none 0 0) := hk6.cell 4
      have k5 : w6.cell? ⟨K, 5, none⟩ = some (.slice none 0 0) := hk6.cell 5
      have H6 := Lib.hid (H5.out.trans (hb6.mono H5.out.size))
      clear hb6 hk6 c0 c1 c2 c3 c4 c5
      go_wp2_with fail
      refine (ref_zero _).mono ?_
      rintro e w7 ⟨L, m, L', m', rfl, hL, hb7⟩
      have H7 := Lib.hid (H6.out.trans (hb7.mono H6.out.size))
      have HL := Lib.hid hL
      clear hL hb7 H6
      go_wp2_with fail
      refine (rsame_zero L m L' m' _ HL.out).mono ?_
      rintro e w8 ⟨rfl, hb8⟩
      have H8 := Lib.hid (H7.out.trans (hb8.mono H7.out.size))
      clear hb8 H7
      go_wp2_with fail
      go_ret
      exact ⟨rfl, HW.out.trans (H8.out.mono HW.out.size)⟩
  · have t0 : decide ((100 : Int) < (s.size : Int)) = true := decide_eq_true (by omega)
    go_enter Try.func7, Try.ntmps7
    go_wp2_with fail
    refine (awake_any _).mono ?_
    rintro e w1 ⟨rfl, hb1⟩
    have H1 := Lib.hid hb1
    clear hb1
    go_wp2_with fail
    refine (awake_any _).mono ?_
    rintro e w2 ⟨rfl, hb2⟩
    have H2 := Lib.hid (H1.out.trans (hb2.mono H1.out.size))
    clear hb2 H1
    go_wp2_with fail
    go_ret
    exact ⟨rfl, H2.out⟩

set_option maxRecDepth 100000 in
theorem lifted (os : Os) (started : os.Started) (H : Type) (enc : TypeId × Value → H) :
    ReturnsInHanded {} Try.checked os 7 .any (Rows.valueItemsSpec.pre6 enc Try.prog Try.f7 Rows.valueItemsRow.domain false) (Rows.valueItemsSpec.post enc Try.prog Try.f7 false true false false) := by
  refine returnsInHanded_of_change (C := Try.checked) own started (by kernel_rfl) Try.func7
    (ChangeSpec.witness6 (enc := enc) (C := Try.checked) false ⟨#[], #[.slice none 0 0, .string ByteArray.empty], []⟩ 8 (by kernel_rfl) (by kernel_rfl) (by kernel_rfl) (by kernel_rfl)) ?_
  intro W base args ds gs before hval0 hW hcnd _
  have hval : ∀ (j : Nat) t v, Try.f7.params[j]? = some t → args[j]? = some v → Value.okWide Try.prog W .any base t v := hval0
  have hW' := hW
  obtain ⟨p, q, hA0, hV, rfl, hfz, hnd⟩ := hW
  have hA : DataW.TrodAll enc Try.prog W 0 (fun _ => true) true Try.f7.params.toList args.toList ds p := hA0
  rw [Try.params7] at hA hval
  obtain ⟨v0, vs0, d0, ds0, p0, q0, hargs, rfl, rfl, h0, r0⟩ := trodAll_cons hA
  obtain ⟨v1, vs1, d1, ds1, p1, q1, rfl, rfl, rfl, h1, r1⟩ := trodAll_cons r0
  obtain ⟨rfl, rfl, rfl⟩ := trodAll_nil r1
  obtain rfl : args = #[v0, v1] := by cases args; simp_all
  obtain ⟨rfl, rfl⟩ := trodVars_none hV
  obtain ⟨a0, n0, c0, rfl⟩ := okWide_slice Try.underlying22 (hval 0 22 v0 rfl rfl)
  have k0 := h0
  have lt0 : ∀ x ∈ p0, x.block < W.heap.size := by obtain ⟨m, hm⟩ := k0; exact DataW.trod_lt m _ _ _ hm
  obtain ⟨f0, hf0⟩ := h0
  obtain ⟨hnc0, hcm0, hN0⟩ := nodes_open (show DataW.trod enc Try.prog W 0 _ _ f0 22 [.slice a0 n0 c0] = some (d0, p0) from hf0)
  obtain ⟨s1, rfl, rfl, rfl, w1⟩ := open_string Try.underlying9 (hval 1 9 v1 rfl rfl) h1
  clear hA0 hval0
  refine (walk a0 n0 c0 s1 W hnc0 hcm0 hN0 w1).mono fun e W' ⟨he, bel⟩ => ?_
  subst he
  exact ⟨_, rfl, _, _, _, [], _, [], hW', trodAll_mk1 (shut_bool Try.underlying4 _), (trodAll_cons_mk (Below.trod laidOut (by kernel_rfl) (of_decide_eq_true (by kernel_rfl)) k0 bel lt0) (trodAll_cons_mk (shut_string Try.underlying9 w1) trodAll_mk0)), rfl, bel.frame _, fun h => by cases h⟩

theorem over : Rows.valueItemsRow.holds Try.pinned (OpenSpec.ofChange Rows.valueItemsSpec) :=
  OpenClaim.holds_of_wide 7 Try.f7 rfl rfl rfl rfl rfl rfl rfl ⟨rfl, rfl, rfl, rfl, rfl⟩ rfl rfl rfl rfl rfl (by kernel_rfl) Try.func7 (by kernel_rfl)
    (of_decide_eq_true (by kernel_rfl)) (by unfold Func.isWrapper; first | (rw [if_pos (by decide +kernel)]; kernel_rfl) | (rw [if_neg (by decide +kernel)]; exact ⟨rfl, rfl⟩))
    (fun os started H enc _ => lifted os started H enc)

/-- The statement. -/
theorem proved : Rows.ValueItemsSaid := over
end Go.Proofs.Ytffagnejedgjbaa.valueItems
