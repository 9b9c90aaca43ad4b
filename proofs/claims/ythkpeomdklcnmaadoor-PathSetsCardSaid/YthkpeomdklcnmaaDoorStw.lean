/- a walk alone -/
import Derived.Test.YthkpeomdklcnmaaDoorPick
import Derived.Test.YthkpeomdklcnmaaDoorSet
import Derived.Test.YthkpeomdklcnmaaDoorRset
import Derived.Test.YthkpeomdklcnmaaDoorRget
import Derived.Test.YthkpeomdklcnmaaDoorAwake4
import Derived.Test.YthkpeomdklcnmaaDoorSteps
import Derived.Test.YthkpeomdklcnmaaDoorLTree
import Derived.Test.YthkpeomdklcnmaaDoorCells
import Derived.Test.YthkpeomdklcnmaaDoorOpen
import Derived.Test.YthkpeomdklcnmaaDoorWhere
import Derived.Outline
namespace Go.Proofs.YthkpeomdklcnmaaDoor
open Go.RowKit
set_option linter.unusedVariables false
set_option maxRecDepth 100000 in
set_option maxHeartbeats 16000000 in
theorem walk (A0 : Option Addr) (n0 c0 : Nat) (A1 : Option Addr) (n1 c1 : Nat) (a : Nat) (l : List ByteArray) (AL : Option Addr) (cL : Nat) (w : World) (hnc : n0 ≤ c0) (hcm : c0 ≤ maxLen) (hN : Nodes w (· < w.heap.size) A0 n0) (hnc1 : n1 ≤ c1) (hcm1 : c1 ≤ maxLen) (hN1 : Nodes w (· < w.heap.size) A1 n1) (ha : a ≤ 65535) (hlc : l.length ≤ cL) (hcL : cL ≤ maxLen) (hl : SReads w (· < w.heap.size) AL l) (hz : ∀ s ∈ l, s.size ≤ maxLen) (he : Errs w) :
  Calls Tryd.prog 4 #[.slice A0 n0 c0, .slice A1 n1 c1, .agg #[.int .u16 a, .slice AL l.length cL]] w fun e w' => e = .returned (.bool true) ∧ Below w.heap.size w w' := by
 obtain ⟨i0, hi, hz0, hz1, hz2⟩ := info_parts infoStr
 have HN := Lib.hid hN
 have HN1 := Lib.hid hN1
 have HE := Lib.hid he
 have HL := Lib.hid hl
 clear hN he hN1 hl hz
 go_enter Tryd.func4, Tryd.ntmps4
 go_upto_region 1 with fail
 have hB : Blk (w.alloc (.cells #[.int .u16 a, .slice AL l.length cL] 44)) w.heap.size 44 #[.int .u16 a, .slice AL l.length cL] := Blk.new w _ _
 have hW : Below w.heap.size w (w.alloc (.cells #[.int .u16 a, .slice AL l.length cL] 44)) := (Below.refl _ _).alloc (Nat.le_refl _) _
 change Code.wp _ _ _ _ (w.alloc (.cells #[.int .u16 a, .slice AL l.length cL] 44))
 generalize (w.alloc (.cells #[.int .u16 a, .slice AL l.length cL] 44)) = W0 at *
 have HB0 := Lib.hid hB
 have HW0 := Lib.hid hW
 have hl0 := hB.lt
 clear hB hW
 go_wp2_with fail
 refine (awake4_any _ (HE.out.on HW0.out)).mono ?_
 rintro e w1 ⟨rfl, hb1⟩
 have H1 := Lib.hid hb1
 have x1 : w1.cell? ⟨w.heap.size, 1, none⟩ = some (.slice AL l.length cL) := (HB0.out.onto hb1).cell 1
 clear hb1
 go_wp2_with fail
 refine (steps_any l AL cL _ (by unfold maxLen at *; omega) (HL.out.on (HW0.out.trans (H1.out.mono (by omega))))).mono ?_
 rintro e w2 ⟨bs, rfl, hst, hb2⟩
 have H2 := Lib.hid (H1.out.trans (hb2.mono H1.out.size))
 have HST := Lib.hid hst
 clear hb2 hst H1 x1
 cases bs with
 | false =>
  go_wp2_with fail
  refine (awake4_any _ (HE.out.on (HW0.out.trans (H2.out.mono (by omega))))).mono ?_
  rintro e w3 ⟨rfl, hb3⟩
  have H3 := Lib.hid (H2.out.trans (hb3.mono H2.out.size))
  clear hb3
  go_wp2_with fail
  go_ret
  exact ⟨rfl, HW0.out.trans (H3.out.mono (by omega))⟩
 | true =>
  have HL6 := Lib.hid (show ∀ q ∈ l, q.size ≤ 1000 from fun q hq => by have := ((HST.out rfl).1 q hq).1; omega)
  have hl10 := (HST.out rfl).2
  clear HST
  go_wp2_with fail
  refine (tree_any A0 n0 c0 _ hnc hcm (HN.out.on (HW0.out.trans (H2.out.mono (by omega))))).mono ?_
  rintro e w4 ⟨t, B, d, B', d', rfl, hnice, htv, hb4⟩
  have H4 := Lib.hid (H2.out.trans (hb4.mono H2.out.size))
  have HT := Lib.hid htv
  have HNI := Lib.hid hnice
  clear hb4 H2 htv hnice
  unfold T.agg
  go_wp2_with fail
  refine (tree_any A1 n1 c1 _ hnc1 hcm1 (HN1.out.on (HW0.out.trans (H4.out.mono (by omega))))).mono ?_
  rintro e w3 ⟨x, D, g, D', g', rfl, hnice, htv, hb3⟩
  have H3 := Lib.hid (H4.out.trans (hb3.mono H4.out.size))
  have HTV := Lib.hid (HT.out.on hb3)
  have HX := Lib.hid htv
  have HXI := Lib.hid hnice
  clear hb3 H4 htv hnice HT
  unfold T.agg
  go_wp2_with fail
  have hb4 : Below W0.heap.size W0 ((w3.alloc (.cells #[.int .i64 t.kind, .bool t.tr, .int .i64 t.num, .string t.str, .slice B t.items.length d, .slice B' t.keys.length d'] 28)).alloc (.cells #[.int .i64 x.kind, .bool x.tr, .int .i64 x.num, .string x.str, .slice D x.items.length g, .slice D' x.keys.length g'] 28)) := (H3.out.alloc H3.out.size _).alloc (by have := H3.out.size; simp; omega) _
  have hB4 : Blk ((w3.alloc (.cells #[.int .i64 t.kind, .bool t.tr, .int .i64 t.num, .string t.str, .slice B t.items.length d, .slice B' t.keys.length d'] 28)).alloc (.cells #[.int .i64 x.kind, .bool x.tr, .int .i64 x.num, .string x.str, .slice D x.items.length g, .slice D' x.keys.length g'] 28)) w3.heap.size 28 #[.int .i64 t.kind, .bool t.tr, .int .i64 t.num, .string t.str, .slice B t.items.length d, .slice B' t.keys.length d'] := (Blk.new w3 _ _).alloc _
  have hB5 : Blk ((w3.alloc (.cells #[.int .i64 t.kind, .bool t.tr, .int .i64 t.num, .string t.str, .slice B t.items.length d, .slice B' t.keys.length d'] 28)).alloc (.cells #[.int .i64 x.kind, .bool x.tr, .int .i64 x.num, .string x.str, .slice D x.items.length g, .slice D' x.keys.length g'] 28)) (w3.heap.size + 1) 28 #[.int .i64 x.kind, .bool x.tr, .int .i64 x.num, .string x.str, .slice D x.items.length g, .slice D' x.keys.length g'] := by
   have := Blk.new (w3.alloc (.cells #[.int .i64 t.kind, .bool t.tr, .int .i64 t.num, .string t.str, .slice B t.items.length d, .slice B' t.keys.length d'] 28)) 28 #[.int .i64 x.kind, .bool x.tr, .int .i64 x.num, .string x.str, .slice D x.items.length g, .slice D' x.keys.length g']
   simpa using this
  have hb34 : Below w3.heap.size w3 ((w3.alloc (.cells #[.int .i64 t.kind, .bool t.tr, .int .i64 t.num, .string t.str, .slice B t.items.length d, .slice B' t.keys.length d'] 28)).alloc (.cells #[.int .i64 x.kind, .bool x.tr, .int .i64 x.num, .string x.str, .slice D x.items.length g, .slice D' x.keys.length g'] 28)) := ((Below.refl _ _).alloc (Nat.le_refl _) _).alloc (by simp) _
  change Code.wp _ _ _ _ ((w3.alloc (.cells #[.int .i64 t.kind, .bool t.tr, .int .i64 t.num, .string t.str, .slice B t.items.length d, .slice B' t.keys.length d'] 28)).alloc (.cells #[.int .i64 x.kind, .bool x.tr, .int .i64 x.num, .string x.str, .slice D x.items.length g, .slice D' x.keys.length g'] 28))
  generalize ((w3.alloc (.cells #[.int .i64 t.kind, .bool t.tr, .int .i64 t.num, .string t.str, .slice B t.items.length d, .slice B' t.keys.length d'] 28)).alloc (.cells #[.int .i64 x.kind, .bool x.tr, .int .i64 x.num, .string x.str, .slice D x.items.length g, .slice D' x.keys.length g'] 28)) = W4 at *
  have HT4 := Lib.hid (HTV.out.on hb34)
  have HX4 := Lib.hid (HX.out.on hb34)
  clear HTV HX
  generalize w3.heap.size = G3 at *
  have HB4 := Lib.hid hB4
  have HB5 := Lib.hid hB5
  have hl4 := hB4.lt
  have hl5 := hB5.lt
  have HW4 := Lib.hid hb4
  have HBW := Lib.hid (show Below w.heap.size w W4 from HW0.out.trans (hb4.mono (by omega)))
  have hs4 := hb4.size
  clear hB4 hB5 hb4 hb34 H3
  have HL4 := Lib.hid (HL.out.on HBW.out)
  have HS4 := Lib.hid (show ∀ w', Below W4.heap.size W4 w' → (Six w' G3 0 t B d B' d') ∧ w'.cell? ⟨w.heap.size, 0, none⟩ = some (.int .u16 a) ∧ w'.cell? ⟨w.heap.size, 1, none⟩ = some (.slice AL l.length cL) from fun w' h => by
   have h0 := HB4.out.onto h
   have h1 := HB0.out.onto (HW4.out.trans (h.mono hs4))
   exact ⟨⟨h0.cell 0, h0.cell 1, h0.cell 2, h0.cell 3, h0.cell 4, h0.cell 5⟩, h1.cell 0, h1.cell 1⟩)
  refine wp_region_held_drew (S := fun w' => (w'.cell? ⟨G3, 0, none⟩ = some (.int .i64 t.kind) ∧ w'.cell? ⟨G3, 1, none⟩ = some (.bool t.tr) ∧ w'.cell? ⟨G3, 2, none⟩ = some (.int .i64 t.num) ∧ w'.cell? ⟨G3, 3, none⟩ = some (.string t.str) ∧ w'.cell? ⟨G3, 4, none⟩ = some (.slice B t.items.length d) ∧ w'.cell? ⟨G3, 5, none⟩ = some (.slice B' t.keys.length d')) ∧ w'.cell? ⟨w.heap.size, 0, none⟩ = some (.int .u16 a) ∧ w'.cell? ⟨w.heap.size, 1, none⟩ = some (.slice AL l.length cL)) (by kernel_rfl) ?_ (fun hHeld => ?_)
  · exact HS4.out _ (Below.refl W4.heap.size W4).drew
  refine wpAnyH_take (i := 1) (v := ?_) rfl (by kernel_rfl) (by kernel_rfl) (by kernel_rfl) (fun _ _ _ h => h) (Or.inl ⟨by rfl, ?_⟩) (by assumption) ?_
  rotate_left
  ·
   intro wq hSw
   try dsimp only at hSw
   go_simp
   try (with_reducible rfl)
  refine wpAnyH_take (i := 2) (v := ?_) rfl (by kernel_rfl) (by kernel_rfl) (by kernel_rfl) (fun _ _ _ h => h) (Or.inl ⟨by rfl, ?_⟩) (by assumption) ?_
  rotate_left
  ·
   intro wq hSw
   try dsimp only at hSw
   go_simp
   try (with_reducible rfl)
  refine wpAnyH_take (i := 3) (v := ?_) rfl (by kernel_rfl) (by kernel_rfl) (by kernel_rfl) (fun _ _ _ h => h) (Or.inl ⟨by rfl, ?_⟩) (by assumption) ?_
  rotate_left
  ·
   intro wq hSw
   try dsimp only at hSw
   go_simp
   try (with_reducible rfl)
  try simp only [Act.put, List.getElem_toArray, List.getElem_cons_succ, List.getElem_cons_zero, List.setIfInBounds_toArray, List.set_cons_zero, List.set_cons_succ]
  refine wpAnyH_take (i := 6) (v := ?_) rfl (by kernel_rfl) (by kernel_rfl) (by kernel_rfl) (fun _ _ _ h => h) (Or.inl ⟨by rfl, ?_⟩) (by assumption) ?_
  rotate_left
  ·
   intro wq hSw
   try dsimp only at hSw
   go_simp
   try (with_reducible rfl)
  refine wpAnyH_take (i := 7) (v := ?_) rfl (by kernel_rfl) (by kernel_rfl) (by kernel_rfl) (fun _ _ _ h => h) (Or.inl ⟨by rfl, ?_⟩) (by assumption) ?_
  rotate_left
  ·
   intro wq hSw
   try dsimp only at hSw
   go_simp
   try (with_reducible rfl)
  try simp only [Act.put, List.getElem_toArray, List.getElem_cons_succ, List.getElem_cons_zero, List.setIfInBounds_toArray, List.set_cons_zero, List.set_cons_succ]
  refine wpAnyH_ready (rs := [0, 4]) (by kernel_rfl) (by simp) ?_
  refine AllReadyH.cons rfl (fun K0 hK => ?_) (AllReadyH.cons rfl (fun K0 hK => ?_) AllReadyH.nil)
  ·
   skip
   go_simp
   have HBa := Lib.hid (show Below W4.heap.size W4 (W4.alloc (.cells #[] 9)).drew from ((Below.refl W4.heap.size W4).alloc (Below.refl W4.heap.size W4).size _).drew)
   have HOa := Lib.hid (show (W4.alloc (.cells #[] 9)).drew.ownsRow W4.heap.size 9 1 (.slice (some ⟨W4.heap.size, 0, none⟩) 0 0) 0 [] from (World.ownsRow_lit (base := W4.heap.size) (e := 9) (size := 1) W4 #[] 0 (Nat.le_refl _) (by unfold maxLen; omega) rfl).drew)
   have HLa := Lib.hid (show Below W4.heap.size W4 (W4.alloc (.cells #[] 9)).drew from ((Below.refl _ _).alloc (Nat.le_refl _) _).drew)
   have hwa := (Below.refl W4.heap.size W4).size
   refine hK.out _ _ ?_ (fun hHeld => ?_)
   · exact HS4.out _ HBa.out
   clear hK K0
   try simp only [Act.put, List.getElem_toArray, List.getElem_cons_succ, List.getElem_cons_zero, List.setIfInBounds_toArray, List.set_cons_zero, List.set_cons_succ]
   generalize (W4.alloc (.cells #[] 9)).drew = wa at *
   refine wpAnyH_ready (rs := [4]) (by kernel_rfl) (by simp) ?_
   refine AllReadyH.cons rfl (fun K0 hK => ?_) ?_
   rotate_left
   · exact AllReadyH.nil
   go_simp
   refine (pick_any t B d B' d' a _ HNI.out ha (HT4.out.on HBa.out)).mono ?_
   rintro e wp ⟨q, y, Pq, cq, rfl, lcq, l40q, h1q, h2q, h3q, hbp⟩
   have HSq := Lib.hid h1q
   have HLq := Lib.hid h2q
   have HRq := Lib.hid h3q
   have HBp := Lib.hid (show Below W4.heap.size W4 wp from (HBa.out).trans (hbp.mono (HBa.out).size))
   have HOp := Lib.hid hbp
   clear h1q h2q h3q hbp
   go_wp2_with fail
   refine hK.out _ _ ?_ (fun hHeld => ?_)
   · exact HS4.out _ HBp.out
   clear hK K0
   try simp only [Act.put, List.getElem_toArray, List.getElem_cons_succ, List.getElem_cons_zero, List.setIfInBounds_toArray, List.set_cons_zero, List.set_cons_succ]
   have HOz := Lib.hid (own_keptS HOa.out HOp.out)
   have HBz := HBp
   have hzb : W4.heap.size ≤ wp.heap.size := HBp.out.size
   refine wpAnyH_ready (rs := [5]) (by kernel_rfl) (by simp) ?_
   refine AllReadyH.cons rfl (fun K0 hK => ?_) ?_
   rotate_left
   · exact AllReadyH.nil
   refine app_step rfl (.tmp 30) (.tmp 34) 23 rfl W4.heap.size 9 i0 (.string ⟨#[]⟩) 1 16 Tryd.underlying23 hi hz0 hz1 hz2 rfl (by decide) (.slice (some ⟨W4.heap.size, 0, none⟩) 0 0) 0 [] rfl HOz.out Pq q.length cq (q.map Value.string) rfl (HRq.out.src) (by intro u hu; obtain ⟨k, _, rfl⟩ := List.mem_map.1 hu; rfl) (by unfold maxLen; omega) (by omega) (by have := HOz.out; have := HBz.out.size; omega) q.length (by omega) ?_
   intro B5 d5 w5 ho5 hg5 hat5
   rw [List.nil_append] at ho5
   have HO5 := Lib.hid ho5
   have HB5' := Lib.hid (HBz.out.grown hg5 HBz.out.size (fun k hk => by have := (HOz.out.lt k hk).1; omega))
   have hs5 := hg5.size
   refine hK.out _ _ ?_ (fun hHeld => ?_)
   · exact HS4.out _ HB5'.out
   clear hK K0
   try simp only [Act.put, List.getElem_toArray, List.getElem_cons_succ, List.getElem_cons_zero, List.setIfInBounds_toArray, List.set_cons_zero, List.set_cons_succ]
   refine wpAnyH_ready (rs := [8]) (by kernel_rfl) (by simp) ?_
   refine AllReadyH.cons rfl (fun K0 hK => ?_) ?_
   rotate_left
   · exact AllReadyH.nil
   refine app_step rfl (.tmp 35) (.tmp 37) 23 rfl W4.heap.size 9 i0 (.string ⟨#[]⟩) 1 16 Tryd.underlying23 hi hz0 hz1 hz2 rfl (by decide) (.slice B5 q.length d5) q.length (q.map Value.string) rfl HO5.out AL l.length cL (l.map Value.string) rfl ((HL4.out.on HB5'.out).src) (by intro u hu; obtain ⟨k, _, rfl⟩ := List.mem_map.1 hu; rfl) (by unfold maxLen; omega) (by omega) (by omega) (q ++ l).length (by simp) ?_
   intro Q cQ w8 ho8 hg8 hat8
   have HB8 := Lib.hid (HB5'.out.grown hg8 HB5'.out.size (fun k hk => by have := (HO5.out.lt k hk).1; omega))
   have HP8 := Lib.hid (show (q ++ l).length ≤ cQ ∧ SReads w8 (· < w8.heap.size) Q (q ++ l) from by
    have h := own_strs2 (n := (q ++ l).length) (l := q ++ l) rfl (by rw [List.map_append]; exact ho8)
    exact ⟨h.1, h.2.wide fun b hb => hb.2⟩)
   clear ho8 hg8 hat8 ho5 hg5 hat5
   refine hK.out _ _ ?_ (fun hHeld => ?_)
   · exact HS4.out _ HB8.out
   clear hK K0
   try simp only [Act.put, List.getElem_toArray, List.getElem_cons_succ, List.getElem_cons_zero, List.setIfInBounds_toArray, List.set_cons_zero, List.set_cons_succ]
   refine wpAnyH_take (i := 9) (v := ?_) rfl (by kernel_rfl) (by kernel_rfl) (by kernel_rfl) (fun _ _ _ h => h) (Or.inl ⟨by rfl, ?_⟩) (by assumption) ?_
   rotate_left
   ·
    intro wq hSw
    try dsimp only at hSw
    go_simp
    try (with_reducible rfl)
   try simp only [Act.put, List.getElem_toArray, List.getElem_cons_succ, List.getElem_cons_zero, List.setIfInBounds_toArray, List.set_cons_zero, List.set_cons_succ]
   refine wpAnyH_done (by kernel_rfl) ?_ _
   obtain ⟨p, hp⟩ : ∃ p, p = q ++ l := ⟨_, rfl⟩
   have hpn : q.length + l.length = p.length := by rw [hp]; simp
   have hp50 : p.length ≤ 50 := by omega
   have HSp := Lib.hid (show ∀ s ∈ p, s.size ≤ 1000 from fun s hs => by
    rw [hp] at hs
    rcases List.mem_append.1 hs with h | h
    · exact HSq.out s h
    · exact HL6.out s h)
   rw [← hp] at HP8
   try simp only [List.length_append]
   rw [hpn]
   try rw [hpn]
   clear HO5 HB5' HOz HBz HRq HSq HLq HBp HOp hp hpn hs5 hzb HS4 HL4 HL6 HB0 HW0 hwa
   have hpc := HP8.out.1
   have HPP := Lib.hid HP8.out.2
   clear HP8
   obtain ⟨a0, a1, a2, a3, a4, a5⟩ : w8.cell? ⟨G3, 0, none⟩ = some (.int .i64 t.kind) ∧ w8.cell? ⟨G3, 1, none⟩ = some (.bool t.tr) ∧ w8.cell? ⟨G3, 2, none⟩ = some (.int .i64 t.num) ∧ w8.cell? ⟨G3, 3, none⟩ = some (.string t.str) ∧ w8.cell? ⟨G3, 4, none⟩ = some (.slice B t.items.length d) ∧ w8.cell? ⟨G3, 5, none⟩ = some (.slice B' t.keys.length d') := by
    have h0 := HB4.out.onto HB8.out
    exact ⟨h0.cell 0, h0.cell 1, h0.cell 2, h0.cell 3, h0.cell 4, h0.cell 5⟩
   go_wp2_with fail
   refine (real_cells t B d B' d' _ HNI.out.le HNI.out.small (HT4.out.on HB8.out)).mono ?_
   rintro e w9 ⟨E, e1, E', e1', rfl, hT9, hb9⟩
   unfold T.agg
   have HRT := Lib.hid (show TV w9 (· < w9.heap.size) t E e1 E' e1' from hT9.wide fun b hb => hb.2)
   have H9 := Lib.hid (HB8.out.trans (hb9.mono HB8.out.size))
   have HP9 := Lib.hid (HPP.out.on hb9)
   clear hT9 hb9 HPP HB8 a0 a1 a2 a3 a4 a5
   go_upto_region 6 with fail
   have hb10 : Below w9.heap.size w9 (w9.alloc (.cells #[.int .i64 t.kind, .bool t.tr, .int .i64 t.num, .string t.str, .slice E t.items.length e1, .slice E' t.keys.length e1'] 32)) := (Below.refl _ _).alloc (Nat.le_refl _) _
   have hX10 : Blk (w9.alloc (.cells #[.int .i64 t.kind, .bool t.tr, .int .i64 t.num, .string t.str, .slice E t.items.length e1, .slice E' t.keys.length e1'] 32)) w9.heap.size 32 #[.int .i64 t.kind, .bool t.tr, .int .i64 t.num, .string t.str, .slice E t.items.length e1, .slice E' t.keys.length e1'] := Blk.new w9 _ _
   change Code.wp _ _ _ _ (w9.alloc (.cells #[.int .i64 t.kind, .bool t.tr, .int .i64 t.num, .string t.str, .slice E t.items.length e1, .slice E' t.keys.length e1'] 32))
   have HRT6 := Lib.hid (HRT.out.on hb10)
   have HP6 := Lib.hid (HP9.out.on hb10)
   have H10 := Lib.hid (H9.out.trans (hb10.mono H9.out.size))
   have hgx9 := H9.out.size
   clear HRT HP9 H9 hb10
   generalize (w9.alloc (.cells #[.int .i64 t.kind, .bool t.tr, .int .i64 t.num, .string t.str, .slice E t.items.length e1, .slice E' t.keys.length e1'] 32)) = WX at *
   have HGX := Lib.hid hX10
   have hlx := hX10.lt
   clear hX10
   generalize w9.heap.size = gx at *
   clear w9
   have hs10 := H10.out.size
   have HA6 := Lib.hid (show ∀ w', Below WX.heap.size WX w' → (Six w' G3 0 t B d B' d') ∧ (Six w' (G3 + 1) 0 x D g D' g') ∧ (Six w' gx 0 t E e1 E' e1') from fun w' h => by
    have h0 := HB4.out.onto (H10.out.trans (h.mono hs10))
    have h1 := HB5.out.onto (H10.out.trans (h.mono hs10))
    have h2 := HGX.out.onto h
    exact ⟨⟨h0.cell 0, h0.cell 1, h0.cell 2, h0.cell 3, h0.cell 4, h0.cell 5⟩, ⟨h1.cell 0, h1.cell 1, h1.cell 2, h1.cell 3, h1.cell 4, h1.cell 5⟩, h2.cell 0, h2.cell 1, h2.cell 2, h2.cell 3, h2.cell 4, h2.cell 5⟩)
   have HS6 := Lib.hid (show ∀ w', Below WX.heap.size WX w' → (Six w' (G3 + 1) 0 x D g D' g') ∧ (Six w' gx 0 t E e1 E' e1') from fun w' h => ⟨(HA6.out w' h).2.1, (HA6.out w' h).2.2⟩)
   have HS7 := Lib.hid (show ∀ w', Below WX.heap.size WX w' → (Six w' G3 0 t B d B' d') ∧ (Six w' gx 0 t E e1 E' e1') from fun w' h => ⟨(HA6.out w' h).1, (HA6.out w' h).2.2⟩)
   have HT6 := Lib.hid (HT4.out.on H10.out)
   have HX6 := Lib.hid (HX4.out.on H10.out)
   have HWX := Lib.hid (show Below w.heap.size w WX from HBW.out.trans (H10.out.mono (by have := HBW.out.size; omega)))
   have hwx := HWX.out.size
   have HE6 := Lib.hid (HE.out.on HWX.out)
   have hg3 : G3 + 1 < gx := by omega
   clear HT4 HX4 HA6
   refine wp_region_held_drew (S := fun w' => (w'.cell? ⟨G3 + 1, 0, none⟩ = some (.int .i64 x.kind) ∧ w'.cell? ⟨G3 + 1, 1, none⟩ = some (.bool x.tr) ∧ w'.cell? ⟨G3 + 1, 2, none⟩ = some (.int .i64 x.num) ∧ w'.cell? ⟨G3 + 1, 3, none⟩ = some (.string x.str) ∧ w'.cell? ⟨G3 + 1, 4, none⟩ = some (.slice D x.items.length g) ∧ w'.cell? ⟨G3 + 1, 5, none⟩ = some (.slice D' x.keys.length g')) ∧ (w'.cell? ⟨gx, 0, none⟩ = some (.int .i64 t.kind) ∧ w'.cell? ⟨gx, 1, none⟩ = some (.bool t.tr) ∧ w'.cell? ⟨gx, 2, none⟩ = some (.int .i64 t.num) ∧ w'.cell? ⟨gx, 3, none⟩ = some (.string t.str) ∧ w'.cell? ⟨gx, 4, none⟩ = some (.slice E t.items.length e1) ∧ w'.cell? ⟨gx, 5, none⟩ = some (.slice E' t.keys.length e1'))) (by kernel_rfl) ?_ (fun hHeld => ?_)
   · exact HS6.out _ (Below.refl _ _).drew
   refine wpAnyH_take (i := 0) (v := ?_) rfl (by kernel_rfl) (by kernel_rfl) (by kernel_rfl) (fun _ _ _ h => h) (Or.inl ⟨by rfl, ?_⟩) (by assumption) ?_
   rotate_left
   ·
    intro wq hSw
    try dsimp only at hSw
    go_simp
    try (with_reducible rfl)
   try simp only [Act.put, List.getElem_toArray, List.getElem_cons_zero, List.setIfInBounds_toArray, List.set_cons_zero, List.set_cons_succ]
   refine wpAnyH_take (i := 1) (v := ?_) rfl (by kernel_rfl) (by kernel_rfl) (by kernel_rfl) (fun _ _ _ h => h) (Or.inl ⟨by rfl, ?_⟩) (by assumption) ?_
   rotate_left
   ·
    intro wq hSw
    try dsimp only at hSw
    go_simp
    try (with_reducible rfl)
   refine wpAnyH_take (i := 2) (v := ?_) rfl (by kernel_rfl) (by kernel_rfl) (by kernel_rfl) (fun _ _ _ h => h) (Or.inl ⟨by rfl, ?_⟩) (by assumption) ?_
   rotate_left
   ·
    intro wq hSw
    try dsimp only at hSw
    go_simp
    try (with_reducible rfl)
   try simp only [Act.put, List.getElem_toArray, List.getElem_cons_succ, List.getElem_cons_zero, List.setIfInBounds_toArray, List.set_cons_zero, List.set_cons_succ]
   refine wpAnyH_ready (rs := [3, 8]) (by kernel_rfl) (by simp) ?_
   refine AllReadyH.cons rfl (fun K0 hK => ?_) (AllReadyH.cons rfl (fun K0 hK => ?_) AllReadyH.nil)
   ·
    skip
    go_simp
    refine (real_cells x D g D' g' _ HXI.out.le HXI.out.small (HX6.out.on (Below.refl WX.heap.size WX).drew)).mono ?_
    rintro e0 v1 ⟨F, f1, F', f1', rfl, hT, hb0⟩
    unfold T.agg
    have HRX_1 := Lib.hid (show TV v1 (· < v1.heap.size) x F f1 F' f1' from hT.wide fun b hb => hb.2)
    have HBv1 := Lib.hid (show Below WX.heap.size WX v1 from ((Below.refl WX.heap.size WX).drew).trans (hb0.mono ((Below.refl WX.heap.size WX).drew).size))
    clear hT hb0
    go_wp2_with fail
    refine hK.out _ _ ?_ (fun hHeld => ?_)
    · exact HS6.out _ (HBv1.out)
    clear hK K0
    try simp only [Act.put, List.getElem_toArray, List.getElem_cons_succ, List.getElem_cons_zero, List.setIfInBounds_toArray, List.set_cons_zero, List.set_cons_succ]
    refine wpAnyH_ready (rs := [4, 8]) (by kernel_rfl) (by simp) ?_
    refine AllReadyH.cons rfl (fun K0 hK => ?_) (AllReadyH.cons rfl (fun K0 hK => ?_) AllReadyH.nil)
    ·
     skip
     go_simp
     refine (set_any t x p Q cQ E e1 E' e1' F f1 F' f1' _ HNI.out HXI.out (HE6.out.on HBv1.out) HSp.out (by omega) (HP6.out.on HBv1.out) (HRT6.out.on HBv1.out) HRX_1.out).mono ?_
     rintro e0 v2 (⟨y0, rr, hy0, hset, K1, k1, K1', k1', rfl, hT, hb0⟩ | ⟨hno, rfl, hb0⟩)
     ·
      skip
      have HBv2 := Lib.hid (show Below WX.heap.size WX v2 from (HBv1.out).trans (hb0.mono (HBv1.out).size))
      have HGOT := Lib.hid (show TV v2 (· < v2.heap.size) rr K1 k1 K1' k1' from hT.wide fun b hb => hb.2)
      have HSET := Lib.hid hset
      have HLE := Lib.hid hy0
      clear hT hset hy0
      clear hb0
      go_wp2_with fail
      refine hK.out _ _ ?_ (fun hHeld => ?_)
      · exact HS6.out _ (HBv2.out)
      clear hK K0
      try simp only [Act.put, List.getElem_toArray, List.getElem_cons_succ, List.getElem_cons_zero, List.setIfInBounds_toArray, List.set_cons_zero, List.set_cons_succ]
      refine wpAnyH_take (i := 5) (v := ?_) rfl (by kernel_rfl) (by kernel_rfl) (by kernel_rfl) (fun _ _ _ h => h) (Or.inl ⟨by rfl, ?_⟩) (by assumption) ?_
      rotate_left
      ·
       intro wq hSw
       try dsimp only at hSw
       go_simp
       try (with_reducible rfl)
      try simp only [Act.put, List.getElem_toArray, List.getElem_cons_succ, List.getElem_cons_zero, List.setIfInBounds_toArray, List.set_cons_zero, List.set_cons_succ]
      refine wpAnyH_take (i := 6) (v := ?_) rfl (by kernel_rfl) (by kernel_rfl) (by kernel_rfl) (fun _ _ _ h => h) (Or.inl ⟨by rfl, ?_⟩) (by assumption) ?_
      rotate_left
      ·
       intro wq hSw
       try dsimp only at hSw
       go_simp
       try (with_reducible rfl)
      try simp only [Act.put, List.getElem_toArray, List.getElem_cons_succ, List.getElem_cons_zero, List.setIfInBounds_toArray, List.set_cons_zero, List.set_cons_succ]
      refine wpAnyH_take (i := 7) (v := ?_) rfl (by kernel_rfl) (by kernel_rfl) (by kernel_rfl) (fun _ _ _ h => h) (Or.inl ⟨by rfl, ?_⟩) (by assumption) ?_
      rotate_left
      ·
       intro wq hSw
       try dsimp only at hSw
       go_simp
       try (with_reducible rfl)
      try simp only [Act.put, List.getElem_toArray, List.getElem_cons_succ, List.getElem_cons_zero, List.setIfInBounds_toArray, List.set_cons_zero, List.set_cons_succ]
      refine wpAnyH_ready (rs := [8]) (by kernel_rfl) (by simp) ?_
      refine AllReadyH.cons rfl (fun K0 hK => ?_) ?_
      rotate_left
      · exact AllReadyH.nil
      go_simp
      have hb0 : Below v2.heap.size v2 (v2.alloc (.cells #[.int .i64 0, .bool false, .int .i64 0, .string ⟨#[]⟩, .slice none 0 0, .slice none 0 0] 32)) := (Below.refl _ _).alloc (Nat.le_refl _) _
      have HZ_3 := Lib.hid (show Blk (v2.alloc (.cells #[.int .i64 0, .bool false, .int .i64 0, .string ⟨#[]⟩, .slice none 0 0, .slice none 0 0] 32)) v2.heap.size 32 #[.int .i64 0, .bool false, .int .i64 0, .string ⟨#[]⟩, .slice none 0 0, .slice none 0 0] from Blk.new v2 _ _)
      have HGOU := Lib.hid (show TV (v2.alloc (.cells #[.int .i64 0, .bool false, .int .i64 0, .string ⟨#[]⟩, .slice none 0 0, .slice none 0 0] 32)) (fun b => b ≠ v2.heap.size ∧ b < (v2.alloc (.cells #[.int .i64 0, .bool false, .int .i64 0, .string ⟨#[]⟩, .slice none 0 0, .slice none 0 0] 32)).heap.size) rr K1 k1 K1' k1' from (HGOT.out.keep (.of_below hb0)).wide fun b hb => ⟨Nat.ne_of_lt hb, Nat.lt_of_lt_of_le hb hb0.size⟩)
      clear HGOT
      have HBv3 := Lib.hid (show Below WX.heap.size WX (v2.alloc (.cells #[.int .i64 0, .bool false, .int .i64 0, .string ⟨#[]⟩, .slice none 0 0, .slice none 0 0] 32)) from (HBv2.out).trans (hb0.mono (HBv2.out).size))
      have hzl := HZ_3.out.lt
      have hzb := (HBv2.out).size
      clear hb0
      refine hK.out _ _ ?_ (fun hHeld => ?_)
      · exact HS6.out _ (HBv3.out)
      clear hK K0
      try simp only [Act.put, List.getElem_toArray, List.getElem_cons_succ, List.getElem_cons_zero, List.setIfInBounds_toArray, List.set_cons_zero, List.set_cons_succ]
      generalize (v2.alloc (.cells #[.int .i64 0, .bool false, .int .i64 0, .string ⟨#[]⟩, .slice none 0 0, .slice none 0 0] 32)) = v3 at *
      have hgz : WX.heap.size ≤ v2.heap.size := hzb
      clear hzb
      generalize v2.heap.size = gz at *
      have q0 : v3.cell? ⟨gz, 0, none⟩ = some (.int .i64 0) := HZ_3.out.cell 0
      have q1 : v3.cell? ⟨gz, 1, none⟩ = some (.bool false) := HZ_3.out.cell 1
      have q2 : v3.cell? ⟨gz, 2, none⟩ = some (.int .i64 0) := HZ_3.out.cell 2
      have q3 : v3.cell? ⟨gz, 3, none⟩ = some (.string ⟨#[]⟩) := HZ_3.out.cell 3
      have q4 : v3.cell? ⟨gz, 4, none⟩ = some (.slice none 0 0) := HZ_3.out.cell 4
      have q5 : v3.cell? ⟨gz, 5, none⟩ = some (.slice none 0 0) := HZ_3.out.cell 5
      have u0 := HZ_3.out.free 0
      have u1 := HZ_3.out.free 1
      have u2 := HZ_3.out.free 2
      have u3 := HZ_3.out.free 3
      have u4 := HZ_3.out.free 4
      have u5 := HZ_3.out.free 5
      refine wpAnyH_ready (rs := [9]) (by kernel_rfl) (by simp) ?_
      refine AllReadyH.cons rfl (fun K0 hK => ?_) ?_
      rotate_left
      · exact AllReadyH.nil
      go_simp
      refine hK.out _ _ ?_ (fun hHeld => ?_)
      ·
       have hS := HS6.out _ (HBv3.out)
       have hne : ∀ b o, b ≠ gz → (((((((v3.setCell ⟨gz, 0, none⟩ (.int .i64 rr.kind)).setCell ⟨gz, 1, none⟩ (.bool rr.tr)).setCell ⟨gz, 2, none⟩ (.int .i64 rr.num)).setCell ⟨gz, 3, none⟩ (.string rr.str)).setCell ⟨gz, 4, none⟩ (.slice K1 rr.items.length k1)).setCell ⟨gz, 5, none⟩ (.slice K1' rr.keys.length k1'))).cell? ⟨b, o, none⟩ = v3.cell? ⟨b, o, none⟩ := fun b o hb => World.cell?_of_block (put6_heap hb)
       have g1 : gx ≠ gz := by omega
       have g2 : G3 + 1 ≠ gz := by omega
       try dsimp only
       rw [hne gx _ g1, hne gx _ g1, hne gx _ g1, hne gx _ g1, hne gx _ g1, hne gx _ g1, hne (G3 + 1) _ g2, hne (G3 + 1) _ g2, hne (G3 + 1) _ g2, hne (G3 + 1) _ g2, hne (G3 + 1) _ g2, hne (G3 + 1) _ g2]
       exact hS
      clear hK K0
      try simp only [Act.put, List.getElem_toArray, List.getElem_cons_succ, List.getElem_cons_zero, List.setIfInBounds_toArray, List.set_cons_zero, List.set_cons_succ]
      refine wpAnyH_take (i := 10) (v := ?_) rfl (by kernel_rfl) (by kernel_rfl) (by kernel_rfl) (fun _ _ _ h => h) (Or.inl ⟨by rfl, ?_⟩) (by assumption) ?_
      rotate_left
      ·
       intro wq hSw
       try dsimp only at hSw
       go_simp
       try (with_reducible rfl)
      try simp only [Act.put, List.getElem_toArray, List.getElem_cons_succ, List.getElem_cons_zero, List.setIfInBounds_toArray, List.set_cons_zero, List.set_cons_succ]
      refine wpAnyH_done (by kernel_rfl) ?_ _
      have hlz := HZ_3.out.lt
      have hzs : (((((((v3.setCell ⟨gz, 0, none⟩ (.int .i64 rr.kind)).setCell ⟨gz, 1, none⟩ (.bool rr.tr)).setCell ⟨gz, 2, none⟩ (.int .i64 rr.num)).setCell ⟨gz, 3, none⟩ (.string rr.str)).setCell ⟨gz, 4, none⟩ (.slice K1 rr.items.length k1)).setCell ⟨gz, 5, none⟩ (.slice K1' rr.keys.length k1'))).heap.size = v3.heap.size := put6_size
      have HBP := Lib.hid (show Below WX.heap.size WX ((((((v3.setCell ⟨gz, 0, none⟩ (.int .i64 rr.kind)).setCell ⟨gz, 1, none⟩ (.bool rr.tr)).setCell ⟨gz, 2, none⟩ (.int .i64 rr.num)).setCell ⟨gz, 3, none⟩ (.string rr.str)).setCell ⟨gz, 4, none⟩ (.slice K1 rr.items.length k1)).setCell ⟨gz, 5, none⟩ (.slice K1' rr.keys.length k1')) from put6_below HBv3.out hgz)
      have HF := Lib.hid (res_put HZ_3.out rfl rr K1 k1 K1' k1')
      have HGP := Lib.hid (show TV ((((((v3.setCell ⟨gz, 0, none⟩ (.int .i64 rr.kind)).setCell ⟨gz, 1, none⟩ (.bool rr.tr)).setCell ⟨gz, 2, none⟩ (.int .i64 rr.num)).setCell ⟨gz, 3, none⟩ (.string rr.str)).setCell ⟨gz, 4, none⟩ (.slice K1 rr.items.length k1)).setCell ⟨gz, 5, none⟩ (.slice K1' rr.keys.length k1')) (· < (((((((v3.setCell ⟨gz, 0, none⟩ (.int .i64 rr.kind)).setCell ⟨gz, 1, none⟩ (.bool rr.tr)).setCell ⟨gz, 2, none⟩ (.int .i64 rr.num)).setCell ⟨gz, 3, none⟩ (.string rr.str)).setCell ⟨gz, 4, none⟩ (.slice K1 rr.items.length k1)).setCell ⟨gz, 5, none⟩ (.slice K1' rr.keys.length k1'))).heap.size) rr K1 k1 K1' k1' from (HGOU.out.keep fun b hb => put6_heap hb.1).wide fun b hb => by show b < _; rw [hzs]; exact hb.2)
      have HFine := Lib.hid (sets_fine HNI.out HXI.out HSET.out)
      clear HGOU
      clear q0 q1 q2 q3 q4 q5 u0 u1 u2 u3 u4 u5 HZ_3 hlz hzs
      generalize ((((((v3.setCell ⟨gz, 0, none⟩ (.int .i64 rr.kind)).setCell ⟨gz, 1, none⟩ (.bool rr.tr)).setCell ⟨gz, 2, none⟩ (.int .i64 rr.num)).setCell ⟨gz, 3, none⟩ (.string rr.str)).setCell ⟨gz, 4, none⟩ (.slice K1 rr.items.length k1)).setCell ⟨gz, 5, none⟩ (.slice K1' rr.keys.length k1')) = vP at *
      go_upto_region 7 with fail
      refine wp_region_held_drew (S := fun w' => (w'.cell? ⟨G3, 0, none⟩ = some (.int .i64 t.kind) ∧ w'.cell? ⟨G3, 1, none⟩ = some (.bool t.tr) ∧ w'.cell? ⟨G3, 2, none⟩ = some (.int .i64 t.num) ∧ w'.cell? ⟨G3, 3, none⟩ = some (.string t.str) ∧ w'.cell? ⟨G3, 4, none⟩ = some (.slice B t.items.length d) ∧ w'.cell? ⟨G3, 5, none⟩ = some (.slice B' t.keys.length d')) ∧ (w'.cell? ⟨gx, 0, none⟩ = some (.int .i64 t.kind) ∧ w'.cell? ⟨gx, 1, none⟩ = some (.bool t.tr) ∧ w'.cell? ⟨gx, 2, none⟩ = some (.int .i64 t.num) ∧ w'.cell? ⟨gx, 3, none⟩ = some (.string t.str) ∧ w'.cell? ⟨gx, 4, none⟩ = some (.slice E t.items.length e1) ∧ w'.cell? ⟨gx, 5, none⟩ = some (.slice E' t.keys.length e1'))) (by kernel_rfl) ?_ (fun hHeld => ?_)
      · exact HS7.out _ HBP.out.drew
      refine wpAnyH_take (i := 0) (v := ?_) rfl (by kernel_rfl) (by kernel_rfl) (by kernel_rfl) (fun _ _ _ h => h) (Or.inl ⟨by rfl, ?_⟩) (by assumption) ?_
      rotate_left
      ·
       intro wq hSw
       try dsimp only at hSw
       go_simp
       try (with_reducible rfl)
      try simp only [Act.put, List.getElem_toArray, List.getElem_cons_zero, List.setIfInBounds_toArray, List.set_cons_zero, List.set_cons_succ]
      refine wpAnyH_take (i := 2) (v := ?_) rfl (by kernel_rfl) (by kernel_rfl) (by kernel_rfl) (fun _ _ _ h => h) (Or.inl ⟨by rfl, ?_⟩) (by assumption) ?_
      rotate_left
      ·
       intro wq hSw
       try dsimp only at hSw
       go_simp
       try (with_reducible rfl)
      try simp only [Act.put, List.getElem_toArray, List.getElem_cons_succ, List.getElem_cons_zero, List.setIfInBounds_toArray, List.set_cons_zero, List.set_cons_succ]
      refine wpAnyH_ready (rs := [1]) (by kernel_rfl) (by simp) ?_
      refine AllReadyH.cons rfl (fun K0 hK => ?_) ?_
      rotate_left
      · exact AllReadyH.nil
      go_simp
      refine (ref_cells _ t E e1 E' e1' _ HNI.out.le (Nat.le_refl _) (HRT6.out.on HBP.out.drew)).mono ?_
      rintro e0 vR ⟨R1, r1, R1', r1', rfl, hU, hb0⟩
      unfold T.agg
      have LR := Lib.hid (show Below vP.heap.size vP vR from (Below.refl vP.heap.size vP).drew.trans hb0)
      have HU := Lib.hid (show TV vR (· < vR.heap.size) t R1 r1 R1' r1' from hU.wide fun b hb => by
       have h1 := hb0.size
       rcases hb with hb | hb
       · exact Nat.lt_of_lt_of_le hb h1
       · exact hb.2)
      clear hU hb0
      go_wp2_with fail
      refine hK.out _ _ ?_ (fun hHeld => ?_)
      · exact HS7.out _ ((HBP.out.trans (LR.out.mono HBP.out.size)))
      clear hK K0
      try simp only [Act.put, List.getElem_toArray, List.getElem_cons_succ, List.getElem_cons_zero, List.setIfInBounds_toArray, List.set_cons_zero, List.set_cons_succ]
      refine wpAnyH_ready (rs := [3]) (by kernel_rfl) (by simp) ?_
      refine AllReadyH.cons rfl (fun K0 hK => ?_) ?_
      rotate_left
      · exact AllReadyH.nil
      go_simp
      refine (rsame_cells t R1 r1 R1' r1' B d B' d' _ HNI.out.le HNI.out.small HU.out (HT6.out.on (HBP.out.trans (LR.out.mono HBP.out.size)))).mono ?_
      rintro e0 vS ⟨rfl, hb0⟩
      have LS := Lib.hid (LR.out.trans (hb0.mono LR.out.size))
      clear hb0 LR HU
      go_wp2_with fail
      refine hK.out _ _ ?_ (fun hHeld => ?_)
      · exact HS7.out _ ((HBP.out.trans (LS.out.mono HBP.out.size)))
      clear hK K0
      try simp only [Act.put, List.getElem_toArray, List.getElem_cons_succ, List.getElem_cons_zero, List.setIfInBounds_toArray, List.set_cons_zero, List.set_cons_succ]
      refine wpAnyH_take (i := 4) (v := ?_) rfl (by kernel_rfl) (by kernel_rfl) (by kernel_rfl) (fun _ _ _ h => h) (Or.inl ⟨by rfl, ?_⟩) (by assumption) ?_
      rotate_left
      ·
       intro wq hSw
       try dsimp only at hSw
       go_simp
       try (with_reducible rfl)
      try simp only [Act.put, List.getElem_toArray, List.getElem_cons_succ, List.getElem_cons_zero, List.setIfInBounds_toArray, List.set_cons_zero, List.set_cons_succ]
      refine wpAnyH_done (by kernel_rfl) ?_ _
      obtain ⟨a0, a1, a2, a3, a4, a5⟩ := (HS7.out vS (HBP.out.trans (LS.out.mono HBP.out.size))).1
      go_wp2_with fail
      refine (rget_any t p Q cQ B d B' d' _ HNI.out.fine (by omega) (HP6.out.on (HBP.out.trans (LS.out.mono HBP.out.size))) (HT6.out.on (HBP.out.trans (LS.out.mono HBP.out.size)))).mono ?_
      rintro e0 vG (⟨z1, hz1, C0, f0, C0', f0', rfl, hT, hb0⟩ | ⟨hno, _⟩)
      rotate_left
      · exact absurd HLE.out (hno y0)
      have LG := Lib.hid (LS.out.trans (hb0.mono LS.out.size))
      clear hT hz1 hb0 LS a0 a1 a2 a3 a4 a5
      go_upto_region 10 with fail
      have hb0 : Below vG.heap.size vG (vG.alloc (.cells #[.int .i64 z1.kind, .bool z1.tr, .int .i64 z1.num, .string z1.str, .slice C0 z1.items.length f0, .slice C0' z1.keys.length f0'] 28)) := (Below.refl _ _).alloc (Nat.le_refl _) _
      have hX : Blk (vG.alloc (.cells #[.int .i64 z1.kind, .bool z1.tr, .int .i64 z1.num, .string z1.str, .slice C0 z1.items.length f0, .slice C0' z1.keys.length f0'] 28)) vG.heap.size 28 #[.int .i64 z1.kind, .bool z1.tr, .int .i64 z1.num, .string z1.str, .slice C0 z1.items.length f0, .slice C0' z1.keys.length f0'] := Blk.new vG _ _
      change Code.wp _ _ _ _ (vG.alloc (.cells #[.int .i64 z1.kind, .bool z1.tr, .int .i64 z1.num, .string z1.str, .slice C0 z1.items.length f0, .slice C0' z1.keys.length f0'] 28))
      have LH := Lib.hid (LG.out.trans (hb0.mono LG.out.size))
      generalize (vG.alloc (.cells #[.int .i64 z1.kind, .bool z1.tr, .int .i64 z1.num, .string z1.str, .slice C0 z1.items.length f0, .slice C0' z1.keys.length f0'] 28)) = vH at *
      have HX13 := Lib.hid hX
      clear hb0 hX  LG
      generalize vG.heap.size = g13 at *
      obtain ⟨a0, a1, a2, a3, a4, a5⟩ : vH.cell? ⟨gz, 0, none⟩ = some (.int .i64 rr.kind) ∧ vH.cell? ⟨gz, 1, none⟩ = some (.bool rr.tr) ∧ vH.cell? ⟨gz, 2, none⟩ = some (.int .i64 rr.num) ∧ vH.cell? ⟨gz, 3, none⟩ = some (.string rr.str) ∧ vH.cell? ⟨gz, 4, none⟩ = some (.slice K1 rr.items.length k1) ∧ vH.cell? ⟨gz, 5, none⟩ = some (.slice K1' rr.keys.length k1') := by
       have h := HF.out.onto LH.out
       exact ⟨h.cell 0, h.cell 1, h.cell 2, h.cell 3, h.cell 4, h.cell 5⟩
      go_wp2_with fail
      refine (get_any rr p Q cQ K1 k1 K1' k1' _ HFine.out (HE6.out.on (HBP.out.trans (LH.out.mono HBP.out.size))) HSp.out (by omega) (HP6.out.on (HBP.out.trans (LH.out.mono HBP.out.size))) (HGP.out.on LH.out)).mono ?_
      clear HX13
      rintro e0 vI (⟨z2, hz2, C, f, C', f', rfl, hT, hb0⟩ | ⟨hno, _⟩)
      rotate_left
      · exact absurd (sets_leads HSET.out) (hno x)
      obtain rfl : x = z2 := leads_unique HFine.out (sets_leads HSET.out) hz2
      have LI := Lib.hid (LH.out.trans (hb0.mono LH.out.size))
      have HTI := Lib.hid hT
      clear hT hz2 hb0 LH a0 a1 a2 a3 a4 a5
      go_upto_region 13 with fail
      have hb0 : Below vI.heap.size vI (vI.alloc (.cells #[.int .i64 x.kind, .bool x.tr, .int .i64 x.num, .string x.str, .slice C x.items.length f, .slice C' x.keys.length f'] 32)) := (Below.refl _ _).alloc (Nat.le_refl _) _
      have hX : Blk (vI.alloc (.cells #[.int .i64 x.kind, .bool x.tr, .int .i64 x.num, .string x.str, .slice C x.items.length f, .slice C' x.keys.length f'] 32)) vI.heap.size 32 #[.int .i64 x.kind, .bool x.tr, .int .i64 x.num, .string x.str, .slice C x.items.length f, .slice C' x.keys.length f'] := Blk.new vI _ _
      change Code.wp _ _ _ _ (vI.alloc (.cells #[.int .i64 x.kind, .bool x.tr, .int .i64 x.num, .string x.str, .slice C x.items.length f, .slice C' x.keys.length f'] 32))
      have HTJ := Lib.hid (HTI.out.on hb0)
      have LJ := Lib.hid (LI.out.trans (hb0.mono LI.out.size))
      generalize (vI.alloc (.cells #[.int .i64 x.kind, .bool x.tr, .int .i64 x.num, .string x.str, .slice C x.items.length f, .slice C' x.keys.length f'] 32)) = vJ at *
      have HXJ := Lib.hid hX
      clear hb0 hX HTI LI
      generalize vI.heap.size = gj at *
      have HSS := Lib.hid (show ∀ w', Below vJ.heap.size vJ w' → (Six w' gz 0 rr K1 k1 K1' k1') ∧ (Six w' G3 0 t B d B' d') ∧ (Six w' (G3 + 1) 0 x D g D' g') ∧ (Six w' gj 0 x C f C' f') from fun w' hb => by
       have hb1 := LJ.out.trans (hb.mono LJ.out.size)
       have hb2 := H10.out.trans ((HBP.out.trans (hb1.mono HBP.out.size)).mono hs10)
       have h1 := HF.out.onto hb1
       have h2 := HB4.out.onto hb2
       have h3 := HB5.out.onto hb2
       have h4 := HXJ.out.onto hb
       exact ⟨⟨h1.cell 0, h1.cell 1, h1.cell 2, h1.cell 3, h1.cell 4, h1.cell 5⟩, ⟨h2.cell 0, h2.cell 1, h2.cell 2, h2.cell 3, h2.cell 4, h2.cell 5⟩, ⟨h3.cell 0, h3.cell 1, h3.cell 2, h3.cell 3, h3.cell 4, h3.cell 5⟩, h4.cell 0, h4.cell 1, h4.cell 2, h4.cell 3, h4.cell 4, h4.cell 5⟩)
      have HPJ := Lib.hid (HP6.out.on (HBP.out.trans (LJ.out.mono HBP.out.size)))
      have HTt := Lib.hid (HT6.out.on (HBP.out.trans (LJ.out.mono HBP.out.size)))
      have HTx := Lib.hid (HX6.out.on (HBP.out.trans (LJ.out.mono HBP.out.size)))
      have HTr := Lib.hid (HGP.out.on LJ.out)
      have HWJ := Lib.hid (HWX.out.trans ((HBP.out.trans (LJ.out.mono HBP.out.size)).mono hwx))
      clear HP6 HT6 HX6 HGP LJ HBP HF HXJ HS6 HS7 HRT6
      refine wp_region_held_drew (S := fun w' => (w'.cell? ⟨gz, 0, none⟩ = some (.int .i64 rr.kind) ∧ w'.cell? ⟨gz, 1, none⟩ = some (.bool rr.tr) ∧ w'.cell? ⟨gz, 2, none⟩ = some (.int .i64 rr.num) ∧ w'.cell? ⟨gz, 3, none⟩ = some (.string rr.str) ∧ w'.cell? ⟨gz, 4, none⟩ = some (.slice K1 rr.items.length k1) ∧ w'.cell? ⟨gz, 5, none⟩ = some (.slice K1' rr.keys.length k1')) ∧ (w'.cell? ⟨G3, 0, none⟩ = some (.int .i64 t.kind) ∧ w'.cell? ⟨G3, 1, none⟩ = some (.bool t.tr) ∧ w'.cell? ⟨G3, 2, none⟩ = some (.int .i64 t.num) ∧ w'.cell? ⟨G3, 3, none⟩ = some (.string t.str) ∧ w'.cell? ⟨G3, 4, none⟩ = some (.slice B t.items.length d) ∧ w'.cell? ⟨G3, 5, none⟩ = some (.slice B' t.keys.length d')) ∧ (w'.cell? ⟨G3 + 1, 0, none⟩ = some (.int .i64 x.kind) ∧ w'.cell? ⟨G3 + 1, 1, none⟩ = some (.bool x.tr) ∧ w'.cell? ⟨G3 + 1, 2, none⟩ = some (.int .i64 x.num) ∧ w'.cell? ⟨G3 + 1, 3, none⟩ = some (.string x.str) ∧ w'.cell? ⟨G3 + 1, 4, none⟩ = some (.slice D x.items.length g) ∧ w'.cell? ⟨G3 + 1, 5, none⟩ = some (.slice D' x.keys.length g')) ∧ (w'.cell? ⟨gj, 0, none⟩ = some (.int .i64 x.kind) ∧ w'.cell? ⟨gj, 1, none⟩ = some (.bool x.tr) ∧ w'.cell? ⟨gj, 2, none⟩ = some (.int .i64 x.num) ∧ w'.cell? ⟨gj, 3, none⟩ = some (.string x.str) ∧ w'.cell? ⟨gj, 4, none⟩ = some (.slice C x.items.length f) ∧ w'.cell? ⟨gj, 5, none⟩ = some (.slice C' x.keys.length f'))) (by kernel_rfl) ?_ (fun hHeld => ?_)
      · exact HSS.out _ (Below.refl _ _).drew
      refine wpAnyH_take (i := 0) (v := ?_) rfl (by kernel_rfl) (by kernel_rfl) (by kernel_rfl) (fun _ _ _ h => h) (Or.inl ⟨by rfl, ?_⟩) (by assumption) ?_
      rotate_left
      ·
       intro wq hSw
       try dsimp only at hSw
       go_simp
       try (with_reducible rfl)
      try simp only [Act.put, List.getElem_toArray, List.getElem_cons_zero, List.setIfInBounds_toArray, List.set_cons_zero, List.set_cons_succ]
      refine wpAnyH_take (i := 1) (v := ?_) rfl (by kernel_rfl) (by kernel_rfl) (by kernel_rfl) (fun _ _ _ h => h) (Or.inl ⟨by rfl, ?_⟩) (by assumption) ?_
      rotate_left
      ·
       intro wq hSw
       try dsimp only at hSw
       go_simp
       try (with_reducible rfl)
      try simp only [Act.put, List.getElem_toArray, List.getElem_cons_succ, List.getElem_cons_zero, List.setIfInBounds_toArray, List.set_cons_zero, List.set_cons_succ]
      refine wpAnyH_take (i := 2) (v := ?_) rfl (by kernel_rfl) (by kernel_rfl) (by kernel_rfl) (fun _ _ _ h => h) (Or.inl ⟨by rfl, ?_⟩) (by assumption) ?_
      rotate_left
      ·
       intro wq hSw
       try dsimp only at hSw
       go_simp
       try (with_reducible rfl)
      try simp only [Act.put, List.getElem_toArray, List.getElem_cons_succ, List.getElem_cons_zero, List.setIfInBounds_toArray, List.set_cons_zero, List.set_cons_succ]
      refine wpAnyH_take (i := 3) (v := ?_) rfl (by kernel_rfl) (by kernel_rfl) (by kernel_rfl) (fun _ _ _ h => h) (Or.inl ⟨by rfl, ?_⟩) (by assumption) ?_
      rotate_left
      ·
       intro wq hSw
       try dsimp only at hSw
       go_simp
       try (with_reducible rfl)
      try simp only [Act.put, List.getElem_toArray, List.getElem_cons_succ, List.getElem_cons_zero, List.setIfInBounds_toArray, List.set_cons_zero, List.set_cons_succ]
      refine wpAnyH_take (i := 4) (v := ?_) rfl (by kernel_rfl) (by kernel_rfl) (by kernel_rfl) (fun _ _ _ h => h) (Or.inl ⟨by rfl, ?_⟩) (by assumption) ?_
      rotate_left
      ·
       intro wq hSw
       try dsimp only at hSw
       go_simp
       try (with_reducible rfl)
      try simp only [Act.put, List.getElem_toArray, List.getElem_cons_succ, List.getElem_cons_zero, List.setIfInBounds_toArray, List.set_cons_zero, List.set_cons_succ]
      refine wpAnyH_take (i := 5) (v := ?_) rfl (by kernel_rfl) (by kernel_rfl) (by kernel_rfl) (fun _ _ _ h => h) (Or.inl ⟨by rfl, ?_⟩) (by assumption) ?_
      rotate_left
      ·
       intro wq hSw
       try dsimp only at hSw
       go_simp
       try (with_reducible rfl)
      try simp only [Act.put, List.getElem_toArray, List.getElem_cons_succ, List.getElem_cons_zero, List.setIfInBounds_toArray, List.set_cons_zero, List.set_cons_succ]
      refine wpAnyH_take (i := 6) (v := ?_) rfl (by kernel_rfl) (by kernel_rfl) (by kernel_rfl) (fun _ _ _ h => h) (Or.inl ⟨by rfl, ?_⟩) (by assumption) ?_
      rotate_left
      ·
       intro wq hSw
       try dsimp only at hSw
       go_simp
       try (with_reducible rfl)
      try simp only [Act.put, List.getElem_toArray, List.getElem_cons_succ, List.getElem_cons_zero, List.setIfInBounds_toArray, List.set_cons_zero, List.set_cons_succ]
      refine wpAnyH_take (i := 7) (v := ?_) rfl (by kernel_rfl) (by kernel_rfl) (by kernel_rfl) (fun _ _ _ h => h) (Or.inl ⟨by rfl, ?_⟩) (by assumption) ?_
      rotate_left
      ·
       intro wq hSw
       try dsimp only at hSw
       go_simp
       try (with_reducible rfl)
      try simp only [Act.put, List.getElem_toArray, List.getElem_cons_succ, List.getElem_cons_zero, List.setIfInBounds_toArray, List.set_cons_zero, List.set_cons_succ]
      refine wpAnyH_take (i := 9) (v := ?_) rfl (by kernel_rfl) (by kernel_rfl) (by kernel_rfl) (fun _ _ _ h => h) (Or.inl ⟨by rfl, ?_⟩) (by assumption) ?_
      rotate_left
      ·
       intro wq hSw
       try dsimp only at hSw
       go_simp
       try (with_reducible rfl)
      try simp only [Act.put, List.getElem_toArray, List.getElem_cons_succ, List.getElem_cons_zero, List.setIfInBounds_toArray, List.set_cons_zero, List.set_cons_succ]
      refine wpAnyH_take (i := 10) (v := ?_) rfl (by kernel_rfl) (by kernel_rfl) (by kernel_rfl) (fun _ _ _ h => h) (Or.inl ⟨by rfl, ?_⟩) (by assumption) ?_
      rotate_left
      ·
       intro wq hSw
       try dsimp only at hSw
       go_simp
       try (with_reducible rfl)
      try simp only [Act.put, List.getElem_toArray, List.getElem_cons_succ, List.getElem_cons_zero, List.setIfInBounds_toArray, List.set_cons_zero, List.set_cons_succ]
      refine wpAnyH_take (i := 11) (v := ?_) rfl (by kernel_rfl) (by kernel_rfl) (by kernel_rfl) (fun _ _ _ h => h) (Or.inl ⟨by rfl, ?_⟩) (by assumption) ?_
      rotate_left
      ·
       intro wq hSw
       try dsimp only at hSw
       go_simp
       try (with_reducible rfl)
      try simp only [Act.put, List.getElem_toArray, List.getElem_cons_succ, List.getElem_cons_zero, List.setIfInBounds_toArray, List.set_cons_zero, List.set_cons_succ]
      refine wpAnyH_ready (rs := [8]) (by kernel_rfl) (by simp) ?_
      refine AllReadyH.cons rfl (fun K0 hK => ?_) ?_
      rotate_left
      · exact AllReadyH.nil
      go_simp
      refine (ref_cells _ rr K1 k1 K1' k1' _ HFine.out.le (Nat.le_refl _) (HTr.out.on (Below.refl _ _).drew)).mono ?_
      rintro e0 x1 ⟨R1, r1, R1', r1', rfl, hU, hb0⟩
      unfold T.agg
      have J1 := Lib.hid (show Below vJ.heap.size vJ x1 from (Below.refl vJ.heap.size vJ).drew.trans hb0)
      have HU := Lib.hid (show TV x1 (· < x1.heap.size) rr R1 r1 R1' r1' from hU.wide fun b hb => by
       have h1 := hb0.size
       rcases hb with hb | hb
       · exact Nat.lt_of_lt_of_le hb h1
       · exact hb.2)
      clear hU hb0
      go_wp2_with fail
      refine hK.out _ _ ?_ (fun hHeld => ?_)
      · exact HSS.out _ (J1.out)
      clear hK K0
      try simp only [Act.put, List.getElem_toArray, List.getElem_cons_succ, List.getElem_cons_zero, List.setIfInBounds_toArray, List.set_cons_zero, List.set_cons_succ]
      refine wpAnyH_ready (rs := [12]) (by kernel_rfl) (by simp) ?_
      refine AllReadyH.cons rfl (fun K0 hK => ?_) ?_
      rotate_left
      · exact AllReadyH.nil
      go_simp
      refine (rset_any t x rr p Q cQ B d B' d' D g D' g' _ HNI.out HSET.out hpc (by omega) (HPJ.out.on J1.out) (HTt.out.on J1.out) (HTx.out.on J1.out)).mono ?_
      rintro e0 x2 ⟨M, m, M', m', rfl, hU, hb0⟩
      have J2 := Lib.hid (J1.out.trans (hb0.mono J1.out.size))
      have HU2 := Lib.hid (HU.out.on hb0)
      have HM := Lib.hid hU
      clear hU hb0 HU
      go_wp2_with fail
      refine hK.out _ _ ?_ (fun hHeld => ?_)
      · exact HSS.out _ (J2.out)
      clear hK K0
      try simp only [Act.put, List.getElem_toArray, List.getElem_cons_succ, List.getElem_cons_zero, List.setIfInBounds_toArray, List.set_cons_zero, List.set_cons_succ]
      refine wpAnyH_ready (rs := [13]) (by kernel_rfl) (by simp) ?_
      refine AllReadyH.cons rfl (fun K0 hK => ?_) ?_
      rotate_left
      · exact AllReadyH.nil
      go_simp
      refine (rsame_cells rr R1 r1 R1' r1' M m M' m' _ HFine.out.le HFine.out.small HU2.out HM.out).mono ?_
      rintro e0 x3 ⟨rfl, hb0⟩
      have J3 := Lib.hid (J2.out.trans (hb0.mono J2.out.size))
      clear hb0 HU2 HM
      go_wp2_with fail
      refine hK.out _ _ ?_ (fun hHeld => ?_)
      · exact HSS.out _ (J3.out)
      clear hK K0
      try simp only [Act.put, List.getElem_toArray, List.getElem_cons_succ, List.getElem_cons_zero, List.setIfInBounds_toArray, List.set_cons_zero, List.set_cons_succ]
      refine wpAnyH_take (i := 14) (v := ?_) rfl (by kernel_rfl) (by kernel_rfl) (by kernel_rfl) (fun _ _ _ h => h) (Or.inl ⟨by rfl, ?_⟩) (by assumption) ?_
      rotate_left
      ·
       intro wq hSw
       try dsimp only at hSw
       go_simp
       try (with_reducible rfl)
      try simp only [Act.put, List.getElem_toArray, List.getElem_cons_succ, List.getElem_cons_zero, List.setIfInBounds_toArray, List.set_cons_zero, List.set_cons_succ]
      refine wpAnyH_take (i := 15) (v := ?_) rfl (by kernel_rfl) (by kernel_rfl) (by kernel_rfl) (fun _ _ _ h => h) (Or.inl ⟨by rfl, ?_⟩) (by assumption) ?_
      rotate_left
      ·
       intro wq hSw
       try dsimp only at hSw
       go_simp
       try (with_reducible rfl)
      try simp only [Act.put, List.getElem_toArray, List.getElem_cons_succ, List.getElem_cons_zero, List.setIfInBounds_toArray, List.set_cons_zero, List.set_cons_succ]
      refine wpAnyH_take (i := 16) (v := ?_) rfl (by kernel_rfl) (by kernel_rfl) (by kernel_rfl) (fun _ _ _ h => h) (Or.inl ⟨by rfl, ?_⟩) (by assumption) ?_
      rotate_left
      ·
       intro wq hSw
       try dsimp only at hSw
       go_simp
       try (with_reducible rfl)
      try simp only [Act.put, List.getElem_toArray, List.getElem_cons_succ, List.getElem_cons_zero, List.setIfInBounds_toArray, List.set_cons_zero, List.set_cons_succ]
      refine wpAnyH_take (i := 18) (v := ?_) rfl (by kernel_rfl) (by kernel_rfl) (by kernel_rfl) (fun _ _ _ h => h) (Or.inl ⟨by rfl, ?_⟩) (by assumption) ?_
      rotate_left
      ·
       intro wq hSw
       try dsimp only at hSw
       go_simp
       try (with_reducible rfl)
      try simp only [Act.put, List.getElem_toArray, List.getElem_cons_succ, List.getElem_cons_zero, List.setIfInBounds_toArray, List.set_cons_zero, List.set_cons_succ]
      refine wpAnyH_ready (rs := [17]) (by kernel_rfl) (by simp) ?_
      refine AllReadyH.cons rfl (fun K0 hK => ?_) ?_
      rotate_left
      · exact AllReadyH.nil
      go_simp
      refine (ref_cells _ x C f C' f' _ HXI.out.le (Nat.le_refl _) (HTJ.out.on J3.out)).mono ?_
      rintro e0 x4 ⟨N1, n2, N1', n2', rfl, hU, hb0⟩
      unfold T.agg
      have J4 := Lib.hid (J3.out.trans (hb0.mono J3.out.size))
      have HU := Lib.hid (show TV x4 (· < x4.heap.size) x N1 n2 N1' n2' from hU.wide fun b hb => by
       have h1 := hb0.size
       rcases hb with hb | hb
       · exact Nat.lt_of_lt_of_le hb h1
       · exact hb.2)
      clear hU hb0
      go_wp2_with fail
      refine hK.out _ _ ?_ (fun hHeld => ?_)
      · exact HSS.out _ (J4.out)
      clear hK K0
      try simp only [Act.put, List.getElem_toArray, List.getElem_cons_succ, List.getElem_cons_zero, List.setIfInBounds_toArray, List.set_cons_zero, List.set_cons_succ]
      refine wpAnyH_ready (rs := [19]) (by kernel_rfl) (by simp) ?_
      refine AllReadyH.cons rfl (fun K0 hK => ?_) ?_
      rotate_left
      · exact AllReadyH.nil
      go_simp
      refine (rsame_cells x N1 n2 N1' n2' D g D' g' _ HXI.out.le HXI.out.small HU.out (HTx.out.on J4.out)).mono ?_
      rintro e0 x5 ⟨rfl, hb0⟩
      have J5 := Lib.hid (J4.out.trans (hb0.mono J4.out.size))
      clear hb0
      go_wp2_with fail
      refine hK.out _ _ ?_ (fun hHeld => ?_)
      · exact HSS.out _ (J5.out)
      clear hK K0
      try simp only [Act.put, List.getElem_toArray, List.getElem_cons_succ, List.getElem_cons_zero, List.setIfInBounds_toArray, List.set_cons_zero, List.set_cons_succ]
      refine wpAnyH_take (i := 20) (v := ?_) rfl (by kernel_rfl) (by kernel_rfl) (by kernel_rfl) (fun _ _ _ h => h) (Or.inl ⟨by rfl, ?_⟩) (by assumption) ?_
      rotate_left
      ·
       intro wq hSw
       try dsimp only at hSw
       go_simp
       try (with_reducible rfl)
      refine wpAnyH_take (i := 21) (v := ?_) rfl (by kernel_rfl) (by kernel_rfl) (by kernel_rfl) (fun _ _ _ h => h) (Or.inl ⟨by rfl, ?_⟩) (by assumption) ?_
      rotate_left
      ·
       intro wq hSw
       try dsimp only at hSw
       go_simp
       try (with_reducible rfl)
      try simp only [Act.put, List.getElem_toArray, List.getElem_cons_succ, List.getElem_cons_zero, List.setIfInBounds_toArray, List.set_cons_zero, List.set_cons_succ]
      refine wpAnyH_done (by kernel_rfl) ?_ _
      go_wp2_with fail
      go_ret
      exact ⟨rfl, HWJ.out.trans (J5.out.mono HWJ.out.size)⟩
     ·
      skip
      have HBv2 := Lib.hid (show Below WX.heap.size WX v2 from (HBv1.out).trans (hb0.mono (HBv1.out).size))
      have HNO := Lib.hid hno
      clear hno
      clear hb0
      go_wp2_with fail
      refine hK.out _ _ ?_ (fun hHeld => ?_)
      · exact HS6.out _ (HBv2.out)
      clear hK K0
      try simp only [Act.put, List.getElem_toArray, List.getElem_cons_succ, List.getElem_cons_zero, List.setIfInBounds_toArray, List.set_cons_zero, List.set_cons_succ]
      refine wpAnyH_take (i := 5) (v := ?_) rfl (by kernel_rfl) (by kernel_rfl) (by kernel_rfl) (fun _ _ _ h => h) (Or.inl ⟨by rfl, ?_⟩) (by assumption) ?_
      rotate_left
      ·
       intro wq hSw
       try dsimp only at hSw
       go_simp
       try (with_reducible rfl)
      try simp only [Act.put, List.getElem_toArray, List.getElem_cons_succ, List.getElem_cons_zero, List.setIfInBounds_toArray, List.set_cons_zero, List.set_cons_succ]
      refine wpAnyH_take (i := 6) (v := ?_) rfl (by kernel_rfl) (by kernel_rfl) (by kernel_rfl) (fun _ _ _ h => h) (Or.inl ⟨by rfl, ?_⟩) (by assumption) ?_
      rotate_left
      ·
       intro wq hSw
       try dsimp only at hSw
       go_simp
       try (with_reducible rfl)
      try simp only [Act.put, List.getElem_toArray, List.getElem_cons_succ, List.getElem_cons_zero, List.setIfInBounds_toArray, List.set_cons_zero, List.set_cons_succ]
      refine wpAnyH_take (i := 7) (v := ?_) rfl (by kernel_rfl) (by kernel_rfl) (by kernel_rfl) (fun _ _ _ h => h) (Or.inl ⟨by rfl, ?_⟩) (by assumption) ?_
      rotate_left
      ·
       intro wq hSw
       try dsimp only at hSw
       go_simp
       try (with_reducible rfl)
      try simp only [Act.put, List.getElem_toArray, List.getElem_cons_succ, List.getElem_cons_zero, List.setIfInBounds_toArray, List.set_cons_zero, List.set_cons_succ]
      refine wpAnyH_ready (rs := [8]) (by kernel_rfl) (by simp) ?_
      refine AllReadyH.cons rfl (fun K0 hK => ?_) ?_
      rotate_left
      · exact AllReadyH.nil
      go_simp
      have hb0 : Below v2.heap.size v2 (v2.alloc (.cells #[.int .i64 0, .bool false, .int .i64 0, .string ⟨#[]⟩, .slice none 0 0, .slice none 0 0] 32)) := (Below.refl _ _).alloc (Nat.le_refl _) _
      have HZ_3 := Lib.hid (show Blk (v2.alloc (.cells #[.int .i64 0, .bool false, .int .i64 0, .string ⟨#[]⟩, .slice none 0 0, .slice none 0 0] 32)) v2.heap.size 32 #[.int .i64 0, .bool false, .int .i64 0, .string ⟨#[]⟩, .slice none 0 0, .slice none 0 0] from Blk.new v2 _ _)
      have HBv3 := Lib.hid (show Below WX.heap.size WX (v2.alloc (.cells #[.int .i64 0, .bool false, .int .i64 0, .string ⟨#[]⟩, .slice none 0 0, .slice none 0 0] 32)) from (HBv2.out).trans (hb0.mono (HBv2.out).size))
      have hzl := HZ_3.out.lt
      have hzb := (HBv2.out).size
      clear hb0
      refine hK.out _ _ ?_ (fun hHeld => ?_)
      · exact HS6.out _ (HBv3.out)
      clear hK K0
      try simp only [Act.put, List.getElem_toArray, List.getElem_cons_succ, List.getElem_cons_zero, List.setIfInBounds_toArray, List.set_cons_zero, List.set_cons_succ]
      generalize (v2.alloc (.cells #[.int .i64 0, .bool false, .int .i64 0, .string ⟨#[]⟩, .slice none 0 0, .slice none 0 0] 32)) = v3 at *
      have hgz : WX.heap.size ≤ v2.heap.size := hzb
      clear hzb
      generalize v2.heap.size = gz at *
      have q0 : v3.cell? ⟨gz, 0, none⟩ = some (.int .i64 0) := HZ_3.out.cell 0
      have q1 : v3.cell? ⟨gz, 1, none⟩ = some (.bool false) := HZ_3.out.cell 1
      have q2 : v3.cell? ⟨gz, 2, none⟩ = some (.int .i64 0) := HZ_3.out.cell 2
      have q3 : v3.cell? ⟨gz, 3, none⟩ = some (.string ⟨#[]⟩) := HZ_3.out.cell 3
      have q4 : v3.cell? ⟨gz, 4, none⟩ = some (.slice none 0 0) := HZ_3.out.cell 4
      have q5 : v3.cell? ⟨gz, 5, none⟩ = some (.slice none 0 0) := HZ_3.out.cell 5
      have u0 := HZ_3.out.free 0
      have u1 := HZ_3.out.free 1
      have u2 := HZ_3.out.free 2
      have u3 := HZ_3.out.free 3
      have u4 := HZ_3.out.free 4
      have u5 := HZ_3.out.free 5
      refine wpAnyH_ready (rs := [9]) (by kernel_rfl) (by simp) ?_
      refine AllReadyH.cons rfl (fun K0 hK => ?_) ?_
      rotate_left
      · exact AllReadyH.nil
      go_simp
      refine hK.out _ _ ?_ (fun hHeld => ?_)
      ·
       have hS := HS6.out _ (HBv3.out)
       have hne : ∀ b o, b ≠ gz → (((((((v3.setCell ⟨gz, 0, none⟩ (.int .i64 0)).setCell ⟨gz, 1, none⟩ (.bool false)).setCell ⟨gz, 2, none⟩ (.int .i64 0)).setCell ⟨gz, 3, none⟩ (.string ⟨#[]⟩)).setCell ⟨gz, 4, none⟩ (.slice none 0 0)).setCell ⟨gz, 5, none⟩ (.slice none 0 0))).cell? ⟨b, o, none⟩ = v3.cell? ⟨b, o, none⟩ := fun b o hb => World.cell?_of_block (put6_heap hb)
       have g1 : gx ≠ gz := by omega
       have g2 : G3 + 1 ≠ gz := by omega
       try dsimp only
       rw [hne gx _ g1, hne gx _ g1, hne gx _ g1, hne gx _ g1, hne gx _ g1, hne gx _ g1, hne (G3 + 1) _ g2, hne (G3 + 1) _ g2, hne (G3 + 1) _ g2, hne (G3 + 1) _ g2, hne (G3 + 1) _ g2, hne (G3 + 1) _ g2]
       exact hS
      clear hK K0
      try simp only [Act.put, List.getElem_toArray, List.getElem_cons_succ, List.getElem_cons_zero, List.setIfInBounds_toArray, List.set_cons_zero, List.set_cons_succ]
      refine wpAnyH_take (i := 10) (v := ?_) rfl (by kernel_rfl) (by kernel_rfl) (by kernel_rfl) (fun _ _ _ h => h) (Or.inl ⟨by rfl, ?_⟩) (by assumption) ?_
      rotate_left
      ·
       intro wq hSw
       try dsimp only at hSw
       go_simp
       try (with_reducible rfl)
      try simp only [Act.put, List.getElem_toArray, List.getElem_cons_succ, List.getElem_cons_zero, List.setIfInBounds_toArray, List.set_cons_zero, List.set_cons_succ]
      refine wpAnyH_done (by kernel_rfl) ?_ _
      have hlz := HZ_3.out.lt
      have hzs : (((((((v3.setCell ⟨gz, 0, none⟩ (.int .i64 0)).setCell ⟨gz, 1, none⟩ (.bool false)).setCell ⟨gz, 2, none⟩ (.int .i64 0)).setCell ⟨gz, 3, none⟩ (.string ⟨#[]⟩)).setCell ⟨gz, 4, none⟩ (.slice none 0 0)).setCell ⟨gz, 5, none⟩ (.slice none 0 0))).heap.size = v3.heap.size := put6_size
      have HBP := Lib.hid (show Below WX.heap.size WX ((((((v3.setCell ⟨gz, 0, none⟩ (.int .i64 0)).setCell ⟨gz, 1, none⟩ (.bool false)).setCell ⟨gz, 2, none⟩ (.int .i64 0)).setCell ⟨gz, 3, none⟩ (.string ⟨#[]⟩)).setCell ⟨gz, 4, none⟩ (.slice none 0 0)).setCell ⟨gz, 5, none⟩ (.slice none 0 0)) from put6_below HBv3.out hgz)
      have HF := Lib.hid (show Blk ((((((v3.setCell ⟨gz, 0, none⟩ (.int .i64 0)).setCell ⟨gz, 1, none⟩ (.bool false)).setCell ⟨gz, 2, none⟩ (.int .i64 0)).setCell ⟨gz, 3, none⟩ (.string ⟨#[]⟩)).setCell ⟨gz, 4, none⟩ (.slice none 0 0)).setCell ⟨gz, 5, none⟩ (.slice none 0 0)) gz 32 #[.int .i64 0, .bool false, .int .i64 0, .string ⟨#[]⟩, .slice none 0 0, .slice none 0 0] from res_put HZ_3.out rfl T.zero none 0 none 0)
      clear q0 q1 q2 q3 q4 q5 u0 u1 u2 u3 u4 u5 HZ_3 hlz hzs
      generalize ((((((v3.setCell ⟨gz, 0, none⟩ (.int .i64 0)).setCell ⟨gz, 1, none⟩ (.bool false)).setCell ⟨gz, 2, none⟩ (.int .i64 0)).setCell ⟨gz, 3, none⟩ (.string ⟨#[]⟩)).setCell ⟨gz, 4, none⟩ (.slice none 0 0)).setCell ⟨gz, 5, none⟩ (.slice none 0 0)) = vP at *
      go_upto_region 7 with fail
      refine wp_region_held_drew (S := fun w' => (w'.cell? ⟨G3, 0, none⟩ = some (.int .i64 t.kind) ∧ w'.cell? ⟨G3, 1, none⟩ = some (.bool t.tr) ∧ w'.cell? ⟨G3, 2, none⟩ = some (.int .i64 t.num) ∧ w'.cell? ⟨G3, 3, none⟩ = some (.string t.str) ∧ w'.cell? ⟨G3, 4, none⟩ = some (.slice B t.items.length d) ∧ w'.cell? ⟨G3, 5, none⟩ = some (.slice B' t.keys.length d')) ∧ (w'.cell? ⟨gx, 0, none⟩ = some (.int .i64 t.kind) ∧ w'.cell? ⟨gx, 1, none⟩ = some (.bool t.tr) ∧ w'.cell? ⟨gx, 2, none⟩ = some (.int .i64 t.num) ∧ w'.cell? ⟨gx, 3, none⟩ = some (.string t.str) ∧ w'.cell? ⟨gx, 4, none⟩ = some (.slice E t.items.length e1) ∧ w'.cell? ⟨gx, 5, none⟩ = some (.slice E' t.keys.length e1'))) (by kernel_rfl) ?_ (fun hHeld => ?_)
      · exact HS7.out _ HBP.out.drew
      refine wpAnyH_take (i := 0) (v := ?_) rfl (by kernel_rfl) (by kernel_rfl) (by kernel_rfl) (fun _ _ _ h => h) (Or.inl ⟨by rfl, ?_⟩) (by assumption) ?_
      rotate_left
      ·
       intro wq hSw
       try dsimp only at hSw
       go_simp
       try (with_reducible rfl)
      try simp only [Act.put, List.getElem_toArray, List.getElem_cons_zero, List.setIfInBounds_toArray, List.set_cons_zero, List.set_cons_succ]
      refine wpAnyH_take (i := 2) (v := ?_) rfl (by kernel_rfl) (by kernel_rfl) (by kernel_rfl) (fun _ _ _ h => h) (Or.inl ⟨by rfl, ?_⟩) (by assumption) ?_
      rotate_left
      ·
       intro wq hSw
       try dsimp only at hSw
       go_simp
       try (with_reducible rfl)
      try simp only [Act.put, List.getElem_toArray, List.getElem_cons_succ, List.getElem_cons_zero, List.setIfInBounds_toArray, List.set_cons_zero, List.set_cons_succ]
      refine wpAnyH_ready (rs := [1]) (by kernel_rfl) (by simp) ?_
      refine AllReadyH.cons rfl (fun K0 hK => ?_) ?_
      rotate_left
      · exact AllReadyH.nil
      go_simp
      refine (ref_cells _ t E e1 E' e1' _ HNI.out.le (Nat.le_refl _) (HRT6.out.on HBP.out.drew)).mono ?_
      rintro e0 vR ⟨R1, r1, R1', r1', rfl, hU, hb0⟩
      unfold T.agg
      have LR := Lib.hid (show Below vP.heap.size vP vR from (Below.refl vP.heap.size vP).drew.trans hb0)
      have HU := Lib.hid (show TV vR (· < vR.heap.size) t R1 r1 R1' r1' from hU.wide fun b hb => by
       have h1 := hb0.size
       rcases hb with hb | hb
       · exact Nat.lt_of_lt_of_le hb h1
       · exact hb.2)
      clear hU hb0
      go_wp2_with fail
      refine hK.out _ _ ?_ (fun hHeld => ?_)
      · exact HS7.out _ ((HBP.out.trans (LR.out.mono HBP.out.size)))
      clear hK K0
      try simp only [Act.put, List.getElem_toArray, List.getElem_cons_succ, List.getElem_cons_zero, List.setIfInBounds_toArray, List.set_cons_zero, List.set_cons_succ]
      refine wpAnyH_ready (rs := [3]) (by kernel_rfl) (by simp) ?_
      refine AllReadyH.cons rfl (fun K0 hK => ?_) ?_
      rotate_left
      · exact AllReadyH.nil
      go_simp
      refine (rsame_cells t R1 r1 R1' r1' B d B' d' _ HNI.out.le HNI.out.small HU.out (HT6.out.on (HBP.out.trans (LR.out.mono HBP.out.size)))).mono ?_
      rintro e0 vS ⟨rfl, hb0⟩
      have LS := Lib.hid (LR.out.trans (hb0.mono LR.out.size))
      clear hb0 LR HU
      go_wp2_with fail
      refine hK.out _ _ ?_ (fun hHeld => ?_)
      · exact HS7.out _ ((HBP.out.trans (LS.out.mono HBP.out.size)))
      clear hK K0
      try simp only [Act.put, List.getElem_toArray, List.getElem_cons_succ, List.getElem_cons_zero, List.setIfInBounds_toArray, List.set_cons_zero, List.set_cons_succ]
      refine wpAnyH_take (i := 4) (v := ?_) rfl (by kernel_rfl) (by kernel_rfl) (by kernel_rfl) (fun _ _ _ h => h) (Or.inl ⟨by rfl, ?_⟩) (by assumption) ?_
      rotate_left
      ·
       intro wq hSw
       try dsimp only at hSw
       go_simp
       try (with_reducible rfl)
      try simp only [Act.put, List.getElem_toArray, List.getElem_cons_succ, List.getElem_cons_zero, List.setIfInBounds_toArray, List.set_cons_zero, List.set_cons_succ]
      refine wpAnyH_done (by kernel_rfl) ?_ _
      obtain ⟨a0, a1, a2, a3, a4, a5⟩ := (HS7.out vS (HBP.out.trans (LS.out.mono HBP.out.size))).1
      go_wp2_with fail
      refine (rget_any t p Q cQ B d B' d' _ HNI.out.fine (by omega) (HP6.out.on (HBP.out.trans (LS.out.mono HBP.out.size))) (HT6.out.on (HBP.out.trans (LS.out.mono HBP.out.size)))).mono ?_
      rintro e0 vG (⟨z1, hz1, _⟩ | ⟨_, rfl, hb0⟩)
      · exact absurd hz1 (HNO.out z1)
      have LG := Lib.hid (LS.out.trans (hb0.mono LS.out.size))
      clear hb0 LS a0 a1 a2 a3 a4 a5
      go_upto_region 10 with fail
      have hb0 : Below vG.heap.size vG (vG.alloc (.cells #[.int .i64 0, .bool false, .int .i64 0, .string ⟨#[]⟩, .slice none 0 0, .slice none 0 0] 28)) := (Below.refl _ _).alloc (Nat.le_refl _) _
      have hX : Blk (vG.alloc (.cells #[.int .i64 0, .bool false, .int .i64 0, .string ⟨#[]⟩, .slice none 0 0, .slice none 0 0] 28)) vG.heap.size 28 #[.int .i64 0, .bool false, .int .i64 0, .string ⟨#[]⟩, .slice none 0 0, .slice none 0 0] := Blk.new vG _ _
      change Code.wp _ _ _ _ (vG.alloc (.cells #[.int .i64 0, .bool false, .int .i64 0, .string ⟨#[]⟩, .slice none 0 0, .slice none 0 0] 28))
      have LH := Lib.hid (LG.out.trans (hb0.mono LG.out.size))
      generalize (vG.alloc (.cells #[.int .i64 0, .bool false, .int .i64 0, .string ⟨#[]⟩, .slice none 0 0, .slice none 0 0] 28)) = vH at *
      have HX13 := Lib.hid hX
      clear hb0 hX  LG
      generalize vG.heap.size = g13 at *
      obtain ⟨a0, a1, a2, a3, a4, a5⟩ : vH.cell? ⟨gz, 0, none⟩ = some (.int .i64 0) ∧ vH.cell? ⟨gz, 1, none⟩ = some (.bool false) ∧ vH.cell? ⟨gz, 2, none⟩ = some (.int .i64 0) ∧ vH.cell? ⟨gz, 3, none⟩ = some (.string ⟨#[]⟩) ∧ vH.cell? ⟨gz, 4, none⟩ = some (.slice none 0 0) ∧ vH.cell? ⟨gz, 5, none⟩ = some (.slice none 0 0) := by
       have h := HF.out.onto LH.out
       exact ⟨h.cell 0, h.cell 1, h.cell 2, h.cell 3, h.cell 4, h.cell 5⟩
      have HWH := Lib.hid (HWX.out.trans ((HBP.out.trans (LH.out.mono HBP.out.size)).mono hwx))
      clear LH HBP
      go_wp2_with fail
      refine (ref_zero _).mono ?_
      rintro e9 w9 ⟨U, f3, U', f3', rfl, hU, hb0⟩
      have HWI := Lib.hid (HWH.out.trans (hb0.mono HWH.out.size))
      have HU := Lib.hid hU
      clear hb0 hU
      go_wp2_with fail
      refine (rsame_zero U f3 U' f3' _ HU.out).mono ?_
      rintro e8 w10 ⟨rfl, hb0⟩
      have HWJ := Lib.hid (HWI.out.trans (hb0.mono HWI.out.size))
      clear hb0
      go_wp2_with fail
      go_ret
      exact ⟨rfl, HWJ.out⟩
    ·
     skip
     go_simp
     have hb0 : Below v1.heap.size v1 (v1.alloc (.cells #[.int .i64 0, .bool false, .int .i64 0, .string ⟨#[]⟩, .slice none 0 0, .slice none 0 0] 32)) := (Below.refl _ _).alloc (Nat.le_refl _) _
     have HZ_2 := Lib.hid (show Blk (v1.alloc (.cells #[.int .i64 0, .bool false, .int .i64 0, .string ⟨#[]⟩, .slice none 0 0, .slice none 0 0] 32)) v1.heap.size 32 #[.int .i64 0, .bool false, .int .i64 0, .string ⟨#[]⟩, .slice none 0 0, .slice none 0 0] from Blk.new v1 _ _)
     have HRX_2 := Lib.hid (HRX_1.out.on hb0)
     clear HRX_1
     have HBv2 := Lib.hid (show Below WX.heap.size WX (v1.alloc (.cells #[.int .i64 0, .bool false, .int .i64 0, .string ⟨#[]⟩, .slice none 0 0, .slice none 0 0] 32)) from (HBv1.out).trans (hb0.mono (HBv1.out).size))
     have hzl := HZ_2.out.lt
     have hzb := (HBv1.out).size
     clear hb0
     refine hK.out _ _ ?_ (fun hHeld => ?_)
     · exact HS6.out _ (HBv2.out)
     clear hK K0
     try simp only [Act.put, List.getElem_toArray, List.getElem_cons_succ, List.getElem_cons_zero, List.setIfInBounds_toArray, List.set_cons_zero, List.set_cons_succ]
     generalize (v1.alloc (.cells #[.int .i64 0, .bool false, .int .i64 0, .string ⟨#[]⟩, .slice none 0 0, .slice none 0 0] 32)) = v2 at *
     have hgz : WX.heap.size ≤ v1.heap.size := hzb
     clear hzb
     generalize v1.heap.size = gz at *
     refine wpAnyH_ready (rs := [4]) (by kernel_rfl) (by simp) ?_
     refine AllReadyH.cons rfl (fun K0 hK => ?_) ?_
     rotate_left
     · exact AllReadyH.nil
     go_simp
     have HZ_2Z := HZ_2.out.lt
     refine (set_any t x p Q cQ E e1 E' e1' F f1 F' f1' _ HNI.out HXI.out (HE6.out.on HBv2.out) HSp.out (by omega) (HP6.out.on HBv2.out) (HRT6.out.on HBv2.out) HRX_2.out).mono ?_
     rintro e0 v3 (⟨y0, rr, hy0, hset, K1, k1, K1', k1', rfl, hT, hb0⟩ | ⟨hno, rfl, hb0⟩)
     ·
      skip
      have HBv3 := Lib.hid (show Below WX.heap.size WX v3 from (HBv2.out).trans (hb0.mono (HBv2.out).size))
      have hz1 := HZ_2Z
      have HGOT := Lib.hid (show TV v3 (fun b => b ≠ gz ∧ b < v3.heap.size) rr K1 k1 K1' k1' from hT.wide fun b hb => ⟨by omega, hb.2⟩)
      have HSET := Lib.hid hset
      have HLE := Lib.hid hy0
      clear hT hset hy0
      have HZ_3 := Lib.hid (HZ_2.out.onto hb0)
      clear HZ_2
      clear hb0
      go_wp2_with fail
      refine hK.out _ _ ?_ (fun hHeld => ?_)
      · exact HS6.out _ (HBv3.out)
      clear hK K0
      try simp only [Act.put, List.getElem_toArray, List.getElem_cons_succ, List.getElem_cons_zero, List.setIfInBounds_toArray, List.set_cons_zero, List.set_cons_succ]
      refine wpAnyH_take (i := 5) (v := ?_) rfl (by kernel_rfl) (by kernel_rfl) (by kernel_rfl) (fun _ _ _ h => h) (Or.inl ⟨by rfl, ?_⟩) (by assumption) ?_
      rotate_left
      ·
       intro wq hSw
       try dsimp only at hSw
       go_simp
       try (with_reducible rfl)
      try simp only [Act.put, List.getElem_toArray, List.getElem_cons_succ, List.getElem_cons_zero, List.setIfInBounds_toArray, List.set_cons_zero, List.set_cons_succ]
      refine wpAnyH_take (i := 6) (v := ?_) rfl (by kernel_rfl) (by kernel_rfl) (by kernel_rfl) (fun _ _ _ h => h) (Or.inl ⟨by rfl, ?_⟩) (by assumption) ?_
      rotate_left
      ·
       intro wq hSw
       try dsimp only at hSw
       go_simp
       try (with_reducible rfl)
      try simp only [Act.put, List.getElem_toArray, List.getElem_cons_succ, List.getElem_cons_zero, List.setIfInBounds_toArray, List.set_cons_zero, List.set_cons_succ]
      refine wpAnyH_take (i := 7) (v := ?_) rfl (by kernel_rfl) (by kernel_rfl) (by kernel_rfl) (fun _ _ _ h => h) (Or.inl ⟨by rfl, ?_⟩) (by assumption) ?_
      rotate_left
      ·
       intro wq hSw
       try dsimp only at hSw
       go_simp
       try (with_reducible rfl)
      try simp only [Act.put, List.getElem_toArray, List.getElem_cons_succ, List.getElem_cons_zero, List.setIfInBounds_toArray, List.set_cons_zero, List.set_cons_succ]
      have q0 : v3.cell? ⟨gz, 0, none⟩ = some (.int .i64 0) := HZ_3.out.cell 0
      have q1 : v3.cell? ⟨gz, 1, none⟩ = some (.bool false) := HZ_3.out.cell 1
      have q2 : v3.cell? ⟨gz, 2, none⟩ = some (.int .i64 0) := HZ_3.out.cell 2
      have q3 : v3.cell? ⟨gz, 3, none⟩ = some (.string ⟨#[]⟩) := HZ_3.out.cell 3
      have q4 : v3.cell? ⟨gz, 4, none⟩ = some (.slice none 0 0) := HZ_3.out.cell 4
      have q5 : v3.cell? ⟨gz, 5, none⟩ = some (.slice none 0 0) := HZ_3.out.cell 5
      have u0 := HZ_3.out.free 0
      have u1 := HZ_3.out.free 1
      have u2 := HZ_3.out.free 2
      have u3 := HZ_3.out.free 3
      have u4 := HZ_3.out.free 4
      have u5 := HZ_3.out.free 5
      refine wpAnyH_ready (rs := [9]) (by kernel_rfl) (by simp) ?_
      refine AllReadyH.cons rfl (fun K0 hK => ?_) ?_
      rotate_left
      · exact AllReadyH.nil
      go_simp
      refine hK.out _ _ ?_ (fun hHeld => ?_)
      ·
       have hS := HS6.out _ (HBv3.out)
       have hne : ∀ b o, b ≠ gz → (((((((v3.setCell ⟨gz, 0, none⟩ (.int .i64 rr.kind)).setCell ⟨gz, 1, none⟩ (.bool rr.tr)).setCell ⟨gz, 2, none⟩ (.int .i64 rr.num)).setCell ⟨gz, 3, none⟩ (.string rr.str)).setCell ⟨gz, 4, none⟩ (.slice K1 rr.items.length k1)).setCell ⟨gz, 5, none⟩ (.slice K1' rr.keys.length k1'))).cell? ⟨b, o, none⟩ = v3.cell? ⟨b, o, none⟩ := fun b o hb => World.cell?_of_block (put6_heap hb)
       have g1 : gx ≠ gz := by omega
       have g2 : G3 + 1 ≠ gz := by omega
       try dsimp only
       rw [hne gx _ g1, hne gx _ g1, hne gx _ g1, hne gx _ g1, hne gx _ g1, hne gx _ g1, hne (G3 + 1) _ g2, hne (G3 + 1) _ g2, hne (G3 + 1) _ g2, hne (G3 + 1) _ g2, hne (G3 + 1) _ g2, hne (G3 + 1) _ g2]
       exact hS
      clear hK K0
      try simp only [Act.put, List.getElem_toArray, List.getElem_cons_succ, List.getElem_cons_zero, List.setIfInBounds_toArray, List.set_cons_zero, List.set_cons_succ]
      refine wpAnyH_take (i := 10) (v := ?_) rfl (by kernel_rfl) (by kernel_rfl) (by kernel_rfl) (fun _ _ _ h => h) (Or.inl ⟨by rfl, ?_⟩) (by assumption) ?_
      rotate_left
      ·
       intro wq hSw
       try dsimp only at hSw
       go_simp
       try (with_reducible rfl)
      try simp only [Act.put, List.getElem_toArray, List.getElem_cons_succ, List.getElem_cons_zero, List.setIfInBounds_toArray, List.set_cons_zero, List.set_cons_succ]
      refine wpAnyH_done (by kernel_rfl) ?_ _
      have hlz := HZ_3.out.lt
      have hzs : (((((((v3.setCell ⟨gz, 0, none⟩ (.int .i64 rr.kind)).setCell ⟨gz, 1, none⟩ (.bool rr.tr)).setCell ⟨gz, 2, none⟩ (.int .i64 rr.num)).setCell ⟨gz, 3, none⟩ (.string rr.str)).setCell ⟨gz, 4, none⟩ (.slice K1 rr.items.length k1)).setCell ⟨gz, 5, none⟩ (.slice K1' rr.keys.length k1'))).heap.size = v3.heap.size := put6_size
      have HBP := Lib.hid (show Below WX.heap.size WX ((((((v3.setCell ⟨gz, 0, none⟩ (.int .i64 rr.kind)).setCell ⟨gz, 1, none⟩ (.bool rr.tr)).setCell ⟨gz, 2, none⟩ (.int .i64 rr.num)).setCell ⟨gz, 3, none⟩ (.string rr.str)).setCell ⟨gz, 4, none⟩ (.slice K1 rr.items.length k1)).setCell ⟨gz, 5, none⟩ (.slice K1' rr.keys.length k1')) from put6_below HBv3.out hgz)
      have HF := Lib.hid (res_put HZ_3.out rfl rr K1 k1 K1' k1')
      have HGP := Lib.hid (show TV ((((((v3.setCell ⟨gz, 0, none⟩ (.int .i64 rr.kind)).setCell ⟨gz, 1, none⟩ (.bool rr.tr)).setCell ⟨gz, 2, none⟩ (.int .i64 rr.num)).setCell ⟨gz, 3, none⟩ (.string rr.str)).setCell ⟨gz, 4, none⟩ (.slice K1 rr.items.length k1)).setCell ⟨gz, 5, none⟩ (.slice K1' rr.keys.length k1')) (· < (((((((v3.setCell ⟨gz, 0, none⟩ (.int .i64 rr.kind)).setCell ⟨gz, 1, none⟩ (.bool rr.tr)).setCell ⟨gz, 2, none⟩ (.int .i64 rr.num)).setCell ⟨gz, 3, none⟩ (.string rr.str)).setCell ⟨gz, 4, none⟩ (.slice K1 rr.items.length k1)).setCell ⟨gz, 5, none⟩ (.slice K1' rr.keys.length k1'))).heap.size) rr K1 k1 K1' k1' from (HGOT.out.keep fun b hb => put6_heap hb.1).wide fun b hb => by show b < _; rw [hzs]; exact hb.2)
      have HFine := Lib.hid (sets_fine HNI.out HXI.out HSET.out)
      clear HGOT
      clear q0 q1 q2 q3 q4 q5 u0 u1 u2 u3 u4 u5 HZ_3 hlz hzs
      generalize ((((((v3.setCell ⟨gz, 0, none⟩ (.int .i64 rr.kind)).setCell ⟨gz, 1, none⟩ (.bool rr.tr)).setCell ⟨gz, 2, none⟩ (.int .i64 rr.num)).setCell ⟨gz, 3, none⟩ (.string rr.str)).setCell ⟨gz, 4, none⟩ (.slice K1 rr.items.length k1)).setCell ⟨gz, 5, none⟩ (.slice K1' rr.keys.length k1')) = vP at *
      go_upto_region 7 with fail
      refine wp_region_held_drew (S := fun w' => (w'.cell? ⟨G3, 0, none⟩ = some (.int .i64 t.kind) ∧ w'.cell? ⟨G3, 1, none⟩ = some (.bool t.tr) ∧ w'.cell? ⟨G3, 2, none⟩ = some (.int .i64 t.num) ∧ w'.cell? ⟨G3, 3, none⟩ = some (.string t.str) ∧ w'.cell? ⟨G3, 4, none⟩ = some (.slice B t.items.length d) ∧ w'.cell? ⟨G3, 5, none⟩ = some (.slice B' t.keys.length d')) ∧ (w'.cell? ⟨gx, 0, none⟩ = some (.int .i64 t.kind) ∧ w'.cell? ⟨gx, 1, none⟩ = some (.bool t.tr) ∧ w'.cell? ⟨gx, 2, none⟩ = some (.int .i64 t.num) ∧ w'.cell? ⟨gx, 3, none⟩ = some (.string t.str) ∧ w'.cell? ⟨gx, 4, none⟩ = some (.slice E t.items.length e1) ∧ w'.cell? ⟨gx, 5, none⟩ = some (.slice E' t.keys.length e1'))) (by kernel_rfl) ?_ (fun hHeld => ?_)
      · exact HS7.out _ HBP.out.drew
      refine wpAnyH_take (i := 0) (v := ?_) rfl (by kernel_rfl) (by kernel_rfl) (by kernel_rfl) (fun _ _ _ h => h) (Or.inl ⟨by rfl, ?_⟩) (by assumption) ?_
      rotate_left
      ·
       intro wq hSw
       try dsimp only at hSw
       go_simp
       try (with_reducible rfl)
      try simp only [Act.put, List.getElem_toArray, List.getElem_cons_zero, List.setIfInBounds_toArray, List.set_cons_zero, List.set_cons_succ]
      refine wpAnyH_take (i := 2) (v := ?_) rfl (by kernel_rfl) (by kernel_rfl) (by kernel_rfl) (fun _ _ _ h => h) (Or.inl ⟨by rfl, ?_⟩) (by assumption) ?_
      rotate_left
      ·
       intro wq hSw
       try dsimp only at hSw
       go_simp
       try (with_reducible rfl)
      try simp only [Act.put, List.getElem_toArray, List.getElem_cons_succ, List.getElem_cons_zero, List.setIfInBounds_toArray, List.set_cons_zero, List.set_cons_succ]
      refine wpAnyH_ready (rs := [1]) (by kernel_rfl) (by simp) ?_
      refine AllReadyH.cons rfl (fun K0 hK => ?_) ?_
      rotate_left
      · exact AllReadyH.nil
      go_simp
      refine (ref_cells _ t E e1 E' e1' _ HNI.out.le (Nat.le_refl _) (HRT6.out.on HBP.out.drew)).mono ?_
      rintro e0 vR ⟨R1, r1, R1', r1', rfl, hU, hb0⟩
      unfold T.agg
      have LR := Lib.hid (show Below vP.heap.size vP vR from (Below.refl vP.heap.size vP).drew.trans hb0)
      have HU := Lib.hid (show TV vR (· < vR.heap.size) t R1 r1 R1' r1' from hU.wide fun b hb => by
       have h1 := hb0.size
       rcases hb with hb | hb
       · exact Nat.lt_of_lt_of_le hb h1
       · exact hb.2)
      clear hU hb0
      go_wp2_with fail
      refine hK.out _ _ ?_ (fun hHeld => ?_)
      · exact HS7.out _ ((HBP.out.trans (LR.out.mono HBP.out.size)))
      clear hK K0
      try simp only [Act.put, List.getElem_toArray, List.getElem_cons_succ, List.getElem_cons_zero, List.setIfInBounds_toArray, List.set_cons_zero, List.set_cons_succ]
      refine wpAnyH_ready (rs := [3]) (by kernel_rfl) (by simp) ?_
      refine AllReadyH.cons rfl (fun K0 hK => ?_) ?_
      rotate_left
      · exact AllReadyH.nil
      go_simp
      refine (rsame_cells t R1 r1 R1' r1' B d B' d' _ HNI.out.le HNI.out.small HU.out (HT6.out.on (HBP.out.trans (LR.out.mono HBP.out.size)))).mono ?_
      rintro e0 vS ⟨rfl, hb0⟩
      have LS := Lib.hid (LR.out.trans (hb0.mono LR.out.size))
      clear hb0 LR HU
      go_wp2_with fail
      refine hK.out _ _ ?_ (fun hHeld => ?_)
      · exact HS7.out _ ((HBP.out.trans (LS.out.mono HBP.out.size)))
      clear hK K0
      try simp only [Act.put, List.getElem_toArray, List.getElem_cons_succ, List.getElem_cons_zero, List.setIfInBounds_toArray, List.set_cons_zero, List.set_cons_succ]
      refine wpAnyH_take (i := 4) (v := ?_) rfl (by kernel_rfl) (by kernel_rfl) (by kernel_rfl) (fun _ _ _ h => h) (Or.inl ⟨by rfl, ?_⟩) (by assumption) ?_
      rotate_left
      ·
       intro wq hSw
       try dsimp only at hSw
       go_simp
       try (with_reducible rfl)
      try simp only [Act.put, List.getElem_toArray, List.getElem_cons_succ, List.getElem_cons_zero, List.setIfInBounds_toArray, List.set_cons_zero, List.set_cons_succ]
      refine wpAnyH_done (by kernel_rfl) ?_ _
      obtain ⟨a0, a1, a2, a3, a4, a5⟩ := (HS7.out vS (HBP.out.trans (LS.out.mono HBP.out.size))).1
      go_wp2_with fail
      refine (rget_any t p Q cQ B d B' d' _ HNI.out.fine (by omega) (HP6.out.on (HBP.out.trans (LS.out.mono HBP.out.size))) (HT6.out.on (HBP.out.trans (LS.out.mono HBP.out.size)))).mono ?_
      rintro e0 vG (⟨z1, hz1, C0, f0, C0', f0', rfl, hT, hb0⟩ | ⟨hno, _⟩)
      rotate_left
      · exact absurd HLE.out (hno y0)
      have LG := Lib.hid (LS.out.trans (hb0.mono LS.out.size))
      clear hT hz1 hb0 LS a0 a1 a2 a3 a4 a5
      go_upto_region 10 with fail
      have hb0 : Below vG.heap.size vG (vG.alloc (.cells #[.int .i64 z1.kind, .bool z1.tr, .int .i64 z1.num, .string z1.str, .slice C0 z1.items.length f0, .slice C0' z1.keys.length f0'] 28)) := (Below.refl _ _).alloc (Nat.le_refl _) _
      have hX : Blk (vG.alloc (.cells #[.int .i64 z1.kind, .bool z1.tr, .int .i64 z1.num, .string z1.str, .slice C0 z1.items.length f0, .slice C0' z1.keys.length f0'] 28)) vG.heap.size 28 #[.int .i64 z1.kind, .bool z1.tr, .int .i64 z1.num, .string z1.str, .slice C0 z1.items.length f0, .slice C0' z1.keys.length f0'] := Blk.new vG _ _
      change Code.wp _ _ _ _ (vG.alloc (.cells #[.int .i64 z1.kind, .bool z1.tr, .int .i64 z1.num, .string z1.str, .slice C0 z1.items.length f0, .slice C0' z1.keys.length f0'] 28))
      have LH := Lib.hid (LG.out.trans (hb0.mono LG.out.size))
      generalize (vG.alloc (.cells #[.int .i64 z1.kind, .bool z1.tr, .int .i64 z1.num, .string z1.str, .slice C0 z1.items.length f0, .slice C0' z1.keys.length f0'] 28)) = vH at *
      have HX13 := Lib.hid hX
      clear hb0 hX  LG
      generalize vG.heap.size = g13 at *
      obtain ⟨a0, a1, a2, a3, a4, a5⟩ : vH.cell? ⟨gz, 0, none⟩ = some (.int .i64 rr.kind) ∧ vH.cell? ⟨gz, 1, none⟩ = some (.bool rr.tr) ∧ vH.cell? ⟨gz, 2, none⟩ = some (.int .i64 rr.num) ∧ vH.cell? ⟨gz, 3, none⟩ = some (.string rr.str) ∧ vH.cell? ⟨gz, 4, none⟩ = some (.slice K1 rr.items.length k1) ∧ vH.cell? ⟨gz, 5, none⟩ = some (.slice K1' rr.keys.length k1') := by
       have h := HF.out.onto LH.out
       exact ⟨h.cell 0, h.cell 1, h.cell 2, h.cell 3, h.cell 4, h.cell 5⟩
      go_wp2_with fail
      refine (get_any rr p Q cQ K1 k1 K1' k1' _ HFine.out (HE6.out.on (HBP.out.trans (LH.out.mono HBP.out.size))) HSp.out (by omega) (HP6.out.on (HBP.out.trans (LH.out.mono HBP.out.size))) (HGP.out.on LH.out)).mono ?_
      clear HX13
      rintro e0 vI (⟨z2, hz2, C, f, C', f', rfl, hT, hb0⟩ | ⟨hno, _⟩)
      rotate_left
      · exact absurd (sets_leads HSET.out) (hno x)
      obtain rfl : x = z2 := leads_unique HFine.out (sets_leads HSET.out) hz2
      have LI := Lib.hid (LH.out.trans (hb0.mono LH.out.size))
      have HTI := Lib.hid hT
      clear hT hz2 hb0 LH a0 a1 a2 a3 a4 a5
      go_upto_region 13 with fail
      have hb0 : Below vI.heap.size vI (vI.alloc (.cells #[.int .i64 x.kind, .bool x.tr, .int .i64 x.num, .string x.str, .slice C x.items.length f, .slice C' x.keys.length f'] 32)) := (Below.refl _ _).alloc (Nat.le_refl _) _
      have hX : Blk (vI.alloc (.cells #[.int .i64 x.kind, .bool x.tr, .int .i64 x.num, .string x.str, .slice C x.items.length f, .slice C' x.keys.length f'] 32)) vI.heap.size 32 #[.int .i64 x.kind, .bool x.tr, .int .i64 x.num, .string x.str, .slice C x.items.length f, .slice C' x.keys.length f'] := Blk.new vI _ _
      change Code.wp _ _ _ _ (vI.alloc (.cells #[.int .i64 x.kind, .bool x.tr, .int .i64 x.num, .string x.str, .slice C x.items.length f, .slice C' x.keys.length f'] 32))
      have HTJ := Lib.hid (HTI.out.on hb0)
      have LJ := Lib.hid (LI.out.trans (hb0.mono LI.out.size))
      generalize (vI.alloc (.cells #[.int .i64 x.kind, .bool x.tr, .int .i64 x.num, .string x.str, .slice C x.items.length f, .slice C' x.keys.length f'] 32)) = vJ at *
      have HXJ := Lib.hid hX
      clear hb0 hX HTI LI
      generalize vI.heap.size = gj at *
      have HSS := Lib.hid (show ∀ w', Below vJ.heap.size vJ w' → (Six w' gz 0 rr K1 k1 K1' k1') ∧ (Six w' G3 0 t B d B' d') ∧ (Six w' (G3 + 1) 0 x D g D' g') ∧ (Six w' gj 0 x C f C' f') from fun w' hb => by
       have hb1 := LJ.out.trans (hb.mono LJ.out.size)
       have hb2 := H10.out.trans ((HBP.out.trans (hb1.mono HBP.out.size)).mono hs10)
       have h1 := HF.out.onto hb1
       have h2 := HB4.out.onto hb2
       have h3 := HB5.out.onto hb2
       have h4 := HXJ.out.onto hb
       exact ⟨⟨h1.cell 0, h1.cell 1, h1.cell 2, h1.cell 3, h1.cell 4, h1.cell 5⟩, ⟨h2.cell 0, h2.cell 1, h2.cell 2, h2.cell 3, h2.cell 4, h2.cell 5⟩, ⟨h3.cell 0, h3.cell 1, h3.cell 2, h3.cell 3, h3.cell 4, h3.cell 5⟩, h4.cell 0, h4.cell 1, h4.cell 2, h4.cell 3, h4.cell 4, h4.cell 5⟩)
      have HPJ := Lib.hid (HP6.out.on (HBP.out.trans (LJ.out.mono HBP.out.size)))
      have HTt := Lib.hid (HT6.out.on (HBP.out.trans (LJ.out.mono HBP.out.size)))
      have HTx := Lib.hid (HX6.out.on (HBP.out.trans (LJ.out.mono HBP.out.size)))
      have HTr := Lib.hid (HGP.out.on LJ.out)
      have HWJ := Lib.hid (HWX.out.trans ((HBP.out.trans (LJ.out.mono HBP.out.size)).mono hwx))
      clear HP6 HT6 HX6 HGP LJ HBP HF HXJ HS6 HS7 HRT6
      refine wp_region_held_drew (S := fun w' => (w'.cell? ⟨gz, 0, none⟩ = some (.int .i64 rr.kind) ∧ w'.cell? ⟨gz, 1, none⟩ = some (.bool rr.tr) ∧ w'.cell? ⟨gz, 2, none⟩ = some (.int .i64 rr.num) ∧ w'.cell? ⟨gz, 3, none⟩ = some (.string rr.str) ∧ w'.cell? ⟨gz, 4, none⟩ = some (.slice K1 rr.items.length k1) ∧ w'.cell? ⟨gz, 5, none⟩ = some (.slice K1' rr.keys.length k1')) ∧ (w'.cell? ⟨G3, 0, none⟩ = some (.int .i64 t.kind) ∧ w'.cell? ⟨G3, 1, none⟩ = some (.bool t.tr) ∧ w'.cell? ⟨G3, 2, none⟩ = some (.int .i64 t.num) ∧ w'.cell? ⟨G3, 3, none⟩ = some (.string t.str) ∧ w'.cell? ⟨G3, 4, none⟩ = some (.slice B t.items.length d) ∧ w'.cell? ⟨G3, 5, none⟩ = some (.slice B' t.keys.length d')) ∧ (w'.cell? ⟨G3 + 1, 0, none⟩ = some (.int .i64 x.kind) ∧ w'.cell? ⟨G3 + 1, 1, none⟩ = some (.bool x.tr) ∧ w'.cell? ⟨G3 + 1, 2, none⟩ = some (.int .i64 x.num) ∧ w'.cell? ⟨G3 + 1, 3, none⟩ = some (.string x.str) ∧ w'.cell? ⟨G3 + 1, 4, none⟩ = some (.slice D x.items.length g) ∧ w'.cell? ⟨G3 + 1, 5, none⟩ = some (.slice D' x.keys.length g')) ∧ (w'.cell? ⟨gj, 0, none⟩ = some (.int .i64 x.kind) ∧ w'.cell? ⟨gj, 1, none⟩ = some (.bool x.tr) ∧ w'.cell? ⟨gj, 2, none⟩ = some (.int .i64 x.num) ∧ w'.cell? ⟨gj, 3, none⟩ = some (.string x.str) ∧ w'.cell? ⟨gj, 4, none⟩ = some (.slice C x.items.length f) ∧ w'.cell? ⟨gj, 5, none⟩ = some (.slice C' x.keys.length f'))) (by kernel_rfl) ?_ (fun hHeld => ?_)
      · exact HSS.out _ (Below.refl _ _).drew
      refine wpAnyH_take (i := 0) (v := ?_) rfl (by kernel_rfl) (by kernel_rfl) (by kernel_rfl) (fun _ _ _ h => h) (Or.inl ⟨by rfl, ?_⟩) (by assumption) ?_
      rotate_left
      ·
       intro wq hSw
       try dsimp only at hSw
       go_simp
       try (with_reducible rfl)
      try simp only [Act.put, List.getElem_toArray, List.getElem_cons_zero, List.setIfInBounds_toArray, List.set_cons_zero, List.set_cons_succ]
      refine wpAnyH_take (i := 1) (v := ?_) rfl (by kernel_rfl) (by kernel_rfl) (by kernel_rfl) (fun _ _ _ h => h) (Or.inl ⟨by rfl, ?_⟩) (by assumption) ?_
      rotate_left
      ·
       intro wq hSw
       try dsimp only at hSw
       go_simp
       try (with_reducible rfl)
      try simp only [Act.put, List.getElem_toArray, List.getElem_cons_succ, List.getElem_cons_zero, List.setIfInBounds_toArray, List.set_cons_zero, List.set_cons_succ]
      refine wpAnyH_take (i := 2) (v := ?_) rfl (by kernel_rfl) (by kernel_rfl) (by kernel_rfl) (fun _ _ _ h => h) (Or.inl ⟨by rfl, ?_⟩) (by assumption) ?_
      rotate_left
      ·
       intro wq hSw
       try dsimp only at hSw
       go_simp
       try (with_reducible rfl)
      try simp only [Act.put, List.getElem_toArray, List.getElem_cons_succ, List.getElem_cons_zero, List.setIfInBounds_toArray, List.set_cons_zero, List.set_cons_succ]
      refine wpAnyH_take (i := 3) (v := ?_) rfl (by kernel_rfl) (by kernel_rfl) (by kernel_rfl) (fun _ _ _ h => h) (Or.inl ⟨by rfl, ?_⟩) (by assumption) ?_
      rotate_left
      ·
       intro wq hSw
       try dsimp only at hSw
       go_simp
       try (with_reducible rfl)
      try simp only [Act.put, List.getElem_toArray, List.getElem_cons_succ, List.getElem_cons_zero, List.setIfInBounds_toArray, List.set_cons_zero, List.set_cons_succ]
      refine wpAnyH_take (i := 4) (v := ?_) rfl (by kernel_rfl) (by kernel_rfl) (by kernel_rfl) (fun _ _ _ h => h) (Or.inl ⟨by rfl, ?_⟩) (by assumption) ?_
      rotate_left
      ·
       intro wq hSw
       try dsimp only at hSw
       go_simp
       try (with_reducible rfl)
      try simp only [Act.put, List.getElem_toArray, List.getElem_cons_succ, List.getElem_cons_zero, List.setIfInBounds_toArray, List.set_cons_zero, List.set_cons_succ]
      refine wpAnyH_take (i := 5) (v := ?_) rfl (by kernel_rfl) (by kernel_rfl) (by kernel_rfl) (fun _ _ _ h => h) (Or.inl ⟨by rfl, ?_⟩) (by assumption) ?_
      rotate_left
      ·
       intro wq hSw
       try dsimp only at hSw
       go_simp
       try (with_reducible rfl)
      try simp only [Act.put, List.getElem_toArray, List.getElem_cons_succ, List.getElem_cons_zero, List.setIfInBounds_toArray, List.set_cons_zero, List.set_cons_succ]
      refine wpAnyH_take (i := 6) (v := ?_) rfl (by kernel_rfl) (by kernel_rfl) (by kernel_rfl) (fun _ _ _ h => h) (Or.inl ⟨by rfl, ?_⟩) (by assumption) ?_
      rotate_left
      ·
       intro wq hSw
       try dsimp only at hSw
       go_simp
       try (with_reducible rfl)
      try simp only [Act.put, List.getElem_toArray, List.getElem_cons_succ, List.getElem_cons_zero, List.setIfInBounds_toArray, List.set_cons_zero, List.set_cons_succ]
      refine wpAnyH_take (i := 7) (v := ?_) rfl (by kernel_rfl) (by kernel_rfl) (by kernel_rfl) (fun _ _ _ h => h) (Or.inl ⟨by rfl, ?_⟩) (by assumption) ?_
      rotate_left
      ·
       intro wq hSw
       try dsimp only at hSw
       go_simp
       try (with_reducible rfl)
      try simp only [Act.put, List.getElem_toArray, List.getElem_cons_succ, List.getElem_cons_zero, List.setIfInBounds_toArray, List.set_cons_zero, List.set_cons_succ]
      refine wpAnyH_take (i := 9) (v := ?_) rfl (by kernel_rfl) (by kernel_rfl) (by kernel_rfl) (fun _ _ _ h => h) (Or.inl ⟨by rfl, ?_⟩) (by assumption) ?_
      rotate_left
      ·
       intro wq hSw
       try dsimp only at hSw
       go_simp
       try (with_reducible rfl)
      try simp only [Act.put, List.getElem_toArray, List.getElem_cons_succ, List.getElem_cons_zero, List.setIfInBounds_toArray, List.set_cons_zero, List.set_cons_succ]
      refine wpAnyH_take (i := 10) (v := ?_) rfl (by kernel_rfl) (by kernel_rfl) (by kernel_rfl) (fun _ _ _ h => h) (Or.inl ⟨by rfl, ?_⟩) (by assumption) ?_
      rotate_left
      ·
       intro wq hSw
       try dsimp only at hSw
       go_simp
       try (with_reducible rfl)
      try simp only [Act.put, List.getElem_toArray, List.getElem_cons_succ, List.getElem_cons_zero, List.setIfInBounds_toArray, List.set_cons_zero, List.set_cons_succ]
      refine wpAnyH_take (i := 11) (v := ?_) rfl (by kernel_rfl) (by kernel_rfl) (by kernel_rfl) (fun _ _ _ h => h) (Or.inl ⟨by rfl, ?_⟩) (by assumption) ?_
      rotate_left
      ·
       intro wq hSw
       try dsimp only at hSw
       go_simp
       try (with_reducible rfl)
      try simp only [Act.put, List.getElem_toArray, List.getElem_cons_succ, List.getElem_cons_zero, List.setIfInBounds_toArray, List.set_cons_zero, List.set_cons_succ]
      refine wpAnyH_ready (rs := [8]) (by kernel_rfl) (by simp) ?_
      refine AllReadyH.cons rfl (fun K0 hK => ?_) ?_
      rotate_left
      · exact AllReadyH.nil
      go_simp
      refine (ref_cells _ rr K1 k1 K1' k1' _ HFine.out.le (Nat.le_refl _) (HTr.out.on (Below.refl _ _).drew)).mono ?_
      rintro e0 x1 ⟨R1, r1, R1', r1', rfl, hU, hb0⟩
      unfold T.agg
      have J1 := Lib.hid (show Below vJ.heap.size vJ x1 from (Below.refl vJ.heap.size vJ).drew.trans hb0)
      have HU := Lib.hid (show TV x1 (· < x1.heap.size) rr R1 r1 R1' r1' from hU.wide fun b hb => by
       have h1 := hb0.size
       rcases hb with hb | hb
       · exact Nat.lt_of_lt_of_le hb h1
       · exact hb.2)
      clear hU hb0
      go_wp2_with fail
      refine hK.out _ _ ?_ (fun hHeld => ?_)
      · exact HSS.out _ (J1.out)
      clear hK K0
      try simp only [Act.put, List.getElem_toArray, List.getElem_cons_succ, List.getElem_cons_zero, List.setIfInBounds_toArray, List.set_cons_zero, List.set_cons_succ]
      refine wpAnyH_ready (rs := [12]) (by kernel_rfl) (by simp) ?_
      refine AllReadyH.cons rfl (fun K0 hK => ?_) ?_
      rotate_left
      · exact AllReadyH.nil
      go_simp
      refine (rset_any t x rr p Q cQ B d B' d' D g D' g' _ HNI.out HSET.out hpc (by omega) (HPJ.out.on J1.out) (HTt.out.on J1.out) (HTx.out.on J1.out)).mono ?_
      rintro e0 x2 ⟨M, m, M', m', rfl, hU, hb0⟩
      have J2 := Lib.hid (J1.out.trans (hb0.mono J1.out.size))
      have HU2 := Lib.hid (HU.out.on hb0)
      have HM := Lib.hid hU
      clear hU hb0 HU
      go_wp2_with fail
      refine hK.out _ _ ?_ (fun hHeld => ?_)
      · exact HSS.out _ (J2.out)
      clear hK K0
      try simp only [Act.put, List.getElem_toArray, List.getElem_cons_succ, List.getElem_cons_zero, List.setIfInBounds_toArray, List.set_cons_zero, List.set_cons_succ]
      refine wpAnyH_ready (rs := [13]) (by kernel_rfl) (by simp) ?_
      refine AllReadyH.cons rfl (fun K0 hK => ?_) ?_
      rotate_left
      · exact AllReadyH.nil
      go_simp
      refine (rsame_cells rr R1 r1 R1' r1' M m M' m' _ HFine.out.le HFine.out.small HU2.out HM.out).mono ?_
      rintro e0 x3 ⟨rfl, hb0⟩
      have J3 := Lib.hid (J2.out.trans (hb0.mono J2.out.size))
      clear hb0 HU2 HM
      go_wp2_with fail
      refine hK.out _ _ ?_ (fun hHeld => ?_)
      · exact HSS.out _ (J3.out)
      clear hK K0
      try simp only [Act.put, List.getElem_toArray, List.getElem_cons_succ, List.getElem_cons_zero, List.setIfInBounds_toArray, List.set_cons_zero, List.set_cons_succ]
      refine wpAnyH_take (i := 14) (v := ?_) rfl (by kernel_rfl) (by kernel_rfl) (by kernel_rfl) (fun _ _ _ h => h) (Or.inl ⟨by rfl, ?_⟩) (by assumption) ?_
      rotate_left
      ·
       intro wq hSw
       try dsimp only at hSw
       go_simp
       try (with_reducible rfl)
      try simp only [Act.put, List.getElem_toArray, List.getElem_cons_succ, List.getElem_cons_zero, List.setIfInBounds_toArray, List.set_cons_zero, List.set_cons_succ]
      refine wpAnyH_take (i := 15) (v := ?_) rfl (by kernel_rfl) (by kernel_rfl) (by kernel_rfl) (fun _ _ _ h => h) (Or.inl ⟨by rfl, ?_⟩) (by assumption) ?_
      rotate_left
      ·
       intro wq hSw
       try dsimp only at hSw
       go_simp
       try (with_reducible rfl)
      try simp only [Act.put, List.getElem_toArray, List.getElem_cons_succ, List.getElem_cons_zero, List.setIfInBounds_toArray, List.set_cons_zero, List.set_cons_succ]
      refine wpAnyH_take (i := 16) (v := ?_) rfl (by kernel_rfl) (by kernel_rfl) (by kernel_rfl) (fun _ _ _ h => h) (Or.inl ⟨by rfl, ?_⟩) (by assumption) ?_
      rotate_left
      ·
       intro wq hSw
       try dsimp only at hSw
       go_simp
       try (with_reducible rfl)
      try simp only [Act.put, List.getElem_toArray, List.getElem_cons_succ, List.getElem_cons_zero, List.setIfInBounds_toArray, List.set_cons_zero, List.set_cons_succ]
      refine wpAnyH_take (i := 18) (v := ?_) rfl (by kernel_rfl) (by kernel_rfl) (by kernel_rfl) (fun _ _ _ h => h) (Or.inl ⟨by rfl, ?_⟩) (by assumption) ?_
      rotate_left
      ·
       intro wq hSw
       try dsimp only at hSw
       go_simp
       try (with_reducible rfl)
      try simp only [Act.put, List.getElem_toArray, List.getElem_cons_succ, List.getElem_cons_zero, List.setIfInBounds_toArray, List.set_cons_zero, List.set_cons_succ]
      refine wpAnyH_ready (rs := [17]) (by kernel_rfl) (by simp) ?_
      refine AllReadyH.cons rfl (fun K0 hK => ?_) ?_
      rotate_left
      · exact AllReadyH.nil
      go_simp
      refine (ref_cells _ x C f C' f' _ HXI.out.le (Nat.le_refl _) (HTJ.out.on J3.out)).mono ?_
      rintro e0 x4 ⟨N1, n2, N1', n2', rfl, hU, hb0⟩
      unfold T.agg
      have J4 := Lib.hid (J3.out.trans (hb0.mono J3.out.size))
      have HU := Lib.hid (show TV x4 (· < x4.heap.size) x N1 n2 N1' n2' from hU.wide fun b hb => by
       have h1 := hb0.size
       rcases hb with hb | hb
       · exact Nat.lt_of_lt_of_le hb h1
       · exact hb.2)
      clear hU hb0
      go_wp2_with fail
      refine hK.out _ _ ?_ (fun hHeld => ?_)
      · exact HSS.out _ (J4.out)
      clear hK K0
      try simp only [Act.put, List.getElem_toArray, List.getElem_cons_succ, List.getElem_cons_zero, List.setIfInBounds_toArray, List.set_cons_zero, List.set_cons_succ]
      refine wpAnyH_ready (rs := [19]) (by kernel_rfl) (by simp) ?_
      refine AllReadyH.cons rfl (fun K0 hK => ?_) ?_
      rotate_left
      · exact AllReadyH.nil
      go_simp
      refine (rsame_cells x N1 n2 N1' n2' D g D' g' _ HXI.out.le HXI.out.small HU.out (HTx.out.on J4.out)).mono ?_
      rintro e0 x5 ⟨rfl, hb0⟩
      have J5 := Lib.hid (J4.out.trans (hb0.mono J4.out.size))
      clear hb0
      go_wp2_with fail
      refine hK.out _ _ ?_ (fun hHeld => ?_)
      · exact HSS.out _ (J5.out)
      clear hK K0
      try simp only [Act.put, List.getElem_toArray, List.getElem_cons_succ, List.getElem_cons_zero, List.setIfInBounds_toArray, List.set_cons_zero, List.set_cons_succ]
      refine wpAnyH_take (i := 20) (v := ?_) rfl (by kernel_rfl) (by kernel_rfl) (by kernel_rfl) (fun _ _ _ h => h) (Or.inl ⟨by rfl, ?_⟩) (by assumption) ?_
      rotate_left
      ·
       intro wq hSw
       try dsimp only at hSw
       go_simp
       try (with_reducible rfl)
      refine wpAnyH_take (i := 21) (v := ?_) rfl (by kernel_rfl) (by kernel_rfl) (by kernel_rfl) (fun _ _ _ h => h) (Or.inl ⟨by rfl, ?_⟩) (by assumption) ?_
      rotate_left
      ·
       intro wq hSw
       try dsimp only at hSw
       go_simp
       try (with_reducible rfl)
      try simp only [Act.put, List.getElem_toArray, List.getElem_cons_succ, List.getElem_cons_zero, List.setIfInBounds_toArray, List.set_cons_zero, List.set_cons_succ]
      refine wpAnyH_done (by kernel_rfl) ?_ _
      go_wp2_with fail
      go_ret
      exact ⟨rfl, HWJ.out.trans (J5.out.mono HWJ.out.size)⟩
     ·
      skip
      have HBv3 := Lib.hid (show Below WX.heap.size WX v3 from (HBv2.out).trans (hb0.mono (HBv2.out).size))
      have hz1 := HZ_2Z
      have HNO := Lib.hid hno
      clear hno
      have HZ_3 := Lib.hid (HZ_2.out.onto hb0)
      clear HZ_2
      clear hb0
      go_wp2_with fail
      refine hK.out _ _ ?_ (fun hHeld => ?_)
      · exact HS6.out _ (HBv3.out)
      clear hK K0
      try simp only [Act.put, List.getElem_toArray, List.getElem_cons_succ, List.getElem_cons_zero, List.setIfInBounds_toArray, List.set_cons_zero, List.set_cons_succ]
      refine wpAnyH_take (i := 5) (v := ?_) rfl (by kernel_rfl) (by kernel_rfl) (by kernel_rfl) (fun _ _ _ h => h) (Or.inl ⟨by rfl, ?_⟩) (by assumption) ?_
      rotate_left
      ·
       intro wq hSw
       try dsimp only at hSw
       go_simp
       try (with_reducible rfl)
      try simp only [Act.put, List.getElem_toArray, List.getElem_cons_succ, List.getElem_cons_zero, List.setIfInBounds_toArray, List.set_cons_zero, List.set_cons_succ]
      refine wpAnyH_take (i := 6) (v := ?_) rfl (by kernel_rfl) (by kernel_rfl) (by kernel_rfl) (fun _ _ _ h => h) (Or.inl ⟨by rfl, ?_⟩) (by assumption) ?_
      rotate_left
      ·
       intro wq hSw
       try dsimp only at hSw
       go_simp
       try (with_reducible rfl)
      try simp only [Act.put, List.getElem_toArray, List.getElem_cons_succ, List.getElem_cons_zero, List.setIfInBounds_toArray, List.set_cons_zero, List.set_cons_succ]
      refine wpAnyH_take (i := 7) (v := ?_) rfl (by kernel_rfl) (by kernel_rfl) (by kernel_rfl) (fun _ _ _ h => h) (Or.inl ⟨by rfl, ?_⟩) (by assumption) ?_
      rotate_left
      ·
       intro wq hSw
       try dsimp only at hSw
       go_simp
       try (with_reducible rfl)
      try simp only [Act.put, List.getElem_toArray, List.getElem_cons_succ, List.getElem_cons_zero, List.setIfInBounds_toArray, List.set_cons_zero, List.set_cons_succ]
      have q0 : v3.cell? ⟨gz, 0, none⟩ = some (.int .i64 0) := HZ_3.out.cell 0
      have q1 : v3.cell? ⟨gz, 1, none⟩ = some (.bool false) := HZ_3.out.cell 1
      have q2 : v3.cell? ⟨gz, 2, none⟩ = some (.int .i64 0) := HZ_3.out.cell 2
      have q3 : v3.cell? ⟨gz, 3, none⟩ = some (.string ⟨#[]⟩) := HZ_3.out.cell 3
      have q4 : v3.cell? ⟨gz, 4, none⟩ = some (.slice none 0 0) := HZ_3.out.cell 4
      have q5 : v3.cell? ⟨gz, 5, none⟩ = some (.slice none 0 0) := HZ_3.out.cell 5
      have u0 := HZ_3.out.free 0
      have u1 := HZ_3.out.free 1
      have u2 := HZ_3.out.free 2
      have u3 := HZ_3.out.free 3
      have u4 := HZ_3.out.free 4
      have u5 := HZ_3.out.free 5
      refine wpAnyH_ready (rs := [9]) (by kernel_rfl) (by simp) ?_
      refine AllReadyH.cons rfl (fun K0 hK => ?_) ?_
      rotate_left
      · exact AllReadyH.nil
      go_simp
      refine hK.out _ _ ?_ (fun hHeld => ?_)
      ·
       have hS := HS6.out _ (HBv3.out)
       have hne : ∀ b o, b ≠ gz → (((((((v3.setCell ⟨gz, 0, none⟩ (.int .i64 0)).setCell ⟨gz, 1, none⟩ (.bool false)).setCell ⟨gz, 2, none⟩ (.int .i64 0)).setCell ⟨gz, 3, none⟩ (.string ⟨#[]⟩)).setCell ⟨gz, 4, none⟩ (.slice none 0 0)).setCell ⟨gz, 5, none⟩ (.slice none 0 0))).cell? ⟨b, o, none⟩ = v3.cell? ⟨b, o, none⟩ := fun b o hb => World.cell?_of_block (put6_heap hb)
       have g1 : gx ≠ gz := by omega
       have g2 : G3 + 1 ≠ gz := by omega
       try dsimp only
       rw [hne gx _ g1, hne gx _ g1, hne gx _ g1, hne gx _ g1, hne gx _ g1, hne gx _ g1, hne (G3 + 1) _ g2, hne (G3 + 1) _ g2, hne (G3 + 1) _ g2, hne (G3 + 1) _ g2, hne (G3 + 1) _ g2, hne (G3 + 1) _ g2]
       exact hS
      clear hK K0
      try simp only [Act.put, List.getElem_toArray, List.getElem_cons_succ, List.getElem_cons_zero, List.setIfInBounds_toArray, List.set_cons_zero, List.set_cons_succ]
      refine wpAnyH_take (i := 10) (v := ?_) rfl (by kernel_rfl) (by kernel_rfl) (by kernel_rfl) (fun _ _ _ h => h) (Or.inl ⟨by rfl, ?_⟩) (by assumption) ?_
      rotate_left
      ·
       intro wq hSw
       try dsimp only at hSw
       go_simp
       try (with_reducible rfl)
      try simp only [Act.put, List.getElem_toArray, List.getElem_cons_succ, List.getElem_cons_zero, List.setIfInBounds_toArray, List.set_cons_zero, List.set_cons_succ]
      refine wpAnyH_done (by kernel_rfl) ?_ _
      have hlz := HZ_3.out.lt
      have hzs : (((((((v3.setCell ⟨gz, 0, none⟩ (.int .i64 0)).setCell ⟨gz, 1, none⟩ (.bool false)).setCell ⟨gz, 2, none⟩ (.int .i64 0)).setCell ⟨gz, 3, none⟩ (.string ⟨#[]⟩)).setCell ⟨gz, 4, none⟩ (.slice none 0 0)).setCell ⟨gz, 5, none⟩ (.slice none 0 0))).heap.size = v3.heap.size := put6_size
      have HBP := Lib.hid (show Below WX.heap.size WX ((((((v3.setCell ⟨gz, 0, none⟩ (.int .i64 0)).setCell ⟨gz, 1, none⟩ (.bool false)).setCell ⟨gz, 2, none⟩ (.int .i64 0)).setCell ⟨gz, 3, none⟩ (.string ⟨#[]⟩)).setCell ⟨gz, 4, none⟩ (.slice none 0 0)).setCell ⟨gz, 5, none⟩ (.slice none 0 0)) from put6_below HBv3.out hgz)
      have HF := Lib.hid (show Blk ((((((v3.setCell ⟨gz, 0, none⟩ (.int .i64 0)).setCell ⟨gz, 1, none⟩ (.bool false)).setCell ⟨gz, 2, none⟩ (.int .i64 0)).setCell ⟨gz, 3, none⟩ (.string ⟨#[]⟩)).setCell ⟨gz, 4, none⟩ (.slice none 0 0)).setCell ⟨gz, 5, none⟩ (.slice none 0 0)) gz 32 #[.int .i64 0, .bool false, .int .i64 0, .string ⟨#[]⟩, .slice none 0 0, .slice none 0 0] from res_put HZ_3.out rfl T.zero none 0 none 0)
      clear q0 q1 q2 q3 q4 q5 u0 u1 u2 u3 u4 u5 HZ_3 hlz hzs
      generalize ((((((v3.setCell ⟨gz, 0, none⟩ (.int .i64 0)).setCell ⟨gz, 1, none⟩ (.bool false)).setCell ⟨gz, 2, none⟩ (.int .i64 0)).setCell ⟨gz, 3, none⟩ (.string ⟨#[]⟩)).setCell ⟨gz, 4, none⟩ (.slice none 0 0)).setCell ⟨gz, 5, none⟩ (.slice none 0 0)) = vP at *
      go_upto_region 7 with fail
      refine wp_region_held_drew (S := fun w' => (w'.cell? ⟨G3, 0, none⟩ = some (.int .i64 t.kind) ∧ w'.cell? ⟨G3, 1, none⟩ = some (.bool t.tr) ∧ w'.cell? ⟨G3, 2, none⟩ = some (.int .i64 t.num) ∧ w'.cell? ⟨G3, 3, none⟩ = some (.string t.str) ∧ w'.cell? ⟨G3, 4, none⟩ = some (.slice B t.items.length d) ∧ w'.cell? ⟨G3, 5, none⟩ = some (.slice B' t.keys.length d')) ∧ (w'.cell? ⟨gx, 0, none⟩ = some (.int .i64 t.kind) ∧ w'.cell? ⟨gx, 1, none⟩ = some (.bool t.tr) ∧ w'.cell? ⟨gx, 2, none⟩ = some (.int .i64 t.num) ∧ w'.cell? ⟨gx, 3, none⟩ = some (.string t.str) ∧ w'.cell? ⟨gx, 4, none⟩ = some (.slice E t.items.length e1) ∧ w'.cell? ⟨gx, 5, none⟩ = some (.slice E' t.keys.length e1'))) (by kernel_rfl) ?_ (fun hHeld => ?_)
      · exact HS7.out _ HBP.out.drew
      refine wpAnyH_take (i := 0) (v := ?_) rfl (by kernel_rfl) (by kernel_rfl) (by kernel_rfl) (fun _ _ _ h => h) (Or.inl ⟨by rfl, ?_⟩) (by assumption) ?_
      rotate_left
      ·
       intro wq hSw
       try dsimp only at hSw
       go_simp
       try (with_reducible rfl)
      try simp only [Act.put, List.getElem_toArray, List.getElem_cons_zero, List.setIfInBounds_toArray, List.set_cons_zero, List.set_cons_succ]
      refine wpAnyH_take (i := 2) (v := ?_) rfl (by kernel_rfl) (by kernel_rfl) (by kernel_rfl) (fun _ _ _ h => h) (Or.inl ⟨by rfl, ?_⟩) (by assumption) ?_
      rotate_left
      ·
       intro wq hSw
       try dsimp only at hSw
       go_simp
       try (with_reducible rfl)
      try simp only [Act.put, List.getElem_toArray, List.getElem_cons_succ, List.getElem_cons_zero, List.setIfInBounds_toArray, List.set_cons_zero, List.set_cons_succ]
      refine wpAnyH_ready (rs := [1]) (by kernel_rfl) (by simp) ?_
      refine AllReadyH.cons rfl (fun K0 hK => ?_) ?_
      rotate_left
      · exact AllReadyH.nil
      go_simp
      refine (ref_cells _ t E e1 E' e1' _ HNI.out.le (Nat.le_refl _) (HRT6.out.on HBP.out.drew)).mono ?_
      rintro e0 vR ⟨R1, r1, R1', r1', rfl, hU, hb0⟩
      unfold T.agg
      have LR := Lib.hid (show Below vP.heap.size vP vR from (Below.refl vP.heap.size vP).drew.trans hb0)
      have HU := Lib.hid (show TV vR (· < vR.heap.size) t R1 r1 R1' r1' from hU.wide fun b hb => by
       have h1 := hb0.size
       rcases hb with hb | hb
       · exact Nat.lt_of_lt_of_le hb h1
       · exact hb.2)
      clear hU hb0
      go_wp2_with fail
      refine hK.out _ _ ?_ (fun hHeld => ?_)
      · exact HS7.out _ ((HBP.out.trans (LR.out.mono HBP.out.size)))
      clear hK K0
      try simp only [Act.put, List.getElem_toArray, List.getElem_cons_succ, List.getElem_cons_zero, List.setIfInBounds_toArray, List.set_cons_zero, List.set_cons_succ]
      refine wpAnyH_ready (rs := [3]) (by kernel_rfl) (by simp) ?_
      refine AllReadyH.cons rfl (fun K0 hK => ?_) ?_
      rotate_left
      · exact AllReadyH.nil
      go_simp
      refine (rsame_cells t R1 r1 R1' r1' B d B' d' _ HNI.out.le HNI.out.small HU.out (HT6.out.on (HBP.out.trans (LR.out.mono HBP.out.size)))).mono ?_
      rintro e0 vS ⟨rfl, hb0⟩
      have LS := Lib.hid (LR.out.trans (hb0.mono LR.out.size))
      clear hb0 LR HU
      go_wp2_with fail
      refine hK.out _ _ ?_ (fun hHeld => ?_)
      · exact HS7.out _ ((HBP.out.trans (LS.out.mono HBP.out.size)))
      clear hK K0
      try simp only [Act.put, List.getElem_toArray, List.getElem_cons_succ, List.getElem_cons_zero, List.setIfInBounds_toArray, List.set_cons_zero, List.set_cons_succ]
      refine wpAnyH_take (i := 4) (v := ?_) rfl (by kernel_rfl) (by kernel_rfl) (by kernel_rfl) (fun _ _ _ h => h) (Or.inl ⟨by rfl, ?_⟩) (by assumption) ?_
      rotate_left
      ·
       intro wq hSw
       try dsimp only at hSw
       go_simp
       try (with_reducible rfl)
      try simp only [Act.put, List.getElem_toArray, List.getElem_cons_succ, List.getElem_cons_zero, List.setIfInBounds_toArray, List.set_cons_zero, List.set_cons_succ]
      refine wpAnyH_done (by kernel_rfl) ?_ _
      obtain ⟨a0, a1, a2, a3, a4, a5⟩ := (HS7.out vS (HBP.out.trans (LS.out.mono HBP.out.size))).1
      go_wp2_with fail
      refine (rget_any t p Q cQ B d B' d' _ HNI.out.fine (by omega) (HP6.out.on (HBP.out.trans (LS.out.mono HBP.out.size))) (HT6.out.on (HBP.out.trans (LS.out.mono HBP.out.size)))).mono ?_
      rintro e0 vG (⟨z1, hz1, _⟩ | ⟨_, rfl, hb0⟩)
      · exact absurd hz1 (HNO.out z1)
      have LG := Lib.hid (LS.out.trans (hb0.mono LS.out.size))
      clear hb0 LS a0 a1 a2 a3 a4 a5
      go_upto_region 10 with fail
      have hb0 : Below vG.heap.size vG (vG.alloc (.cells #[.int .i64 0, .bool false, .int .i64 0, .string ⟨#[]⟩, .slice none 0 0, .slice none 0 0] 28)) := (Below.refl _ _).alloc (Nat.le_refl _) _
      have hX : Blk (vG.alloc (.cells #[.int .i64 0, .bool false, .int .i64 0, .string ⟨#[]⟩, .slice none 0 0, .slice none 0 0] 28)) vG.heap.size 28 #[.int .i64 0, .bool false, .int .i64 0, .string ⟨#[]⟩, .slice none 0 0, .slice none 0 0] := Blk.new vG _ _
      change Code.wp _ _ _ _ (vG.alloc (.cells #[.int .i64 0, .bool false, .int .i64 0, .string ⟨#[]⟩, .slice none 0 0, .slice none 0 0] 28))
      have LH := Lib.hid (LG.out.trans (hb0.mono LG.out.size))
      generalize (vG.alloc (.cells #[.int .i64 0, .bool false, .int .i64 0, .string ⟨#[]⟩, .slice none 0 0, .slice none 0 0] 28)) = vH at *
      have HX13 := Lib.hid hX
      clear hb0 hX  LG
      generalize vG.heap.size = g13 at *
      obtain ⟨a0, a1, a2, a3, a4, a5⟩ : vH.cell? ⟨gz, 0, none⟩ = some (.int .i64 0) ∧ vH.cell? ⟨gz, 1, none⟩ = some (.bool false) ∧ vH.cell? ⟨gz, 2, none⟩ = some (.int .i64 0) ∧ vH.cell? ⟨gz, 3, none⟩ = some (.string ⟨#[]⟩) ∧ vH.cell? ⟨gz, 4, none⟩ = some (.slice none 0 0) ∧ vH.cell? ⟨gz, 5, none⟩ = some (.slice none 0 0) := by
       have h := HF.out.onto LH.out
       exact ⟨h.cell 0, h.cell 1, h.cell 2, h.cell 3, h.cell 4, h.cell 5⟩
      have HWH := Lib.hid (HWX.out.trans ((HBP.out.trans (LH.out.mono HBP.out.size)).mono hwx))
      clear LH HBP
      go_wp2_with fail
      refine (ref_zero _).mono ?_
      rintro e9 w9 ⟨U, f3, U', f3', rfl, hU, hb0⟩
      have HWI := Lib.hid (HWH.out.trans (hb0.mono HWH.out.size))
      have HU := Lib.hid hU
      clear hb0 hU
      go_wp2_with fail
      refine (rsame_zero U f3 U' f3' _ HU.out).mono ?_
      rintro e8 w10 ⟨rfl, hb0⟩
      have HWJ := Lib.hid (HWI.out.trans (hb0.mono HWI.out.size))
      clear hb0
      go_wp2_with fail
      go_ret
      exact ⟨rfl, HWJ.out⟩
   ·
    skip
    go_simp
    have hb0 : Below WX.drew.heap.size WX.drew (WX.alloc (.cells #[.int .i64 0, .bool false, .int .i64 0, .string ⟨#[]⟩, .slice none 0 0, .slice none 0 0] 32)).drew := (fun (h : Below WX.heap.size WX (WX.alloc (.cells #[.int .i64 0, .bool false, .int .i64 0, .string ⟨#[]⟩, .slice none 0 0, .slice none 0 0] 32)).drew) => (⟨h.os, h.tape, h.output, h.size, h.block⟩ : Below WX.drew.heap.size WX.drew (WX.alloc (.cells #[.int .i64 0, .bool false, .int .i64 0, .string ⟨#[]⟩, .slice none 0 0, .slice none 0 0] 32)).drew)) ((Below.refl _ _).alloc (Nat.le_refl _) _).drew
    have HZ_1 := Lib.hid (show Blk (WX.alloc (.cells #[.int .i64 0, .bool false, .int .i64 0, .string ⟨#[]⟩, .slice none 0 0, .slice none 0 0] 32)).drew WX.heap.size 32 #[.int .i64 0, .bool false, .int .i64 0, .string ⟨#[]⟩, .slice none 0 0, .slice none 0 0] from Blk.new WX _ _)
    have HBv1 := Lib.hid (show Below WX.heap.size WX (WX.alloc (.cells #[.int .i64 0, .bool false, .int .i64 0, .string ⟨#[]⟩, .slice none 0 0, .slice none 0 0] 32)).drew from ((Below.refl WX.heap.size WX).drew).trans (hb0.mono ((Below.refl WX.heap.size WX).drew).size))
    have hzl := HZ_1.out.lt
    have hzb := ((Below.refl WX.heap.size WX).drew).size
    clear hb0
    refine hK.out _ _ ?_ (fun hHeld => ?_)
    · exact HS6.out _ (HBv1.out)
    clear hK K0
    try simp only [Act.put, List.getElem_toArray, List.getElem_cons_succ, List.getElem_cons_zero, List.setIfInBounds_toArray, List.set_cons_zero, List.set_cons_succ]
    generalize (WX.alloc (.cells #[.int .i64 0, .bool false, .int .i64 0, .string ⟨#[]⟩, .slice none 0 0, .slice none 0 0] 32)).drew = v1 at *
    obtain ⟨gz, hgzE⟩ : ∃ gz, gz = WX.heap.size := ⟨_, rfl⟩
    have hgz : WX.heap.size ≤ gz := by omega
    have HZ_1' := Lib.hid (show Blk v1 gz 32 #[.int .i64 0, .bool false, .int .i64 0, .string ⟨#[]⟩, .slice none 0 0, .slice none 0 0] from by rw [hgzE]; exact HZ_1.out)
    rw [← hgzE]
    clear hgzE hzb hzl HZ_1
    refine wpAnyH_ready (rs := [3]) (by kernel_rfl) (by simp) ?_
    refine AllReadyH.cons rfl (fun K0 hK => ?_) ?_
    rotate_left
    · exact AllReadyH.nil
    go_simp
    refine (real_cells x D g D' g' _ HXI.out.le HXI.out.small (HX6.out.on HBv1.out)).mono ?_
    rintro e0 v2 ⟨F, f1, F', f1', rfl, hT, hb0⟩
    unfold T.agg
    have HZ_2 := Lib.hid (HZ_1'.out.onto hb0)
    clear HZ_1'
    have HRX_2 := Lib.hid (show TV v2 (· < v2.heap.size) x F f1 F' f1' from hT.wide fun b hb => hb.2)
    have HBv2 := Lib.hid (show Below WX.heap.size WX v2 from (HBv1.out).trans (hb0.mono (HBv1.out).size))
    clear hT hb0
    go_wp2_with fail
    refine hK.out _ _ ?_ (fun hHeld => ?_)
    · exact HS6.out _ (HBv2.out)
    clear hK K0
    try simp only [Act.put, List.getElem_toArray, List.getElem_cons_succ, List.getElem_cons_zero, List.setIfInBounds_toArray, List.set_cons_zero, List.set_cons_succ]
    refine wpAnyH_ready (rs := [4]) (by kernel_rfl) (by simp) ?_
    refine AllReadyH.cons rfl (fun K0 hK => ?_) ?_
    rotate_left
    · exact AllReadyH.nil
    go_simp
    have HZ_2Z := HZ_2.out.lt
    refine (set_any t x p Q cQ E e1 E' e1' F f1 F' f1' _ HNI.out HXI.out (HE6.out.on HBv2.out) HSp.out (by omega) (HP6.out.on HBv2.out) (HRT6.out.on HBv2.out) HRX_2.out).mono ?_
    rintro e0 v3 (⟨y0, rr, hy0, hset, K1, k1, K1', k1', rfl, hT, hb0⟩ | ⟨hno, rfl, hb0⟩)
    ·
     skip
     have HBv3 := Lib.hid (show Below WX.heap.size WX v3 from (HBv2.out).trans (hb0.mono (HBv2.out).size))
     have hz1 := HZ_2Z
     have HGOT := Lib.hid (show TV v3 (fun b => b ≠ gz ∧ b < v3.heap.size) rr K1 k1 K1' k1' from hT.wide fun b hb => ⟨by omega, hb.2⟩)
     have HSET := Lib.hid hset
     have HLE := Lib.hid hy0
     clear hT hset hy0
     have HZ_3 := Lib.hid (HZ_2.out.onto hb0)
     clear HZ_2
     clear hb0
     go_wp2_with fail
     refine hK.out _ _ ?_ (fun hHeld => ?_)
     · exact HS6.out _ (HBv3.out)
     clear hK K0
     try simp only [Act.put, List.getElem_toArray, List.getElem_cons_succ, List.getElem_cons_zero, List.setIfInBounds_toArray, List.set_cons_zero, List.set_cons_succ]
     refine wpAnyH_take (i := 5) (v := ?_) rfl (by kernel_rfl) (by kernel_rfl) (by kernel_rfl) (fun _ _ _ h => h) (Or.inl ⟨by rfl, ?_⟩) (by assumption) ?_
     rotate_left
     ·
      intro wq hSw
      try dsimp only at hSw
      go_simp
      try (with_reducible rfl)
     try simp only [Act.put, List.getElem_toArray, List.getElem_cons_succ, List.getElem_cons_zero, List.setIfInBounds_toArray, List.set_cons_zero, List.set_cons_succ]
     refine wpAnyH_take (i := 6) (v := ?_) rfl (by kernel_rfl) (by kernel_rfl) (by kernel_rfl) (fun _ _ _ h => h) (Or.inl ⟨by rfl, ?_⟩) (by assumption) ?_
     rotate_left
     ·
      intro wq hSw
      try dsimp only at hSw
      go_simp
      try (with_reducible rfl)
     try simp only [Act.put, List.getElem_toArray, List.getElem_cons_succ, List.getElem_cons_zero, List.setIfInBounds_toArray, List.set_cons_zero, List.set_cons_succ]
     refine wpAnyH_take (i := 7) (v := ?_) rfl (by kernel_rfl) (by kernel_rfl) (by kernel_rfl) (fun _ _ _ h => h) (Or.inl ⟨by rfl, ?_⟩) (by assumption) ?_
     rotate_left
     ·
      intro wq hSw
      try dsimp only at hSw
      go_simp
      try (with_reducible rfl)
     try simp only [Act.put, List.getElem_toArray, List.getElem_cons_succ, List.getElem_cons_zero, List.setIfInBounds_toArray, List.set_cons_zero, List.set_cons_succ]
     have q0 : v3.cell? ⟨gz, 0, none⟩ = some (.int .i64 0) := HZ_3.out.cell 0
     have q1 : v3.cell? ⟨gz, 1, none⟩ = some (.bool false) := HZ_3.out.cell 1
     have q2 : v3.cell? ⟨gz, 2, none⟩ = some (.int .i64 0) := HZ_3.out.cell 2
     have q3 : v3.cell? ⟨gz, 3, none⟩ = some (.string ⟨#[]⟩) := HZ_3.out.cell 3
     have q4 : v3.cell? ⟨gz, 4, none⟩ = some (.slice none 0 0) := HZ_3.out.cell 4
     have q5 : v3.cell? ⟨gz, 5, none⟩ = some (.slice none 0 0) := HZ_3.out.cell 5
     have u0 := HZ_3.out.free 0
     have u1 := HZ_3.out.free 1
     have u2 := HZ_3.out.free 2
     have u3 := HZ_3.out.free 3
     have u4 := HZ_3.out.free 4
     have u5 := HZ_3.out.free 5
     refine wpAnyH_ready (rs := [9]) (by kernel_rfl) (by simp) ?_
     refine AllReadyH.cons rfl (fun K0 hK => ?_) ?_
     rotate_left
     · exact AllReadyH.nil
     go_simp
     refine hK.out _ _ ?_ (fun hHeld => ?_)
     ·
      have hS := HS6.out _ (HBv3.out)
      have hne : ∀ b o, b ≠ gz → (((((((v3.setCell ⟨gz, 0, none⟩ (.int .i64 rr.kind)).setCell ⟨gz, 1, none⟩ (.bool rr.tr)).setCell ⟨gz, 2, none⟩ (.int .i64 rr.num)).setCell ⟨gz, 3, none⟩ (.string rr.str)).setCell ⟨gz, 4, none⟩ (.slice K1 rr.items.length k1)).setCell ⟨gz, 5, none⟩ (.slice K1' rr.keys.length k1'))).cell? ⟨b, o, none⟩ = v3.cell? ⟨b, o, none⟩ := fun b o hb => World.cell?_of_block (put6_heap hb)
      have g1 : gx ≠ gz := by omega
      have g2 : G3 + 1 ≠ gz := by omega
      try dsimp only
      rw [hne gx _ g1, hne gx _ g1, hne gx _ g1, hne gx _ g1, hne gx _ g1, hne gx _ g1, hne (G3 + 1) _ g2, hne (G3 + 1) _ g2, hne (G3 + 1) _ g2, hne (G3 + 1) _ g2, hne (G3 + 1) _ g2, hne (G3 + 1) _ g2]
      exact hS
     clear hK K0
     try simp only [Act.put, List.getElem_toArray, List.getElem_cons_succ, List.getElem_cons_zero, List.setIfInBounds_toArray, List.set_cons_zero, List.set_cons_succ]
     refine wpAnyH_take (i := 10) (v := ?_) rfl (by kernel_rfl) (by kernel_rfl) (by kernel_rfl) (fun _ _ _ h => h) (Or.inl ⟨by rfl, ?_⟩) (by assumption) ?_
     rotate_left
     ·
      intro wq hSw
      try dsimp only at hSw
      go_simp
      try (with_reducible rfl)
     try simp only [Act.put, List.getElem_toArray, List.getElem_cons_succ, List.getElem_cons_zero, List.setIfInBounds_toArray, List.set_cons_zero, List.set_cons_succ]
     refine wpAnyH_done (by kernel_rfl) ?_ _
     have hlz := HZ_3.out.lt
     have hzs : (((((((v3.setCell ⟨gz, 0, none⟩ (.int .i64 rr.kind)).setCell ⟨gz, 1, none⟩ (.bool rr.tr)).setCell ⟨gz, 2, none⟩ (.int .i64 rr.num)).setCell ⟨gz, 3, none⟩ (.string rr.str)).setCell ⟨gz, 4, none⟩ (.slice K1 rr.items.length k1)).setCell ⟨gz, 5, none⟩ (.slice K1' rr.keys.length k1'))).heap.size = v3.heap.size := put6_size
     have HBP := Lib.hid (show Below WX.heap.size WX ((((((v3.setCell ⟨gz, 0, none⟩ (.int .i64 rr.kind)).setCell ⟨gz, 1, none⟩ (.bool rr.tr)).setCell ⟨gz, 2, none⟩ (.int .i64 rr.num)).setCell ⟨gz, 3, none⟩ (.string rr.str)).setCell ⟨gz, 4, none⟩ (.slice K1 rr.items.length k1)).setCell ⟨gz, 5, none⟩ (.slice K1' rr.keys.length k1')) from put6_below HBv3.out hgz)
     have HF := Lib.hid (res_put HZ_3.out rfl rr K1 k1 K1' k1')
     have HGP := Lib.hid (show TV ((((((v3.setCell ⟨gz, 0, none⟩ (.int .i64 rr.kind)).setCell ⟨gz, 1, none⟩ (.bool rr.tr)).setCell ⟨gz, 2, none⟩ (.int .i64 rr.num)).setCell ⟨gz, 3, none⟩ (.string rr.str)).setCell ⟨gz, 4, none⟩ (.slice K1 rr.items.length k1)).setCell ⟨gz, 5, none⟩ (.slice K1' rr.keys.length k1')) (· < (((((((v3.setCell ⟨gz, 0, none⟩ (.int .i64 rr.kind)).setCell ⟨gz, 1, none⟩ (.bool rr.tr)).setCell ⟨gz, 2, none⟩ (.int .i64 rr.num)).setCell ⟨gz, 3, none⟩ (.string rr.str)).setCell ⟨gz, 4, none⟩ (.slice K1 rr.items.length k1)).setCell ⟨gz, 5, none⟩ (.slice K1' rr.keys.length k1'))).heap.size) rr K1 k1 K1' k1' from (HGOT.out.keep fun b hb => put6_heap hb.1).wide fun b hb => by show b < _; rw [hzs]; exact hb.2)
     have HFine := Lib.hid (sets_fine HNI.out HXI.out HSET.out)
     clear HGOT
     clear q0 q1 q2 q3 q4 q5 u0 u1 u2 u3 u4 u5 HZ_3 hlz hzs
     generalize ((((((v3.setCell ⟨gz, 0, none⟩ (.int .i64 rr.kind)).setCell ⟨gz, 1, none⟩ (.bool rr.tr)).setCell ⟨gz, 2, none⟩ (.int .i64 rr.num)).setCell ⟨gz, 3, none⟩ (.string rr.str)).setCell ⟨gz, 4, none⟩ (.slice K1 rr.items.length k1)).setCell ⟨gz, 5, none⟩ (.slice K1' rr.keys.length k1')) = vP at *
     go_upto_region 7 with fail
     refine wp_region_held_drew (S := fun w' => (w'.cell? ⟨G3, 0, none⟩ = some (.int .i64 t.kind) ∧ w'.cell? ⟨G3, 1, none⟩ = some (.bool t.tr) ∧ w'.cell? ⟨G3, 2, none⟩ = some (.int .i64 t.num) ∧ w'.cell? ⟨G3, 3, none⟩ = some (.string t.str) ∧ w'.cell? ⟨G3, 4, none⟩ = some (.slice B t.items.length d) ∧ w'.cell? ⟨G3, 5, none⟩ = some (.slice B' t.keys.length d')) ∧ (w'.cell? ⟨gx, 0, none⟩ = some (.int .i64 t.kind) ∧ w'.cell? ⟨gx, 1, none⟩ = some (.bool t.tr) ∧ w'.cell? ⟨gx, 2, none⟩ = some (.int .i64 t.num) ∧ w'.cell? ⟨gx, 3, none⟩ = some (.string t.str) ∧ w'.cell? ⟨gx, 4, none⟩ = some (.slice E t.items.length e1) ∧ w'.cell? ⟨gx, 5, none⟩ = some (.slice E' t.keys.length e1'))) (by kernel_rfl) ?_ (fun hHeld => ?_)
     · exact HS7.out _ HBP.out.drew
     refine wpAnyH_take (i := 0) (v := ?_) rfl (by kernel_rfl) (by kernel_rfl) (by kernel_rfl) (fun _ _ _ h => h) (Or.inl ⟨by rfl, ?_⟩) (by assumption) ?_
     rotate_left
     ·
      intro wq hSw
      try dsimp only at hSw
      go_simp
      try (with_reducible rfl)
     try simp only [Act.put, List.getElem_toArray, List.getElem_cons_zero, List.setIfInBounds_toArray, List.set_cons_zero, List.set_cons_succ]
     refine wpAnyH_take (i := 2) (v := ?_) rfl (by kernel_rfl) (by kernel_rfl) (by kernel_rfl) (fun _ _ _ h => h) (Or.inl ⟨by rfl, ?_⟩) (by assumption) ?_
     rotate_left
     ·
      intro wq hSw
      try dsimp only at hSw
      go_simp
      try (with_reducible rfl)
     try simp only [Act.put, List.getElem_toArray, List.getElem_cons_succ, List.getElem_cons_zero, List.setIfInBounds_toArray, List.set_cons_zero, List.set_cons_succ]
     refine wpAnyH_ready (rs := [1]) (by kernel_rfl) (by simp) ?_
     refine AllReadyH.cons rfl (fun K0 hK => ?_) ?_
     rotate_left
     · exact AllReadyH.nil
     go_simp
     refine (ref_cells _ t E e1 E' e1' _ HNI.out.le (Nat.le_refl _) (HRT6.out.on HBP.out.drew)).mono ?_
     rintro e0 vR ⟨R1, r1, R1', r1', rfl, hU, hb0⟩
     unfold T.agg
     have LR := Lib.hid (show Below vP.heap.size vP vR from (Below.refl vP.heap.size vP).drew.trans hb0)
     have HU := Lib.hid (show TV vR (· < vR.heap.size) t R1 r1 R1' r1' from hU.wide fun b hb => by
      have h1 := hb0.size
      rcases hb with hb | hb
      · exact Nat.lt_of_lt_of_le hb h1
      · exact hb.2)
     clear hU hb0
     go_wp2_with fail
     refine hK.out _ _ ?_ (fun hHeld => ?_)
     · exact HS7.out _ ((HBP.out.trans (LR.out.mono HBP.out.size)))
     clear hK K0
     try simp only [Act.put, List.getElem_toArray, List.getElem_cons_succ, List.getElem_cons_zero, List.setIfInBounds_toArray, List.set_cons_zero, List.set_cons_succ]
     refine wpAnyH_ready (rs := [3]) (by kernel_rfl) (by simp) ?_
     refine AllReadyH.cons rfl (fun K0 hK => ?_) ?_
     rotate_left
     · exact AllReadyH.nil
     go_simp
     refine (rsame_cells t R1 r1 R1' r1' B d B' d' _ HNI.out.le HNI.out.small HU.out (HT6.out.on (HBP.out.trans (LR.out.mono HBP.out.size)))).mono ?_
     rintro e0 vS ⟨rfl, hb0⟩
     have LS := Lib.hid (LR.out.trans (hb0.mono LR.out.size))
     clear hb0 LR HU
     go_wp2_with fail
     refine hK.out _ _ ?_ (fun hHeld => ?_)
     · exact HS7.out _ ((HBP.out.trans (LS.out.mono HBP.out.size)))
     clear hK K0
     try simp only [Act.put, List.getElem_toArray, List.getElem_cons_succ, List.getElem_cons_zero, List.setIfInBounds_toArray, List.set_cons_zero, List.set_cons_succ]
     refine wpAnyH_take (i := 4) (v := ?_) rfl (by kernel_rfl) (by kernel_rfl) (by kernel_rfl) (fun _ _ _ h => h) (Or.inl ⟨by rfl, ?_⟩) (by assumption) ?_
     rotate_left
     ·
      intro wq hSw
      try dsimp only at hSw
      go_simp
      try (with_reducible rfl)
     try simp only [Act.put, List.getElem_toArray, List.getElem_cons_succ, List.getElem_cons_zero, List.setIfInBounds_toArray, List.set_cons_zero, List.set_cons_succ]
     refine wpAnyH_done (by kernel_rfl) ?_ _
     obtain ⟨a0, a1, a2, a3, a4, a5⟩ := (HS7.out vS (HBP.out.trans (LS.out.mono HBP.out.size))).1
     go_wp2_with fail
     refine (rget_any t p Q cQ B d B' d' _ HNI.out.fine (by omega) (HP6.out.on (HBP.out.trans (LS.out.mono HBP.out.size))) (HT6.out.on (HBP.out.trans (LS.out.mono HBP.out.size)))).mono ?_
     rintro e0 vG (⟨z1, hz1, C0, f0, C0', f0', rfl, hT, hb0⟩ | ⟨hno, _⟩)
     rotate_left
     · exact absurd HLE.out (hno y0)
     have LG := Lib.hid (LS.out.trans (hb0.mono LS.out.size))
     clear hT hz1 hb0 LS a0 a1 a2 a3 a4 a5
     go_upto_region 10 with fail
     have hb0 : Below vG.heap.size vG (vG.alloc (.cells #[.int .i64 z1.kind, .bool z1.tr, .int .i64 z1.num, .string z1.str, .slice C0 z1.items.length f0, .slice C0' z1.keys.length f0'] 28)) := (Below.refl _ _).alloc (Nat.le_refl _) _
     have hX : Blk (vG.alloc (.cells #[.int .i64 z1.kind, .bool z1.tr, .int .i64 z1.num, .string z1.str, .slice C0 z1.items.length f0, .slice C0' z1.keys.length f0'] 28)) vG.heap.size 28 #[.int .i64 z1.kind, .bool z1.tr, .int .i64 z1.num, .string z1.str, .slice C0 z1.items.length f0, .slice C0' z1.keys.length f0'] := Blk.new vG _ _
     change Code.wp _ _ _ _ (vG.alloc (.cells #[.int .i64 z1.kind, .bool z1.tr, .int .i64 z1.num, .string z1.str, .slice C0 z1.items.length f0, .slice C0' z1.keys.length f0'] 28))
     have LH := Lib.hid (LG.out.trans (hb0.mono LG.out.size))
     generalize (vG.alloc (.cells #[.int .i64 z1.kind, .bool z1.tr, .int .i64 z1.num, .string z1.str, .slice C0 z1.items.length f0, .slice C0' z1.keys.length f0'] 28)) = vH at *
     have HX13 := Lib.hid hX
     clear hb0 hX  LG
     generalize vG.heap.size = g13 at *
     obtain ⟨a0, a1, a2, a3, a4, a5⟩ : vH.cell? ⟨gz, 0, none⟩ = some (.int .i64 rr.kind) ∧ vH.cell? ⟨gz, 1, none⟩ = some (.bool rr.tr) ∧ vH.cell? ⟨gz, 2, none⟩ = some (.int .i64 rr.num) ∧ vH.cell? ⟨gz, 3, none⟩ = some (.string rr.str) ∧ vH.cell? ⟨gz, 4, none⟩ = some (.slice K1 rr.items.length k1) ∧ vH.cell? ⟨gz, 5, none⟩ = some (.slice K1' rr.keys.length k1') := by
      have h := HF.out.onto LH.out
      exact ⟨h.cell 0, h.cell 1, h.cell 2, h.cell 3, h.cell 4, h.cell 5⟩
     go_wp2_with fail
     refine (get_any rr p Q cQ K1 k1 K1' k1' _ HFine.out (HE6.out.on (HBP.out.trans (LH.out.mono HBP.out.size))) HSp.out (by omega) (HP6.out.on (HBP.out.trans (LH.out.mono HBP.out.size))) (HGP.out.on LH.out)).mono ?_
     clear HX13
     rintro e0 vI (⟨z2, hz2, C, f, C', f', rfl, hT, hb0⟩ | ⟨hno, _⟩)
     rotate_left
     · exact absurd (sets_leads HSET.out) (hno x)
     obtain rfl : x = z2 := leads_unique HFine.out (sets_leads HSET.out) hz2
     have LI := Lib.hid (LH.out.trans (hb0.mono LH.out.size))
     have HTI := Lib.hid hT
     clear hT hz2 hb0 LH a0 a1 a2 a3 a4 a5
     go_upto_region 13 with fail
     have hb0 : Below vI.heap.size vI (vI.alloc (.cells #[.int .i64 x.kind, .bool x.tr, .int .i64 x.num, .string x.str, .slice C x.items.length f, .slice C' x.keys.length f'] 32)) := (Below.refl _ _).alloc (Nat.le_refl _) _
     have hX : Blk (vI.alloc (.cells #[.int .i64 x.kind, .bool x.tr, .int .i64 x.num, .string x.str, .slice C x.items.length f, .slice C' x.keys.length f'] 32)) vI.heap.size 32 #[.int .i64 x.kind, .bool x.tr, .int .i64 x.num, .string x.str, .slice C x.items.length f, .slice C' x.keys.length f'] := Blk.new vI _ _
     change Code.wp _ _ _ _ (vI.alloc (.cells #[.int .i64 x.kind, .bool x.tr, .int .i64 x.num, .string x.str, .slice C x.items.length f, .slice C' x.keys.length f'] 32))
     have HTJ := Lib.hid (HTI.out.on hb0)
     have LJ := Lib.hid (LI.out.trans (hb0.mono LI.out.size))
     generalize (vI.alloc (.cells #[.int .i64 x.kind, .bool x.tr, .int .i64 x.num, .string x.str, .slice C x.items.length f, .slice C' x.keys.length f'] 32)) = vJ at *
     have HXJ := Lib.hid hX
     clear hb0 hX HTI LI
     generalize vI.heap.size = gj at *
     have HSS := Lib.hid (show ∀ w', Below vJ.heap.size vJ w' → (Six w' gz 0 rr K1 k1 K1' k1') ∧ (Six w' G3 0 t B d B' d') ∧ (Six w' (G3 + 1) 0 x D g D' g') ∧ (Six w' gj 0 x C f C' f') from fun w' hb => by
      have hb1 := LJ.out.trans (hb.mono LJ.out.size)
      have hb2 := H10.out.trans ((HBP.out.trans (hb1.mono HBP.out.size)).mono hs10)
      have h1 := HF.out.onto hb1
      have h2 := HB4.out.onto hb2
      have h3 := HB5.out.onto hb2
      have h4 := HXJ.out.onto hb
      exact ⟨⟨h1.cell 0, h1.cell 1, h1.cell 2, h1.cell 3, h1.cell 4, h1.cell 5⟩, ⟨h2.cell 0, h2.cell 1, h2.cell 2, h2.cell 3, h2.cell 4, h2.cell 5⟩, ⟨h3.cell 0, h3.cell 1, h3.cell 2, h3.cell 3, h3.cell 4, h3.cell 5⟩, h4.cell 0, h4.cell 1, h4.cell 2, h4.cell 3, h4.cell 4, h4.cell 5⟩)
     have HPJ := Lib.hid (HP6.out.on (HBP.out.trans (LJ.out.mono HBP.out.size)))
     have HTt := Lib.hid (HT6.out.on (HBP.out.trans (LJ.out.mono HBP.out.size)))
     have HTx := Lib.hid (HX6.out.on (HBP.out.trans (LJ.out.mono HBP.out.size)))
     have HTr := Lib.hid (HGP.out.on LJ.out)
     have HWJ := Lib.hid (HWX.out.trans ((HBP.out.trans (LJ.out.mono HBP.out.size)).mono hwx))
     clear HP6 HT6 HX6 HGP LJ HBP HF HXJ HS6 HS7 HRT6
     refine wp_region_held_drew (S := fun w' => (w'.cell? ⟨gz, 0, none⟩ = some (.int .i64 rr.kind) ∧ w'.cell? ⟨gz, 1, none⟩ = some (.bool rr.tr) ∧ w'.cell? ⟨gz, 2, none⟩ = some (.int .i64 rr.num) ∧ w'.cell? ⟨gz, 3, none⟩ = some (.string rr.str) ∧ w'.cell? ⟨gz, 4, none⟩ = some (.slice K1 rr.items.length k1) ∧ w'.cell? ⟨gz, 5, none⟩ = some (.slice K1' rr.keys.length k1')) ∧ (w'.cell? ⟨G3, 0, none⟩ = some (.int .i64 t.kind) ∧ w'.cell? ⟨G3, 1, none⟩ = some (.bool t.tr) ∧ w'.cell? ⟨G3, 2, none⟩ = some (.int .i64 t.num) ∧ w'.cell? ⟨G3, 3, none⟩ = some (.string t.str) ∧ w'.cell? ⟨G3, 4, none⟩ = some (.slice B t.items.length d) ∧ w'.cell? ⟨G3, 5, none⟩ = some (.slice B' t.keys.length d')) ∧ (w'.cell? ⟨G3 + 1, 0, none⟩ = some (.int .i64 x.kind) ∧ w'.cell? ⟨G3 + 1, 1, none⟩ = some (.bool x.tr) ∧ w'.cell? ⟨G3 + 1, 2, none⟩ = some (.int .i64 x.num) ∧ w'.cell? ⟨G3 + 1, 3, none⟩ = some (.string x.str) ∧ w'.cell? ⟨G3 + 1, 4, none⟩ = some (.slice D x.items.length g) ∧ w'.cell? ⟨G3 + 1, 5, none⟩ = some (.slice D' x.keys.length g')) ∧ (w'.cell? ⟨gj, 0, none⟩ = some (.int .i64 x.kind) ∧ w'.cell? ⟨gj, 1, none⟩ = some (.bool x.tr) ∧ w'.cell? ⟨gj, 2, none⟩ = some (.int .i64 x.num) ∧ w'.cell? ⟨gj, 3, none⟩ = some (.string x.str) ∧ w'.cell? ⟨gj, 4, none⟩ = some (.slice C x.items.length f) ∧ w'.cell? ⟨gj, 5, none⟩ = some (.slice C' x.keys.length f'))) (by kernel_rfl) ?_ (fun hHeld => ?_)
     · exact HSS.out _ (Below.refl _ _).drew
     refine wpAnyH_take (i := 0) (v := ?_) rfl (by kernel_rfl) (by kernel_rfl) (by kernel_rfl) (fun _ _ _ h => h) (Or.inl ⟨by rfl, ?_⟩) (by assumption) ?_
     rotate_left
     ·
      intro wq hSw
      try dsimp only at hSw
      go_simp
      try (with_reducible rfl)
     try simp only [Act.put, List.getElem_toArray, List.getElem_cons_zero, List.setIfInBounds_toArray, List.set_cons_zero, List.set_cons_succ]
     refine wpAnyH_take (i := 1) (v := ?_) rfl (by kernel_rfl) (by kernel_rfl) (by kernel_rfl) (fun _ _ _ h => h) (Or.inl ⟨by rfl, ?_⟩) (by assumption) ?_
     rotate_left
     ·
      intro wq hSw
      try dsimp only at hSw
      go_simp
      try (with_reducible rfl)
     try simp only [Act.put, List.getElem_toArray, List.getElem_cons_succ, List.getElem_cons_zero, List.setIfInBounds_toArray, List.set_cons_zero, List.set_cons_succ]
     refine wpAnyH_take (i := 2) (v := ?_) rfl (by kernel_rfl) (by kernel_rfl) (by kernel_rfl) (fun _ _ _ h => h) (Or.inl ⟨by rfl, ?_⟩) (by assumption) ?_
     rotate_left
     ·
      intro wq hSw
      try dsimp only at hSw
      go_simp
      try (with_reducible rfl)
     try simp only [Act.put, List.getElem_toArray, List.getElem_cons_succ, List.getElem_cons_zero, List.setIfInBounds_toArray, List.set_cons_zero, List.set_cons_succ]
     refine wpAnyH_take (i := 3) (v := ?_) rfl (by kernel_rfl) (by kernel_rfl) (by kernel_rfl) (fun _ _ _ h => h) (Or.inl ⟨by rfl, ?_⟩) (by assumption) ?_
     rotate_left
     ·
      intro wq hSw
      try dsimp only at hSw
      go_simp
      try (with_reducible rfl)
     try simp only [Act.put, List.getElem_toArray, List.getElem_cons_succ, List.getElem_cons_zero, List.setIfInBounds_toArray, List.set_cons_zero, List.set_cons_succ]
     refine wpAnyH_take (i := 4) (v := ?_) rfl (by kernel_rfl) (by kernel_rfl) (by kernel_rfl) (fun _ _ _ h => h) (Or.inl ⟨by rfl, ?_⟩) (by assumption) ?_
     rotate_left
     ·
      intro wq hSw
      try dsimp only at hSw
      go_simp
      try (with_reducible rfl)
     try simp only [Act.put, List.getElem_toArray, List.getElem_cons_succ, List.getElem_cons_zero, List.setIfInBounds_toArray, List.set_cons_zero, List.set_cons_succ]
     refine wpAnyH_take (i := 5) (v := ?_) rfl (by kernel_rfl) (by kernel_rfl) (by kernel_rfl) (fun _ _ _ h => h) (Or.inl ⟨by rfl, ?_⟩) (by assumption) ?_
     rotate_left
     ·
      intro wq hSw
      try dsimp only at hSw
      go_simp
      try (with_reducible rfl)
     try simp only [Act.put, List.getElem_toArray, List.getElem_cons_succ, List.getElem_cons_zero, List.setIfInBounds_toArray, List.set_cons_zero, List.set_cons_succ]
     refine wpAnyH_take (i := 6) (v := ?_) rfl (by kernel_rfl) (by kernel_rfl) (by kernel_rfl) (fun _ _ _ h => h) (Or.inl ⟨by rfl, ?_⟩) (by assumption) ?_
     rotate_left
     ·
      intro wq hSw
      try dsimp only at hSw
      go_simp
      try (with_reducible rfl)
     try simp only [Act.put, List.getElem_toArray, List.getElem_cons_succ, List.getElem_cons_zero, List.setIfInBounds_toArray, List.set_cons_zero, List.set_cons_succ]
     refine wpAnyH_take (i := 7) (v := ?_) rfl (by kernel_rfl) (by kernel_rfl) (by kernel_rfl) (fun _ _ _ h => h) (Or.inl ⟨by rfl, ?_⟩) (by assumption) ?_
     rotate_left
     ·
      intro wq hSw
      try dsimp only at hSw
      go_simp
      try (with_reducible rfl)
     try simp only [Act.put, List.getElem_toArray, List.getElem_cons_succ, List.getElem_cons_zero, List.setIfInBounds_toArray, List.set_cons_zero, List.set_cons_succ]
     refine wpAnyH_take (i := 9) (v := ?_) rfl (by kernel_rfl) (by kernel_rfl) (by kernel_rfl) (fun _ _ _ h => h) (Or.inl ⟨by rfl, ?_⟩) (by assumption) ?_
     rotate_left
     ·
      intro wq hSw
      try dsimp only at hSw
      go_simp
      try (with_reducible rfl)
     try simp only [Act.put, List.getElem_toArray, List.getElem_cons_succ, List.getElem_cons_zero, List.setIfInBounds_toArray, List.set_cons_zero, List.set_cons_succ]
     refine wpAnyH_take (i := 10) (v := ?_) rfl (by kernel_rfl) (by kernel_rfl) (by kernel_rfl) (fun _ _ _ h => h) (Or.inl ⟨by rfl, ?_⟩) (by assumption) ?_
     rotate_left
     ·
      intro wq hSw
      try dsimp only at hSw
      go_simp
      try (with_reducible rfl)
     try simp only [Act.put, List.getElem_toArray, List.getElem_cons_succ, List.getElem_cons_zero, List.setIfInBounds_toArray, List.set_cons_zero, List.set_cons_succ]
     refine wpAnyH_take (i := 11) (v := ?_) rfl (by kernel_rfl) (by kernel_rfl) (by kernel_rfl) (fun _ _ _ h => h) (Or.inl ⟨by rfl, ?_⟩) (by assumption) ?_
     rotate_left
     ·
      intro wq hSw
      try dsimp only at hSw
      go_simp
      try (with_reducible rfl)
     try simp only [Act.put, List.getElem_toArray, List.getElem_cons_succ, List.getElem_cons_zero, List.setIfInBounds_toArray, List.set_cons_zero, List.set_cons_succ]
     refine wpAnyH_ready (rs := [8]) (by kernel_rfl) (by simp) ?_
     refine AllReadyH.cons rfl (fun K0 hK => ?_) ?_
     rotate_left
     · exact AllReadyH.nil
     go_simp
     refine (ref_cells _ rr K1 k1 K1' k1' _ HFine.out.le (Nat.le_refl _) (HTr.out.on (Below.refl _ _).drew)).mono ?_
     rintro e0 x1 ⟨R1, r1, R1', r1', rfl, hU, hb0⟩
     unfold T.agg
     have J1 := Lib.hid (show Below vJ.heap.size vJ x1 from (Below.refl vJ.heap.size vJ).drew.trans hb0)
     have HU := Lib.hid (show TV x1 (· < x1.heap.size) rr R1 r1 R1' r1' from hU.wide fun b hb => by
      have h1 := hb0.size
      rcases hb with hb | hb
      · exact Nat.lt_of_lt_of_le hb h1
      · exact hb.2)
     clear hU hb0
     go_wp2_with fail
     refine hK.out _ _ ?_ (fun hHeld => ?_)
     · exact HSS.out _ (J1.out)
     clear hK K0
     try simp only [Act.put, List.getElem_toArray, List.getElem_cons_succ, List.getElem_cons_zero, List.setIfInBounds_toArray, List.set_cons_zero, List.set_cons_succ]
     refine wpAnyH_ready (rs := [12]) (by kernel_rfl) (by simp) ?_
     refine AllReadyH.cons rfl (fun K0 hK => ?_) ?_
     rotate_left
     · exact AllReadyH.nil
     go_simp
     refine (rset_any t x rr p Q cQ B d B' d' D g D' g' _ HNI.out HSET.out hpc (by omega) (HPJ.out.on J1.out) (HTt.out.on J1.out) (HTx.out.on J1.out)).mono ?_
     rintro e0 x2 ⟨M, m, M', m', rfl, hU, hb0⟩
     have J2 := Lib.hid (J1.out.trans (hb0.mono J1.out.size))
     have HU2 := Lib.hid (HU.out.on hb0)
     have HM := Lib.hid hU
     clear hU hb0 HU
     go_wp2_with fail
     refine hK.out _ _ ?_ (fun hHeld => ?_)
     · exact HSS.out _ (J2.out)
     clear hK K0
     try simp only [Act.put, List.getElem_toArray, List.getElem_cons_succ, List.getElem_cons_zero, List.setIfInBounds_toArray, List.set_cons_zero, List.set_cons_succ]
     refine wpAnyH_ready (rs := [13]) (by kernel_rfl) (by simp) ?_
     refine AllReadyH.cons rfl (fun K0 hK => ?_) ?_
     rotate_left
     · exact AllReadyH.nil
     go_simp
     refine (rsame_cells rr R1 r1 R1' r1' M m M' m' _ HFine.out.le HFine.out.small HU2.out HM.out).mono ?_
     rintro e0 x3 ⟨rfl, hb0⟩
     have J3 := Lib.hid (J2.out.trans (hb0.mono J2.out.size))
     clear hb0 HU2 HM
     go_wp2_with fail
     refine hK.out _ _ ?_ (fun hHeld => ?_)
     · exact HSS.out _ (J3.out)
     clear hK K0
     try simp only [Act.put, List.getElem_toArray, List.getElem_cons_succ, List.getElem_cons_zero, List.setIfInBounds_toArray, List.set_cons_zero, List.set_cons_succ]
     refine wpAnyH_take (i := 14) (v := ?_) rfl (by kernel_rfl) (by kernel_rfl) (by kernel_rfl) (fun _ _ _ h => h) (Or.inl ⟨by rfl, ?_⟩) (by assumption) ?_
     rotate_left
     ·
      intro wq hSw
      try dsimp only at hSw
      go_simp
      try (with_reducible rfl)
     try simp only [Act.put, List.getElem_toArray, List.getElem_cons_succ, List.getElem_cons_zero, List.setIfInBounds_toArray, List.set_cons_zero, List.set_cons_succ]
     refine wpAnyH_take (i := 15) (v := ?_) rfl (by kernel_rfl) (by kernel_rfl) (by kernel_rfl) (fun _ _ _ h => h) (Or.inl ⟨by rfl, ?_⟩) (by assumption) ?_
     rotate_left
     ·
      intro wq hSw
      try dsimp only at hSw
      go_simp
      try (with_reducible rfl)
     try simp only [Act.put, List.getElem_toArray, List.getElem_cons_succ, List.getElem_cons_zero, List.setIfInBounds_toArray, List.set_cons_zero, List.set_cons_succ]
     refine wpAnyH_take (i := 16) (v := ?_) rfl (by kernel_rfl) (by kernel_rfl) (by kernel_rfl) (fun _ _ _ h => h) (Or.inl ⟨by rfl, ?_⟩) (by assumption) ?_
     rotate_left
     ·
      intro wq hSw
      try dsimp only at hSw
      go_simp
      try (with_reducible rfl)
     try simp only [Act.put, List.getElem_toArray, List.getElem_cons_succ, List.getElem_cons_zero, List.setIfInBounds_toArray, List.set_cons_zero, List.set_cons_succ]
     refine wpAnyH_take (i := 18) (v := ?_) rfl (by kernel_rfl) (by kernel_rfl) (by kernel_rfl) (fun _ _ _ h => h) (Or.inl ⟨by rfl, ?_⟩) (by assumption) ?_
     rotate_left
     ·
      intro wq hSw
      try dsimp only at hSw
      go_simp
      try (with_reducible rfl)
     try simp only [Act.put, List.getElem_toArray, List.getElem_cons_succ, List.getElem_cons_zero, List.setIfInBounds_toArray, List.set_cons_zero, List.set_cons_succ]
     refine wpAnyH_ready (rs := [17]) (by kernel_rfl) (by simp) ?_
     refine AllReadyH.cons rfl (fun K0 hK => ?_) ?_
     rotate_left
     · exact AllReadyH.nil
     go_simp
     refine (ref_cells _ x C f C' f' _ HXI.out.le (Nat.le_refl _) (HTJ.out.on J3.out)).mono ?_
     rintro e0 x4 ⟨N1, n2, N1', n2', rfl, hU, hb0⟩
     unfold T.agg
     have J4 := Lib.hid (J3.out.trans (hb0.mono J3.out.size))
     have HU := Lib.hid (show TV x4 (· < x4.heap.size) x N1 n2 N1' n2' from hU.wide fun b hb => by
      have h1 := hb0.size
      rcases hb with hb | hb
      · exact Nat.lt_of_lt_of_le hb h1
      · exact hb.2)
     clear hU hb0
     go_wp2_with fail
     refine hK.out _ _ ?_ (fun hHeld => ?_)
     · exact HSS.out _ (J4.out)
     clear hK K0
     try simp only [Act.put, List.getElem_toArray, List.getElem_cons_succ, List.getElem_cons_zero, List.setIfInBounds_toArray, List.set_cons_zero, List.set_cons_succ]
     refine wpAnyH_ready (rs := [19]) (by kernel_rfl) (by simp) ?_
     refine AllReadyH.cons rfl (fun K0 hK => ?_) ?_
     rotate_left
     · exact AllReadyH.nil
     go_simp
     refine (rsame_cells x N1 n2 N1' n2' D g D' g' _ HXI.out.le HXI.out.small HU.out (HTx.out.on J4.out)).mono ?_
     rintro e0 x5 ⟨rfl, hb0⟩
     have J5 := Lib.hid (J4.out.trans (hb0.mono J4.out.size))
     clear hb0
     go_wp2_with fail
     refine hK.out _ _ ?_ (fun hHeld => ?_)
     · exact HSS.out _ (J5.out)
     clear hK K0
     try simp only [Act.put, List.getElem_toArray, List.getElem_cons_succ, List.getElem_cons_zero, List.setIfInBounds_toArray, List.set_cons_zero, List.set_cons_succ]
     refine wpAnyH_take (i := 20) (v := ?_) rfl (by kernel_rfl) (by kernel_rfl) (by kernel_rfl) (fun _ _ _ h => h) (Or.inl ⟨by rfl, ?_⟩) (by assumption) ?_
     rotate_left
     ·
      intro wq hSw
      try dsimp only at hSw
      go_simp
      try (with_reducible rfl)
     refine wpAnyH_take (i := 21) (v := ?_) rfl (by kernel_rfl) (by kernel_rfl) (by kernel_rfl) (fun _ _ _ h => h) (Or.inl ⟨by rfl, ?_⟩) (by assumption) ?_
     rotate_left
     ·
      intro wq hSw
      try dsimp only at hSw
      go_simp
      try (with_reducible rfl)
     try simp only [Act.put, List.getElem_toArray, List.getElem_cons_succ, List.getElem_cons_zero, List.setIfInBounds_toArray, List.set_cons_zero, List.set_cons_succ]
     refine wpAnyH_done (by kernel_rfl) ?_ _
     go_wp2_with fail
     go_ret
     exact ⟨rfl, HWJ.out.trans (J5.out.mono HWJ.out.size)⟩
    ·
     skip
     have HBv3 := Lib.hid (show Below WX.heap.size WX v3 from (HBv2.out).trans (hb0.mono (HBv2.out).size))
     have hz1 := HZ_2Z
     have HNO := Lib.hid hno
     clear hno
     have HZ_3 := Lib.hid (HZ_2.out.onto hb0)
     clear HZ_2
     clear hb0
     go_wp2_with fail
     refine hK.out _ _ ?_ (fun hHeld => ?_)
     · exact HS6.out _ (HBv3.out)
     clear hK K0
     try simp only [Act.put, List.getElem_toArray, List.getElem_cons_succ, List.getElem_cons_zero, List.setIfInBounds_toArray, List.set_cons_zero, List.set_cons_succ]
     refine wpAnyH_take (i := 5) (v := ?_) rfl (by kernel_rfl) (by kernel_rfl) (by kernel_rfl) (fun _ _ _ h => h) (Or.inl ⟨by rfl, ?_⟩) (by assumption) ?_
     rotate_left
     ·
      intro wq hSw
      try dsimp only at hSw
      go_simp
      try (with_reducible rfl)
     try simp only [Act.put, List.getElem_toArray, List.getElem_cons_succ, List.getElem_cons_zero, List.setIfInBounds_toArray, List.set_cons_zero, List.set_cons_succ]
     refine wpAnyH_take (i := 6) (v := ?_) rfl (by kernel_rfl) (by kernel_rfl) (by kernel_rfl) (fun _ _ _ h => h) (Or.inl ⟨by rfl, ?_⟩) (by assumption) ?_
     rotate_left
     ·
      intro wq hSw
      try dsimp only at hSw
      go_simp
      try (with_reducible rfl)
     try simp only [Act.put, List.getElem_toArray, List.getElem_cons_succ, List.getElem_cons_zero, List.setIfInBounds_toArray, List.set_cons_zero, List.set_cons_succ]
     refine wpAnyH_take (i := 7) (v := ?_) rfl (by kernel_rfl) (by kernel_rfl) (by kernel_rfl) (fun _ _ _ h => h) (Or.inl ⟨by rfl, ?_⟩) (by assumption) ?_
     rotate_left
     ·
      intro wq hSw
      try dsimp only at hSw
      go_simp
      try (with_reducible rfl)
     try simp only [Act.put, List.getElem_toArray, List.getElem_cons_succ, List.getElem_cons_zero, List.setIfInBounds_toArray, List.set_cons_zero, List.set_cons_succ]
     have q0 : v3.cell? ⟨gz, 0, none⟩ = some (.int .i64 0) := HZ_3.out.cell 0
     have q1 : v3.cell? ⟨gz, 1, none⟩ = some (.bool false) := HZ_3.out.cell 1
     have q2 : v3.cell? ⟨gz, 2, none⟩ = some (.int .i64 0) := HZ_3.out.cell 2
     have q3 : v3.cell? ⟨gz, 3, none⟩ = some (.string ⟨#[]⟩) := HZ_3.out.cell 3
     have q4 : v3.cell? ⟨gz, 4, none⟩ = some (.slice none 0 0) := HZ_3.out.cell 4
     have q5 : v3.cell? ⟨gz, 5, none⟩ = some (.slice none 0 0) := HZ_3.out.cell 5
     have u0 := HZ_3.out.free 0
     have u1 := HZ_3.out.free 1
     have u2 := HZ_3.out.free 2
     have u3 := HZ_3.out.free 3
     have u4 := HZ_3.out.free 4
     have u5 := HZ_3.out.free 5
     refine wpAnyH_ready (rs := [9]) (by kernel_rfl) (by simp) ?_
     refine AllReadyH.cons rfl (fun K0 hK => ?_) ?_
     rotate_left
     · exact AllReadyH.nil
     go_simp
     refine hK.out _ _ ?_ (fun hHeld => ?_)
     ·
      have hS := HS6.out _ (HBv3.out)
      have hne : ∀ b o, b ≠ gz → (((((((v3.setCell ⟨gz, 0, none⟩ (.int .i64 0)).setCell ⟨gz, 1, none⟩ (.bool false)).setCell ⟨gz, 2, none⟩ (.int .i64 0)).setCell ⟨gz, 3, none⟩ (.string ⟨#[]⟩)).setCell ⟨gz, 4, none⟩ (.slice none 0 0)).setCell ⟨gz, 5, none⟩ (.slice none 0 0))).cell? ⟨b, o, none⟩ = v3.cell? ⟨b, o, none⟩ := fun b o hb => World.cell?_of_block (put6_heap hb)
      have g1 : gx ≠ gz := by omega
      have g2 : G3 + 1 ≠ gz := by omega
      try dsimp only
      rw [hne gx _ g1, hne gx _ g1, hne gx _ g1, hne gx _ g1, hne gx _ g1, hne gx _ g1, hne (G3 + 1) _ g2, hne (G3 + 1) _ g2, hne (G3 + 1) _ g2, hne (G3 + 1) _ g2, hne (G3 + 1) _ g2, hne (G3 + 1) _ g2]
      exact hS
     clear hK K0
     try simp only [Act.put, List.getElem_toArray, List.getElem_cons_succ, List.getElem_cons_zero, List.setIfInBounds_toArray, List.set_cons_zero, List.set_cons_succ]
     refine wpAnyH_take (i := 10) (v := ?_) rfl (by kernel_rfl) (by kernel_rfl) (by kernel_rfl) (fun _ _ _ h => h) (Or.inl ⟨by rfl, ?_⟩) (by assumption) ?_
     rotate_left
     ·
      intro wq hSw
      try dsimp only at hSw
      go_simp
      try (with_reducible rfl)
     try simp only [Act.put, List.getElem_toArray, List.getElem_cons_succ, List.getElem_cons_zero, List.setIfInBounds_toArray, List.set_cons_zero, List.set_cons_succ]
     refine wpAnyH_done (by kernel_rfl) ?_ _
     have hlz := HZ_3.out.lt
     have hzs : (((((((v3.setCell ⟨gz, 0, none⟩ (.int .i64 0)).setCell ⟨gz, 1, none⟩ (.bool false)).setCell ⟨gz, 2, none⟩ (.int .i64 0)).setCell ⟨gz, 3, none⟩ (.string ⟨#[]⟩)).setCell ⟨gz, 4, none⟩ (.slice none 0 0)).setCell ⟨gz, 5, none⟩ (.slice none 0 0))).heap.size = v3.heap.size := put6_size
     have HBP := Lib.hid (show Below WX.heap.size WX ((((((v3.setCell ⟨gz, 0, none⟩ (.int .i64 0)).setCell ⟨gz, 1, none⟩ (.bool false)).setCell ⟨gz, 2, none⟩ (.int .i64 0)).setCell ⟨gz, 3, none⟩ (.string ⟨#[]⟩)).setCell ⟨gz, 4, none⟩ (.slice none 0 0)).setCell ⟨gz, 5, none⟩ (.slice none 0 0)) from put6_below HBv3.out hgz)
     have HF := Lib.hid (show Blk ((((((v3.setCell ⟨gz, 0, none⟩ (.int .i64 0)).setCell ⟨gz, 1, none⟩ (.bool false)).setCell ⟨gz, 2, none⟩ (.int .i64 0)).setCell ⟨gz, 3, none⟩ (.string ⟨#[]⟩)).setCell ⟨gz, 4, none⟩ (.slice none 0 0)).setCell ⟨gz, 5, none⟩ (.slice none 0 0)) gz 32 #[.int .i64 0, .bool false, .int .i64 0, .string ⟨#[]⟩, .slice none 0 0, .slice none 0 0] from res_put HZ_3.out rfl T.zero none 0 none 0)
     clear q0 q1 q2 q3 q4 q5 u0 u1 u2 u3 u4 u5 HZ_3 hlz hzs
     generalize ((((((v3.setCell ⟨gz, 0, none⟩ (.int .i64 0)).setCell ⟨gz, 1, none⟩ (.bool false)).setCell ⟨gz, 2, none⟩ (.int .i64 0)).setCell ⟨gz, 3, none⟩ (.string ⟨#[]⟩)).setCell ⟨gz, 4, none⟩ (.slice none 0 0)).setCell ⟨gz, 5, none⟩ (.slice none 0 0)) = vP at *
     go_upto_region 7 with fail
     refine wp_region_held_drew (S := fun w' => (w'.cell? ⟨G3, 0, none⟩ = some (.int .i64 t.kind) ∧ w'.cell? ⟨G3, 1, none⟩ = some (.bool t.tr) ∧ w'.cell? ⟨G3, 2, none⟩ = some (.int .i64 t.num) ∧ w'.cell? ⟨G3, 3, none⟩ = some (.string t.str) ∧ w'.cell? ⟨G3, 4, none⟩ = some (.slice B t.items.length d) ∧ w'.cell? ⟨G3, 5, none⟩ = some (.slice B' t.keys.length d')) ∧ (w'.cell? ⟨gx, 0, none⟩ = some (.int .i64 t.kind) ∧ w'.cell? ⟨gx, 1, none⟩ = some (.bool t.tr) ∧ w'.cell? ⟨gx, 2, none⟩ = some (.int .i64 t.num) ∧ w'.cell? ⟨gx, 3, none⟩ = some (.string t.str) ∧ w'.cell? ⟨gx, 4, none⟩ = some (.slice E t.items.length e1) ∧ w'.cell? ⟨gx, 5, none⟩ = some (.slice E' t.keys.length e1'))) (by kernel_rfl) ?_ (fun hHeld => ?_)
     · exact HS7.out _ HBP.out.drew
     refine wpAnyH_take (i := 0) (v := ?_) rfl (by kernel_rfl) (by kernel_rfl) (by kernel_rfl) (fun _ _ _ h => h) (Or.inl ⟨by rfl, ?_⟩) (by assumption) ?_
     rotate_left
     ·
      intro wq hSw
      try dsimp only at hSw
      go_simp
      try (with_reducible rfl)
     try simp only [Act.put, List.getElem_toArray, List.getElem_cons_zero, List.setIfInBounds_toArray, List.set_cons_zero, List.set_cons_succ]
     refine wpAnyH_take (i := 2) (v := ?_) rfl (by kernel_rfl) (by kernel_rfl) (by kernel_rfl) (fun _ _ _ h => h) (Or.inl ⟨by rfl, ?_⟩) (by assumption) ?_
     rotate_left
     ·
      intro wq hSw
      try dsimp only at hSw
      go_simp
      try (with_reducible rfl)
     try simp only [Act.put, List.getElem_toArray, List.getElem_cons_succ, List.getElem_cons_zero, List.setIfInBounds_toArray, List.set_cons_zero, List.set_cons_succ]
     refine wpAnyH_ready (rs := [1]) (by kernel_rfl) (by simp) ?_
     refine AllReadyH.cons rfl (fun K0 hK => ?_) ?_
     rotate_left
     · exact AllReadyH.nil
     go_simp
     refine (ref_cells _ t E e1 E' e1' _ HNI.out.le (Nat.le_refl _) (HRT6.out.on HBP.out.drew)).mono ?_
     rintro e0 vR ⟨R1, r1, R1', r1', rfl, hU, hb0⟩
     unfold T.agg
     have LR := Lib.hid (show Below vP.heap.size vP vR from (Below.refl vP.heap.size vP).drew.trans hb0)
     have HU := Lib.hid (show TV vR (· < vR.heap.size) t R1 r1 R1' r1' from hU.wide fun b hb => by
      have h1 := hb0.size
      rcases hb with hb | hb
      · exact Nat.lt_of_lt_of_le hb h1
      · exact hb.2)
     clear hU hb0
     go_wp2_with fail
     refine hK.out _ _ ?_ (fun hHeld => ?_)
     · exact HS7.out _ ((HBP.out.trans (LR.out.mono HBP.out.size)))
     clear hK K0
     try simp only [Act.put, List.getElem_toArray, List.getElem_cons_succ, List.getElem_cons_zero, List.setIfInBounds_toArray, List.set_cons_zero, List.set_cons_succ]
     refine wpAnyH_ready (rs := [3]) (by kernel_rfl) (by simp) ?_
     refine AllReadyH.cons rfl (fun K0 hK => ?_) ?_
     rotate_left
     · exact AllReadyH.nil
     go_simp
     refine (rsame_cells t R1 r1 R1' r1' B d B' d' _ HNI.out.le HNI.out.small HU.out (HT6.out.on (HBP.out.trans (LR.out.mono HBP.out.size)))).mono ?_
     rintro e0 vS ⟨rfl, hb0⟩
     have LS := Lib.hid (LR.out.trans (hb0.mono LR.out.size))
     clear hb0 LR HU
     go_wp2_with fail
     refine hK.out _ _ ?_ (fun hHeld => ?_)
     · exact HS7.out _ ((HBP.out.trans (LS.out.mono HBP.out.size)))
     clear hK K0
     try simp only [Act.put, List.getElem_toArray, List.getElem_cons_succ, List.getElem_cons_zero, List.setIfInBounds_toArray, List.set_cons_zero, List.set_cons_succ]
     refine wpAnyH_take (i := 4) (v := ?_) rfl (by kernel_rfl) (by kernel_rfl) (by kernel_rfl) (fun _ _ _ h => h) (Or.inl ⟨by rfl, ?_⟩) (by assumption) ?_
     rotate_left
     ·
      intro wq hSw
      try dsimp only at hSw
      go_simp
      try (with_reducible rfl)
     try simp only [Act.put, List.getElem_toArray, List.getElem_cons_succ, List.getElem_cons_zero, List.setIfInBounds_toArray, List.set_cons_zero, List.set_cons_succ]
     refine wpAnyH_done (by kernel_rfl) ?_ _
     obtain ⟨a0, a1, a2, a3, a4, a5⟩ := (HS7.out vS (HBP.out.trans (LS.out.mono HBP.out.size))).1
     go_wp2_with fail
     refine (rget_any t p Q cQ B d B' d' _ HNI.out.fine (by omega) (HP6.out.on (HBP.out.trans (LS.out.mono HBP.out.size))) (HT6.out.on (HBP.out.trans (LS.out.mono HBP.out.size)))).mono ?_
     rintro e0 vG (⟨z1, hz1, _⟩ | ⟨_, rfl, hb0⟩)
     · exact absurd hz1 (HNO.out z1)
     have LG := Lib.hid (LS.out.trans (hb0.mono LS.out.size))
     clear hb0 LS a0 a1 a2 a3 a4 a5
     go_upto_region 10 with fail
     have hb0 : Below vG.heap.size vG (vG.alloc (.cells #[.int .i64 0, .bool false, .int .i64 0, .string ⟨#[]⟩, .slice none 0 0, .slice none 0 0] 28)) := (Below.refl _ _).alloc (Nat.le_refl _) _
     have hX : Blk (vG.alloc (.cells #[.int .i64 0, .bool false, .int .i64 0, .string ⟨#[]⟩, .slice none 0 0, .slice none 0 0] 28)) vG.heap.size 28 #[.int .i64 0, .bool false, .int .i64 0, .string ⟨#[]⟩, .slice none 0 0, .slice none 0 0] := Blk.new vG _ _
     change Code.wp _ _ _ _ (vG.alloc (.cells #[.int .i64 0, .bool false, .int .i64 0, .string ⟨#[]⟩, .slice none 0 0, .slice none 0 0] 28))
     have LH := Lib.hid (LG.out.trans (hb0.mono LG.out.size))
     generalize (vG.alloc (.cells #[.int .i64 0, .bool false, .int .i64 0, .string ⟨#[]⟩, .slice none 0 0, .slice none 0 0] 28)) = vH at *
     have HX13 := Lib.hid hX
     clear hb0 hX  LG
     generalize vG.heap.size = g13 at *
     obtain ⟨a0, a1, a2, a3, a4, a5⟩ : vH.cell? ⟨gz, 0, none⟩ = some (.int .i64 0) ∧ vH.cell? ⟨gz, 1, none⟩ = some (.bool false) ∧ vH.cell? ⟨gz, 2, none⟩ = some (.int .i64 0) ∧ vH.cell? ⟨gz, 3, none⟩ = some (.string ⟨#[]⟩) ∧ vH.cell? ⟨gz, 4, none⟩ = some (.slice none 0 0) ∧ vH.cell? ⟨gz, 5, none⟩ = some (.slice none 0 0) := by
      have h := HF.out.onto LH.out
      exact ⟨h.cell 0, h.cell 1, h.cell 2, h.cell 3, h.cell 4, h.cell 5⟩
     have HWH := Lib.hid (HWX.out.trans ((HBP.out.trans (LH.out.mono HBP.out.size)).mono hwx))
     clear LH HBP
     go_wp2_with fail
     refine (ref_zero _).mono ?_
     rintro e9 w9 ⟨U, f3, U', f3', rfl, hU, hb0⟩
     have HWI := Lib.hid (HWH.out.trans (hb0.mono HWH.out.size))
     have HU := Lib.hid hU
     clear hb0 hU
     go_wp2_with fail
     refine (rsame_zero U f3 U' f3' _ HU.out).mono ?_
     rintro e8 w10 ⟨rfl, hb0⟩
     have HWJ := Lib.hid (HWI.out.trans (hb0.mono HWI.out.size))
     clear hb0
     go_wp2_with fail
     go_ret
     exact ⟨rfl, HWJ.out⟩
  ·
   skip
   go_simp
   refine (pick_any t B d B' d' a _ HNI.out ha (HT4.out.on (Below.refl W4.heap.size W4).drew)).mono ?_
   rintro e wp ⟨q, y, Pq, cq, rfl, lcq, l40q, h1q, h2q, h3q, hbp⟩
   have HSq := Lib.hid h1q
   have HLq := Lib.hid h2q
   have HRq := Lib.hid h3q
   have HBp := Lib.hid (show Below W4.heap.size W4 wp from ((Below.refl W4.heap.size W4).drew).trans (hbp.mono ((Below.refl W4.heap.size W4).drew).size))
   have HOp := Lib.hid hbp
   clear h1q h2q h3q hbp
   go_wp2_with fail
   refine hK.out _ _ ?_ (fun hHeld => ?_)
   · exact HS4.out _ HBp.out
   clear hK K0
   try simp only [Act.put, List.getElem_toArray, List.getElem_cons_succ, List.getElem_cons_zero, List.setIfInBounds_toArray, List.set_cons_zero, List.set_cons_succ]
   refine wpAnyH_ready (rs := [0]) (by kernel_rfl) (by simp) ?_
   refine AllReadyH.cons rfl (fun K0 hK => ?_) ?_
   rotate_left
   · exact AllReadyH.nil
   go_simp
   have HBa := Lib.hid (show Below W4.heap.size W4 (wp.alloc (.cells #[] 9)) from (HBp.out.alloc HBp.out.size _))
   have HOa := Lib.hid (show (wp.alloc (.cells #[] 9)).ownsRow wp.heap.size 9 1 (.slice (some ⟨wp.heap.size, 0, none⟩) 0 0) 0 [] from (World.ownsRow_lit (base := wp.heap.size) (e := 9) (size := 1) wp #[] 0 (Nat.le_refl _) (by unfold maxLen; omega) rfl))
   have HLa := Lib.hid (show Below wp.heap.size wp (wp.alloc (.cells #[] 9)) from ((Below.refl _ _).alloc (Nat.le_refl _) _))
   have hwa := HBp.out.size
   refine hK.out _ _ ?_ (fun hHeld => ?_)
   · exact HS4.out _ HBa.out
   clear hK K0
   try simp only [Act.put, List.getElem_toArray, List.getElem_cons_succ, List.getElem_cons_zero, List.setIfInBounds_toArray, List.set_cons_zero, List.set_cons_succ]
   generalize (wp.alloc (.cells #[] 9)) = wa at *
   have HOz := HOa
   have HBz := HBa
   have HRz := Lib.hid (HRq.out.on HLa.out)
   have hzb : wp.heap.size ≤ wa.heap.size := HLa.out.size
   refine wpAnyH_ready (rs := [5]) (by kernel_rfl) (by simp) ?_
   refine AllReadyH.cons rfl (fun K0 hK => ?_) ?_
   rotate_left
   · exact AllReadyH.nil
   refine app_step rfl (.tmp 30) (.tmp 34) 23 rfl wp.heap.size 9 i0 (.string ⟨#[]⟩) 1 16 Tryd.underlying23 hi hz0 hz1 hz2 rfl (by decide) (.slice (some ⟨wp.heap.size, 0, none⟩) 0 0) 0 [] rfl HOz.out Pq q.length cq (q.map Value.string) rfl (HRz.out.src) (by intro u hu; obtain ⟨k, _, rfl⟩ := List.mem_map.1 hu; rfl) (by unfold maxLen; omega) (by omega) (by have := HOz.out; have := HBz.out.size; omega) q.length (by omega) ?_
   intro B5 d5 w5 ho5 hg5 hat5
   rw [List.nil_append] at ho5
   have HO5 := Lib.hid ho5
   have HB5' := Lib.hid (HBz.out.grown hg5 HBz.out.size (fun k hk => by have := (HOz.out.lt k hk).1; omega))
   have hs5 := hg5.size
   refine hK.out _ _ ?_ (fun hHeld => ?_)
   · exact HS4.out _ HB5'.out
   clear hK K0
   try simp only [Act.put, List.getElem_toArray, List.getElem_cons_succ, List.getElem_cons_zero, List.setIfInBounds_toArray, List.set_cons_zero, List.set_cons_succ]
   refine wpAnyH_ready (rs := [8]) (by kernel_rfl) (by simp) ?_
   refine AllReadyH.cons rfl (fun K0 hK => ?_) ?_
   rotate_left
   · exact AllReadyH.nil
   refine app_step rfl (.tmp 35) (.tmp 37) 23 rfl wp.heap.size 9 i0 (.string ⟨#[]⟩) 1 16 Tryd.underlying23 hi hz0 hz1 hz2 rfl (by decide) (.slice B5 q.length d5) q.length (q.map Value.string) rfl HO5.out AL l.length cL (l.map Value.string) rfl ((HL4.out.on HB5'.out).src) (by intro u hu; obtain ⟨k, _, rfl⟩ := List.mem_map.1 hu; rfl) (by unfold maxLen; omega) (by omega) (by omega) (q ++ l).length (by simp) ?_
   intro Q cQ w8 ho8 hg8 hat8
   have HB8 := Lib.hid (HB5'.out.grown hg8 HB5'.out.size (fun k hk => by have := (HO5.out.lt k hk).1; omega))
   have HP8 := Lib.hid (show (q ++ l).length ≤ cQ ∧ SReads w8 (· < w8.heap.size) Q (q ++ l) from by
    have h := own_strs2 (n := (q ++ l).length) (l := q ++ l) rfl (by rw [List.map_append]; exact ho8)
    exact ⟨h.1, h.2.wide fun b hb => hb.2⟩)
   clear ho8 hg8 hat8 ho5 hg5 hat5
   refine hK.out _ _ ?_ (fun hHeld => ?_)
   · exact HS4.out _ HB8.out
   clear hK K0
   try simp only [Act.put, List.getElem_toArray, List.getElem_cons_succ, List.getElem_cons_zero, List.setIfInBounds_toArray, List.set_cons_zero, List.set_cons_succ]
   refine wpAnyH_take (i := 9) (v := ?_) rfl (by kernel_rfl) (by kernel_rfl) (by kernel_rfl) (fun _ _ _ h => h) (Or.inl ⟨by rfl, ?_⟩) (by assumption) ?_
   rotate_left
   ·
    intro wq hSw
    try dsimp only at hSw
    go_simp
    try (with_reducible rfl)
   try simp only [Act.put, List.getElem_toArray, List.getElem_cons_succ, List.getElem_cons_zero, List.setIfInBounds_toArray, List.set_cons_zero, List.set_cons_succ]
   refine wpAnyH_done (by kernel_rfl) ?_ _
   obtain ⟨p, hp⟩ : ∃ p, p = q ++ l := ⟨_, rfl⟩
   have hpn : q.length + l.length = p.length := by rw [hp]; simp
   have hp50 : p.length ≤ 50 := by omega
   have HSp := Lib.hid (show ∀ s ∈ p, s.size ≤ 1000 from fun s hs => by
    rw [hp] at hs
    rcases List.mem_append.1 hs with h | h
    · exact HSq.out s h
    · exact HL6.out s h)
   rw [← hp] at HP8
   try simp only [List.length_append]
   rw [hpn]
   try rw [hpn]
   clear HO5 HB5' HOz HBz HRq HSq HLq HBp HOp hp hpn hs5 hzb HS4 HL4 HL6 HB0 HW0 hwa
   have hpc := HP8.out.1
   have HPP := Lib.hid HP8.out.2
   clear HP8
   obtain ⟨a0, a1, a2, a3, a4, a5⟩ : w8.cell? ⟨G3, 0, none⟩ = some (.int .i64 t.kind) ∧ w8.cell? ⟨G3, 1, none⟩ = some (.bool t.tr) ∧ w8.cell? ⟨G3, 2, none⟩ = some (.int .i64 t.num) ∧ w8.cell? ⟨G3, 3, none⟩ = some (.string t.str) ∧ w8.cell? ⟨G3, 4, none⟩ = some (.slice B t.items.length d) ∧ w8.cell? ⟨G3, 5, none⟩ = some (.slice B' t.keys.length d') := by
    have h0 := HB4.out.onto HB8.out
    exact ⟨h0.cell 0, h0.cell 1, h0.cell 2, h0.cell 3, h0.cell 4, h0.cell 5⟩
   go_wp2_with fail
   refine (real_cells t B d B' d' _ HNI.out.le HNI.out.small (HT4.out.on HB8.out)).mono ?_
   rintro e w9 ⟨E, e1, E', e1', rfl, hT9, hb9⟩
   unfold T.agg
   have HRT := Lib.hid (show TV w9 (· < w9.heap.size) t E e1 E' e1' from hT9.wide fun b hb => hb.2)
   have H9 := Lib.hid (HB8.out.trans (hb9.mono HB8.out.size))
   have HP9 := Lib.hid (HPP.out.on hb9)
   clear hT9 hb9 HPP HB8 a0 a1 a2 a3 a4 a5
   go_upto_region 6 with fail
   have hb10 : Below w9.heap.size w9 (w9.alloc (.cells #[.int .i64 t.kind, .bool t.tr, .int .i64 t.num, .string t.str, .slice E t.items.length e1, .slice E' t.keys.length e1'] 32)) := (Below.refl _ _).alloc (Nat.le_refl _) _
   have hX10 : Blk (w9.alloc (.cells #[.int .i64 t.kind, .bool t.tr, .int .i64 t.num, .string t.str, .slice E t.items.length e1, .slice E' t.keys.length e1'] 32)) w9.heap.size 32 #[.int .i64 t.kind, .bool t.tr, .int .i64 t.num, .string t.str, .slice E t.items.length e1, .slice E' t.keys.length e1'] := Blk.new w9 _ _
   change Code.wp _ _ _ _ (w9.alloc (.cells #[.int .i64 t.kind, .bool t.tr, .int .i64 t.num, .string t.str, .slice E t.items.length e1, .slice E' t.keys.length e1'] 32))
   have HRT6 := Lib.hid (HRT.out.on hb10)
   have HP6 := Lib.hid (HP9.out.on hb10)
   have H10 := Lib.hid (H9.out.trans (hb10.mono H9.out.size))
   have hgx9 := H9.out.size
   clear HRT HP9 H9 hb10
   generalize (w9.alloc (.cells #[.int .i64 t.kind, .bool t.tr, .int .i64 t.num, .string t.str, .slice E t.items.length e1, .slice E' t.keys.length e1'] 32)) = WX at *
   have HGX := Lib.hid hX10
   have hlx := hX10.lt
   clear hX10
   generalize w9.heap.size = gx at *
   clear w9
   have hs10 := H10.out.size
   have HA6 := Lib.hid (show ∀ w', Below WX.heap.size WX w' → (Six w' G3 0 t B d B' d') ∧ (Six w' (G3 + 1) 0 x D g D' g') ∧ (Six w' gx 0 t E e1 E' e1') from fun w' h => by
    have h0 := HB4.out.onto (H10.out.trans (h.mono hs10))
    have h1 := HB5.out.onto (H10.out.trans (h.mono hs10))
    have h2 := HGX.out.onto h
    exact ⟨⟨h0.cell 0, h0.cell 1, h0.cell 2, h0.cell 3, h0.cell 4, h0.cell 5⟩, ⟨h1.cell 0, h1.cell 1, h1.cell 2, h1.cell 3, h1.cell 4, h1.cell 5⟩, h2.cell 0, h2.cell 1, h2.cell 2, h2.cell 3, h2.cell 4, h2.cell 5⟩)
   have HS6 := Lib.hid (show ∀ w', Below WX.heap.size WX w' → (Six w' (G3 + 1) 0 x D g D' g') ∧ (Six w' gx 0 t E e1 E' e1') from fun w' h => ⟨(HA6.out w' h).2.1, (HA6.out w' h).2.2⟩)
   have HS7 := Lib.hid (show ∀ w', Below WX.heap.size WX w' → (Six w' G3 0 t B d B' d') ∧ (Six w' gx 0 t E e1 E' e1') from fun w' h => ⟨(HA6.out w' h).1, (HA6.out w' h).2.2⟩)
   have HT6 := Lib.hid (HT4.out.on H10.out)
   have HX6 := Lib.hid (HX4.out.on H10.out)
   have HWX := Lib.hid (show Below w.heap.size w WX from HBW.out.trans (H10.out.mono (by have := HBW.out.size; omega)))
   have hwx := HWX.out.size
   have HE6 := Lib.hid (HE.out.on HWX.out)
   have hg3 : G3 + 1 < gx := by omega
   clear HT4 HX4 HA6
   refine wp_region_held_drew (S := fun w' => (w'.cell? ⟨G3 + 1, 0, none⟩ = some (.int .i64 x.kind) ∧ w'.cell? ⟨G3 + 1, 1, none⟩ = some (.bool x.tr) ∧ w'.cell? ⟨G3 + 1, 2, none⟩ = some (.int .i64 x.num) ∧ w'.cell? ⟨G3 + 1, 3, none⟩ = some (.string x.str) ∧ w'.cell? ⟨G3 + 1, 4, none⟩ = some (.slice D x.items.length g) ∧ w'.cell? ⟨G3 + 1, 5, none⟩ = some (.slice D' x.keys.length g')) ∧ (w'.cell? ⟨gx, 0, none⟩ = some (.int .i64 t.kind) ∧ w'.cell? ⟨gx, 1, none⟩ = some (.bool t.tr) ∧ w'.cell? ⟨gx, 2, none⟩ = some (.int .i64 t.num) ∧ w'.cell? ⟨gx, 3, none⟩ = some (.string t.str) ∧ w'.cell? ⟨gx, 4, none⟩ = some (.slice E t.items.length e1) ∧ w'.cell? ⟨gx, 5, none⟩ = some (.slice E' t.keys.length e1'))) (by kernel_rfl) ?_ (fun hHeld => ?_)
   · exact HS6.out _ (Below.refl _ _).drew
   refine wpAnyH_take (i := 0) (v := ?_) rfl (by kernel_rfl) (by kernel_rfl) (by kernel_rfl) (fun _ _ _ h => h) (Or.inl ⟨by rfl, ?_⟩) (by assumption) ?_
   rotate_left
   ·
    intro wq hSw
    try dsimp only at hSw
    go_simp
    try (with_reducible rfl)
   try simp only [Act.put, List.getElem_toArray, List.getElem_cons_zero, List.setIfInBounds_toArray, List.set_cons_zero, List.set_cons_succ]
   refine wpAnyH_take (i := 1) (v := ?_) rfl (by kernel_rfl) (by kernel_rfl) (by kernel_rfl) (fun _ _ _ h => h) (Or.inl ⟨by rfl, ?_⟩) (by assumption) ?_
   rotate_left
   ·
    intro wq hSw
    try dsimp only at hSw
    go_simp
    try (with_reducible rfl)
   refine wpAnyH_take (i := 2) (v := ?_) rfl (by kernel_rfl) (by kernel_rfl) (by kernel_rfl) (fun _ _ _ h => h) (Or.inl ⟨by rfl, ?_⟩) (by assumption) ?_
   rotate_left
   ·
    intro wq hSw
    try dsimp only at hSw
    go_simp
    try (with_reducible rfl)
   try simp only [Act.put, List.getElem_toArray, List.getElem_cons_succ, List.getElem_cons_zero, List.setIfInBounds_toArray, List.set_cons_zero, List.set_cons_succ]
   refine wpAnyH_ready (rs := [3, 8]) (by kernel_rfl) (by simp) ?_
   refine AllReadyH.cons rfl (fun K0 hK => ?_) (AllReadyH.cons rfl (fun K0 hK => ?_) AllReadyH.nil)
   ·
    skip
    go_simp
    refine (real_cells x D g D' g' _ HXI.out.le HXI.out.small (HX6.out.on (Below.refl WX.heap.size WX).drew)).mono ?_
    rintro e0 v1 ⟨F, f1, F', f1', rfl, hT, hb0⟩
    unfold T.agg
    have HRX_1 := Lib.hid (show TV v1 (· < v1.heap.size) x F f1 F' f1' from hT.wide fun b hb => hb.2)
    have HBv1 := Lib.hid (show Below WX.heap.size WX v1 from ((Below.refl WX.heap.size WX).drew).trans (hb0.mono ((Below.refl WX.heap.size WX).drew).size))
    clear hT hb0
    go_wp2_with fail
    refine hK.out _ _ ?_ (fun hHeld => ?_)
    · exact HS6.out _ (HBv1.out)
    clear hK K0
    try simp only [Act.put, List.getElem_toArray, List.getElem_cons_succ, List.getElem_cons_zero, List.setIfInBounds_toArray, List.set_cons_zero, List.set_cons_succ]
    refine wpAnyH_ready (rs := [4, 8]) (by kernel_rfl) (by simp) ?_
    refine AllReadyH.cons rfl (fun K0 hK => ?_) (AllReadyH.cons rfl (fun K0 hK => ?_) AllReadyH.nil)
    ·
     skip
     go_simp
     refine (set_any t x p Q cQ E e1 E' e1' F f1 F' f1' _ HNI.out HXI.out (HE6.out.on HBv1.out) HSp.out (by omega) (HP6.out.on HBv1.out) (HRT6.out.on HBv1.out) HRX_1.out).mono ?_
     rintro e0 v2 (⟨y0, rr, hy0, hset, K1, k1, K1', k1', rfl, hT, hb0⟩ | ⟨hno, rfl, hb0⟩)
     ·
      skip
      have HBv2 := Lib.hid (show Below WX.heap.size WX v2 from (HBv1.out).trans (hb0.mono (HBv1.out).size))
      have HGOT := Lib.hid (show TV v2 (· < v2.heap.size) rr K1 k1 K1' k1' from hT.wide fun b hb => hb.2)
      have HSET := Lib.hid hset
      have HLE := Lib.hid hy0
      clear hT hset hy0
      clear hb0
      go_wp2_with fail
      refine hK.out _ _ ?_ (fun hHeld => ?_)
      · exact HS6.out _ (HBv2.out)
      clear hK K0
      try simp only [Act.put, List.getElem_toArray, List.getElem_cons_succ, List.getElem_cons_zero, List.setIfInBounds_toArray, List.set_cons_zero, List.set_cons_succ]
      refine wpAnyH_take (i := 5) (v := ?_) rfl (by kernel_rfl) (by kernel_rfl) (by kernel_rfl) (fun _ _ _ h => h) (Or.inl ⟨by rfl, ?_⟩) (by assumption) ?_
      rotate_left
      ·
       intro wq hSw
       try dsimp only at hSw
       go_simp
       try (with_reducible rfl)
      try simp only [Act.put, List.getElem_toArray, List.getElem_cons_succ, List.getElem_cons_zero, List.setIfInBounds_toArray, List.set_cons_zero, List.set_cons_succ]
      refine wpAnyH_take (i := 6) (v := ?_) rfl (by kernel_rfl) (by kernel_rfl) (by kernel_rfl) (fun _ _ _ h => h) (Or.inl ⟨by rfl, ?_⟩) (by assumption) ?_
      rotate_left
      ·
       intro wq hSw
       try dsimp only at hSw
       go_simp
       try (with_reducible rfl)
      try simp only [Act.put, List.getElem_toArray, List.getElem_cons_succ, List.getElem_cons_zero, List.setIfInBounds_toArray, List.set_cons_zero, List.set_cons_succ]
      refine wpAnyH_take (i := 7) (v := ?_) rfl (by kernel_rfl) (by kernel_rfl) (by kernel_rfl) (fun _ _ _ h => h) (Or.inl ⟨by rfl, ?_⟩) (by assumption) ?_
      rotate_left
      ·
       intro wq hSw
       try dsimp only at hSw
       go_simp
       try (with_reducible rfl)
      try simp only [Act.put, List.getElem_toArray, List.getElem_cons_succ, List.getElem_cons_zero, List.setIfInBounds_toArray, List.set_cons_zero, List.set_cons_succ]
      refine wpAnyH_ready (rs := [8]) (by kernel_rfl) (by simp) ?_
      refine AllReadyH.cons rfl (fun K0 hK => ?_) ?_
      rotate_left
      · exact AllReadyH.nil
      go_simp
      have hb0 : Below v2.heap.size v2 (v2.alloc (.cells #[.int .i64 0, .bool false, .int .i64 0, .string ⟨#[]⟩, .slice none 0 0, .slice none 0 0] 32)) := (Below.refl _ _).alloc (Nat.le_refl _) _
      have HZ_3 := Lib.hid (show Blk (v2.alloc (.cells #[.int .i64 0, .bool false, .int .i64 0, .string ⟨#[]⟩, .slice none 0 0, .slice none 0 0] 32)) v2.heap.size 32 #[.int .i64 0, .bool false, .int .i64 0, .string ⟨#[]⟩, .slice none 0 0, .slice none 0 0] from Blk.new v2 _ _)
      have HGOU := Lib.hid (show TV (v2.alloc (.cells #[.int .i64 0, .bool false, .int .i64 0, .string ⟨#[]⟩, .slice none 0 0, .slice none 0 0] 32)) (fun b => b ≠ v2.heap.size ∧ b < (v2.alloc (.cells #[.int .i64 0, .bool false, .int .i64 0, .string ⟨#[]⟩, .slice none 0 0, .slice none 0 0] 32)).heap.size) rr K1 k1 K1' k1' from (HGOT.out.keep (.of_below hb0)).wide fun b hb => ⟨Nat.ne_of_lt hb, Nat.lt_of_lt_of_le hb hb0.size⟩)
      clear HGOT
      have HBv3 := Lib.hid (show Below WX.heap.size WX (v2.alloc (.cells #[.int .i64 0, .bool false, .int .i64 0, .string ⟨#[]⟩, .slice none 0 0, .slice none 0 0] 32)) from (HBv2.out).trans (hb0.mono (HBv2.out).size))
      have hzl := HZ_3.out.lt
      have hzb := (HBv2.out).size
      clear hb0
      refine hK.out _ _ ?_ (fun hHeld => ?_)
      · exact HS6.out _ (HBv3.out)
      clear hK K0
      try simp only [Act.put, List.getElem_toArray, List.getElem_cons_succ, List.getElem_cons_zero, List.setIfInBounds_toArray, List.set_cons_zero, List.set_cons_succ]
      generalize (v2.alloc (.cells #[.int .i64 0, .bool false, .int .i64 0, .string ⟨#[]⟩, .slice none 0 0, .slice none 0 0] 32)) = v3 at *
      have hgz : WX.heap.size ≤ v2.heap.size := hzb
      clear hzb
      generalize v2.heap.size = gz at *
      have q0 : v3.cell? ⟨gz, 0, none⟩ = some (.int .i64 0) := HZ_3.out.cell 0
      have q1 : v3.cell? ⟨gz, 1, none⟩ = some (.bool false) := HZ_3.out.cell 1
      have q2 : v3.cell? ⟨gz, 2, none⟩ = some (.int .i64 0) := HZ_3.out.cell 2
      have q3 : v3.cell? ⟨gz, 3, none⟩ = some (.string ⟨#[]⟩) := HZ_3.out.cell 3
      have q4 : v3.cell? ⟨gz, 4, none⟩ = some (.slice none 0 0) := HZ_3.out.cell 4
      have q5 : v3.cell? ⟨gz, 5, none⟩ = some (.slice none 0 0) := HZ_3.out.cell 5
      have u0 := HZ_3.out.free 0
      have u1 := HZ_3.out.free 1
      have u2 := HZ_3.out.free 2
      have u3 := HZ_3.out.free 3
      have u4 := HZ_3.out.free 4
      have u5 := HZ_3.out.free 5
      refine wpAnyH_ready (rs := [9]) (by kernel_rfl) (by simp) ?_
      refine AllReadyH.cons rfl (fun K0 hK => ?_) ?_
      rotate_left
      · exact AllReadyH.nil
      go_simp
      refine hK.out _ _ ?_ (fun hHeld => ?_)
      ·
       have hS := HS6.out _ (HBv3.out)
       have hne : ∀ b o, b ≠ gz → (((((((v3.setCell ⟨gz, 0, none⟩ (.int .i64 rr.kind)).setCell ⟨gz, 1, none⟩ (.bool rr.tr)).setCell ⟨gz, 2, none⟩ (.int .i64 rr.num)).setCell ⟨gz, 3, none⟩ (.string rr.str)).setCell ⟨gz, 4, none⟩ (.slice K1 rr.items.length k1)).setCell ⟨gz, 5, none⟩ (.slice K1' rr.keys.length k1'))).cell? ⟨b, o, none⟩ = v3.cell? ⟨b, o, none⟩ := fun b o hb => World.cell?_of_block (put6_heap hb)
       have g1 : gx ≠ gz := by omega
       have g2 : G3 + 1 ≠ gz := by omega
       try dsimp only
       rw [hne gx _ g1, hne gx _ g1, hne gx _ g1, hne gx _ g1, hne gx _ g1, hne gx _ g1, hne (G3 + 1) _ g2, hne (G3 + 1) _ g2, hne (G3 + 1) _ g2, hne (G3 + 1) _ g2, hne (G3 + 1) _ g2, hne (G3 + 1) _ g2]
       exact hS
      clear hK K0
      try simp only [Act.put, List.getElem_toArray, List.getElem_cons_succ, List.getElem_cons_zero, List.setIfInBounds_toArray, List.set_cons_zero, List.set_cons_succ]
      refine wpAnyH_take (i := 10) (v := ?_) rfl (by kernel_rfl) (by kernel_rfl) (by kernel_rfl) (fun _ _ _ h => h) (Or.inl ⟨by rfl, ?_⟩) (by assumption) ?_
      rotate_left
      ·
       intro wq hSw
       try dsimp only at hSw
       go_simp
       try (with_reducible rfl)
      try simp only [Act.put, List.getElem_toArray, List.getElem_cons_succ, List.getElem_cons_zero, List.setIfInBounds_toArray, List.set_cons_zero, List.set_cons_succ]
      refine wpAnyH_done (by kernel_rfl) ?_ _
      have hlz := HZ_3.out.lt
      have hzs : (((((((v3.setCell ⟨gz, 0, none⟩ (.int .i64 rr.kind)).setCell ⟨gz, 1, none⟩ (.bool rr.tr)).setCell ⟨gz, 2, none⟩ (.int .i64 rr.num)).setCell ⟨gz, 3, none⟩ (.string rr.str)).setCell ⟨gz, 4, none⟩ (.slice K1 rr.items.length k1)).setCell ⟨gz, 5, none⟩ (.slice K1' rr.keys.length k1'))).heap.size = v3.heap.size := put6_size
      have HBP := Lib.hid (show Below WX.heap.size WX ((((((v3.setCell ⟨gz, 0, none⟩ (.int .i64 rr.kind)).setCell ⟨gz, 1, none⟩ (.bool rr.tr)).setCell ⟨gz, 2, none⟩ (.int .i64 rr.num)).setCell ⟨gz, 3, none⟩ (.string rr.str)).setCell ⟨gz, 4, none⟩ (.slice K1 rr.items.length k1)).setCell ⟨gz, 5, none⟩ (.slice K1' rr.keys.length k1')) from put6_below HBv3.out hgz)
      have HF := Lib.hid (res_put HZ_3.out rfl rr K1 k1 K1' k1')
      have HGP := Lib.hid (show TV ((((((v3.setCell ⟨gz, 0, none⟩ (.int .i64 rr.kind)).setCell ⟨gz, 1, none⟩ (.bool rr.tr)).setCell ⟨gz, 2, none⟩ (.int .i64 rr.num)).setCell ⟨gz, 3, none⟩ (.string rr.str)).setCell ⟨gz, 4, none⟩ (.slice K1 rr.items.length k1)).setCell ⟨gz, 5, none⟩ (.slice K1' rr.keys.length k1')) (· < (((((((v3.setCell ⟨gz, 0, none⟩ (.int .i64 rr.kind)).setCell ⟨gz, 1, none⟩ (.bool rr.tr)).setCell ⟨gz, 2, none⟩ (.int .i64 rr.num)).setCell ⟨gz, 3, none⟩ (.string rr.str)).setCell ⟨gz, 4, none⟩ (.slice K1 rr.items.length k1)).setCell ⟨gz, 5, none⟩ (.slice K1' rr.keys.length k1'))).heap.size) rr K1 k1 K1' k1' from (HGOU.out.keep fun b hb => put6_heap hb.1).wide fun b hb => by show b < _; rw [hzs]; exact hb.2)
      have HFine := Lib.hid (sets_fine HNI.out HXI.out HSET.out)
      clear HGOU
      clear q0 q1 q2 q3 q4 q5 u0 u1 u2 u3 u4 u5 HZ_3 hlz hzs
      generalize ((((((v3.setCell ⟨gz, 0, none⟩ (.int .i64 rr.kind)).setCell ⟨gz, 1, none⟩ (.bool rr.tr)).setCell ⟨gz, 2, none⟩ (.int .i64 rr.num)).setCell ⟨gz, 3, none⟩ (.string rr.str)).setCell ⟨gz, 4, none⟩ (.slice K1 rr.items.length k1)).setCell ⟨gz, 5, none⟩ (.slice K1' rr.keys.length k1')) = vP at *
      go_upto_region 7 with fail
      refine wp_region_held_drew (S := fun w' => (w'.cell? ⟨G3, 0, none⟩ = some (.int .i64 t.kind) ∧ w'.cell? ⟨G3, 1, none⟩ = some (.bool t.tr) ∧ w'.cell? ⟨G3, 2, none⟩ = some (.int .i64 t.num) ∧ w'.cell? ⟨G3, 3, none⟩ = some (.string t.str) ∧ w'.cell? ⟨G3, 4, none⟩ = some (.slice B t.items.length d) ∧ w'.cell? ⟨G3, 5, none⟩ = some (.slice B' t.keys.length d')) ∧ (w'.cell? ⟨gx, 0, none⟩ = some (.int .i64 t.kind) ∧ w'.cell? ⟨gx, 1, none⟩ = some (.bool t.tr) ∧ w'.cell? ⟨gx, 2, none⟩ = some (.int .i64 t.num) ∧ w'.cell? ⟨gx, 3, none⟩ = some (.string t.str) ∧ w'.cell? ⟨gx, 4, none⟩ = some (.slice E t.items.length e1) ∧ w'.cell? ⟨gx, 5, none⟩ = some (.slice E' t.keys.length e1'))) (by kernel_rfl) ?_ (fun hHeld => ?_)
      · exact HS7.out _ HBP.out.drew
      refine wpAnyH_take (i := 0) (v := ?_) rfl (by kernel_rfl) (by kernel_rfl) (by kernel_rfl) (fun _ _ _ h => h) (Or.inl ⟨by rfl, ?_⟩) (by assumption) ?_
      rotate_left
      ·
       intro wq hSw
       try dsimp only at hSw
       go_simp
       try (with_reducible rfl)
      try simp only [Act.put, List.getElem_toArray, List.getElem_cons_zero, List.setIfInBounds_toArray, List.set_cons_zero, List.set_cons_succ]
      refine wpAnyH_take (i := 2) (v := ?_) rfl (by kernel_rfl) (by kernel_rfl) (by kernel_rfl) (fun _ _ _ h => h) (Or.inl ⟨by rfl, ?_⟩) (by assumption) ?_
      rotate_left
      ·
       intro wq hSw
       try dsimp only at hSw
       go_simp
       try (with_reducible rfl)
      try simp only [Act.put, List.getElem_toArray, List.getElem_cons_succ, List.getElem_cons_zero, List.setIfInBounds_toArray, List.set_cons_zero, List.set_cons_succ]
      refine wpAnyH_ready (rs := [1]) (by kernel_rfl) (by simp) ?_
      refine AllReadyH.cons rfl (fun K0 hK => ?_) ?_
      rotate_left
      · exact AllReadyH.nil
      go_simp
      refine (ref_cells _ t E e1 E' e1' _ HNI.out.le (Nat.le_refl _) (HRT6.out.on HBP.out.drew)).mono ?_
      rintro e0 vR ⟨R1, r1, R1', r1', rfl, hU, hb0⟩
      unfold T.agg
      have LR := Lib.hid (show Below vP.heap.size vP vR from (Below.refl vP.heap.size vP).drew.trans hb0)
      have HU := Lib.hid (show TV vR (· < vR.heap.size) t R1 r1 R1' r1' from hU.wide fun b hb => by
       have h1 := hb0.size
       rcases hb with hb | hb
       · exact Nat.lt_of_lt_of_le hb h1
       · exact hb.2)
      clear hU hb0
      go_wp2_with fail
      refine hK.out _ _ ?_ (fun hHeld => ?_)
      · exact HS7.out _ ((HBP.out.trans (LR.out.mono HBP.out.size)))
      clear hK K0
      try simp only [Act.put, List.getElem_toArray, List.getElem_cons_succ, List.getElem_cons_zero, List.setIfInBounds_toArray, List.set_cons_zero, List.set_cons_succ]
      refine wpAnyH_ready (rs := [3]) (by kernel_rfl) (by simp) ?_
      refine AllReadyH.cons rfl (fun K0 hK => ?_) ?_
      rotate_left
      · exact AllReadyH.nil
      go_simp
      refine (rsame_cells t R1 r1 R1' r1' B d B' d' _ HNI.out.le HNI.out.small HU.out (HT6.out.on (HBP.out.trans (LR.out.mono HBP.out.size)))).mono ?_
      rintro e0 vS ⟨rfl, hb0⟩
      have LS := Lib.hid (LR.out.trans (hb0.mono LR.out.size))
      clear hb0 LR HU
      go_wp2_with fail
      refine hK.out _ _ ?_ (fun hHeld => ?_)
      · exact HS7.out _ ((HBP.out.trans (LS.out.mono HBP.out.size)))
      clear hK K0
      try simp only [Act.put, List.getElem_toArray, List.getElem_cons_succ, List.getElem_cons_zero, List.setIfInBounds_toArray, List.set_cons_zero, List.set_cons_succ]
      refine wpAnyH_take (i := 4) (v := ?_) rfl (by kernel_rfl) (by kernel_rfl) (by kernel_rfl) (fun _ _ _ h => h) (Or.inl ⟨by rfl, ?_⟩) (by assumption) ?_
      rotate_left
      ·
       intro wq hSw
       try dsimp only at hSw
       go_simp
       try (with_reducible rfl)
      try simp only [Act.put, List.getElem_toArray, List.getElem_cons_succ, List.getElem_cons_zero, List.setIfInBounds_toArray, List.set_cons_zero, List.set_cons_succ]
      refine wpAnyH_done (by kernel_rfl) ?_ _
      obtain ⟨a0, a1, a2, a3, a4, a5⟩ := (HS7.out vS (HBP.out.trans (LS.out.mono HBP.out.size))).1
      go_wp2_with fail
      refine (rget_any t p Q cQ B d B' d' _ HNI.out.fine (by omega) (HP6.out.on (HBP.out.trans (LS.out.mono HBP.out.size))) (HT6.out.on (HBP.out.trans (LS.out.mono HBP.out.size)))).mono ?_
      rintro e0 vG (⟨z1, hz1, C0, f0, C0', f0', rfl, hT, hb0⟩ | ⟨hno, _⟩)
      rotate_left
      · exact absurd HLE.out (hno y0)
      have LG := Lib.hid (LS.out.trans (hb0.mono LS.out.size))
      clear hT hz1 hb0 LS a0 a1 a2 a3 a4 a5
      go_upto_region 10 with fail
      have hb0 : Below vG.heap.size vG (vG.alloc (.cells #[.int .i64 z1.kind, .bool z1.tr, .int .i64 z1.num, .string z1.str, .slice C0 z1.items.length f0, .slice C0' z1.keys.length f0'] 28)) := (Below.refl _ _).alloc (Nat.le_refl _) _
      have hX : Blk (vG.alloc (.cells #[.int .i64 z1.kind, .bool z1.tr, .int .i64 z1.num, .string z1.str, .slice C0 z1.items.length f0, .slice C0' z1.keys.length f0'] 28)) vG.heap.size 28 #[.int .i64 z1.kind, .bool z1.tr, .int .i64 z1.num, .string z1.str, .slice C0 z1.items.length f0, .slice C0' z1.keys.length f0'] := Blk.new vG _ _
      change Code.wp _ _ _ _ (vG.alloc (.cells #[.int .i64 z1.kind, .bool z1.tr, .int .i64 z1.num, .string z1.str, .slice C0 z1.items.length f0, .slice C0' z1.keys.length f0'] 28))
      have LH := Lib.hid (LG.out.trans (hb0.mono LG.out.size))
      generalize (vG.alloc (.cells #[.int .i64 z1.kind, .bool z1.tr, .int .i64 z1.num, .string z1.str, .slice C0 z1.items.length f0, .slice C0' z1.keys.length f0'] 28)) = vH at *
      have HX13 := Lib.hid hX
      clear hb0 hX  LG
      generalize vG.heap.size = g13 at *
      obtain ⟨a0, a1, a2, a3, a4, a5⟩ : vH.cell? ⟨gz, 0, none⟩ = some (.int .i64 rr.kind) ∧ vH.cell? ⟨gz, 1, none⟩ = some (.bool rr.tr) ∧ vH.cell? ⟨gz, 2, none⟩ = some (.int .i64 rr.num) ∧ vH.cell? ⟨gz, 3, none⟩ = some (.string rr.str) ∧ vH.cell? ⟨gz, 4, none⟩ = some (.slice K1 rr.items.length k1) ∧ vH.cell? ⟨gz, 5, none⟩ = some (.slice K1' rr.keys.length k1') := by
       have h := HF.out.onto LH.out
       exact ⟨h.cell 0, h.cell 1, h.cell 2, h.cell 3, h.cell 4, h.cell 5⟩
      go_wp2_with fail
      refine (get_any rr p Q cQ K1 k1 K1' k1' _ HFine.out (HE6.out.on (HBP.out.trans (LH.out.mono HBP.out.size))) HSp.out (by omega) (HP6.out.on (HBP.out.trans (LH.out.mono HBP.out.size))) (HGP.out.on LH.out)).mono ?_
      clear HX13
      rintro e0 vI (⟨z2, hz2, C, f, C', f', rfl, hT, hb0⟩ | ⟨hno, _⟩)
      rotate_left
      · exact absurd (sets_leads HSET.out) (hno x)
      obtain rfl : x = z2 := leads_unique HFine.out (sets_leads HSET.out) hz2
      have LI := Lib.hid (LH.out.trans (hb0.mono LH.out.size))
      have HTI := Lib.hid hT
      clear hT hz2 hb0 LH a0 a1 a2 a3 a4 a5
      go_upto_region 13 with fail
      have hb0 : Below vI.heap.size vI (vI.alloc (.cells #[.int .i64 x.kind, .bool x.tr, .int .i64 x.num, .string x.str, .slice C x.items.length f, .slice C' x.keys.length f'] 32)) := (Below.refl _ _).alloc (Nat.le_refl _) _
      have hX : Blk (vI.alloc (.cells #[.int .i64 x.kind, .bool x.tr, .int .i64 x.num, .string x.str, .slice C x.items.length f, .slice C' x.keys.length f'] 32)) vI.heap.size 32 #[.int .i64 x.kind, .bool x.tr, .int .i64 x.num, .string x.str, .slice C x.items.length f, .slice C' x.keys.length f'] := Blk.new vI _ _
      change Code.wp _ _ _ _ (vI.alloc (.cells #[.int .i64 x.kind, .bool x.tr, .int .i64 x.num, .string x.str, .slice C x.items.length f, .slice C' x.keys.length f'] 32))
      have HTJ := Lib.hid (HTI.out.on hb0)
      have LJ := Lib.hid (LI.out.trans (hb0.mono LI.out.size))
      generalize (vI.alloc (.cells #[.int .i64 x.kind, .bool x.tr, .int .i64 x.num, .string x.str, .slice C x.items.length f, .slice C' x.keys.length f'] 32)) = vJ at *
      have HXJ := Lib.hid hX
      clear hb0 hX HTI LI
      generalize vI.heap.size = gj at *
      have HSS := Lib.hid (show ∀ w', Below vJ.heap.size vJ w' → (Six w' gz 0 rr K1 k1 K1' k1') ∧ (Six w' G3 0 t B d B' d') ∧ (Six w' (G3 + 1) 0 x D g D' g') ∧ (Six w' gj 0 x C f C' f') from fun w' hb => by
       have hb1 := LJ.out.trans (hb.mono LJ.out.size)
       have hb2 := H10.out.trans ((HBP.out.trans (hb1.mono HBP.out.size)).mono hs10)
       have h1 := HF.out.onto hb1
       have h2 := HB4.out.onto hb2
       have h3 := HB5.out.onto hb2
       have h4 := HXJ.out.onto hb
       exact ⟨⟨h1.cell 0, h1.cell 1, h1.cell 2, h1.cell 3, h1.cell 4, h1.cell 5⟩, ⟨h2.cell 0, h2.cell 1, h2.cell 2, h2.cell 3, h2.cell 4, h2.cell 5⟩, ⟨h3.cell 0, h3.cell 1, h3.cell 2, h3.cell 3, h3.cell 4, h3.cell 5⟩, h4.cell 0, h4.cell 1, h4.cell 2, h4.cell 3, h4.cell 4, h4.cell 5⟩)
      have HPJ := Lib.hid (HP6.out.on (HBP.out.trans (LJ.out.mono HBP.out.size)))
      have HTt := Lib.hid (HT6.out.on (HBP.out.trans (LJ.out.mono HBP.out.size)))
      have HTx := Lib.hid (HX6.out.on (HBP.out.trans (LJ.out.mono HBP.out.size)))
      have HTr := Lib.hid (HGP.out.on LJ.out)
      have HWJ := Lib.hid (HWX.out.trans ((HBP.out.trans (LJ.out.mono HBP.out.size)).mono hwx))
      clear HP6 HT6 HX6 HGP LJ HBP HF HXJ HS6 HS7 HRT6
      refine wp_region_held_drew (S := fun w' => (w'.cell? ⟨gz, 0, none⟩ = some (.int .i64 rr.kind) ∧ w'.cell? ⟨gz, 1, none⟩ = some (.bool rr.tr) ∧ w'.cell? ⟨gz, 2, none⟩ = some (.int .i64 rr.num) ∧ w'.cell? ⟨gz, 3, none⟩ = some (.string rr.str) ∧ w'.cell? ⟨gz, 4, none⟩ = some (.slice K1 rr.items.length k1) ∧ w'.cell? ⟨gz, 5, none⟩ = some (.slice K1' rr.keys.length k1')) ∧ (w'.cell? ⟨G3, 0, none⟩ = some (.int .i64 t.kind) ∧ w'.cell? ⟨G3, 1, none⟩ = some (.bool t.tr) ∧ w'.cell? ⟨G3, 2, none⟩ = some (.int .i64 t.num) ∧ w'.cell? ⟨G3, 3, none⟩ = some (.string t.str) ∧ w'.cell? ⟨G3, 4, none⟩ = some (.slice B t.items.length d) ∧ w'.cell? ⟨G3, 5, none⟩ = some (.slice B' t.keys.length d')) ∧ (w'.cell? ⟨G3 + 1, 0, none⟩ = some (.int .i64 x.kind) ∧ w'.cell? ⟨G3 + 1, 1, none⟩ = some (.bool x.tr) ∧ w'.cell? ⟨G3 + 1, 2, none⟩ = some (.int .i64 x.num) ∧ w'.cell? ⟨G3 + 1, 3, none⟩ = some (.string x.str) ∧ w'.cell? ⟨G3 + 1, 4, none⟩ = some (.slice D x.items.length g) ∧ w'.cell? ⟨G3 + 1, 5, none⟩ = some (.slice D' x.keys.length g')) ∧ (w'.cell? ⟨gj, 0, none⟩ = some (.int .i64 x.kind) ∧ w'.cell? ⟨gj, 1, none⟩ = some (.bool x.tr) ∧ w'.cell? ⟨gj, 2, none⟩ = some (.int .i64 x.num) ∧ w'.cell? ⟨gj, 3, none⟩ = some (.string x.str) ∧ w'.cell? ⟨gj, 4, none⟩ = some (.slice C x.items.length f) ∧ w'.cell? ⟨gj, 5, none⟩ = some (.slice C' x.keys.length f'))) (by kernel_rfl) ?_ (fun hHeld => ?_)
      · exact HSS.out _ (Below.refl _ _).drew
      refine wpAnyH_take (i := 0) (v := ?_) rfl (by kernel_rfl) (by kernel_rfl) (by kernel_rfl) (fun _ _ _ h => h) (Or.inl ⟨by rfl, ?_⟩) (by assumption) ?_
      rotate_left
      ·
       intro wq hSw
       try dsimp only at hSw
       go_simp
       try (with_reducible rfl)
      try simp only [Act.put, List.getElem_toArray, List.getElem_cons_zero, List.setIfInBounds_toArray, List.set_cons_zero, List.set_cons_succ]
      refine wpAnyH_take (i := 1) (v := ?_) rfl (by kernel_rfl) (by kernel_rfl) (by kernel_rfl) (fun _ _ _ h => h) (Or.inl ⟨by rfl, ?_⟩) (by assumption) ?_
      rotate_left
      ·
       intro wq hSw
       try dsimp only at hSw
       go_simp
       try (with_reducible rfl)
      try simp only [Act.put, List.getElem_toArray, List.getElem_cons_succ, List.getElem_cons_zero, List.setIfInBounds_toArray, List.set_cons_zero, List.set_cons_succ]
      refine wpAnyH_take (i := 2) (v := ?_) rfl (by kernel_rfl) (by kernel_rfl) (by kernel_rfl) (fun _ _ _ h => h) (Or.inl ⟨by rfl, ?_⟩) (by assumption) ?_
      rotate_left
      ·
       intro wq hSw
       try dsimp only at hSw
       go_simp
       try (with_reducible rfl)
      try simp only [Act.put, List.getElem_toArray, List.getElem_cons_succ, List.getElem_cons_zero, List.setIfInBounds_toArray, List.set_cons_zero, List.set_cons_succ]
      refine wpAnyH_take (i := 3) (v := ?_) rfl (by kernel_rfl) (by kernel_rfl) (by kernel_rfl) (fun _ _ _ h => h) (Or.inl ⟨by rfl, ?_⟩) (by assumption) ?_
      rotate_left
      ·
       intro wq hSw
       try dsimp only at hSw
       go_simp
       try (with_reducible rfl)
      try simp only [Act.put, List.getElem_toArray, List.getElem_cons_succ, List.getElem_cons_zero, List.setIfInBounds_toArray, List.set_cons_zero, List.set_cons_succ]
      refine wpAnyH_take (i := 4) (v := ?_) rfl (by kernel_rfl) (by kernel_rfl) (by kernel_rfl) (fun _ _ _ h => h) (Or.inl ⟨by rfl, ?_⟩) (by assumption) ?_
      rotate_left
      ·
       intro wq hSw
       try dsimp only at hSw
       go_simp
       try (with_reducible rfl)
      try simp only [Act.put, List.getElem_toArray, List.getElem_cons_succ, List.getElem_cons_zero, List.setIfInBounds_toArray, List.set_cons_zero, List.set_cons_succ]
      refine wpAnyH_take (i := 5) (v := ?_) rfl (by kernel_rfl) (by kernel_rfl) (by kernel_rfl) (fun _ _ _ h => h) (Or.inl ⟨by rfl, ?_⟩) (by assumption) ?_
      rotate_left
      ·
       intro wq hSw
       try dsimp only at hSw
       go_simp
       try (with_reducible rfl)
      try simp only [Act.put, List.getElem_toArray, List.getElem_cons_succ, List.getElem_cons_zero, List.setIfInBounds_toArray, List.set_cons_zero, List.set_cons_succ]
      refine wpAnyH_take (i := 6) (v := ?_) rfl (by kernel_rfl) (by kernel_rfl) (by kernel_rfl) (fun _ _ _ h => h) (Or.inl ⟨by rfl, ?_⟩) (by assumption) ?_
      rotate_left
      ·
       intro wq hSw
       try dsimp only at hSw
       go_simp
       try (with_reducible rfl)
      try simp only [Act.put, List.getElem_toArray, List.getElem_cons_succ, List.getElem_cons_zero, List.setIfInBounds_toArray, List.set_cons_zero, List.set_cons_succ]
      refine wpAnyH_take (i := 7) (v := ?_) rfl (by kernel_rfl) (by kernel_rfl) (by kernel_rfl) (fun _ _ _ h => h) (Or.inl ⟨by rfl, ?_⟩) (by assumption) ?_
      rotate_left
      ·
       intro wq hSw
       try dsimp only at hSw
       go_simp
       try (with_reducible rfl)
      try simp only [Act.put, List.getElem_toArray, List.getElem_cons_succ, List.getElem_cons_zero, List.setIfInBounds_toArray, List.set_cons_zero, List.set_cons_succ]
      refine wpAnyH_take (i := 9) (v := ?_) rfl (by kernel_rfl) (by kernel_rfl) (by kernel_rfl) (fun _ _ _ h => h) (Or.inl ⟨by rfl, ?_⟩) (by assumption) ?_
      rotate_left
      ·
       intro wq hSw
       try dsimp only at hSw
       go_simp
       try (with_reducible rfl)
      try simp only [Act.put, List.getElem_toArray, List.getElem_cons_succ, List.getElem_cons_zero, List.setIfInBounds_toArray, List.set_cons_zero, List.set_cons_succ]
      refine wpAnyH_take (i := 10) (v := ?_) rfl (by kernel_rfl) (by kernel_rfl) (by kernel_rfl) (fun _ _ _ h => h) (Or.inl ⟨by rfl, ?_⟩) (by assumption) ?_
      rotate_left
      ·
       intro wq hSw
       try dsimp only at hSw
       go_simp
       try (with_reducible rfl)
      try simp only [Act.put, List.getElem_toArray, List.getElem_cons_succ, List.getElem_cons_zero, List.setIfInBounds_toArray, List.set_cons_zero, List.set_cons_succ]
      refine wpAnyH_take (i := 11) (v := ?_) rfl (by kernel_rfl) (by kernel_rfl) (by kernel_rfl) (fun _ _ _ h => h) (Or.inl ⟨by rfl, ?_⟩) (by assumption) ?_
      rotate_left
      ·
       intro wq hSw
       try dsimp only at hSw
       go_simp
       try (with_reducible rfl)
      try simp only [Act.put, List.getElem_toArray, List.getElem_cons_succ, List.getElem_cons_zero, List.setIfInBounds_toArray, List.set_cons_zero, List.set_cons_succ]
      refine wpAnyH_ready (rs := [8]) (by kernel_rfl) (by simp) ?_
      refine AllReadyH.cons rfl (fun K0 hK => ?_) ?_
      rotate_left
      · exact AllReadyH.nil
      go_simp
      refine (ref_cells _ rr K1 k1 K1' k1' _ HFine.out.le (Nat.le_refl _) (HTr.out.on (Below.refl _ _).drew)).mono ?_
      rintro e0 x1 ⟨R1, r1, R1', r1', rfl, hU, hb0⟩
      unfold T.agg
      have J1 := Lib.hid (show Below vJ.heap.size vJ x1 from (Below.refl vJ.heap.size vJ).drew.trans hb0)
      have HU := Lib.hid (show TV x1 (· < x1.heap.size) rr R1 r1 R1' r1' from hU.wide fun b hb => by
       have h1 := hb0.size
       rcases hb with hb | hb
       · exact Nat.lt_of_lt_of_le hb h1
       · exact hb.2)
      clear hU hb0
      go_wp2_with fail
      refine hK.out _ _ ?_ (fun hHeld => ?_)
      · exact HSS.out _ (J1.out)
      clear hK K0
      try simp only [Act.put, List.getElem_toArray, List.getElem_cons_succ, List.getElem_cons_zero, List.setIfInBounds_toArray, List.set_cons_zero, List.set_cons_succ]
      refine wpAnyH_ready (rs := [12]) (by kernel_rfl) (by simp) ?_
      refine AllReadyH.cons rfl (fun K0 hK => ?_) ?_
      rotate_left
      · exact AllReadyH.nil
      go_simp
      refine (rset_any t x rr p Q cQ B d B' d' D g D' g' _ HNI.out HSET.out hpc (by omega) (HPJ.out.on J1.out) (HTt.out.on J1.out) (HTx.out.on J1.out)).mono ?_
      rintro e0 x2 ⟨M, m, M', m', rfl, hU, hb0⟩
      have J2 := Lib.hid (J1.out.trans (hb0.mono J1.out.size))
      have HU2 := Lib.hid (HU.out.on hb0)
      have HM := Lib.hid hU
      clear hU hb0 HU
      go_wp2_with fail
      refine hK.out _ _ ?_ (fun hHeld => ?_)
      · exact HSS.out _ (J2.out)
      clear hK K0
      try simp only [Act.put, List.getElem_toArray, List.getElem_cons_succ, List.getElem_cons_zero, List.setIfInBounds_toArray, List.set_cons_zero, List.set_cons_succ]
      refine wpAnyH_ready (rs := [13]) (by kernel_rfl) (by simp) ?_
      refine AllReadyH.cons rfl (fun K0 hK => ?_) ?_
      rotate_left
      · exact AllReadyH.nil
      go_simp
      refine (rsame_cells rr R1 r1 R1' r1' M m M' m' _ HFine.out.le HFine.out.small HU2.out HM.out).mono ?_
      rintro e0 x3 ⟨rfl, hb0⟩
      have J3 := Lib.hid (J2.out.trans (hb0.mono J2.out.size))
      clear hb0 HU2 HM
      go_wp2_with fail
      refine hK.out _ _ ?_ (fun hHeld => ?_)
      · exact HSS.out _ (J3.out)
      clear hK K0
      try simp only [Act.put, List.getElem_toArray, List.getElem_cons_succ, List.getElem_cons_zero, List.setIfInBounds_toArray, List.set_cons_zero, List.set_cons_succ]
      refine wpAnyH_take (i := 14) (v := ?_) rfl (by kernel_rfl) (by kernel_rfl) (by kernel_rfl) (fun _ _ _ h => h) (Or.inl ⟨by rfl, ?_⟩) (by assumption) ?_
      rotate_left
      ·
       intro wq hSw
       try dsimp only at hSw
       go_simp
       try (with_reducible rfl)
      try simp only [Act.put, List.getElem_toArray, List.getElem_cons_succ, List.getElem_cons_zero, List.setIfInBounds_toArray, List.set_cons_zero, List.set_cons_succ]
      refine wpAnyH_take (i := 15) (v := ?_) rfl (by kernel_rfl) (by kernel_rfl) (by kernel_rfl) (fun _ _ _ h => h) (Or.inl ⟨by rfl, ?_⟩) (by assumption) ?_
      rotate_left
      ·
       intro wq hSw
       try dsimp only at hSw
       go_simp
       try (with_reducible rfl)
      try simp only [Act.put, List.getElem_toArray, List.getElem_cons_succ, List.getElem_cons_zero, List.setIfInBounds_toArray, List.set_cons_zero, List.set_cons_succ]
      refine wpAnyH_take (i := 16) (v := ?_) rfl (by kernel_rfl) (by kernel_rfl) (by kernel_rfl) (fun _ _ _ h => h) (Or.inl ⟨by rfl, ?_⟩) (by assumption) ?_
      rotate_left
      ·
       intro wq hSw
       try dsimp only at hSw
       go_simp
       try (with_reducible rfl)
      try simp only [Act.put, List.getElem_toArray, List.getElem_cons_succ, List.getElem_cons_zero, List.setIfInBounds_toArray, List.set_cons_zero, List.set_cons_succ]
      refine wpAnyH_take (i := 18) (v := ?_) rfl (by kernel_rfl) (by kernel_rfl) (by kernel_rfl) (fun _ _ _ h => h) (Or.inl ⟨by rfl, ?_⟩) (by assumption) ?_
      rotate_left
      ·
       intro wq hSw
       try dsimp only at hSw
       go_simp
       try (with_reducible rfl)
      try simp only [Act.put, List.getElem_toArray, List.getElem_cons_succ, List.getElem_cons_zero, List.setIfInBounds_toArray, List.set_cons_zero, List.set_cons_succ]
      refine wpAnyH_ready (rs := [17]) (by kernel_rfl) (by simp) ?_
      refine AllReadyH.cons rfl (fun K0 hK => ?_) ?_
      rotate_left
      · exact AllReadyH.nil
      go_simp
      refine (ref_cells _ x C f C' f' _ HXI.out.le (Nat.le_refl _) (HTJ.out.on J3.out)).mono ?_
      rintro e0 x4 ⟨N1, n2, N1', n2', rfl, hU, hb0⟩
      unfold T.agg
      have J4 := Lib.hid (J3.out.trans (hb0.mono J3.out.size))
      have HU := Lib.hid (show TV x4 (· < x4.heap.size) x N1 n2 N1' n2' from hU.wide fun b hb => by
       have h1 := hb0.size
       rcases hb with hb | hb
       · exact Nat.lt_of_lt_of_le hb h1
       · exact hb.2)
      clear hU hb0
      go_wp2_with fail
      refine hK.out _ _ ?_ (fun hHeld => ?_)
      · exact HSS.out _ (J4.out)
      clear hK K0
      try simp only [Act.put, List.getElem_toArray, List.getElem_cons_succ, List.getElem_cons_zero, List.setIfInBounds_toArray, List.set_cons_zero, List.set_cons_succ]
      refine wpAnyH_ready (rs := [19]) (by kernel_rfl) (by simp) ?_
      refine AllReadyH.cons rfl (fun K0 hK => ?_) ?_
      rotate_left
      · exact AllReadyH.nil
      go_simp
      refine (rsame_cells x N1 n2 N1' n2' D g D' g' _ HXI.out.le HXI.out.small HU.out (HTx.out.on J4.out)).mono ?_
      rintro e0 x5 ⟨rfl, hb0⟩
      have J5 := Lib.hid (J4.out.trans (hb0.mono J4.out.size))
      clear hb0
      go_wp2_with fail
      refine hK.out _ _ ?_ (fun hHeld => ?_)
      · exact HSS.out _ (J5.out)
      clear hK K0
      try simp only [Act.put, List.getElem_toArray, List.getElem_cons_succ, List.getElem_cons_zero, List.setIfInBounds_toArray, List.set_cons_zero, List.set_cons_succ]
      refine wpAnyH_take (i := 20) (v := ?_) rfl (by kernel_rfl) (by kernel_rfl) (by kernel_rfl) (fun _ _ _ h => h) (Or.inl ⟨by rfl, ?_⟩) (by assumption) ?_
      rotate_left
      ·
       intro wq hSw
       try dsimp only at hSw
       go_simp
       try (with_reducible rfl)
      refine wpAnyH_take (i := 21) (v := ?_) rfl (by kernel_rfl) (by kernel_rfl) (by kernel_rfl) (fun _ _ _ h => h) (Or.inl ⟨by rfl, ?_⟩) (by assumption) ?_
      rotate_left
      ·
       intro wq hSw
       try dsimp only at hSw
       go_simp
       try (with_reducible rfl)
      try simp only [Act.put, List.getElem_toArray, List.getElem_cons_succ, List.getElem_cons_zero, List.setIfInBounds_toArray, List.set_cons_zero, List.set_cons_succ]
      refine wpAnyH_done (by kernel_rfl) ?_ _
      go_wp2_with fail
      go_ret
      exact ⟨rfl, HWJ.out.trans (J5.out.mono HWJ.out.size)⟩
     ·
      skip
      have HBv2 := Lib.hid (show Below WX.heap.size WX v2 from (HBv1.out).trans (hb0.mono (HBv1.out).size))
      have HNO := Lib.hid hno
      clear hno
      clear hb0
      go_wp2_with fail
      refine hK.out _ _ ?_ (fun hHeld => ?_)
      · exact HS6.out _ (HBv2.out)
      clear hK K0
      try simp only [Act.put, List.getElem_toArray, List.getElem_cons_succ, List.getElem_cons_zero, List.setIfInBounds_toArray, List.set_cons_zero, List.set_cons_succ]
      refine wpAnyH_take (i := 5) (v := ?_) rfl (by kernel_rfl) (by kernel_rfl) (by kernel_rfl) (fun _ _ _ h => h) (Or.inl ⟨by rfl, ?_⟩) (by assumption) ?_
      rotate_left
      ·
       intro wq hSw
       try dsimp only at hSw
       go_simp
       try (with_reducible rfl)
      try simp only [Act.put, List.getElem_toArray, List.getElem_cons_succ, List.getElem_cons_zero, List.setIfInBounds_toArray, List.set_cons_zero, List.set_cons_succ]
      refine wpAnyH_take (i := 6) (v := ?_) rfl (by kernel_rfl) (by kernel_rfl) (by kernel_rfl) (fun _ _ _ h => h) (Or.inl ⟨by rfl, ?_⟩) (by assumption) ?_
      rotate_left
      ·
       intro wq hSw
       try dsimp only at hSw
       go_simp
       try (with_reducible rfl)
      try simp only [Act.put, List.getElem_toArray, List.getElem_cons_succ, List.getElem_cons_zero, List.setIfInBounds_toArray, List.set_cons_zero, List.set_cons_succ]
      refine wpAnyH_take (i := 7) (v := ?_) rfl (by kernel_rfl) (by kernel_rfl) (by kernel_rfl) (fun _ _ _ h => h) (Or.inl ⟨by rfl, ?_⟩) (by assumption) ?_
      rotate_left
      ·
       intro wq hSw
       try dsimp only at hSw
       go_simp
       try (with_reducible rfl)
      try simp only [Act.put, List.getElem_toArray, List.getElem_cons_succ, List.getElem_cons_zero, List.setIfInBounds_toArray, List.set_cons_zero, List.set_cons_succ]
      refine wpAnyH_ready (rs := [8]) (by kernel_rfl) (by simp) ?_
      refine AllReadyH.cons rfl (fun K0 hK => ?_) ?_
      rotate_left
      · exact AllReadyH.nil
      go_simp
      have hb0 : Below v2.heap.size v2 (v2.alloc (.cells #[.int .i64 0, .bool false, .int .i64 0, .string ⟨#[]⟩, .slice none 0 0, .slice none 0 0] 32)) := (Below.refl _ _).alloc (Nat.le_refl _) _
      have HZ_3 := Lib.hid (show Blk (v2.alloc (.cells #[.int .i64 0, .bool false, .int .i64 0, .string ⟨#[]⟩, .slice none 0 0, .slice none 0 0] 32)) v2.heap.size 32 #[.int .i64 0, .bool false, .int .i64 0, .string ⟨#[]⟩, .slice none 0 0, .slice none 0 0] from Blk.new v2 _ _)
      have HBv3 := Lib.hid (show Below WX.heap.size WX (v2.alloc (.cells #[.int .i64 0, .bool false, .int .i64 0, .string ⟨#[]⟩, .slice none 0 0, .slice none 0 0] 32)) from (HBv2.out).trans (hb0.mono (HBv2.out).size))
      have hzl := HZ_3.out.lt
      have hzb := (HBv2.out).size
      clear hb0
      refine hK.out _ _ ?_ (fun hHeld => ?_)
      · exact HS6.out _ (HBv3.out)
      clear hK K0
      try simp only [Act.put, List.getElem_toArray, List.getElem_cons_succ, List.getElem_cons_zero, List.setIfInBounds_toArray, List.set_cons_zero, List.set_cons_succ]
      generalize (v2.alloc (.cells #[.int .i64 0, .bool false, .int .i64 0, .string ⟨#[]⟩, .slice none 0 0, .slice none 0 0] 32)) = v3 at *
      have hgz : WX.heap.size ≤ v2.heap.size := hzb
      clear hzb
      generalize v2.heap.size = gz at *
      have q0 : v3.cell? ⟨gz, 0, none⟩ = some (.int .i64 0) := HZ_3.out.cell 0
      have q1 : v3.cell? ⟨gz, 1, none⟩ = some (.bool false) := HZ_3.out.cell 1
      have q2 : v3.cell? ⟨gz, 2, none⟩ = some (.int .i64 0) := HZ_3.out.cell 2
      have q3 : v3.cell? ⟨gz, 3, none⟩ = some (.string ⟨#[]⟩) := HZ_3.out.cell 3
      have q4 : v3.cell? ⟨gz, 4, none⟩ = some (.slice none 0 0) := HZ_3.out.cell 4
      have q5 : v3.cell? ⟨gz, 5, none⟩ = some (.slice none 0 0) := HZ_3.out.cell 5
      have u0 := HZ_3.out.free 0
      have u1 := HZ_3.out.free 1
      have u2 := HZ_3.out.free 2
      have u3 := HZ_3.out.free 3
      have u4 := HZ_3.out.free 4
      have u5 := HZ_3.out.free 5
      refine wpAnyH_ready (rs := [9]) (by kernel_rfl) (by simp) ?_
      refine AllReadyH.cons rfl (fun K0 hK => ?_) ?_
      rotate_left
      · exact AllReadyH.nil
      go_simp
      refine hK.out _ _ ?_ (fun hHeld => ?_)
      ·
       have hS := HS6.out _ (HBv3.out)
       have hne : ∀ b o, b ≠ gz → (((((((v3.setCell ⟨gz, 0, none⟩ (.int .i64 0)).setCell ⟨gz, 1, none⟩ (.bool false)).setCell ⟨gz, 2, none⟩ (.int .i64 0)).setCell ⟨gz, 3, none⟩ (.string ⟨#[]⟩)).setCell ⟨gz, 4, none⟩ (.slice none 0 0)).setCell ⟨gz, 5, none⟩ (.slice none 0 0))).cell? ⟨b, o, none⟩ = v3.cell? ⟨b, o, none⟩ := fun b o hb => World.cell?_of_block (put6_heap hb)
       have g1 : gx ≠ gz := by omega
       have g2 : G3 + 1 ≠ gz := by omega
       try dsimp only
       rw [hne gx _ g1, hne gx _ g1, hne gx _ g1, hne gx _ g1, hne gx _ g1, hne gx _ g1, hne (G3 + 1) _ g2, hne (G3 + 1) _ g2, hne (G3 + 1) _ g2, hne (G3 + 1) _ g2, hne (G3 + 1) _ g2, hne (G3 + 1) _ g2]
       exact hS
      clear hK K0
      try simp only [Act.put, List.getElem_toArray, List.getElem_cons_succ, List.getElem_cons_zero, List.setIfInBounds_toArray, List.set_cons_zero, List.set_cons_succ]
      refine wpAnyH_take (i := 10) (v := ?_) rfl (by kernel_rfl) (by kernel_rfl) (by kernel_rfl) (fun _ _ _ h => h) (Or.inl ⟨by rfl, ?_⟩) (by assumption) ?_
      rotate_left
      ·
       intro wq hSw
       try dsimp only at hSw
       go_simp
       try (with_reducible rfl)
      try simp only [Act.put, List.getElem_toArray, List.getElem_cons_succ, List.getElem_cons_zero, List.setIfInBounds_toArray, List.set_cons_zero, List.set_cons_succ]
      refine wpAnyH_done (by kernel_rfl) ?_ _
      have hlz := HZ_3.out.lt
      have hzs : (((((((v3.setCell ⟨gz, 0, none⟩ (.int .i64 0)).setCell ⟨gz, 1, none⟩ (.bool false)).setCell ⟨gz, 2, none⟩ (.int .i64 0)).setCell ⟨gz, 3, none⟩ (.string ⟨#[]⟩)).setCell ⟨gz, 4, none⟩ (.slice none 0 0)).setCell ⟨gz, 5, none⟩ (.slice none 0 0))).heap.size = v3.heap.size := put6_size
      have HBP := Lib.hid (show Below WX.heap.size WX ((((((v3.setCell ⟨gz, 0, none⟩ (.int .i64 0)).setCell ⟨gz, 1, none⟩ (.bool false)).setCell ⟨gz, 2, none⟩ (.int .i64 0)).setCell ⟨gz, 3, none⟩ (.string ⟨#[]⟩)).setCell ⟨gz, 4, none⟩ (.slice none 0 0)).setCell ⟨gz, 5, none⟩ (.slice none 0 0)) from put6_below HBv3.out hgz)
      have HF := Lib.hid (show Blk ((((((v3.setCell ⟨gz, 0, none⟩ (.int .i64 0)).setCell ⟨gz, 1, none⟩ (.bool false)).setCell ⟨gz, 2, none⟩ (.int .i64 0)).setCell ⟨gz, 3, none⟩ (.string ⟨#[]⟩)).setCell ⟨gz, 4, none⟩ (.slice none 0 0)).setCell ⟨gz, 5, none⟩ (.slice none 0 0)) gz 32 #[.int .i64 0, .bool false, .int .i64 0, .string ⟨#[]⟩, .slice none 0 0, .slice none 0 0] from res_put HZ_3.out rfl T.zero none 0 none 0)
      clear q0 q1 q2 q3 q4 q5 u0 u1 u2 u3 u4 u5 HZ_3 hlz hzs
      generalize ((((((v3.setCell ⟨gz, 0, none⟩ (.int .i64 0)).setCell ⟨gz, 1, none⟩ (.bool false)).setCell ⟨gz, 2, none⟩ (.int .i64 0)).setCell ⟨gz, 3, none⟩ (.string ⟨#[]⟩)).setCell ⟨gz, 4, none⟩ (.slice none 0 0)).setCell ⟨gz, 5, none⟩ (.slice none 0 0)) = vP at *
      go_upto_region 7 with fail
      refine wp_region_held_drew (S := fun w' => (w'.cell? ⟨G3, 0, none⟩ = some (.int .i64 t.kind) ∧ w'.cell? ⟨G3, 1, none⟩ = some (.bool t.tr) ∧ w'.cell? ⟨G3, 2, none⟩ = some (.int .i64 t.num) ∧ w'.cell? ⟨G3, 3, none⟩ = some (.string t.str) ∧ w'.cell? ⟨G3, 4, none⟩ = some (.slice B t.items.length d) ∧ w'.cell? ⟨G3, 5, none⟩ = some (.slice B' t.keys.length d')) ∧ (w'.cell? ⟨gx, 0, none⟩ = some (.int .i64 t.kind) ∧ w'.cell? ⟨gx, 1, none⟩ = some (.bool t.tr) ∧ w'.cell? ⟨gx, 2, none⟩ = some (.int .i64 t.num) ∧ w'.cell? ⟨gx, 3, none⟩ = some (.string t.str) ∧ w'.cell? ⟨gx, 4, none⟩ = some (.slice E t.items.length e1) ∧ w'.cell? ⟨gx, 5, none⟩ = some (.slice E' t.keys.length e1'))) (by kernel_rfl) ?_ (fun hHeld => ?_)
      · exact HS7.out _ HBP.out.drew
      refine wpAnyH_take (i := 0) (v := ?_) rfl (by kernel_rfl) (by kernel_rfl) (by kernel_rfl) (fun _ _ _ h => h) (Or.inl ⟨by rfl, ?_⟩) (by assumption) ?_
      rotate_left
      ·
       intro wq hSw
       try dsimp only at hSw
       go_simp
       try (with_reducible rfl)
      try simp only [Act.put, List.getElem_toArray, List.getElem_cons_zero, List.setIfInBounds_toArray, List.set_cons_zero, List.set_cons_succ]
      refine wpAnyH_take (i := 2) (v := ?_) rfl (by kernel_rfl) (by kernel_rfl) (by kernel_rfl) (fun _ _ _ h => h) (Or.inl ⟨by rfl, ?_⟩) (by assumption) ?_
      rotate_left
      ·
       intro wq hSw
       try dsimp only at hSw
       go_simp
       try (with_reducible rfl)
      try simp only [Act.put, List.getElem_toArray, List.getElem_cons_succ, List.getElem_cons_zero, List.setIfInBounds_toArray, List.set_cons_zero, List.set_cons_succ]
      refine wpAnyH_ready (rs := [1]) (by kernel_rfl) (by simp) ?_
      refine AllReadyH.cons rfl (fun K0 hK => ?_) ?_
      rotate_left
      · exact AllReadyH.nil
      go_simp
      refine (ref_cells _ t E e1 E' e1' _ HNI.out.le (Nat.le_refl _) (HRT6.out.on HBP.out.drew)).mono ?_
      rintro e0 vR ⟨R1, r1, R1', r1', rfl, hU, hb0⟩
      unfold T.agg
      have LR := Lib.hid (show Below vP.heap.size vP vR from (Below.refl vP.heap.size vP).drew.trans hb0)
      have HU := Lib.hid (show TV vR (· < vR.heap.size) t R1 r1 R1' r1' from hU.wide fun b hb => by
       have h1 := hb0.size
       rcases hb with hb | hb
       · exact Nat.lt_of_lt_of_le hb h1
       · exact hb.2)
      clear hU hb0
      go_wp2_with fail
      refine hK.out _ _ ?_ (fun hHeld => ?_)
      · exact HS7.out _ ((HBP.out.trans (LR.out.mono HBP.out.size)))
      clear hK K0
      try simp only [Act.put, List.getElem_toArray, List.getElem_cons_succ, List.getElem_cons_zero, List.setIfInBounds_toArray, List.set_cons_zero, List.set_cons_succ]
      refine wpAnyH_ready (rs := [3]) (by kernel_rfl) (by simp) ?_
      refine AllReadyH.cons rfl (fun K0 hK => ?_) ?_
      rotate_left
      · exact AllReadyH.nil
      go_simp
      refine (rsame_cells t R1 r1 R1' r1' B d B' d' _ HNI.out.le HNI.out.small HU.out (HT6.out.on (HBP.out.trans (LR.out.mono HBP.out.size)))).mono ?_
      rintro e0 vS ⟨rfl, hb0⟩
      have LS := Lib.hid (LR.out.trans (hb0.mono LR.out.size))
      clear hb0 LR HU
      go_wp2_with fail
      refine hK.out _ _ ?_ (fun hHeld => ?_)
      · exact HS7.out _ ((HBP.out.trans (LS.out.mono HBP.out.size)))
      clear hK K0
      try simp only [Act.put, List.getElem_toArray, List.getElem_cons_succ, List.getElem_cons_zero, List.setIfInBounds_toArray, List.set_cons_zero, List.set_cons_succ]
      refine wpAnyH_take (i := 4) (v := ?_) rfl (by kernel_rfl) (by kernel_rfl) (by kernel_rfl) (fun _ _ _ h => h) (Or.inl ⟨by rfl, ?_⟩) (by assumption) ?_
      rotate_left
      ·
       intro wq hSw
       try dsimp only at hSw
       go_simp
       try (with_reducible rfl)
      try simp only [Act.put, List.getElem_toArray, List.getElem_cons_succ, List.getElem_cons_zero, List.setIfInBounds_toArray, List.set_cons_zero, List.set_cons_succ]
      refine wpAnyH_done (by kernel_rfl) ?_ _
      obtain ⟨a0, a1, a2, a3, a4, a5⟩ := (HS7.out vS (HBP.out.trans (LS.out.mono HBP.out.size))).1
      go_wp2_with fail
      refine (rget_any t p Q cQ B d B' d' _ HNI.out.fine (by omega) (HP6.out.on (HBP.out.trans (LS.out.mono HBP.out.size))) (HT6.out.on (HBP.out.trans (LS.out.mono HBP.out.size)))).mono ?_
      rintro e0 vG (⟨z1, hz1, _⟩ | ⟨_, rfl, hb0⟩)
      · exact absurd hz1 (HNO.out z1)
      have LG := Lib.hid (LS.out.trans (hb0.mono LS.out.size))
      clear hb0 LS a0 a1 a2 a3 a4 a5
      go_upto_region 10 with fail
      have hb0 : Below vG.heap.size vG (vG.alloc (.cells #[.int .i64 0, .bool false, .int .i64 0, .string ⟨#[]⟩, .slice none 0 0, .slice none 0 0] 28)) := (Below.refl _ _).alloc (Nat.le_refl _) _
      have hX : Blk (vG.alloc (.cells #[.int .i64 0, .bool false, .int .i64 0, .string ⟨#[]⟩, .slice none 0 0, .slice none 0 0] 28)) vG.heap.size 28 #[.int .i64 0, .bool false, .int .i64 0, .string ⟨#[]⟩, .slice none 0 0, .slice none 0 0] := Blk.new vG _ _
      change Code.wp _ _ _ _ (vG.alloc (.cells #[.int .i64 0, .bool false, .int .i64 0, .string ⟨#[]⟩, .slice none 0 0, .slice none 0 0] 28))
      have LH := Lib.hid (LG.out.trans (hb0.mono LG.out.size))
      generalize (vG.alloc (.cells #[.int .i64 0, .bool false, .int .i64 0, .string ⟨#[]⟩, .slice none 0 0, .slice none 0 0] 28)) = vH at *
      have HX13 := Lib.hid hX
      clear hb0 hX  LG
      generalize vG.heap.size = g13 at *
      obtain ⟨a0, a1, a2, a3, a4, a5⟩ : vH.cell? ⟨gz, 0, none⟩ = some (.int .i64 0) ∧ vH.cell? ⟨gz, 1, none⟩ = some (.bool false) ∧ vH.cell? ⟨gz, 2, none⟩ = some (.int .i64 0) ∧ vH.cell? ⟨gz, 3, none⟩ = some (.string ⟨#[]⟩) ∧ vH.cell? ⟨gz, 4, none⟩ = some (.slice none 0 0) ∧ vH.cell? ⟨gz, 5, none⟩ = some (.slice none 0 0) := by
       have h := HF.out.onto LH.out
       exact ⟨h.cell 0, h.cell 1, h.cell 2, h.cell 3, h.cell 4, h.cell 5⟩
      have HWH := Lib.hid (HWX.out.trans ((HBP.out.trans (LH.out.mono HBP.out.size)).mono hwx))
      clear LH HBP
      go_wp2_with fail
      refine (ref_zero _).mono ?_
      rintro e9 w9 ⟨U, f3, U', f3', rfl, hU, hb0⟩
      have HWI := Lib.hid (HWH.out.trans (hb0.mono HWH.out.size))
      have HU := Lib.hid hU
      clear hb0 hU
      go_wp2_with fail
      refine (rsame_zero U f3 U' f3' _ HU.out).mono ?_
      rintro e8 w10 ⟨rfl, hb0⟩
      have HWJ := Lib.hid (HWI.out.trans (hb0.mono HWI.out.size))
      clear hb0
      go_wp2_with fail
      go_ret
      exact ⟨rfl, HWJ.out⟩
    ·
     skip
     go_simp
     have hb0 : Below v1.heap.size v1 (v1.alloc (.cells #[.int .i64 0, .bool false, .int .i64 0, .string ⟨#[]⟩, .slice none 0 0, .slice none 0 0] 32)) := (Below.refl _ _).alloc (Nat.le_refl _) _
     have HZ_2 := Lib.hid (show Blk (v1.alloc (.cells #[.int .i64 0, .bool false, .int .i64 0, .string ⟨#[]⟩, .slice none 0 0, .slice none 0 0] 32)) v1.heap.size 32 #[.int .i64 0, .bool false, .int .i64 0, .string ⟨#[]⟩, .slice none 0 0, .slice none 0 0] from Blk.new v1 _ _)
     have HRX_2 := Lib.hid (HRX_1.out.on hb0)
     clear HRX_1
     have HBv2 := Lib.hid (show Below WX.heap.size WX (v1.alloc (.cells #[.int .i64 0, .bool false, .int .i64 0, .string ⟨#[]⟩, .slice none 0 0, .slice none 0 0] 32)) from (HBv1.out).trans (hb0.mono (HBv1.out).size))
     have hzl := HZ_2.out.lt
     have hzb := (HBv1.out).size
     clear hb0
     refine hK.out _ _ ?_ (fun hHeld => ?_)
     · exact HS6.out _ (HBv2.out)
     clear hK K0
     try simp only [Act.put, List.getElem_toArray, List.getElem_cons_succ, List.getElem_cons_zero, List.setIfInBounds_toArray, List.set_cons_zero, List.set_cons_succ]
     generalize (v1.alloc (.cells #[.int .i64 0, .bool false, .int .i64 0, .string ⟨#[]⟩, .slice none 0 0, .slice none 0 0] 32)) = v2 at *
     have hgz : WX.heap.size ≤ v1.heap.size := hzb
     clear hzb
     generalize v1.heap.size = gz at *
     refine wpAnyH_ready (rs := [4]) (by kernel_rfl) (by simp) ?_
     refine AllReadyH.cons rfl (fun K0 hK => ?_) ?_
     rotate_left
     · exact AllReadyH.nil
     go_simp
     have HZ_2Z := HZ_2.out.lt
     refine (set_any t x p Q cQ E e1 E' e1' F f1 F' f1' _ HNI.out HXI.out (HE6.out.on HBv2.out) HSp.out (by omega) (HP6.out.on HBv2.out) (HRT6.out.on HBv2.out) HRX_2.out).mono ?_
     rintro e0 v3 (⟨y0, rr, hy0, hset, K1, k1, K1', k1', rfl, hT, hb0⟩ | ⟨hno, rfl, hb0⟩)
     ·
      skip
      have HBv3 := Lib.hid (show Below WX.heap.size WX v3 from (HBv2.out).trans (hb0.mono (HBv2.out).size))
      have hz1 := HZ_2Z
      have HGOT := Lib.hid (show TV v3 (fun b => b ≠ gz ∧ b < v3.heap.size) rr K1 k1 K1' k1' from hT.wide fun b hb => ⟨by omega, hb.2⟩)
      have HSET := Lib.hid hset
      have HLE := Lib.hid hy0
      clear hT hset hy0
      have HZ_3 := Lib.hid (HZ_2.out.onto hb0)
      clear HZ_2
      clear hb0
      go_wp2_with fail
      refine hK.out _ _ ?_ (fun hHeld => ?_)
      · exact HS6.out _ (HBv3.out)
      clear hK K0
      try simp only [Act.put, List.getElem_toArray, List.getElem_cons_succ, List.getElem_cons_zero, List.setIfInBounds_toArray, List.set_cons_zero, List.set_cons_succ]
      refine wpAnyH_take (i := 5) (v := ?_) rfl (by kernel_rfl) (by kernel_rfl) (by kernel_rfl) (fun _ _ _ h => h) (Or.inl ⟨by rfl, ?_⟩) (by assumption) ?_
      rotate_left
      ·
       intro wq hSw
       try dsimp only at hSw
       go_simp
       try (with_reducible rfl)
      try simp only [Act.put, List.getElem_toArray, List.getElem_cons_succ, List.getElem_cons_zero, List.setIfInBounds_toArray, List.set_cons_zero, List.set_cons_succ]
      refine wpAnyH_take (i := 6) (v := ?_) rfl (by kernel_rfl) (by kernel_rfl) (by kernel_rfl) (fun _ _ _ h => h) (Or.inl ⟨by rfl, ?_⟩) (by assumption) ?_
      rotate_left
      ·
       intro wq hSw
       try dsimp only at hSw
       go_simp
       try (with_reducible rfl)
      try simp only [Act.put, List.getElem_toArray, List.getElem_cons_succ, List.getElem_cons_zero, List.setIfInBounds_toArray, List.set_cons_zero, List.set_cons_succ]
      refine wpAnyH_take (i := 7) (v := ?_) rfl (by kernel_rfl) (by kernel_rfl) (by kernel_rfl) (fun _ _ _ h => h) (Or.inl ⟨by rfl, ?_⟩) (by assumption) ?_
      rotate_left
      ·
       intro wq hSw
       try dsimp only at hSw
       go_simp
       try (with_reducible rfl)
      try simp only [Act.put, List.getElem_toArray, List.getElem_cons_succ, List.getElem_cons_zero, List.setIfInBounds_toArray, List.set_cons_zero, List.set_cons_succ]
      have q0 : v3.cell? ⟨gz, 0, none⟩ = some (.int .i64 0) := HZ_3.out.cell 0
      have q1 : v3.cell? ⟨gz, 1, none⟩ = some (.bool false) := HZ_3.out.cell 1
      have q2 : v3.cell? ⟨gz, 2, none⟩ = some (.int .i64 0) := HZ_3.out.cell 2
      have q3 : v3.cell? ⟨gz, 3, none⟩ = some (.string ⟨#[]⟩) := HZ_3.out.cell 3
      have q4 : v3.cell? ⟨gz, 4, none⟩ = some (.slice none 0 0) := HZ_3.out.cell 4
      have q5 : v3.cell? ⟨gz, 5, none⟩ = some (.slice none 0 0) := HZ_3.out.cell 5
      have u0 := HZ_3.out.free 0
      have u1 := HZ_3.out.free 1
      have u2 := HZ_3.out.free 2
      have u3 := HZ_3.out.free 3
      have u4 := HZ_3.out.free 4
      have u5 := HZ_3.out.free 5
      refine wpAnyH_ready (rs := [9]) (by kernel_rfl) (by simp) ?_
      refine AllReadyH.cons rfl (fun K0 hK => ?_) ?_
      rotate_left
      · exact AllReadyH.nil
      go_simp
      refine hK.out _ _ ?_ (fun hHeld => ?_)
      ·
       have hS := HS6.out _ (HBv3.out)
       have hne : ∀ b o, b ≠ gz → (((((((v3.setCell ⟨gz, 0, none⟩ (.int .i64 rr.kind)).setCell ⟨gz, 1, none⟩ (.bool rr.tr)).setCell ⟨gz, 2, none⟩ (.int .i64 rr.num)).setCell ⟨gz, 3, none⟩ (.string rr.str)).setCell ⟨gz, 4, none⟩ (.slice K1 rr.items.length k1)).setCell ⟨gz, 5, none⟩ (.slice K1' rr.keys.length k1'))).cell? ⟨b, o, none⟩ = v3.cell? ⟨b, o, none⟩ := fun b o hb => World.cell?_of_block (put6_heap hb)
       have g1 : gx ≠ gz := by omega
       have g2 : G3 + 1 ≠ gz := by omega
       try dsimp only
       rw [hne gx _ g1, hne gx _ g1, hne gx _ g1, hne gx _ g1, hne gx _ g1, hne gx _ g1, hne (G3 + 1) _ g2, hne (G3 + 1) _ g2, hne (G3 + 1) _ g2, hne (G3 + 1) _ g2, hne (G3 + 1) _ g2, hne (G3 + 1) _ g2]
       exact hS
      clear hK K0
      try simp only [Act.put, List.getElem_toArray, List.getElem_cons_succ, List.getElem_cons_zero, List.setIfInBounds_toArray, List.set_cons_zero, List.set_cons_succ]
      refine wpAnyH_take (i := 10) (v := ?_) rfl (by kernel_rfl) (by kernel_rfl) (by kernel_rfl) (fun _ _ _ h => h) (Or.inl ⟨by rfl, ?_⟩) (by assumption) ?_
      rotate_left
      ·
       intro wq hSw
       try dsimp only at hSw
       go_simp
       try (with_reducible rfl)
      try simp only [Act.put, List.getElem_toArray, List.getElem_cons_succ, List.getElem_cons_zero, List.setIfInBounds_toArray, List.set_cons_zero, List.set_cons_succ]
      refine wpAnyH_done (by kernel_rfl) ?_ _
      have hlz := HZ_3.out.lt
      have hzs : (((((((v3.setCell ⟨gz, 0, none⟩ (.int .i64 rr.kind)).setCell ⟨gz, 1, none⟩ (.bool rr.tr)).setCell ⟨gz, 2, none⟩ (.int .i64 rr.num)).setCell ⟨gz, 3, none⟩ (.string rr.str)).setCell ⟨gz, 4, none⟩ (.slice K1 rr.items.length k1)).setCell ⟨gz, 5, none⟩ (.slice K1' rr.keys.length k1'))).heap.size = v3.heap.size := put6_size
      have HBP := Lib.hid (show Below WX.heap.size WX ((((((v3.setCell ⟨gz, 0, none⟩ (.int .i64 rr.kind)).setCell ⟨gz, 1, none⟩ (.bool rr.tr)).setCell ⟨gz, 2, none⟩ (.int .i64 rr.num)).setCell ⟨gz, 3, none⟩ (.string rr.str)).setCell ⟨gz, 4, none⟩ (.slice K1 rr.items.length k1)).setCell ⟨gz, 5, none⟩ (.slice K1' rr.keys.length k1')) from put6_below HBv3.out hgz)
      have HF := Lib.hid (res_put HZ_3.out rfl rr K1 k1 K1' k1')
      have HGP := Lib.hid (show TV ((((((v3.setCell ⟨gz, 0, none⟩ (.int .i64 rr.kind)).setCell ⟨gz, 1, none⟩ (.bool rr.tr)).setCell ⟨gz, 2, none⟩ (.int .i64 rr.num)).setCell ⟨gz, 3, none⟩ (.string rr.str)).setCell ⟨gz, 4, none⟩ (.slice K1 rr.items.length k1)).setCell ⟨gz, 5, none⟩ (.slice K1' rr.keys.length k1')) (· < (((((((v3.setCell ⟨gz, 0, none⟩ (.int .i64 rr.kind)).setCell ⟨gz, 1, none⟩ (.bool rr.tr)).setCell ⟨gz, 2, none⟩ (.int .i64 rr.num)).setCell ⟨gz, 3, none⟩ (.string rr.str)).setCell ⟨gz, 4, none⟩ (.slice K1 rr.items.length k1)).setCell ⟨gz, 5, none⟩ (.slice K1' rr.keys.length k1'))).heap.size) rr K1 k1 K1' k1' from (HGOT.out.keep fun b hb => put6_heap hb.1).wide fun b hb => by show b < _; rw [hzs]; exact hb.2)
      have HFine := Lib.hid (sets_fine HNI.out HXI.out HSET.out)
      clear HGOT
      clear q0 q1 q2 q3 q4 q5 u0 u1 u2 u3 u4 u5 HZ_3 hlz hzs
      generalize ((((((v3.setCell ⟨gz, 0, none⟩ (.int .i64 rr.kind)).setCell ⟨gz, 1, none⟩ (.bool rr.tr)).setCell ⟨gz, 2, none⟩ (.int .i64 rr.num)).setCell ⟨gz, 3, none⟩ (.string rr.str)).setCell ⟨gz, 4, none⟩ (.slice K1 rr.items.length k1)).setCell ⟨gz, 5, none⟩ (.slice K1' rr.keys.length k1')) = vP at *
      go_upto_region 7 with fail
      refine wp_region_held_drew (S := fun w' => (w'.cell? ⟨G3, 0, none⟩ = some (.int .i64 t.kind) ∧ w'.cell? ⟨G3, 1, none⟩ = some (.bool t.tr) ∧ w'.cell? ⟨G3, 2, none⟩ = some (.int .i64 t.num) ∧ w'.cell? ⟨G3, 3, none⟩ = some (.string t.str) ∧ w'.cell? ⟨G3, 4, none⟩ = some (.slice B t.items.length d) ∧ w'.cell? ⟨G3, 5, none⟩ = some (.slice B' t.keys.length d')) ∧ (w'.cell? ⟨gx, 0, none⟩ = some (.int .i64 t.kind) ∧ w'.cell? ⟨gx, 1, none⟩ = some (.bool t.tr) ∧ w'.cell? ⟨gx, 2, none⟩ = some (.int .i64 t.num) ∧ w'.cell? ⟨gx, 3, none⟩ = some (.string t.str) ∧ w'.cell? ⟨gx, 4, none⟩ = some (.slice E t.items.length e1) ∧ w'.cell? ⟨gx, 5, none⟩ = some (.slice E' t.keys.length e1'))) (by kernel_rfl) ?_ (fun hHeld => ?_)
      · exact HS7.out _ HBP.out.drew
      refine wpAnyH_take (i := 0) (v := ?_) rfl (by kernel_rfl) (by kernel_rfl) (by kernel_rfl) (fun _ _ _ h => h) (Or.inl ⟨by rfl, ?_⟩) (by assumption) ?_
      rotate_left
      ·
       intro wq hSw
       try dsimp only at hSw
       go_simp
       try (with_reducible rfl)
      try simp only [Act.put, List.getElem_toArray, List.getElem_cons_zero, List.setIfInBounds_toArray, List.set_cons_zero, List.set_cons_succ]
      refine wpAnyH_take (i := 2) (v := ?_) rfl (by kernel_rfl) (by kernel_rfl) (by kernel_rfl) (fun _ _ _ h => h) (Or.inl ⟨by rfl, ?_⟩) (by assumption) ?_
      rotate_left
      ·
       intro wq hSw
       try dsimp only at hSw
       go_simp
       try (with_reducible rfl)
      try simp only [Act.put, List.getElem_toArray, List.getElem_cons_succ, List.getElem_cons_zero, List.setIfInBounds_toArray, List.set_cons_zero, List.set_cons_succ]
      refine wpAnyH_ready (rs := [1]) (by kernel_rfl) (by simp) ?_
      refine AllReadyH.cons rfl (fun K0 hK => ?_) ?_
      rotate_left
      · exact AllReadyH.nil
      go_simp
      refine (ref_cells _ t E e1 E' e1' _ HNI.out.le (Nat.le_refl _) (HRT6.out.on HBP.out.drew)).mono ?_
      rintro e0 vR ⟨R1, r1, R1', r1', rfl, hU, hb0⟩
      unfold T.agg
      have LR := Lib.hid (show Below vP.heap.size vP vR from (Below.refl vP.heap.size vP).drew.trans hb0)
      have HU := Lib.hid (show TV vR (· < vR.heap.size) t R1 r1 R1' r1' from hU.wide fun b hb => by
       have h1 := hb0.size
       rcases hb with hb | hb
       · exact Nat.lt_of_lt_of_le hb h1
       · exact hb.2)
      clear hU hb0
      go_wp2_with fail
      refine hK.out _ _ ?_ (fun hHeld => ?_)
      · exact HS7.out _ ((HBP.out.trans (LR.out.mono HBP.out.size)))
      clear hK K0
      try simp only [Act.put, List.getElem_toArray, List.getElem_cons_succ, List.getElem_cons_zero, List.setIfInBounds_toArray, List.set_cons_zero, List.set_cons_succ]
      refine wpAnyH_ready (rs := [3]) (by kernel_rfl) (by simp) ?_
      refine AllReadyH.cons rfl (fun K0 hK => ?_) ?_
      rotate_left
      · exact AllReadyH.nil
      go_simp
      refine (rsame_cells t R1 r1 R1' r1' B d B' d' _ HNI.out.le HNI.out.small HU.out (HT6.out.on (HBP.out.trans (LR.out.mono HBP.out.size)))).mono ?_
      rintro e0 vS ⟨rfl, hb0⟩
      have LS := Lib.hid (LR.out.trans (hb0.mono LR.out.size))
      clear hb0 LR HU
      go_wp2_with fail
      refine hK.out _ _ ?_ (fun hHeld => ?_)
      · exact HS7.out _ ((HBP.out.trans (LS.out.mono HBP.out.size)))
      clear hK K0
      try simp only [Act.put, List.getElem_toArray, List.getElem_cons_succ, List.getElem_cons_zero, List.setIfInBounds_toArray, List.set_cons_zero, List.set_cons_succ]
      refine wpAnyH_take (i := 4) (v := ?_) rfl (by kernel_rfl) (by kernel_rfl) (by kernel_rfl) (fun _ _ _ h => h) (Or.inl ⟨by rfl, ?_⟩) (by assumption) ?_
      rotate_left
      ·
       intro wq hSw
       try dsimp only at hSw
       go_simp
       try (with_reducible rfl)
      try simp only [Act.put, List.getElem_toArray, List.getElem_cons_succ, List.getElem_cons_zero, List.setIfInBounds_toArray, List.set_cons_zero, List.set_cons_succ]
      refine wpAnyH_done (by kernel_rfl) ?_ _
      obtain ⟨a0, a1, a2, a3, a4, a5⟩ := (HS7.out vS (HBP.out.trans (LS.out.mono HBP.out.size))).1
      go_wp2_with fail
      refine (rget_any t p Q cQ B d B' d' _ HNI.out.fine (by omega) (HP6.out.on (HBP.out.trans (LS.out.mono HBP.out.size))) (HT6.out.on (HBP.out.trans (LS.out.mono HBP.out.size)))).mono ?_
      rintro e0 vG (⟨z1, hz1, C0, f0, C0', f0', rfl, hT, hb0⟩ | ⟨hno, _⟩)
      rotate_left
      · exact absurd HLE.out (hno y0)
      have LG := Lib.hid (LS.out.trans (hb0.mono LS.out.size))
      clear hT hz1 hb0 LS a0 a1 a2 a3 a4 a5
      go_upto_region 10 with fail
      have hb0 : Below vG.heap.size vG (vG.alloc (.cells #[.int .i64 z1.kind, .bool z1.tr, .int .i64 z1.num, .string z1.str, .slice C0 z1.items.length f0, .slice C0' z1.keys.length f0'] 28)) := (Below.refl _ _).alloc (Nat.le_refl _) _
      have hX : Blk (vG.alloc (.cells #[.int .i64 z1.kind, .bool z1.tr, .int .i64 z1.num, .string z1.str, .slice C0 z1.items.length f0, .slice C0' z1.keys.length f0'] 28)) vG.heap.size 28 #[.int .i64 z1.kind, .bool z1.tr, .int .i64 z1.num, .string z1.str, .slice C0 z1.items.length f0, .slice C0' z1.keys.length f0'] := Blk.new vG _ _
      change Code.wp _ _ _ _ (vG.alloc (.cells #[.int .i64 z1.kind, .bool z1.tr, .int .i64 z1.num, .string z1.str, .slice C0 z1.items.length f0, .slice C0' z1.keys.length f0'] 28))
      have LH := Lib.hid (LG.out.trans (hb0.mono LG.out.size))
      generalize (vG.alloc (.cells #[.int .i64 z1.kind, .bool z1.tr, .int .i64 z1.num, .string z1.str, .slice C0 z1.items.length f0, .slice C0' z1.keys.length f0'] 28)) = vH at *
      have HX13 := Lib.hid hX
      clear hb0 hX  LG
      generalize vG.heap.size = g13 at *
      obtain ⟨a0, a1, a2, a3, a4, a5⟩ : vH.cell? ⟨gz, 0, none⟩ = some (.int .i64 rr.kind) ∧ vH.cell? ⟨gz, 1, none⟩ = some (.bool rr.tr) ∧ vH.cell? ⟨gz, 2, none⟩ = some (.int .i64 rr.num) ∧ vH.cell? ⟨gz, 3, none⟩ = some (.string rr.str) ∧ vH.cell? ⟨gz, 4, none⟩ = some (.slice K1 rr.items.length k1) ∧ vH.cell? ⟨gz, 5, none⟩ = some (.slice K1' rr.keys.length k1') := by
       have h := HF.out.onto LH.out
       exact ⟨h.cell 0, h.cell 1, h.cell 2, h.cell 3, h.cell 4, h.cell 5⟩
      go_wp2_with fail
      refine (get_any rr p Q cQ K1 k1 K1' k1' _ HFine.out (HE6.out.on (HBP.out.trans (LH.out.mono HBP.out.size))) HSp.out (by omega) (HP6.out.on (HBP.out.trans (LH.out.mono HBP.out.size))) (HGP.out.on LH.out)).mono ?_
      clear HX13
      rintro e0 vI (⟨z2, hz2, C, f, C', f', rfl, hT, hb0⟩ | ⟨hno, _⟩)
      rotate_left
      · exact absurd (sets_leads HSET.out) (hno x)
      obtain rfl : x = z2 := leads_unique HFine.out (sets_leads HSET.out) hz2
      have LI := Lib.hid (LH.out.trans (hb0.mono LH.out.size))
      have HTI := Lib.hid hT
      clear hT hz2 hb0 LH a0 a1 a2 a3 a4 a5
      go_upto_region 13 with fail
      have hb0 : Below vI.heap.size vI (vI.alloc (.cells #[.int .i64 x.kind, .bool x.tr, .int .i64 x.num, .string x.str, .slice C x.items.length f, .slice C' x.keys.length f'] 32)) := (Below.refl _ _).alloc (Nat.le_refl _) _
      have hX : Blk (vI.alloc (.cells #[.int .i64 x.kind, .bool x.tr, .int .i64 x.num, .string x.str, .slice C x.items.length f, .slice C' x.keys.length f'] 32)) vI.heap.size 32 #[.int .i64 x.kind, .bool x.tr, .int .i64 x.num, .string x.str, .slice C x.items.length f, .slice C' x.keys.length f'] := Blk.new vI _ _
      change Code.wp _ _ _ _ (vI.alloc (.cells #[.int .i64 x.kind, .bool x.tr, .int .i64 x.num, .string x.str, .slice C x.items.length f, .slice C' x.keys.length f'] 32))
      have HTJ := Lib.hid (HTI.out.on hb0)
      have LJ := Lib.hid (LI.out.trans (hb0.mono LI.out.size))
      generalize (vI.alloc (.cells #[.int .i64 x.kind, .bool x.tr, .int .i64 x.num, .string x.str, .slice C x.items.length f, .slice C' x.keys.length f'] 32)) = vJ at *
      have HXJ := Lib.hid hX
      clear hb0 hX HTI LI
      generalize vI.heap.size = gj at *
      have HSS := Lib.hid (show ∀ w', Below vJ.heap.size vJ w' → (Six w' gz 0 rr K1 k1 K1' k1') ∧ (Six w' G3 0 t B d B' d') ∧ (Six w' (G3 + 1) 0 x D g D' g') ∧ (Six w' gj 0 x C f C' f') from fun w' hb => by
       have hb1 := LJ.out.trans (hb.mono LJ.out.size)
       have hb2 := H10.out.trans ((HBP.out.trans (hb1.mono HBP.out.size)).mono hs10)
       have h1 := HF.out.onto hb1
       have h2 := HB4.out.onto hb2
       have h3 := HB5.out.onto hb2
       have h4 := HXJ.out.onto hb
       exact ⟨⟨h1.cell 0, h1.cell 1, h1.cell 2, h1.cell 3, h1.cell 4, h1.cell 5⟩, ⟨h2.cell 0, h2.cell 1, h2.cell 2, h2.cell 3, h2.cell 4, h2.cell 5⟩, ⟨h3.cell 0, h3.cell 1, h3.cell 2, h3.cell 3, h3.cell 4, h3.cell 5⟩, h4.cell 0, h4.cell 1, h4.cell 2, h4.cell 3, h4.cell 4, h4.cell 5⟩)
      have HPJ := Lib.hid (HP6.out.on (HBP.out.trans (LJ.out.mono HBP.out.size)))
      have HTt := Lib.hid (HT6.out.on (HBP.out.trans (LJ.out.mono HBP.out.size)))
      have HTx := Lib.hid (HX6.out.on (HBP.out.trans (LJ.out.mono HBP.out.size)))
      have HTr := Lib.hid (HGP.out.on LJ.out)
      have HWJ := Lib.hid (HWX.out.trans ((HBP.out.trans (LJ.out.mono HBP.out.size)).mono hwx))
      clear HP6 HT6 HX6 HGP LJ HBP HF HXJ HS6 HS7 HRT6
      refine wp_region_held_drew (S := fun w' => (w'.cell? ⟨gz, 0, none⟩ = some (.int .i64 rr.kind) ∧ w'.cell? ⟨gz, 1, none⟩ = some (.bool rr.tr) ∧ w'.cell? ⟨gz, 2, none⟩ = some (.int .i64 rr.num) ∧ w'.cell? ⟨gz, 3, none⟩ = some (.string rr.str) ∧ w'.cell? ⟨gz, 4, none⟩ = some (.slice K1 rr.items.length k1) ∧ w'.cell? ⟨gz, 5, none⟩ = some (.slice K1' rr.keys.length k1')) ∧ (w'.cell? ⟨G3, 0, none⟩ = some (.int .i64 t.kind) ∧ w'.cell? ⟨G3, 1, none⟩ = some (.bool t.tr) ∧ w'.cell? ⟨G3, 2, none⟩ = some (.int .i64 t.num) ∧ w'.cell? ⟨G3, 3, none⟩ = some (.string t.str) ∧ w'.cell? ⟨G3, 4, none⟩ = some (.slice B t.items.length d) ∧ w'.cell? ⟨G3, 5, none⟩ = some (.slice B' t.keys.length d')) ∧ (w'.cell? ⟨G3 + 1, 0, none⟩ = some (.int .i64 x.kind) ∧ w'.cell? ⟨G3 + 1, 1, none⟩ = some (.bool x.tr) ∧ w'.cell? ⟨G3 + 1, 2, none⟩ = some (.int .i64 x.num) ∧ w'.cell? ⟨G3 + 1, 3, none⟩ = some (.string x.str) ∧ w'.cell? ⟨G3 + 1, 4, none⟩ = some (.slice D x.items.length g) ∧ w'.cell? ⟨G3 + 1, 5, none⟩ = some (.slice D' x.keys.length g')) ∧ (w'.cell? ⟨gj, 0, none⟩ = some (.int .i64 x.kind) ∧ w'.cell? ⟨gj, 1, none⟩ = some (.bool x.tr) ∧ w'.cell? ⟨gj, 2, none⟩ = some (.int .i64 x.num) ∧ w'.cell? ⟨gj, 3, none⟩ = some (.string x.str) ∧ w'.cell? ⟨gj, 4, none⟩ = some (.slice C x.items.length f) ∧ w'.cell? ⟨gj, 5, none⟩ = some (.slice C' x.keys.length f'))) (by kernel_rfl) ?_ (fun hHeld => ?_)
      · exact HSS.out _ (Below.refl _ _).drew
      refine wpAnyH_take (i := 0) (v := ?_) rfl (by kernel_rfl) (by kernel_rfl) (by kernel_rfl) (fun _ _ _ h => h) (Or.inl ⟨by rfl, ?_⟩) (by assumption) ?_
      rotate_left
      ·
       intro wq hSw
       try dsimp only at hSw
       go_simp
       try (with_reducible rfl)
      try simp only [Act.put, List.getElem_toArray, List.getElem_cons_zero, List.setIfInBounds_toArray, List.set_cons_zero, List.set_cons_succ]
      refine wpAnyH_take (i := 1) (v := ?_) rfl (by kernel_rfl) (by kernel_rfl) (by kernel_rfl) (fun _ _ _ h => h) (Or.inl ⟨by rfl, ?_⟩) (by assumption) ?_
      rotate_left
      ·
       intro wq hSw
       try dsimp only at hSw
       go_simp
       try (with_reducible rfl)
      try simp only [Act.put, List.getElem_toArray, List.getElem_cons_succ, List.getElem_cons_zero, List.setIfInBounds_toArray, List.set_cons_zero, List.set_cons_succ]
      refine wpAnyH_take (i := 2) (v := ?_) rfl (by kernel_rfl) (by kernel_rfl) (by kernel_rfl) (fun _ _ _ h => h) (Or.inl ⟨by rfl, ?_⟩) (by assumption) ?_
      rotate_left
      ·
       intro wq hSw
       try dsimp only at hSw
       go_simp
       try (with_reducible rfl)
      try simp only [Act.put, List.getElem_toArray, List.getElem_cons_succ, List.getElem_cons_zero, List.setIfInBounds_toArray, List.set_cons_zero, List.set_cons_succ]
      refine wpAnyH_take (i := 3) (v := ?_) rfl (by kernel_rfl) (by kernel_rfl) (by kernel_rfl) (fun _ _ _ h => h) (Or.inl ⟨by rfl, ?_⟩) (by assumption) ?_
      rotate_left
      ·
       intro wq hSw
       try dsimp only at hSw
       go_simp
       try (with_reducible rfl)
      try simp only [Act.put, List.getElem_toArray, List.getElem_cons_succ, List.getElem_cons_zero, List.setIfInBounds_toArray, List.set_cons_zero, List.set_cons_succ]
      refine wpAnyH_take (i := 4) (v := ?_) rfl (by kernel_rfl) (by kernel_rfl) (by kernel_rfl) (fun _ _ _ h => h) (Or.inl ⟨by rfl, ?_⟩) (by assumption) ?_
      rotate_left
      ·
       intro wq hSw
       try dsimp only at hSw
       go_simp
       try (with_reducible rfl)
      try simp only [Act.put, List.getElem_toArray, List.getElem_cons_succ, List.getElem_cons_zero, List.setIfInBounds_toArray, List.set_cons_zero, List.set_cons_succ]
      refine wpAnyH_take (i := 5) (v := ?_) rfl (by kernel_rfl) (by kernel_rfl) (by kernel_rfl) (fun _ _ _ h => h) (Or.inl ⟨by rfl, ?_⟩) (by assumption) ?_
      rotate_left
      ·
       intro wq hSw
       try dsimp only at hSw
       go_simp
       try (with_reducible rfl)
      try simp only [Act.put, List.getElem_toArray, List.getElem_cons_succ, List.getElem_cons_zero, List.setIfInBounds_toArray, List.set_cons_zero, List.set_cons_succ]
      refine wpAnyH_take (i := 6) (v := ?_) rfl (by kernel_rfl) (by kernel_rfl) (by kernel_rfl) (fun _ _ _ h => h) (Or.inl ⟨by rfl, ?_⟩) (by assumption) ?_
      rotate_left
      ·
       intro wq hSw
       try dsimp only at hSw
       go_simp
       try (with_reducible rfl)
      try simp only [Act.put, List.getElem_toArray, List.getElem_cons_succ, List.getElem_cons_zero, List.setIfInBounds_toArray, List.set_cons_zero, List.set_cons_succ]
      refine wpAnyH_take (i := 7) (v := ?_) rfl (by kernel_rfl) (by kernel_rfl) (by kernel_rfl) (fun _ _ _ h => h) (Or.inl ⟨by rfl, ?_⟩) (by assumption) ?_
      rotate_left
      ·
       intro wq hSw
       try dsimp only at hSw
       go_simp
       try (with_reducible rfl)
      try simp only [Act.put, List.getElem_toArray, List.getElem_cons_succ, List.getElem_cons_zero, List.setIfInBounds_toArray, List.set_cons_zero, List.set_cons_succ]
      refine wpAnyH_take (i := 9) (v := ?_) rfl (by kernel_rfl) (by kernel_rfl) (by kernel_rfl) (fun _ _ _ h => h) (Or.inl ⟨by rfl, ?_⟩) (by assumption) ?_
      rotate_left
      ·
       intro wq hSw
       try dsimp only at hSw
       go_simp
       try (with_reducible rfl)
      try simp only [Act.put, List.getElem_toArray, List.getElem_cons_succ, List.getElem_cons_zero, List.setIfInBounds_toArray, List.set_cons_zero, List.set_cons_succ]
      refine wpAnyH_take (i := 10) (v := ?_) rfl (by kernel_rfl) (by kernel_rfl) (by kernel_rfl) (fun _ _ _ h => h) (Or.inl ⟨by rfl, ?_⟩) (by assumption) ?_
      rotate_left
      ·
       intro wq hSw
       try dsimp only at hSw
       go_simp
       try (with_reducible rfl)
      try simp only [Act.put, List.getElem_toArray, List.getElem_cons_succ, List.getElem_cons_zero, List.setIfInBounds_toArray, List.set_cons_zero, List.set_cons_succ]
      refine wpAnyH_take (i := 11) (v := ?_) rfl (by kernel_rfl) (by kernel_rfl) (by kernel_rfl) (fun _ _ _ h => h) (Or.inl ⟨by rfl, ?_⟩) (by assumption) ?_
      rotate_left
      ·
       intro wq hSw
       try dsimp only at hSw
       go_simp
       try (with_reducible rfl)
      try simp only [Act.put, List.getElem_toArray, List.getElem_cons_succ, List.getElem_cons_zero, List.setIfInBounds_toArray, List.set_cons_zero, List.set_cons_succ]
      refine wpAnyH_ready (rs := [8]) (by kernel_rfl) (by simp) ?_
      refine AllReadyH.cons rfl (fun K0 hK => ?_) ?_
      rotate_left
      · exact AllReadyH.nil
      go_simp
      refine (ref_cells _ rr K1 k1 K1' k1' _ HFine.out.le (Nat.le_refl _) (HTr.out.on (Below.refl _ _).drew)).mono ?_
      rintro e0 x1 ⟨R1, r1, R1', r1', rfl, hU, hb0⟩
      unfold T.agg
      have J1 := Lib.hid (show Below vJ.heap.size vJ x1 from (Below.refl vJ.heap.size vJ).drew.trans hb0)
      have HU := Lib.hid (show TV x1 (· < x1.heap.size) rr R1 r1 R1' r1' from hU.wide fun b hb => by
       have h1 := hb0.size
       rcases hb with hb | hb
       · exact Nat.lt_of_lt_of_le hb h1
       · exact hb.2)
      clear hU hb0
      go_wp2_with fail
      refine hK.out _ _ ?_ (fun hHeld => ?_)
      · exact HSS.out _ (J1.out)
      clear hK K0
      try simp only [Act.put, List.getElem_toArray, List.getElem_cons_succ, List.getElem_cons_zero, List.setIfInBounds_toArray, List.set_cons_zero, List.set_cons_succ]
      refine wpAnyH_ready (rs := [12]) (by kernel_rfl) (by simp) ?_
      refine AllReadyH.cons rfl (fun K0 hK => ?_) ?_
      rotate_left
      · exact AllReadyH.nil
      go_simp
      refine (rset_any t x rr p Q cQ B d B' d' D g D' g' _ HNI.out HSET.out hpc (by omega) (HPJ.out.on J1.out) (HTt.out.on J1.out) (HTx.out.on J1.out)).mono ?_
      rintro e0 x2 ⟨M, m, M', m', rfl, hU, hb0⟩
      have J2 := Lib.hid (J1.out.trans (hb0.mono J1.out.size))
      have HU2 := Lib.hid (HU.out.on hb0)
      have HM := Lib.hid hU
      clear hU hb0 HU
      go_wp2_with fail
      refine hK.out _ _ ?_ (fun hHeld => ?_)
      · exact HSS.out _ (J2.out)
      clear hK K0
      try simp only [Act.put, List.getElem_toArray, List.getElem_cons_succ, List.getElem_cons_zero, List.setIfInBounds_toArray, List.set_cons_zero, List.set_cons_succ]
      refine wpAnyH_ready (rs := [13]) (by kernel_rfl) (by simp) ?_
      refine AllReadyH.cons rfl (fun K0 hK => ?_) ?_
      rotate_left
      · exact AllReadyH.nil
      go_simp
      refine (rsame_cells rr R1 r1 R1' r1' M m M' m' _ HFine.out.le HFine.out.small HU2.out HM.out).mono ?_
      rintro e0 x3 ⟨rfl, hb0⟩
      have J3 := Lib.hid (J2.out.trans (hb0.mono J2.out.size))
      clear hb0 HU2 HM
      go_wp2_with fail
      refine hK.out _ _ ?_ (fun hHeld => ?_)
      · exact HSS.out _ (J3.out)
      clear hK K0
      try simp only [Act.put, List.getElem_toArray, List.getElem_cons_succ, List.getElem_cons_zero, List.setIfInBounds_toArray, List.set_cons_zero, List.set_cons_succ]
      refine wpAnyH_take (i := 14) (v := ?_) rfl (by kernel_rfl) (by kernel_rfl) (by kernel_rfl) (fun _ _ _ h => h) (Or.inl ⟨by rfl, ?_⟩) (by assumption) ?_
      rotate_left
      ·
       intro wq hSw
       try dsimp only at hSw
       go_simp
       try (with_reducible rfl)
      try simp only [Act.put, List.getElem_toArray, List.getElem_cons_succ, List.getElem_cons_zero, List.setIfInBounds_toArray, List.set_cons_zero, List.set_cons_succ]
      refine wpAnyH_take (i := 15) (v := ?_) rfl (by kernel_rfl) (by kernel_rfl) (by kernel_rfl) (fun _ _ _ h => h) (Or.inl ⟨by rfl, ?_⟩) (by assumption) ?_
      rotate_left
      ·
       intro wq hSw
       try dsimp only at hSw
       go_simp
       try (with_reducible rfl)
      try simp only [Act.put, List.getElem_toArray, List.getElem_cons_succ, List.getElem_cons_zero, List.setIfInBounds_toArray, List.set_cons_zero, List.set_cons_succ]
      refine wpAnyH_take (i := 16) (v := ?_) rfl (by kernel_rfl) (by kernel_rfl) (by kernel_rfl) (fun _ _ _ h => h) (Or.inl ⟨by rfl, ?_⟩) (by assumption) ?_
      rotate_left
      ·
       intro wq hSw
       try dsimp only at hSw
       go_simp
       try (with_reducible rfl)
      try simp only [Act.put, List.getElem_toArray, List.getElem_cons_succ, List.getElem_cons_zero, List.setIfInBounds_toArray, List.set_cons_zero, List.set_cons_succ]
      refine wpAnyH_take (i := 18) (v := ?_) rfl (by kernel_rfl) (by kernel_rfl) (by kernel_rfl) (fun _ _ _ h => h) (Or.inl ⟨by rfl, ?_⟩) (by assumption) ?_
      rotate_left
      ·
       intro wq hSw
       try dsimp only at hSw
       go_simp
       try (with_reducible rfl)
      try simp only [Act.put, List.getElem_toArray, List.getElem_cons_succ, List.getElem_cons_zero, List.setIfInBounds_toArray, List.set_cons_zero, List.set_cons_succ]
      refine wpAnyH_ready (rs := [17]) (by kernel_rfl) (by simp) ?_
      refine AllReadyH.cons rfl (fun K0 hK => ?_) ?_
      rotate_left
      · exact AllReadyH.nil
      go_simp
      refine (ref_cells _ x C f C' f' _ HXI.out.le (Nat.le_refl _) (HTJ.out.on J3.out)).mono ?_
      rintro e0 x4 ⟨N1, n2, N1', n2', rfl, hU, hb0⟩
      unfold T.agg
      have J4 := Lib.hid (J3.out.trans (hb0.mono J3.out.size))
      have HU := Lib.hid (show TV x4 (· < x4.heap.size) x N1 n2 N1' n2' from hU.wide fun b hb => by
       have h1 := hb0.size
       rcases hb with hb | hb
       · exact Nat.lt_of_lt_of_le hb h1
       · exact hb.2)
      clear hU hb0
      go_wp2_with fail
      refine hK.out _ _ ?_ (fun hHeld => ?_)
      · exact HSS.out _ (J4.out)
      clear hK K0
      try simp only [Act.put, List.getElem_toArray, List.getElem_cons_succ, List.getElem_cons_zero, List.setIfInBounds_toArray, List.set_cons_zero, List.set_cons_succ]
      refine wpAnyH_ready (rs := [19]) (by kernel_rfl) (by simp) ?_
      refine AllReadyH.cons rfl (fun K0 hK => ?_) ?_
      rotate_left
      · exact AllReadyH.nil
      go_simp
      refine (rsame_cells x N1 n2 N1' n2' D g D' g' _ HXI.out.le HXI.out.small HU.out (HTx.out.on J4.out)).mono ?_
      rintro e0 x5 ⟨rfl, hb0⟩
      have J5 := Lib.hid (J4.out.trans (hb0.mono J4.out.size))
      clear hb0
      go_wp2_with fail
      refine hK.out _ _ ?_ (fun hHeld => ?_)
      · exact HSS.out _ (J5.out)
      clear hK K0
      try simp only [Act.put, List.getElem_toArray, List.getElem_cons_succ, List.getElem_cons_zero, List.setIfInBounds_toArray, List.set_cons_zero, List.set_cons_succ]
      refine wpAnyH_take (i := 20) (v := ?_) rfl (by kernel_rfl) (by kernel_rfl) (by kernel_rfl) (fun _ _ _ h => h) (Or.inl ⟨by rfl, ?_⟩) (by assumption) ?_
      rotate_left
      ·
       intro wq hSw
       try dsimp only at hSw
       go_simp
       try (with_reducible rfl)
      refine wpAnyH_take (i := 21) (v := ?_) rfl (by kernel_rfl) (by kernel_rfl) (by kernel_rfl) (fun _ _ _ h => h) (Or.inl ⟨by rfl, ?_⟩) (by assumption) ?_
      rotate_left
      ·
       intro wq hSw
       try dsimp only at hSw
       go_simp
       try (with_reducible rfl)
      try simp only [Act.put, List.getElem_toArray, List.getElem_cons_succ, List.getElem_cons_zero, List.setIfInBounds_toArray, List.set_cons_zero, List.set_cons_succ]
      refine wpAnyH_done (by kernel_rfl) ?_ _
      go_wp2_with fail
      go_ret
      exact ⟨rfl, HWJ.out.trans (J5.out.mono HWJ.out.size)⟩
     ·
      skip
      have HBv3 := Lib.hid (show Below WX.heap.size WX v3 from (HBv2.out).trans (hb0.mono (HBv2.out).size))
      have hz1 := HZ_2Z
      have HNO := Lib.hid hno
      clear hno
      have HZ_3 := Lib.hid (HZ_2.out.onto hb0)
      clear HZ_2
      clear hb0
      go_wp2_with fail
      refine hK.out _ _ ?_ (fun hHeld => ?_)
      · exact HS6.out _ (HBv3.out)
      clear hK K0
      try simp only [Act.put, List.getElem_toArray, List.getElem_cons_succ, List.getElem_cons_zero, List.setIfInBounds_toArray, List.set_cons_zero, List.set_cons_succ]
      refine wpAnyH_take (i := 5) (v := ?_) rfl (by kernel_rfl) (by kernel_rfl) (by kernel_rfl) (fun _ _ _ h => h) (Or.inl ⟨by rfl, ?_⟩) (by assumption) ?_
      rotate_left
      ·
       intro wq hSw
       try dsimp only at hSw
       go_simp
       try (with_reducible rfl)
      try simp only [Act.put, List.getElem_toArray, List.getElem_cons_succ, List.getElem_cons_zero, List.setIfInBounds_toArray, List.set_cons_zero, List.set_cons_succ]
      refine wpAnyH_take (i := 6) (v := ?_) rfl (by kernel_rfl) (by kernel_rfl) (by kernel_rfl) (fun _ _ _ h => h) (Or.inl ⟨by rfl, ?_⟩) (by assumption) ?_
      rotate_left
      ·
       intro wq hSw
       try dsimp only at hSw
       go_simp
       try (with_reducible rfl)
      try simp only [Act.put, List.getElem_toArray, List.getElem_cons_succ, List.getElem_cons_zero, List.setIfInBounds_toArray, List.set_cons_zero, List.set_cons_succ]
      refine wpAnyH_take (i := 7) (v := ?_) rfl (by kernel_rfl) (by kernel_rfl) (by kernel_rfl) (fun _ _ _ h => h) (Or.inl ⟨by rfl, ?_⟩) (by assumption) ?_
      rotate_left
      ·
       intro wq hSw
       try dsimp only at hSw
       go_simp
       try (with_reducible rfl)
      try simp only [Act.put, List.getElem_toArray, List.getElem_cons_succ, List.getElem_cons_zero, List.setIfInBounds_toArray, List.set_cons_zero, List.set_cons_succ]
      have q0 : v3.cell? ⟨gz, 0, none⟩ = some (.int .i64 0) := HZ_3.out.cell 0
      have q1 : v3.cell? ⟨gz, 1, none⟩ = some (.bool false) := HZ_3.out.cell 1
      have q2 : v3.cell? ⟨gz, 2, none⟩ = some (.int .i64 0) := HZ_3.out.cell 2
      have q3 : v3.cell? ⟨gz, 3, none⟩ = some (.string ⟨#[]⟩) := HZ_3.out.cell 3
      have q4 : v3.cell? ⟨gz, 4, none⟩ = some (.slice none 0 0) := HZ_3.out.cell 4
      have q5 : v3.cell? ⟨gz, 5, none⟩ = some (.slice none 0 0) := HZ_3.out.cell 5
      have u0 := HZ_3.out.free 0
      have u1 := HZ_3.out.free 1
      have u2 := HZ_3.out.free 2
      have u3 := HZ_3.out.free 3
      have u4 := HZ_3.out.free 4
      have u5 := HZ_3.out.free 5
      refine wpAnyH_ready (rs := [9]) (by kernel_rfl) (by simp) ?_
      refine AllReadyH.cons rfl (fun K0 hK => ?_) ?_
      rotate_left
      · exact AllReadyH.nil
      go_simp
      refine hK.out _ _ ?_ (fun hHeld => ?_)
      ·
       have hS := HS6.out _ (HBv3.out)
       have hne : ∀ b o, b ≠ gz → (((((((v3.setCell ⟨gz, 0, none⟩ (.int .i64 0)).setCell ⟨gz, 1, none⟩ (.bool false)).setCell ⟨gz, 2, none⟩ (.int .i64 0)).setCell ⟨gz, 3, none⟩ (.string ⟨#[]⟩)).setCell ⟨gz, 4, none⟩ (.slice none 0 0)).setCell ⟨gz, 5, none⟩ (.slice none 0 0))).cell? ⟨b, o, none⟩ = v3.cell? ⟨b, o, none⟩ := fun b o hb => World.cell?_of_block (put6_heap hb)
       have g1 : gx ≠ gz := by omega
       have g2 : G3 + 1 ≠ gz := by omega
       try dsimp only
       rw [hne gx _ g1, hne gx _ g1, hne gx _ g1, hne gx _ g1, hne gx _ g1, hne gx _ g1, hne (G3 + 1) _ g2, hne (G3 + 1) _ g2, hne (G3 + 1) _ g2, hne (G3 + 1) _ g2, hne (G3 + 1) _ g2, hne (G3 + 1) _ g2]
       exact hS
      clear hK K0
      try simp only [Act.put, List.getElem_toArray, List.getElem_cons_succ, List.getElem_cons_zero, List.setIfInBounds_toArray, List.set_cons_zero, List.set_cons_succ]
      refine wpAnyH_take (i := 10) (v := ?_) rfl (by kernel_rfl) (by kernel_rfl) (by kernel_rfl) (fun _ _ _ h => h) (Or.inl ⟨by rfl, ?_⟩) (by assumption) ?_
      rotate_left
      ·
       intro wq hSw
       try dsimp only at hSw
       go_simp
       try (with_reducible rfl)
      try simp only [Act.put, List.getElem_toArray, List.getElem_cons_succ, List.getElem_cons_zero, List.setIfInBounds_toArray, List.set_cons_zero, List.set_cons_succ]
      refine wpAnyH_done (by kernel_rfl) ?_ _
      have hlz := HZ_3.out.lt
      have hzs : (((((((v3.setCell ⟨gz, 0, none⟩ (.int .i64 0)).setCell ⟨gz, 1, none⟩ (.bool false)).setCell ⟨gz, 2, none⟩ (.int .i64 0)).setCell ⟨gz, 3, none⟩ (.string ⟨#[]⟩)).setCell ⟨gz, 4, none⟩ (.slice none 0 0)).setCell ⟨gz, 5, none⟩ (.slice none 0 0))).heap.size = v3.heap.size := put6_size
      have HBP := Lib.hid (show Below WX.heap.size WX ((((((v3.setCell ⟨gz, 0, none⟩ (.int .i64 0)).setCell ⟨gz, 1, none⟩ (.bool false)).setCell ⟨gz, 2, none⟩ (.int .i64 0)).setCell ⟨gz, 3, none⟩ (.string ⟨#[]⟩)).setCell ⟨gz, 4, none⟩ (.slice none 0 0)).setCell ⟨gz, 5, none⟩ (.slice none 0 0)) from put6_below HBv3.out hgz)
      have HF := Lib.hid (show Blk ((((((v3.setCell ⟨gz, 0, none⟩ (.int .i64 0)).setCell ⟨gz, 1, none⟩ (.bool false)).setCell ⟨gz, 2, none⟩ (.int .i64 0)).setCell ⟨gz, 3, none⟩ (.string ⟨#[]⟩)).setCell ⟨gz, 4, none⟩ (.slice none 0 0)).setCell ⟨gz, 5, none⟩ (.slice none 0 0)) gz 32 #[.int .i64 0, .bool false, .int .i64 0, .string ⟨#[]⟩, .slice none 0 0, .slice none 0 0] from res_put HZ_3.out rfl T.zero none 0 none 0)
      clear q0 q1 q2 q3 q4 q5 u0 u1 u2 u3 u4 u5 HZ_3 hlz hzs
      generalize ((((((v3.setCell ⟨gz, 0, none⟩ (.int .i64 0)).setCell ⟨gz, 1, none⟩ (.bool false)).setCell ⟨gz, 2, none⟩ (.int .i64 0)).setCell ⟨gz, 3, none⟩ (.string ⟨#[]⟩)).setCell ⟨gz, 4, none⟩ (.slice none 0 0)).setCell ⟨gz, 5, none⟩ (.slice none 0 0)) = vP at *
      go_upto_region 7 with fail
      refine wp_region_held_drew (S := fun w' => (w'.cell? ⟨G3, 0, none⟩ = some (.int .i64 t.kind) ∧ w'.cell? ⟨G3, 1, none⟩ = some (.bool t.tr) ∧ w'.cell? ⟨G3, 2, none⟩ = some (.int .i64 t.num) ∧ w'.cell? ⟨G3, 3, none⟩ = some (.string t.str) ∧ w'.cell? ⟨G3, 4, none⟩ = some (.slice B t.items.length d) ∧ w'.cell? ⟨G3, 5, none⟩ = some (.slice B' t.keys.length d')) ∧ (w'.cell? ⟨gx, 0, none⟩ = some (.int .i64 t.kind) ∧ w'.cell? ⟨gx, 1, none⟩ = some (.bool t.tr) ∧ w'.cell? ⟨gx, 2, none⟩ = some (.int .i64 t.num) ∧ w'.cell? ⟨gx, 3, none⟩ = some (.string t.str) ∧ w'.cell? ⟨gx, 4, none⟩ = some (.slice E t.items.length e1) ∧ w'.cell? ⟨gx, 5, none⟩ = some (.slice E' t.keys.length e1'))) (by kernel_rfl) ?_ (fun hHeld => ?_)
      · exact HS7.out _ HBP.out.drew
      refine wpAnyH_take (i := 0) (v := ?_) rfl (by kernel_rfl) (by kernel_rfl) (by kernel_rfl) (fun _ _ _ h => h) (Or.inl ⟨by rfl, ?_⟩) (by assumption) ?_
      rotate_left
      ·
       intro wq hSw
       try dsimp only at hSw
       go_simp
       try (with_reducible rfl)
      try simp only [Act.put, List.getElem_toArray, List.getElem_cons_zero, List.setIfInBounds_toArray, List.set_cons_zero, List.set_cons_succ]
      refine wpAnyH_take (i := 2) (v := ?_) rfl (by kernel_rfl) (by kernel_rfl) (by kernel_rfl) (fun _ _ _ h => h) (Or.inl ⟨by rfl, ?_⟩) (by assumption) ?_
      rotate_left
      ·
       intro wq hSw
       try dsimp only at hSw
       go_simp
       try (with_reducible rfl)
      try simp only [Act.put, List.getElem_toArray, List.getElem_cons_succ, List.getElem_cons_zero, List.setIfInBounds_toArray, List.set_cons_zero, List.set_cons_succ]
      refine wpAnyH_ready (rs := [1]) (by kernel_rfl) (by simp) ?_
      refine AllReadyH.cons rfl (fun K0 hK => ?_) ?_
      rotate_left
      · exact AllReadyH.nil
      go_simp
      refine (ref_cells _ t E e1 E' e1' _ HNI.out.le (Nat.le_refl _) (HRT6.out.on HBP.out.drew)).mono ?_
      rintro e0 vR ⟨R1, r1, R1', r1', rfl, hU, hb0⟩
      unfold T.agg
      have LR := Lib.hid (show Below vP.heap.size vP vR from (Below.refl vP.heap.size vP).drew.trans hb0)
      have HU := Lib.hid (show TV vR (· < vR.heap.size) t R1 r1 R1' r1' from hU.wide fun b hb => by
       have h1 := hb0.size
       rcases hb with hb | hb
       · exact Nat.lt_of_lt_of_le hb h1
       · exact hb.2)
      clear hU hb0
      go_wp2_with fail
      refine hK.out _ _ ?_ (fun hHeld => ?_)
      · exact HS7.out _ ((HBP.out.trans (LR.out.mono HBP.out.size)))
      clear hK K0
      try simp only [Act.put, List.getElem_toArray, List.getElem_cons_succ, List.getElem_cons_zero, List.setIfInBounds_toArray, List.set_cons_zero, List.set_cons_succ]
      refine wpAnyH_ready (rs := [3]) (by kernel_rfl) (by simp) ?_
      refine AllReadyH.cons rfl (fun K0 hK => ?_) ?_
      rotate_left
      · exact AllReadyH.nil
      go_simp
      refine (rsame_cells t R1 r1 R1' r1' B d B' d' _ HNI.out.le HNI.out.small HU.out (HT6.out.on (HBP.out.trans (LR.out.mono HBP.out.size)))).mono ?_
      rintro e0 vS ⟨rfl, hb0⟩
      have LS := Lib.hid (LR.out.trans (hb0.mono LR.out.size))
      clear hb0 LR HU
      go_wp2_with fail
      refine hK.out _ _ ?_ (fun hHeld => ?_)
      · exact HS7.out _ ((HBP.out.trans (LS.out.mono HBP.out.size)))
      clear hK K0
      try simp only [Act.put, List.getElem_toArray, List.getElem_cons_succ, List.getElem_cons_zero, List.setIfInBounds_toArray, List.set_cons_zero, List.set_cons_succ]
      refine wpAnyH_take (i := 4) (v := ?_) rfl (by kernel_rfl) (by kernel_rfl) (by kernel_rfl) (fun _ _ _ h => h) (Or.inl ⟨by rfl, ?_⟩) (by assumption) ?_
      rotate_left
      ·
       intro wq hSw
       try dsimp only at hSw
       go_simp
       try (with_reducible rfl)
      try simp only [Act.put, List.getElem_toArray, List.getElem_cons_succ, List.getElem_cons_zero, List.setIfInBounds_toArray, List.set_cons_zero, List.set_cons_succ]
      refine wpAnyH_done (by kernel_rfl) ?_ _
      obtain ⟨a0, a1, a2, a3, a4, a5⟩ := (HS7.out vS (HBP.out.trans (LS.out.mono HBP.out.size))).1
      go_wp2_with fail
      refine (rget_any t p Q cQ B d B' d' _ HNI.out.fine (by omega) (HP6.out.on (HBP.out.trans (LS.out.mono HBP.out.size))) (HT6.out.on (HBP.out.trans (LS.out.mono HBP.out.size)))).mono ?_
      rintro e0 vG (⟨z1, hz1, _⟩ | ⟨_, rfl, hb0⟩)
      · exact absurd hz1 (HNO.out z1)
      have LG := Lib.hid (LS.out.trans (hb0.mono LS.out.size))
      clear hb0 LS a0 a1 a2 a3 a4 a5
      go_upto_region 10 with fail
      have hb0 : Below vG.heap.size vG (vG.alloc (.cells #[.int .i64 0, .bool false, .int .i64 0, .string ⟨#[]⟩, .slice none 0 0, .slice none 0 0] 28)) := (Below.refl _ _).alloc (Nat.le_refl _) _
      have hX : Blk (vG.alloc (.cells #[.int .i64 0, .bool false, .int .i64 0, .string ⟨#[]⟩, .slice none 0 0, .slice none 0 0] 28)) vG.heap.size 28 #[.int .i64 0, .bool false, .int .i64 0, .string ⟨#[]⟩, .slice none 0 0, .slice none 0 0] := Blk.new vG _ _
      change Code.wp _ _ _ _ (vG.alloc (.cells #[.int .i64 0, .bool false, .int .i64 0, .string ⟨#[]⟩, .slice none 0 0, .slice none 0 0] 28))
      have LH := Lib.hid (LG.out.trans (hb0.mono LG.out.size))
      generalize (vG.alloc (.cells #[.int .i64 0, .bool false, .int .i64 0, .string ⟨#[]⟩, .slice none 0 0, .slice none 0 0] 28)) = vH at *
      have HX13 := Lib.hid hX
      clear hb0 hX  LG
      generalize vG.heap.size = g13 at *
      obtain ⟨a0, a1, a2, a3, a4, a5⟩ : vH.cell? ⟨gz, 0, none⟩ = some (.int .i64 0) ∧ vH.cell? ⟨gz, 1, none⟩ = some (.bool false) ∧ vH.cell? ⟨gz, 2, none⟩ = some (.int .i64 0) ∧ vH.cell? ⟨gz, 3, none⟩ = some (.string ⟨#[]⟩) ∧ vH.cell? ⟨gz, 4, none⟩ = some (.slice none 0 0) ∧ vH.cell? ⟨gz, 5, none⟩ = some (.slice none 0 0) := by
       have h := HF.out.onto LH.out
       exact ⟨h.cell 0, h.cell 1, h.cell 2, h.cell 3, h.cell 4, h.cell 5⟩
      have HWH := Lib.hid (HWX.out.trans ((HBP.out.trans (LH.out.mono HBP.out.size)).mono hwx))
      clear LH HBP
      go_wp2_with fail
      refine (ref_zero _).mono ?_
      rintro e9 w9 ⟨U, f3, U', f3', rfl, hU, hb0⟩
      have HWI := Lib.hid (HWH.out.trans (hb0.mono HWH.out.size))
      have HU := Lib.hid hU
      clear hb0 hU
      go_wp2_with fail
      refine (rsame_zero U f3 U' f3' _ HU.out).mono ?_
      rintro e8 w10 ⟨rfl, hb0⟩
      have HWJ := Lib.hid (HWI.out.trans (hb0.mono HWI.out.size))
      clear hb0
      go_wp2_with fail
      go_ret
      exact ⟨rfl, HWJ.out⟩
   ·
    skip
    go_simp
    have hb0 : Below WX.drew.heap.size WX.drew (WX.alloc (.cells #[.int .i64 0, .bool false, .int .i64 0, .string ⟨#[]⟩, .slice none 0 0, .slice none 0 0] 32)).drew := (fun (h : Below WX.heap.size WX (WX.alloc (.cells #[.int .i64 0, .bool false, .int .i64 0, .string ⟨#[]⟩, .slice none 0 0, .slice none 0 0] 32)).drew) => (⟨h.os, h.tape, h.output, h.size, h.block⟩ : Below WX.drew.heap.size WX.drew (WX.alloc (.cells #[.int .i64 0, .bool false, .int .i64 0, .string ⟨#[]⟩, .slice none 0 0, .slice none 0 0] 32)).drew)) ((Below.refl _ _).alloc (Nat.le_refl _) _).drew
    have HZ_1 := Lib.hid (show Blk (WX.alloc (.cells #[.int .i64 0, .bool false, .int .i64 0, .string ⟨#[]⟩, .slice none 0 0, .slice none 0 0] 32)).drew WX.heap.size 32 #[.int .i64 0, .bool false, .int .i64 0, .string ⟨#[]⟩, .slice none 0 0, .slice none 0 0] from Blk.new WX _ _)
    have HBv1 := Lib.hid (show Below WX.heap.size WX (WX.alloc (.cells #[.int .i64 0, .bool false, .int .i64 0, .string ⟨#[]⟩, .slice none 0 0, .slice none 0 0] 32)).drew from ((Below.refl WX.heap.size WX).drew).trans (hb0.mono ((Below.refl WX.heap.size WX).drew).size))
    have hzl := HZ_1.out.lt
    have hzb := ((Below.refl WX.heap.size WX).drew).size
    clear hb0
    refine hK.out _ _ ?_ (fun hHeld => ?_)
    · exact HS6.out _ (HBv1.out)
    clear hK K0
    try simp only [Act.put, List.getElem_toArray, List.getElem_cons_succ, List.getElem_cons_zero, List.setIfInBounds_toArray, List.set_cons_zero, List.set_cons_succ]
    generalize (WX.alloc (.cells #[.int .i64 0, .bool false, .int .i64 0, .string ⟨#[]⟩, .slice none 0 0, .slice none 0 0] 32)).drew = v1 at *
    obtain ⟨gz, hgzE⟩ : ∃ gz, gz = WX.heap.size := ⟨_, rfl⟩
    have hgz : WX.heap.size ≤ gz := by omega
    have HZ_1' := Lib.hid (show Blk v1 gz 32 #[.int .i64 0, .bool false, .int .i64 0, .string ⟨#[]⟩, .slice none 0 0, .slice none 0 0] from by rw [hgzE]; exact HZ_1.out)
    rw [← hgzE]
    clear hgzE hzb hzl HZ_1
    refine wpAnyH_ready (rs := [3]) (by kernel_rfl) (by simp) ?_
    refine AllReadyH.cons rfl (fun K0 hK => ?_) ?_
    rotate_left
    · exact AllReadyH.nil
    go_simp
    refine (real_cells x D g D' g' _ HXI.out.le HXI.out.small (HX6.out.on HBv1.out)).mono ?_
    rintro e0 v2 ⟨F, f1, F', f1', rfl, hT, hb0⟩
    unfold T.agg
    have HZ_2 := Lib.hid (HZ_1'.out.onto hb0)
    clear HZ_1'
    have HRX_2 := Lib.hid (show TV v2 (· < v2.heap.size) x F f1 F' f1' from hT.wide fun b hb => hb.2)
    have HBv2 := Lib.hid (show Below WX.heap.size WX v2 from (HBv1.out).trans (hb0.mono (HBv1.out).size))
    clear hT hb0
    go_wp2_with fail
    refine hK.out _ _ ?_ (fun hHeld => ?_)
    · exact HS6.out _ (HBv2.out)
    clear hK K0
    try simp only [Act.put, List.getElem_toArray, List.getElem_cons_succ, List.getElem_cons_zero, List.setIfInBounds_toArray, List.set_cons_zero, List.set_cons_succ]
    refine wpAnyH_ready (rs := [4]) (by kernel_rfl) (by simp) ?_
    refine AllReadyH.cons rfl (fun K0 hK => ?_) ?_
    rotate_left
    · exact AllReadyH.nil
    go_simp
    have HZ_2Z := HZ_2.out.lt
    refine (set_any t x p Q cQ E e1 E' e1' F f1 F' f1' _ HNI.out HXI.out (HE6.out.on HBv2.out) HSp.out (by omega) (HP6.out.on HBv2.out) (HRT6.out.on HBv2.out) HRX_2.out).mono ?_
    rintro e0 v3 (⟨y0, rr, hy0, hset, K1, k1, K1', k1', rfl, hT, hb0⟩ | ⟨hno, rfl, hb0⟩)
    ·
     skip
     have HBv3 := Lib.hid (show Below WX.heap.size WX v3 from (HBv2.out).trans (hb0.mono (HBv2.out).size))
     have hz1 := HZ_2Z
     have HGOT := Lib.hid (show TV v3 (fun b => b ≠ gz ∧ b < v3.heap.size) rr K1 k1 K1' k1' from hT.wide fun b hb => ⟨by omega, hb.2⟩)
     have HSET := Lib.hid hset
     have HLE := Lib.hid hy0
     clear hT hset hy0
     have HZ_3 := Lib.hid (HZ_2.out.onto hb0)
     clear HZ_2
     clear hb0
     go_wp2_with fail
     refine hK.out _ _ ?_ (fun hHeld => ?_)
     · exact HS6.out _ (HBv3.out)
     clear hK K0
     try simp only [Act.put, List.getElem_toArray, List.getElem_cons_succ, List.getElem_cons_zero, List.setIfInBounds_toArray, List.set_cons_zero, List.set_cons_succ]
     refine wpAnyH_take (i := 5) (v := ?_) rfl (by kernel_rfl) (by kernel_rfl) (by kernel_rfl) (fun _ _ _ h => h) (Or.inl ⟨by rfl, ?_⟩) (by assumption) ?_
     rotate_left
     ·
      intro wq hSw
      try dsimp only at hSw
      go_simp
      try (with_reducible rfl)
     try simp only [Act.put, List.getElem_toArray, List.getElem_cons_succ, List.getElem_cons_zero, List.setIfInBounds_toArray, List.set_cons_zero, List.set_cons_succ]
     refine wpAnyH_take (i := 6) (v := ?_) rfl (by kernel_rfl) (by kernel_rfl) (by kernel_rfl) (fun _ _ _ h => h) (Or.inl ⟨by rfl, ?_⟩) (by assumption) ?_
     rotate_left
     ·
      intro wq hSw
      try dsimp only at hSw
      go_simp
      try (with_reducible rfl)
     try simp only [Act.put, List.getElem_toArray, List.getElem_cons_succ, List.getElem_cons_zero, List.setIfInBounds_toArray, List.set_cons_zero, List.set_cons_succ]
     refine wpAnyH_take (i := 7) (v := ?_) rfl (by kernel_rfl) (by kernel_rfl) (by kernel_rfl) (fun _ _ _ h => h) (Or.inl ⟨by rfl, ?_⟩) (by assumption) ?_
     rotate_left
     ·
      intro wq hSw
      try dsimp only at hSw
      go_simp
      try (with_reducible rfl)
     try simp only [Act.put, List.getElem_toArray, List.getElem_cons_succ, List.getElem_cons_zero, List.setIfInBounds_toArray, List.set_cons_zero, List.set_cons_succ]
     have q0 : v3.cell? ⟨gz, 0, none⟩ = some (.int .i64 0) := HZ_3.out.cell 0
     have q1 : v3.cell? ⟨gz, 1, none⟩ = some (.bool false) := HZ_3.out.cell 1
     have q2 : v3.cell? ⟨gz, 2, none⟩ = some (.int .i64 0) := HZ_3.out.cell 2
     have q3 : v3.cell? ⟨gz, 3, none⟩ = some (.string ⟨#[]⟩) := HZ_3.out.cell 3
     have q4 : v3.cell? ⟨gz, 4, none⟩ = some (.slice none 0 0) := HZ_3.out.cell 4
     have q5 : v3.cell? ⟨gz, 5, none⟩ = some (.slice none 0 0) := HZ_3.out.cell 5
     have u0 := HZ_3.out.free 0
     have u1 := HZ_3.out.free 1
     have u2 := HZ_3.out.free 2
     have u3 := HZ_3.out.free 3
     have u4 := HZ_3.out.free 4
     have u5 := HZ_3.out.free 5
     refine wpAnyH_ready (rs := [9]) (by kernel_rfl) (by simp) ?_
     refine AllReadyH.cons rfl (fun K0 hK => ?_) ?_
     rotate_left
     · exact AllReadyH.nil
     go_simp
     refine hK.out _ _ ?_ (fun hHeld => ?_)
     ·
      have hS := HS6.out _ (HBv3.out)
      have hne : ∀ b o, b ≠ gz → (((((((v3.setCell ⟨gz, 0, none⟩ (.int .i64 rr.kind)).setCell ⟨gz, 1, none⟩ (.bool rr.tr)).setCell ⟨gz, 2, none⟩ (.int .i64 rr.num)).setCell ⟨gz, 3, none⟩ (.string rr.str)).setCell ⟨gz, 4, none⟩ (.slice K1 rr.items.length k1)).setCell ⟨gz, 5, none⟩ (.slice K1' rr.keys.length k1'))).cell? ⟨b, o, none⟩ = v3.cell? ⟨b, o, none⟩ := fun b o hb => World.cell?_of_block (put6_heap hb)
      have g1 : gx ≠ gz := by omega
      have g2 : G3 + 1 ≠ gz := by omega
      try dsimp only
      rw [hne gx _ g1, hne gx _ g1, hne gx _ g1, hne gx _ g1, hne gx _ g1, hne gx _ g1, hne (G3 + 1) _ g2, hne (G3 + 1) _ g2, hne (G3 + 1) _ g2, hne (G3 + 1) _ g2, hne (G3 + 1) _ g2, hne (G3 + 1) _ g2]
      exact hS
     clear hK K0
     try simp only [Act.put, List.getElem_toArray, List.getElem_cons_succ, List.getElem_cons_zero, List.setIfInBounds_toArray, List.set_cons_zero, List.set_cons_succ]
     refine wpAnyH_take (i := 10) (v := ?_) rfl (by kernel_rfl) (by kernel_rfl) (by kernel_rfl) (fun _ _ _ h => h) (Or.inl ⟨by rfl, ?_⟩) (by assumption) ?_
     rotate_left
     ·
      intro wq hSw
      try dsimp only at hSw
      go_simp
      try (with_reducible rfl)
     try simp only [Act.put, List.getElem_toArray, List.getElem_cons_succ, List.getElem_cons_zero, List.setIfInBounds_toArray, List.set_cons_zero, List.set_cons_succ]
     refine wpAnyH_done (by kernel_rfl) ?_ _
     have hlz := HZ_3.out.lt
     have hzs : (((((((v3.setCell ⟨gz, 0, none⟩ (.int .i64 rr.kind)).setCell ⟨gz, 1, none⟩ (.bool rr.tr)).setCell ⟨gz, 2, none⟩ (.int .i64 rr.num)).setCell ⟨gz, 3, none⟩ (.string rr.str)).setCell ⟨gz, 4, none⟩ (.slice K1 rr.items.length k1)).setCell ⟨gz, 5, none⟩ (.slice K1' rr.keys.length k1'))).heap.size = v3.heap.size := put6_size
     have HBP := Lib.hid (show Below WX.heap.size WX ((((((v3.setCell ⟨gz, 0, none⟩ (.int .i64 rr.kind)).setCell ⟨gz, 1, none⟩ (.bool rr.tr)).setCell ⟨gz, 2, none⟩ (.int .i64 rr.num)).setCell ⟨gz, 3, none⟩ (.string rr.str)).setCell ⟨gz, 4, none⟩ (.slice K1 rr.items.length k1)).setCell ⟨gz, 5, none⟩ (.slice K1' rr.keys.length k1')) from put6_below HBv3.out hgz)
     have HF := Lib.hid (res_put HZ_3.out rfl rr K1 k1 K1' k1')
     have HGP := Lib.hid (show TV ((((((v3.setCell ⟨gz, 0, none⟩ (.int .i64 rr.kind)).setCell ⟨gz, 1, none⟩ (.bool rr.tr)).setCell ⟨gz, 2, none⟩ (.int .i64 rr.num)).setCell ⟨gz, 3, none⟩ (.string rr.str)).setCell ⟨gz, 4, none⟩ (.slice K1 rr.items.length k1)).setCell ⟨gz, 5, none⟩ (.slice K1' rr.keys.length k1')) (· < (((((((v3.setCell ⟨gz, 0, none⟩ (.int .i64 rr.kind)).setCell ⟨gz, 1, none⟩ (.bool rr.tr)).setCell ⟨gz, 2, none⟩ (.int .i64 rr.num)).setCell ⟨gz, 3, none⟩ (.string rr.str)).setCell ⟨gz, 4, none⟩ (.slice K1 rr.items.length k1)).setCell ⟨gz, 5, none⟩ (.slice K1' rr.keys.length k1'))).heap.size) rr K1 k1 K1' k1' from (HGOT.out.keep fun b hb => put6_heap hb.1).wide fun b hb => by show b < _; rw [hzs]; exact hb.2)
     have HFine := Lib.hid (sets_fine HNI.out HXI.out HSET.out)
     clear HGOT
     clear q0 q1 q2 q3 q4 q5 u0 u1 u2 u3 u4 u5 HZ_3 hlz hzs
     generalize ((((((v3.setCell ⟨gz, 0, none⟩ (.int .i64 rr.kind)).setCell ⟨gz, 1, none⟩ (.bool rr.tr)).setCell ⟨gz, 2, none⟩ (.int .i64 rr.num)).setCell ⟨gz, 3, none⟩ (.string rr.str)).setCell ⟨gz, 4, none⟩ (.slice K1 rr.items.length k1)).setCell ⟨gz, 5, none⟩ (.slice K1' rr.keys.length k1')) = vP at *
     go_upto_region 7 with fail
     refine wp_region_held_drew (S := fun w' => (w'.cell? ⟨G3, 0, none⟩ = some (.int .i64 t.kind) ∧ w'.cell? ⟨G3, 1, none⟩ = some (.bool t.tr) ∧ w'.cell? ⟨G3, 2, none⟩ = some (.int .i64 t.num) ∧ w'.cell? ⟨G3, 3, none⟩ = some (.string t.str) ∧ w'.cell? ⟨G3, 4, none⟩ = some (.slice B t.items.length d) ∧ w'.cell? ⟨G3, 5, none⟩ = some (.slice B' t.keys.length d')) ∧ (w'.cell? ⟨gx, 0, none⟩ = some (.int .i64 t.kind) ∧ w'.cell? ⟨gx, 1, none⟩ = some (.bool t.tr) ∧ w'.cell? ⟨gx, 2, none⟩ = some (.int .i64 t.num) ∧ w'.cell? ⟨gx, 3, none⟩ = some (.string t.str) ∧ w'.cell? ⟨gx, 4, none⟩ = some (.slice E t.items.length e1) ∧ w'.cell? ⟨gx, 5, none⟩ = some (.slice E' t.keys.length e1'))) (by kernel_rfl) ?_ (fun hHeld => ?_)
     · exact HS7.out _ HBP.out.drew
     refine wpAnyH_take (i := 0) (v := ?_) rfl (by kernel_rfl) (by kernel_rfl) (by kernel_rfl) (fun _ _ _ h => h) (Or.inl ⟨by rfl, ?_⟩) (by assumption) ?_
     rotate_left
     ·
      intro wq hSw
      try dsimp only at hSw
      go_simp
      try (with_reducible rfl)
     try simp only [Act.put, List.getElem_toArray, List.getElem_cons_zero, List.setIfInBounds_toArray, List.set_cons_zero, List.set_cons_succ]
     refine wpAnyH_take (i := 2) (v := ?_) rfl (by kernel_rfl) (by kernel_rfl) (by kernel_rfl) (fun _ _ _ h => h) (Or.inl ⟨by rfl, ?_⟩) (by assumption) ?_
     rotate_left
     ·
      intro wq hSw
      try dsimp only at hSw
      go_simp
      try (with_reducible rfl)
     try simp only [Act.put, List.getElem_toArray, List.getElem_cons_succ, List.getElem_cons_zero, List.setIfInBounds_toArray, List.set_cons_zero, List.set_cons_succ]
     refine wpAnyH_ready (rs := [1]) (by kernel_rfl) (by simp) ?_
     refine AllReadyH.cons rfl (fun K0 hK => ?_) ?_
     rotate_left
     · exact AllReadyH.nil
     go_simp
     refine (ref_cells _ t E e1 E' e1' _ HNI.out.le (Nat.le_refl _) (HRT6.out.on HBP.out.drew)).mono ?_
     rintro e0 vR ⟨R1, r1, R1', r1', rfl, hU, hb0⟩
     unfold T.agg
     have LR := Lib.hid (show Below vP.heap.size vP vR from (Below.refl vP.heap.size vP).drew.trans hb0)
     have HU := Lib.hid (show TV vR (· < vR.heap.size) t R1 r1 R1' r1' from hU.wide fun b hb => by
      have h1 := hb0.size
      rcases hb with hb | hb
      · exact Nat.lt_of_lt_of_le hb h1
      · exact hb.2)
     clear hU hb0
     go_wp2_with fail
     refine hK.out _ _ ?_ (fun hHeld => ?_)
     · exact HS7.out _ ((HBP.out.trans (LR.out.mono HBP.out.size)))
     clear hK K0
     try simp only [Act.put, List.getElem_toArray, List.getElem_cons_succ, List.getElem_cons_zero, List.setIfInBounds_toArray, List.set_cons_zero, List.set_cons_succ]
     refine wpAnyH_ready (rs := [3]) (by kernel_rfl) (by simp) ?_
     refine AllReadyH.cons rfl (fun K0 hK => ?_) ?_
     rotate_left
     · exact AllReadyH.nil
     go_simp
     refine (rsame_cells t R1 r1 R1' r1' B d B' d' _ HNI.out.le HNI.out.small HU.out (HT6.out.on (HBP.out.trans (LR.out.mono HBP.out.size)))).mono ?_
     rintro e0 vS ⟨rfl, hb0⟩
     have LS := Lib.hid (LR.out.trans (hb0.mono LR.out.size))
     clear hb0 LR HU
     go_wp2_with fail
     refine hK.out _ _ ?_ (fun hHeld => ?_)
     · exact HS7.out _ ((HBP.out.trans (LS.out.mono HBP.out.size)))
     clear hK K0
     try simp only [Act.put, List.getElem_toArray, List.getElem_cons_succ, List.getElem_cons_zero, List.setIfInBounds_toArray, List.set_cons_zero, List.set_cons_succ]
     refine wpAnyH_take (i := 4) (v := ?_) rfl (by kernel_rfl) (by kernel_rfl) (by kernel_rfl) (fun _ _ _ h => h) (Or.inl ⟨by rfl, ?_⟩) (by assumption) ?_
     rotate_left
     ·
      intro wq hSw
      try dsimp only at hSw
      go_simp
      try (with_reducible rfl)
     try simp only [Act.put, List.getElem_toArray, List.getElem_cons_succ, List.getElem_cons_zero, List.setIfInBounds_toArray, List.set_cons_zero, List.set_cons_succ]
     refine wpAnyH_done (by kernel_rfl) ?_ _
     obtain ⟨a0, a1, a2, a3, a4, a5⟩ := (HS7.out vS (HBP.out.trans (LS.out.mono HBP.out.size))).1
     go_wp2_with fail
     refine (rget_any t p Q cQ B d B' d' _ HNI.out.fine (by omega) (HP6.out.on (HBP.out.trans (LS.out.mono HBP.out.size))) (HT6.out.on (HBP.out.trans (LS.out.mono HBP.out.size)))).mono ?_
     rintro e0 vG (⟨z1, hz1, C0, f0, C0', f0', rfl, hT, hb0⟩ | ⟨hno, _⟩)
     rotate_left
     · exact absurd HLE.out (hno y0)
     have LG := Lib.hid (LS.out.trans (hb0.mono LS.out.size))
     clear hT hz1 hb0 LS a0 a1 a2 a3 a4 a5
     go_upto_region 10 with fail
     have hb0 : Below vG.heap.size vG (vG.alloc (.cells #[.int .i64 z1.kind, .bool z1.tr, .int .i64 z1.num, .string z1.str, .slice C0 z1.items.length f0, .slice C0' z1.keys.length f0'] 28)) := (Below.refl _ _).alloc (Nat.le_refl _) _
     have hX : Blk (vG.alloc (.cells #[.int .i64 z1.kind, .bool z1.tr, .int .i64 z1.num, .string z1.str, .slice C0 z1.items.length f0, .slice C0' z1.keys.length f0'] 28)) vG.heap.size 28 #[.int .i64 z1.kind, .bool z1.tr, .int .i64 z1.num, .string z1.str, .slice C0 z1.items.length f0, .slice C0' z1.keys.length f0'] := Blk.new vG _ _
     change Code.wp _ _ _ _ (vG.alloc (.cells #[.int .i64 z1.kind, .bool z1.tr, .int .i64 z1.num, .string z1.str, .slice C0 z1.items.length f0, .slice C0' z1.keys.length f0'] 28))
     have LH := Lib.hid (LG.out.trans (hb0.mono LG.out.size))
     generalize (vG.alloc (.cells #[.int .i64 z1.kind, .bool z1.tr, .int .i64 z1.num, .string z1.str, .slice C0 z1.items.length f0, .slice C0' z1.keys.length f0'] 28)) = vH at *
     have HX13 := Lib.hid hX
     clear hb0 hX  LG
     generalize vG.heap.size = g13 at *
     obtain ⟨a0, a1, a2, a3, a4, a5⟩ : vH.cell? ⟨gz, 0, none⟩ = some (.int .i64 rr.kind) ∧ vH.cell? ⟨gz, 1, none⟩ = some (.bool rr.tr) ∧ vH.cell? ⟨gz, 2, none⟩ = some (.int .i64 rr.num) ∧ vH.cell? ⟨gz, 3, none⟩ = some (.string rr.str) ∧ vH.cell? ⟨gz, 4, none⟩ = some (.slice K1 rr.items.length k1) ∧ vH.cell? ⟨gz, 5, none⟩ = some (.slice K1' rr.keys.length k1') := by
      have h := HF.out.onto LH.out
      exact ⟨h.cell 0, h.cell 1, h.cell 2, h.cell 3, h.cell 4, h.cell 5⟩
     go_wp2_with fail
     refine (get_any rr p Q cQ K1 k1 K1' k1' _ HFine.out (HE6.out.on (HBP.out.trans (LH.out.mono HBP.out.size))) HSp.out (by omega) (HP6.out.on (HBP.out.trans (LH.out.mono HBP.out.size))) (HGP.out.on LH.out)).mono ?_
     clear HX13
     rintro e0 vI (⟨z2, hz2, C, f, C', f', rfl, hT, hb0⟩ | ⟨hno, _⟩)
     rotate_left
     · exact absurd (sets_leads HSET.out) (hno x)
     obtain rfl : x = z2 := leads_unique HFine.out (sets_leads HSET.out) hz2
     have LI := Lib.hid (LH.out.trans (hb0.mono LH.out.size))
     have HTI := Lib.hid hT
     clear hT hz2 hb0 LH a0 a1 a2 a3 a4 a5
     go_upto_region 13 with fail
     have hb0 : Below vI.heap.size vI (vI.alloc (.cells #[.int .i64 x.kind, .bool x.tr, .int .i64 x.num, .string x.str, .slice C x.items.length f, .slice C' x.keys.length f'] 32)) := (Below.refl _ _).alloc (Nat.le_refl _) _
     have hX : Blk (vI.alloc (.cells #[.int .i64 x.kind, .bool x.tr, .int .i64 x.num, .string x.str, .slice C x.items.length f, .slice C' x.keys.length f'] 32)) vI.heap.size 32 #[.int .i64 x.kind, .bool x.tr, .int .i64 x.num, .string x.str, .slice C x.items.length f, .slice C' x.keys.length f'] := Blk.new vI _ _
     change Code.wp _ _ _ _ (vI.alloc (.cells #[.int .i64 x.kind, .bool x.tr, .int .i64 x.num, .string x.str, .slice C x.items.length f, .slice C' x.keys.length f'] 32))
     have HTJ := Lib.hid (HTI.out.on hb0)
     have LJ := Lib.hid (LI.out.trans (hb0.mono LI.out.size))
     generalize (vI.alloc (.cells #[.int .i64 x.kind, .bool x.tr, .int .i64 x.num, .string x.str, .slice C x.items.length f, .slice C' x.keys.length f'] 32)) = vJ at *
     have HXJ := Lib.hid hX
     clear hb0 hX HTI LI
     generalize vI.heap.size = gj at *
     have HSS := Lib.hid (show ∀ w', Below vJ.heap.size vJ w' → (Six w' gz 0 rr K1 k1 K1' k1') ∧ (Six w' G3 0 t B d B' d') ∧ (Six w' (G3 + 1) 0 x D g D' g') ∧ (Six w' gj 0 x C f C' f') from fun w' hb => by
      have hb1 := LJ.out.trans (hb.mono LJ.out.size)
      have hb2 := H10.out.trans ((HBP.out.trans (hb1.mono HBP.out.size)).mono hs10)
      have h1 := HF.out.onto hb1
      have h2 := HB4.out.onto hb2
      have h3 := HB5.out.onto hb2
      have h4 := HXJ.out.onto hb
      exact ⟨⟨h1.cell 0, h1.cell 1, h1.cell 2, h1.cell 3, h1.cell 4, h1.cell 5⟩, ⟨h2.cell 0, h2.cell 1, h2.cell 2, h2.cell 3, h2.cell 4, h2.cell 5⟩, ⟨h3.cell 0, h3.cell 1, h3.cell 2, h3.cell 3, h3.cell 4, h3.cell 5⟩, h4.cell 0, h4.cell 1, h4.cell 2, h4.cell 3, h4.cell 4, h4.cell 5⟩)
     have HPJ := Lib.hid (HP6.out.on (HBP.out.trans (LJ.out.mono HBP.out.size)))
     have HTt := Lib.hid (HT6.out.on (HBP.out.trans (LJ.out.mono HBP.out.size)))
     have HTx := Lib.hid (HX6.out.on (HBP.out.trans (LJ.out.mono HBP.out.size)))
     have HTr := Lib.hid (HGP.out.on LJ.out)
     have HWJ := Lib.hid (HWX.out.trans ((HBP.out.trans (LJ.out.mono HBP.out.size)).mono hwx))
     clear HP6 HT6 HX6 HGP LJ HBP HF HXJ HS6 HS7 HRT6
     refine wp_region_held_drew (S := fun w' => (w'.cell? ⟨gz, 0, none⟩ = some (.int .i64 rr.kind) ∧ w'.cell? ⟨gz, 1, none⟩ = some (.bool rr.tr) ∧ w'.cell? ⟨gz, 2, none⟩ = some (.int .i64 rr.num) ∧ w'.cell? ⟨gz, 3, none⟩ = some (.string rr.str) ∧ w'.cell? ⟨gz, 4, none⟩ = some (.slice K1 rr.items.length k1) ∧ w'.cell? ⟨gz, 5, none⟩ = some (.slice K1' rr.keys.length k1')) ∧ (w'.cell? ⟨G3, 0, none⟩ = some (.int .i64 t.kind) ∧ w'.cell? ⟨G3, 1, none⟩ = some (.bool t.tr) ∧ w'.cell? ⟨G3, 2, none⟩ = some (.int .i64 t.num) ∧ w'.cell? ⟨G3, 3, none⟩ = some (.string t.str) ∧ w'.cell? ⟨G3, 4, none⟩ = some (.slice B t.items.length d) ∧ w'.cell? ⟨G3, 5, none⟩ = some (.slice B' t.keys.length d')) ∧ (w'.cell? ⟨G3 + 1, 0, none⟩ = some (.int .i64 x.kind) ∧ w'.cell? ⟨G3 + 1, 1, none⟩ = some (.bool x.tr) ∧ w'.cell? ⟨G3 + 1, 2, none⟩ = some (.int .i64 x.num) ∧ w'.cell? ⟨G3 + 1, 3, none⟩ = some (.string x.str) ∧ w'.cell? ⟨G3 + 1, 4, none⟩ = some (.slice D x.items.length g) ∧ w'.cell? ⟨G3 + 1, 5, none⟩ = some (.slice D' x.keys.length g')) ∧ (w'.cell? ⟨gj, 0, none⟩ = some (.int .i64 x.kind) ∧ w'.cell? ⟨gj, 1, none⟩ = some (.bool x.tr) ∧ w'.cell? ⟨gj, 2, none⟩ = some (.int .i64 x.num) ∧ w'.cell? ⟨gj, 3, none⟩ = some (.string x.str) ∧ w'.cell? ⟨gj, 4, none⟩ = some (.slice C x.items.length f) ∧ w'.cell? ⟨gj, 5, none⟩ = some (.slice C' x.keys.length f'))) (by kernel_rfl) ?_ (fun hHeld => ?_)
     · exact HSS.out _ (Below.refl _ _).drew
     refine wpAnyH_take (i := 0) (v := ?_) rfl (by kernel_rfl) (by kernel_rfl) (by kernel_rfl) (fun _ _ _ h => h) (Or.inl ⟨by rfl, ?_⟩) (by assumption) ?_
     rotate_left
     ·
      intro wq hSw
      try dsimp only at hSw
      go_simp
      try (with_reducible rfl)
     try simp only [Act.put, List.getElem_toArray, List.getElem_cons_zero, List.setIfInBounds_toArray, List.set_cons_zero, List.set_cons_succ]
     refine wpAnyH_take (i := 1) (v := ?_) rfl (by kernel_rfl) (by kernel_rfl) (by kernel_rfl) (fun _ _ _ h => h) (Or.inl ⟨by rfl, ?_⟩) (by assumption) ?_
     rotate_left
     ·
      intro wq hSw
      try dsimp only at hSw
      go_simp
      try (with_reducible rfl)
     try simp only [Act.put, List.getElem_toArray, List.getElem_cons_succ, List.getElem_cons_zero, List.setIfInBounds_toArray, List.set_cons_zero, List.set_cons_succ]
     refine wpAnyH_take (i := 2) (v := ?_) rfl (by kernel_rfl) (by kernel_rfl) (by kernel_rfl) (fun _ _ _ h => h) (Or.inl ⟨by rfl, ?_⟩) (by assumption) ?_
     rotate_left
     ·
      intro wq hSw
      try dsimp only at hSw
      go_simp
      try (with_reducible rfl)
     try simp only [Act.put, List.getElem_toArray, List.getElem_cons_succ, List.getElem_cons_zero, List.setIfInBounds_toArray, List.set_cons_zero, List.set_cons_succ]
     refine wpAnyH_take (i := 3) (v := ?_) rfl (by kernel_rfl) (by kernel_rfl) (by kernel_rfl) (fun _ _ _ h => h) (Or.inl ⟨by rfl, ?_⟩) (by assumption) ?_
     rotate_left
     ·
      intro wq hSw
      try dsimp only at hSw
      go_simp
      try (with_reducible rfl)
     try simp only [Act.put, List.getElem_toArray, List.getElem_cons_succ, List.getElem_cons_zero, List.setIfInBounds_toArray, List.set_cons_zero, List.set_cons_succ]
     refine wpAnyH_take (i := 4) (v := ?_) rfl (by kernel_rfl) (by kernel_rfl) (by kernel_rfl) (fun _ _ _ h => h) (Or.inl ⟨by rfl, ?_⟩) (by assumption) ?_
     rotate_left
     ·
      intro wq hSw
      try dsimp only at hSw
      go_simp
      try (with_reducible rfl)
     try simp only [Act.put, List.getElem_toArray, List.getElem_cons_succ, List.getElem_cons_zero, List.setIfInBounds_toArray, List.set_cons_zero, List.set_cons_succ]
     refine wpAnyH_take (i := 5) (v := ?_) rfl (by kernel_rfl) (by kernel_rfl) (by kernel_rfl) (fun _ _ _ h => h) (Or.inl ⟨by rfl, ?_⟩) (by assumption) ?_
     rotate_left
     ·
      intro wq hSw
      try dsimp only at hSw
      go_simp
      try (with_reducible rfl)
     try simp only [Act.put, List.getElem_toArray, List.getElem_cons_succ, List.getElem_cons_zero, List.setIfInBounds_toArray, List.set_cons_zero, List.set_cons_succ]
     refine wpAnyH_take (i := 6) (v := ?_) rfl (by kernel_rfl) (by kernel_rfl) (by kernel_rfl) (fun _ _ _ h => h) (Or.inl ⟨by rfl, ?_⟩) (by assumption) ?_
     rotate_left
     ·
      intro wq hSw
      try dsimp only at hSw
      go_simp
      try (with_reducible rfl)
     try simp only [Act.put, List.getElem_toArray, List.getElem_cons_succ, List.getElem_cons_zero, List.setIfInBounds_toArray, List.set_cons_zero, List.set_cons_succ]
     refine wpAnyH_take (i := 7) (v := ?_) rfl (by kernel_rfl) (by kernel_rfl) (by kernel_rfl) (fun _ _ _ h => h) (Or.inl ⟨by rfl, ?_⟩) (by assumption) ?_
     rotate_left
     ·
      intro wq hSw
      try dsimp only at hSw
      go_simp
      try (with_reducible rfl)
     try simp only [Act.put, List.getElem_toArray, List.getElem_cons_succ, List.getElem_cons_zero, List.setIfInBounds_toArray, List.set_cons_zero, List.set_cons_succ]
     refine wpAnyH_take (i := 9) (v := ?_) rfl (by kernel_rfl) (by kernel_rfl) (by kernel_rfl) (fun _ _ _ h => h) (Or.inl ⟨by rfl, ?_⟩) (by assumption) ?_
     rotate_left
     ·
      intro wq hSw
      try dsimp only at hSw
      go_simp
      try (with_reducible rfl)
     try simp only [Act.put, List.getElem_toArray, List.getElem_cons_succ, List.getElem_cons_zero, List.setIfInBounds_toArray, List.set_cons_zero, List.set_cons_succ]
     refine wpAnyH_take (i := 10) (v := ?_) rfl (by kernel_rfl) (by kernel_rfl) (by kernel_rfl) (fun _ _ _ h => h) (Or.inl ⟨by rfl, ?_⟩) (by assumption) ?_
     rotate_left
     ·
      intro wq hSw
      try dsimp only at hSw
      go_simp
      try (with_reducible rfl)
     try simp only [Act.put, List.getElem_toArray, List.getElem_cons_succ, List.getElem_cons_zero, List.setIfInBounds_toArray, List.set_cons_zero, List.set_cons_succ]
     refine wpAnyH_take (i := 11) (v := ?_) rfl (by kernel_rfl) (by kernel_rfl) (by kernel_rfl) (fun _ _ _ h => h) (Or.inl ⟨by rfl, ?_⟩) (by assumption) ?_
     rotate_left
     ·
      intro wq hSw
      try dsimp only at hSw
      go_simp
      try (with_reducible rfl)
     try simp only [Act.put, List.getElem_toArray, List.getElem_cons_succ, List.getElem_cons_zero, List.setIfInBounds_toArray, List.set_cons_zero, List.set_cons_succ]
     refine wpAnyH_ready (rs := [8]) (by kernel_rfl) (by simp) ?_
     refine AllReadyH.cons rfl (fun K0 hK => ?_) ?_
     rotate_left
     · exact AllReadyH.nil
     go_simp
     refine (ref_cells _ rr K1 k1 K1' k1' _ HFine.out.le (Nat.le_refl _) (HTr.out.on (Below.refl _ _).drew)).mono ?_
     rintro e0 x1 ⟨R1, r1, R1', r1', rfl, hU, hb0⟩
     unfold T.agg
     have J1 := Lib.hid (show Below vJ.heap.size vJ x1 from (Below.refl vJ.heap.size vJ).drew.trans hb0)
     have HU := Lib.hid (show TV x1 (· < x1.heap.size) rr R1 r1 R1' r1' from hU.wide fun b hb => by
      have h1 := hb0.size
      rcases hb with hb | hb
      · exact Nat.lt_of_lt_of_le hb h1
      · exact hb.2)
     clear hU hb0
     go_wp2_with fail
     refine hK.out _ _ ?_ (fun hHeld => ?_)
     · exact HSS.out _ (J1.out)
     clear hK K0
     try simp only [Act.put, List.getElem_toArray, List.getElem_cons_succ, List.getElem_cons_zero, List.setIfInBounds_toArray, List.set_cons_zero, List.set_cons_succ]
     refine wpAnyH_ready (rs := [12]) (by kernel_rfl) (by simp) ?_
     refine AllReadyH.cons rfl (fun K0 hK => ?_) ?_
     rotate_left
     · exact AllReadyH.nil
     go_simp
     refine (rset_any t x rr p Q cQ B d B' d' D g D' g' _ HNI.out HSET.out hpc (by omega) (HPJ.out.on J1.out) (HTt.out.on J1.out) (HTx.out.on J1.out)).mono ?_
     rintro e0 x2 ⟨M, m, M', m', rfl, hU, hb0⟩
     have J2 := Lib.hid (J1.out.trans (hb0.mono J1.out.size))
     have HU2 := Lib.hid (HU.out.on hb0)
     have HM := Lib.hid hU
     clear hU hb0 HU
     go_wp2_with fail
     refine hK.out _ _ ?_ (fun hHeld => ?_)
     · exact HSS.out _ (J2.out)
     clear hK K0
     try simp only [Act.put, List.getElem_toArray, List.getElem_cons_succ, List.getElem_cons_zero, List.setIfInBounds_toArray, List.set_cons_zero, List.set_cons_succ]
     refine wpAnyH_ready (rs := [13]) (by kernel_rfl) (by simp) ?_
     refine AllReadyH.cons rfl (fun K0 hK => ?_) ?_
     rotate_left
     · exact AllReadyH.nil
     go_simp
     refine (rsame_cells rr R1 r1 R1' r1' M m M' m' _ HFine.out.le HFine.out.small HU2.out HM.out).mono ?_
     rintro e0 x3 ⟨rfl, hb0⟩
     have J3 := Lib.hid (J2.out.trans (hb0.mono J2.out.size))
     clear hb0 HU2 HM
     go_wp2_with fail
     refine hK.out _ _ ?_ (fun hHeld => ?_)
     · exact HSS.out _ (J3.out)
     clear hK K0
     try simp only [Act.put, List.getElem_toArray, List.getElem_cons_succ, List.getElem_cons_zero, List.setIfInBounds_toArray, List.set_cons_zero, List.set_cons_succ]
     refine wpAnyH_take (i := 14) (v := ?_) rfl (by kernel_rfl) (by kernel_rfl) (by kernel_rfl) (fun _ _ _ h => h) (Or.inl ⟨by rfl, ?_⟩) (by assumption) ?_
     rotate_left
     ·
      intro wq hSw
      try dsimp only at hSw
      go_simp
      try (with_reducible rfl)
     try simp only [Act.put, List.getElem_toArray, List.getElem_cons_succ, List.getElem_cons_zero, List.setIfInBounds_toArray, List.set_cons_zero, List.set_cons_succ]
     refine wpAnyH_take (i := 15) (v := ?_) rfl (by kernel_rfl) (by kernel_rfl) (by kernel_rfl) (fun _ _ _ h => h) (Or.inl ⟨by rfl, ?_⟩) (by assumption) ?_
     rotate_left
     ·
      intro wq hSw
      try dsimp only at hSw
      go_simp
      try (with_reducible rfl)
     try simp only [Act.put, List.getElem_toArray, List.getElem_cons_succ, List.getElem_cons_zero, List.setIfInBounds_toArray, List.set_cons_zero, List.set_cons_succ]
     refine wpAnyH_take (i := 16) (v := ?_) rfl (by kernel_rfl) (by kernel_rfl) (by kernel_rfl) (fun _ _ _ h => h) (Or.inl ⟨by rfl, ?_⟩) (by assumption) ?_
     rotate_left
     ·
      intro wq hSw
      try dsimp only at hSw
      go_simp
      try (with_reducible rfl)
     try simp only [Act.put, List.getElem_toArray, List.getElem_cons_succ, List.getElem_cons_zero, List.setIfInBounds_toArray, List.set_cons_zero, List.set_cons_succ]
     refine wpAnyH_take (i := 18) (v := ?_) rfl (by kernel_rfl) (by kernel_rfl) (by kernel_rfl) (fun _ _ _ h => h) (Or.inl ⟨by rfl, ?_⟩) (by assumption) ?_
     rotate_left
     ·
      intro wq hSw
      try dsimp only at hSw
      go_simp
      try (with_reducible rfl)
     try simp only [Act.put, List.getElem_toArray, List.getElem_cons_succ, List.getElem_cons_zero, List.setIfInBounds_toArray, List.set_cons_zero, List.set_cons_succ]
     refine wpAnyH_ready (rs := [17]) (by kernel_rfl) (by simp) ?_
     refine AllReadyH.cons rfl (fun K0 hK => ?_) ?_
     rotate_left
     · exact AllReadyH.nil
     go_simp
     refine (ref_cells _ x C f C' f' _ HXI.out.le (Nat.le_refl _) (HTJ.out.on J3.out)).mono ?_
     rintro e0 x4 ⟨N1, n2, N1', n2', rfl, hU, hb0⟩
     unfold T.agg
     have J4 := Lib.hid (J3.out.trans (hb0.mono J3.out.size))
     have HU := Lib.hid (show TV x4 (· < x4.heap.size) x N1 n2 N1' n2' from hU.wide fun b hb => by
      have h1 := hb0.size
      rcases hb with hb | hb
      · exact Nat.lt_of_lt_of_le hb h1
      · exact hb.2)
     clear hU hb0
     go_wp2_with fail
     refine hK.out _ _ ?_ (fun hHeld => ?_)
     · exact HSS.out _ (J4.out)
     clear hK K0
     try simp only [Act.put, List.getElem_toArray, List.getElem_cons_succ, List.getElem_cons_zero, List.setIfInBounds_toArray, List.set_cons_zero, List.set_cons_succ]
     refine wpAnyH_ready (rs := [19]) (by kernel_rfl) (by simp) ?_
     refine AllReadyH.cons rfl (fun K0 hK => ?_) ?_
     rotate_left
     · exact AllReadyH.nil
     go_simp
     refine (rsame_cells x N1 n2 N1' n2' D g D' g' _ HXI.out.le HXI.out.small HU.out (HTx.out.on J4.out)).mono ?_
     rintro e0 x5 ⟨rfl, hb0⟩
     have J5 := Lib.hid (J4.out.trans (hb0.mono J4.out.size))
     clear hb0
     go_wp2_with fail
     refine hK.out _ _ ?_ (fun hHeld => ?_)
     · exact HSS.out _ (J5.out)
     clear hK K0
     try simp only [Act.put, List.getElem_toArray, List.getElem_cons_succ, List.getElem_cons_zero, List.setIfInBounds_toArray, List.set_cons_zero, List.set_cons_succ]
     refine wpAnyH_take (i := 20) (v := ?_) rfl (by kernel_rfl) (by kernel_rfl) (by kernel_rfl) (fun _ _ _ h => h) (Or.inl ⟨by rfl, ?_⟩) (by assumption) ?_
     rotate_left
     ·
      intro wq hSw
      try dsimp only at hSw
      go_simp
      try (with_reducible rfl)
     refine wpAnyH_take (i := 21) (v := ?_) rfl (by kernel_rfl) (by kernel_rfl) (by kernel_rfl) (fun _ _ _ h => h) (Or.inl ⟨by rfl, ?_⟩) (by assumption) ?_
     rotate_left
     ·
      intro wq hSw
      try dsimp only at hSw
      go_simp
      try (with_reducible rfl)
     try simp only [Act.put, List.getElem_toArray, List.getElem_cons_succ, List.getElem_cons_zero, List.setIfInBounds_toArray, List.set_cons_zero, List.set_cons_succ]
     refine wpAnyH_done (by kernel_rfl) ?_ _
     go_wp2_with fail
     go_ret
     exact ⟨rfl, HWJ.out.trans (J5.out.mono HWJ.out.size)⟩
    ·
     skip
     have HBv3 := Lib.hid (show Below WX.heap.size WX v3 from (HBv2.out).trans (hb0.mono (HBv2.out).size))
     have hz1 := HZ_2Z
     have HNO := Lib.hid hno
     clear hno
     have HZ_3 := Lib.hid (HZ_2.out.onto hb0)
     clear HZ_2
     clear hb0
     go_wp2_with fail
     refine hK.out _ _ ?_ (fun hHeld => ?_)
     · exact HS6.out _ (HBv3.out)
     clear hK K0
     try simp only [Act.put, List.getElem_toArray, List.getElem_cons_succ, List.getElem_cons_zero, List.setIfInBounds_toArray, List.set_cons_zero, List.set_cons_succ]
     refine wpAnyH_take (i := 5) (v := ?_) rfl (by kernel_rfl) (by kernel_rfl) (by kernel_rfl) (fun _ _ _ h => h) (Or.inl ⟨by rfl, ?_⟩) (by assumption) ?_
     rotate_left
     ·
      intro wq hSw
      try dsimp only at hSw
      go_simp
      try (with_reducible rfl)
     try simp only [Act.put, List.getElem_toArray, List.getElem_cons_succ, List.getElem_cons_zero, List.setIfInBounds_toArray, List.set_cons_zero, List.set_cons_succ]
     refine wpAnyH_take (i := 6) (v := ?_) rfl (by kernel_rfl) (by kernel_rfl) (by kernel_rfl) (fun _ _ _ h => h) (Or.inl ⟨by rfl, ?_⟩) (by assumption) ?_
     rotate_left
     ·
      intro wq hSw
      try dsimp only at hSw
      go_simp
      try (with_reducible rfl)
     try simp only [Act.put, List.getElem_toArray, List.getElem_cons_succ, List.getElem_cons_zero, List.setIfInBounds_toArray, List.set_cons_zero, List.set_cons_succ]
     refine wpAnyH_take (i := 7) (v := ?_) rfl (by kernel_rfl) (by kernel_rfl) (by kernel_rfl) (fun _ _ _ h => h) (Or.inl ⟨by rfl, ?_⟩) (by assumption) ?_
     rotate_left
     ·
      intro wq hSw
      try dsimp only at hSw
      go_simp
      try (with_reducible rfl)
     try simp only [Act.put, List.getElem_toArray, List.getElem_cons_succ, List.getElem_cons_zero, List.setIfInBounds_toArray, List.set_cons_zero, List.set_cons_succ]
     have q0 : v3.cell? ⟨gz, 0, none⟩ = some (.int .i64 0) := HZ_3.out.cell 0
     have q1 : v3.cell? ⟨gz, 1, none⟩ = some (.bool false) := HZ_3.out.cell 1
     have q2 : v3.cell? ⟨gz, 2, none⟩ = some (.int .i64 0) := HZ_3.out.cell 2
     have q3 : v3.cell? ⟨gz, 3, none⟩ = some (.string ⟨#[]⟩) := HZ_3.out.cell 3
     have q4 : v3.cell? ⟨gz, 4, none⟩ = some (.slice none 0 0) := HZ_3.out.cell 4
     have q5 : v3.cell? ⟨gz, 5, none⟩ = some (.slice none 0 0) := HZ_3.out.cell 5
     have u0 := HZ_3.out.free 0
     have u1 := HZ_3.out.free 1
     have u2 := HZ_3.out.free 2
     have u3 := HZ_3.out.free 3
     have u4 := HZ_3.out.free 4
     have u5 := HZ_3.out.free 5
     refine wpAnyH_ready (rs := [9]) (by kernel_rfl) (by simp) ?_
     refine AllReadyH.cons rfl (fun K0 hK => ?_) ?_
     rotate_left
     · exact AllReadyH.nil
     go_simp
     refine hK.out _ _ ?_ (fun hHeld => ?_)
     ·
      have hS := HS6.out _ (HBv3.out)
      have hne : ∀ b o, b ≠ gz → (((((((v3.setCell ⟨gz, 0, none⟩ (.int .i64 0)).setCell ⟨gz, 1, none⟩ (.bool false)).setCell ⟨gz, 2, none⟩ (.int .i64 0)).setCell ⟨gz, 3, none⟩ (.string ⟨#[]⟩)).setCell ⟨gz, 4, none⟩ (.slice none 0 0)).setCell ⟨gz, 5, none⟩ (.slice none 0 0))).cell? ⟨b, o, none⟩ = v3.cell? ⟨b, o, none⟩ := fun b o hb => World.cell?_of_block (put6_heap hb)
      have g1 : gx ≠ gz := by omega
      have g2 : G3 + 1 ≠ gz := by omega
      try dsimp only
      rw [hne gx _ g1, hne gx _ g1, hne gx _ g1, hne gx _ g1, hne gx _ g1, hne gx _ g1, hne (G3 + 1) _ g2, hne (G3 + 1) _ g2, hne (G3 + 1) _ g2, hne (G3 + 1) _ g2, hne (G3 + 1) _ g2, hne (G3 + 1) _ g2]
      exact hS
     clear hK K0
     try simp only [Act.put, List.getElem_toArray, List.getElem_cons_succ, List.getElem_cons_zero, List.setIfInBounds_toArray, List.set_cons_zero, List.set_cons_succ]
     refine wpAnyH_take (i := 10) (v := ?_) rfl (by kernel_rfl) (by kernel_rfl) (by kernel_rfl) (fun _ _ _ h => h) (Or.inl ⟨by rfl, ?_⟩) (by assumption) ?_
     rotate_left
     ·
      intro wq hSw
      try dsimp only at hSw
      go_simp
      try (with_reducible rfl)
     try simp only [Act.put, List.getElem_toArray, List.getElem_cons_succ, List.getElem_cons_zero, List.setIfInBounds_toArray, List.set_cons_zero, List.set_cons_succ]
     refine wpAnyH_done (by kernel_rfl) ?_ _
     have hlz := HZ_3.out.lt
     have hzs : (((((((v3.setCell ⟨gz, 0, none⟩ (.int .i64 0)).setCell ⟨gz, 1, none⟩ (.bool false)).setCell ⟨gz, 2, none⟩ (.int .i64 0)).setCell ⟨gz, 3, none⟩ (.string ⟨#[]⟩)).setCell ⟨gz, 4, none⟩ (.slice none 0 0)).setCell ⟨gz, 5, none⟩ (.slice none 0 0))).heap.size = v3.heap.size := put6_size
     have HBP := Lib.hid (show Below WX.heap.size WX ((((((v3.setCell ⟨gz, 0, none⟩ (.int .i64 0)).setCell ⟨gz, 1, none⟩ (.bool false)).setCell ⟨gz, 2, none⟩ (.int .i64 0)).setCell ⟨gz, 3, none⟩ (.string ⟨#[]⟩)).setCell ⟨gz, 4, none⟩ (.slice none 0 0)).setCell ⟨gz, 5, none⟩ (.slice none 0 0)) from put6_below HBv3.out hgz)
     have HF := Lib.hid (show Blk ((((((v3.setCell ⟨gz, 0, none⟩ (.int .i64 0)).setCell ⟨gz, 1, none⟩ (.bool false)).setCell ⟨gz, 2, none⟩ (.int .i64 0)).setCell ⟨gz, 3, none⟩ (.string ⟨#[]⟩)).setCell ⟨gz, 4, none⟩ (.slice none 0 0)).setCell ⟨gz, 5, none⟩ (.slice none 0 0)) gz 32 #[.int .i64 0, .bool false, .int .i64 0, .string ⟨#[]⟩, .slice none 0 0, .slice none 0 0] from res_put HZ_3.out rfl T.zero none 0 none 0)
     clear q0 q1 q2 q3 q4 q5 u0 u1 u2 u3 u4 u5 HZ_3 hlz hzs
     generalize ((((((v3.setCell ⟨gz, 0, none⟩ (.int .i64 0)).setCell ⟨gz, 1, none⟩ (.bool false)).setCell ⟨gz, 2, none⟩ (.int .i64 0)).setCell ⟨gz, 3, none⟩ (.string ⟨#[]⟩)).setCell ⟨gz, 4, none⟩ (.slice none 0 0)).setCell ⟨gz, 5, none⟩ (.slice none 0 0)) = vP at *
     go_upto_region 7 with fail
     refine wp_region_held_drew (S := fun w' => (w'.cell? ⟨G3, 0, none⟩ = some (.int .i64 t.kind) ∧ w'.cell? ⟨G3, 1, none⟩ = some (.bool t.tr) ∧ w'.cell? ⟨G3, 2, none⟩ = some (.int .i64 t.num) ∧ w'.cell? ⟨G3, 3, none⟩ = some (.string t.str) ∧ w'.cell? ⟨G3, 4, none⟩ = some (.slice B t.items.length d) ∧ w'.cell? ⟨G3, 5, none⟩ = some (.slice B' t.keys.length d')) ∧ (w'.cell? ⟨gx, 0, none⟩ = some (.int .i64 t.kind) ∧ w'.cell? ⟨gx, 1, none⟩ = some (.bool t.tr) ∧ w'.cell? ⟨gx, 2, none⟩ = some (.int .i64 t.num) ∧ w'.cell? ⟨gx, 3, none⟩ = some (.string t.str) ∧ w'.cell? ⟨gx, 4, none⟩ = some (.slice E t.items.length e1) ∧ w'.cell? ⟨gx, 5, none⟩ = some (.slice E' t.keys.length e1'))) (by kernel_rfl) ?_ (fun hHeld => ?_)
     · exact HS7.out _ HBP.out.drew
     refine wpAnyH_take (i := 0) (v := ?_) rfl (by kernel_rfl) (by kernel_rfl) (by kernel_rfl) (fun _ _ _ h => h) (Or.inl ⟨by rfl, ?_⟩) (by assumption) ?_
     rotate_left
     ·
      intro wq hSw
      try dsimp only at hSw
      go_simp
      try (with_reducible rfl)
     try simp only [Act.put, List.getElem_toArray, List.getElem_cons_zero, List.setIfInBounds_toArray, List.set_cons_zero, List.set_cons_succ]
     refine wpAnyH_take (i := 2) (v := ?_) rfl (by kernel_rfl) (by kernel_rfl) (by kernel_rfl) (fun _ _ _ h => h) (Or.inl ⟨by rfl, ?_⟩) (by assumption) ?_
     rotate_left
     ·
      intro wq hSw
      try dsimp only at hSw
      go_simp
      try (with_reducible rfl)
     try simp only [Act.put, List.getElem_toArray, List.getElem_cons_succ, List.getElem_cons_zero, List.setIfInBounds_toArray, List.set_cons_zero, List.set_cons_succ]
     refine wpAnyH_ready (rs := [1]) (by kernel_rfl) (by simp) ?_
     refine AllReadyH.cons rfl (fun K0 hK => ?_) ?_
     rotate_left
     · exact AllReadyH.nil
     go_simp
     refine (ref_cells _ t E e1 E' e1' _ HNI.out.le (Nat.le_refl _) (HRT6.out.on HBP.out.drew)).mono ?_
     rintro e0 vR ⟨R1, r1, R1', r1', rfl, hU, hb0⟩
     unfold T.agg
     have LR := Lib.hid (show Below vP.heap.size vP vR from (Below.refl vP.heap.size vP).drew.trans hb0)
     have HU := Lib.hid (show TV vR (· < vR.heap.size) t R1 r1 R1' r1' from hU.wide fun b hb => by
      have h1 := hb0.size
      rcases hb with hb | hb
      · exact Nat.lt_of_lt_of_le hb h1
      · exact hb.2)
     clear hU hb0
     go_wp2_with fail
     refine hK.out _ _ ?_ (fun hHeld => ?_)
     · exact HS7.out _ ((HBP.out.trans (LR.out.mono HBP.out.size)))
     clear hK K0
     try simp only [Act.put, List.getElem_toArray, List.getElem_cons_succ, List.getElem_cons_zero, List.setIfInBounds_toArray, List.set_cons_zero, List.set_cons_succ]
     refine wpAnyH_ready (rs := [3]) (by kernel_rfl) (by simp) ?_
     refine AllReadyH.cons rfl (fun K0 hK => ?_) ?_
     rotate_left
     · exact AllReadyH.nil
     go_simp
     refine (rsame_cells t R1 r1 R1' r1' B d B' d' _ HNI.out.le HNI.out.small HU.out (HT6.out.on (HBP.out.trans (LR.out.mono HBP.out.size)))).mono ?_
     rintro e0 vS ⟨rfl, hb0⟩
     have LS := Lib.hid (LR.out.trans (hb0.mono LR.out.size))
     clear hb0 LR HU
     go_wp2_with fail
     refine hK.out _ _ ?_ (fun hHeld => ?_)
     · exact HS7.out _ ((HBP.out.trans (LS.out.mono HBP.out.size)))
     clear hK K0
     try simp only [Act.put, List.getElem_toArray, List.getElem_cons_succ, List.getElem_cons_zero, List.setIfInBounds_toArray, List.set_cons_zero, List.set_cons_succ]
     refine wpAnyH_take (i := 4) (v := ?_) rfl (by kernel_rfl) (by kernel_rfl) (by kernel_rfl) (fun _ _ _ h => h) (Or.inl ⟨by rfl, ?_⟩) (by assumption) ?_
     rotate_left
     ·
      intro wq hSw
      try dsimp only at hSw
      go_simp
      try (with_reducible rfl)
     try simp only [Act.put, List.getElem_toArray, List.getElem_cons_succ, List.getElem_cons_zero, List.setIfInBounds_toArray, List.set_cons_zero, List.set_cons_succ]
     refine wpAnyH_done (by kernel_rfl) ?_ _
     obtain ⟨a0, a1, a2, a3, a4, a5⟩ := (HS7.out vS (HBP.out.trans (LS.out.mono HBP.out.size))).1
     go_wp2_with fail
     refine (rget_any t p Q cQ B d B' d' _ HNI.out.fine (by omega) (HP6.out.on (HBP.out.trans (LS.out.mono HBP.out.size))) (HT6.out.on (HBP.out.trans (LS.out.mono HBP.out.size)))).mono ?_
     rintro e0 vG (⟨z1, hz1, _⟩ | ⟨_, rfl, hb0⟩)
     · exact absurd hz1 (HNO.out z1)
     have LG := Lib.hid (LS.out.trans (hb0.mono LS.out.size))
     clear hb0 LS a0 a1 a2 a3 a4 a5
     go_upto_region 10 with fail
     have hb0 : Below vG.heap.size vG (vG.alloc (.cells #[.int .i64 0, .bool false, .int .i64 0, .string ⟨#[]⟩, .slice none 0 0, .slice none 0 0] 28)) := (Below.refl _ _).alloc (Nat.le_refl _) _
     have hX : Blk (vG.alloc (.cells #[.int .i64 0, .bool false, .int .i64 0, .string ⟨#[]⟩, .slice none 0 0, .slice none 0 0] 28)) vG.heap.size 28 #[.int .i64 0, .bool false, .int .i64 0, .string ⟨#[]⟩, .slice none 0 0, .slice none 0 0] := Blk.new vG _ _
     change Code.wp _ _ _ _ (vG.alloc (.cells #[.int .i64 0, .bool false, .int .i64 0, .string ⟨#[]⟩, .slice none 0 0, .slice none 0 0] 28))
     have LH := Lib.hid (LG.out.trans (hb0.mono LG.out.size))
     generalize (vG.alloc (.cells #[.int .i64 0, .bool false, .int .i64 0, .string ⟨#[]⟩, .slice none 0 0, .slice none 0 0] 28)) = vH at *
     have HX13 := Lib.hid hX
     clear hb0 hX  LG
     generalize vG.heap.size = g13 at *
     obtain ⟨a0, a1, a2, a3, a4, a5⟩ : vH.cell? ⟨gz, 0, none⟩ = some (.int .i64 0) ∧ vH.cell? ⟨gz, 1, none⟩ = some (.bool false) ∧ vH.cell? ⟨gz, 2, none⟩ = some (.int .i64 0) ∧ vH.cell? ⟨gz, 3, none⟩ = some (.string ⟨#[]⟩) ∧ vH.cell? ⟨gz, 4, none⟩ = some (.slice none 0 0) ∧ vH.cell? ⟨gz, 5, none⟩ = some (.slice none 0 0) := by
      have h := HF.out.onto LH.out
      exact ⟨h.cell 0, h.cell 1, h.cell 2, h.cell 3, h.cell 4, h.cell 5⟩
     have HWH := Lib.hid (HWX.out.trans ((HBP.out.trans (LH.out.mono HBP.out.size)).mono hwx))
     clear LH HBP
     go_wp2_with fail
     refine (ref_zero _).mono ?_
     rintro e9 w9 ⟨U, f3, U', f3', rfl, hU, hb0⟩
     have HWI := Lib.hid (HWH.out.trans (hb0.mono HWH.out.size))
     have HU := Lib.hid hU
     clear hb0 hU
     go_wp2_with fail
     refine (rsame_zero U f3 U' f3' _ HU.out).mono ?_
     rintro e8 w10 ⟨rfl, hb0⟩
     have HWJ := Lib.hid (HWI.out.trans (hb0.mono HWI.out.size))
     clear hb0
     go_wp2_with fail
     go_ret
     exact ⟨rfl, HWJ.out⟩

end Go.Proofs.YthkpeomdklcnmaaDoor
