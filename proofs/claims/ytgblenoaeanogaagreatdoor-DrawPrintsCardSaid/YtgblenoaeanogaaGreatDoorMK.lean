/- An item of an array that is being read: contract of the program's item: the walk. An array that is being read: contract of the program's array. -/
import Derived.Test.YtgblenoaeanogaaGreatDoorMJ
set_option linter.unusedVariables false
set_option maxRecDepth 100000
set_option maxHeartbeats 8000000
open Go.Lib (hid)
namespace Go.Proofs.YtgblenoaeanogaaGreatDoor
open Go.RowKit
open Tk
theorem item_step {O : List (ByteArray × T) → T} {s : ByteArray} {n0 q r b N0 room : Nat} (IH : ∀ n, n ≤ n0 → FromAt O s n) (hroom : room ≤ 1000) (hs : s.size ≤ 90000) (n : Nat) (Y : Nat → Prop) (t : Tok) (l : List T) (w : World) (hn : n ≤ n0) (hJ : ItemJ q r b N0 room Y l w) (hL : Lx w b s t.fin) (hE : ErrAt b w) (hok : Rd.Ok s t) (hnn : 2 * (s.size - t.at_) + 1 ≤ n) (hm : l.length ≤ t.at_) :
 Calls Tryz.prog 102 #[.pointer (some ⟨q, 0, none⟩), .agg #[.int .i64 t.kind, .string t.text, .int .i64 t.num, .int .i64 t.at_, .int .i64 t.fin]] w (StepPost (Rd.itemP O s room n t l) (ItemJ q r b N0 room) Y b N0 s w) := by
 obtain ⟨⟨A0, d0, xs0, hq, hc⟩, hr, hYq, hYN, h1, h2, h3, h4⟩ := hJ
 have hql := hq.lt
 have hbl : b < w.heap.size := by omega
 have hF := from_says (IH n hn) room hroom t r b
 have HF := hid hF
 have HOK := hid hok
 have hok2 := hok
 have hbW : Below w.heap.size w (w.alloc (.cells (tokC t) 99)) := (Below.refl _ _).alloc (Nat.le_refl _) _
 have HQ := hid (hq.onto hbW)
 have HR := hid (hr.onto hbW)
 have HL := hid (show Lx _ b s t.fin from Blk.onto hL hbW)
 have HE := hid (hE.onto hbW)
 have HC := hid hc
 have HB := hid (Blk.new w 99 (tokC t))
 have HW := hid hbW
 have HYN := hid hYN
 have hWs : (w.alloc (.cells (tokC t) 99)).heap.size = w.heap.size + 1 := by simp
 clear hF hok hbW hq hr hL hE hc hYN IH
 go_enter Tryz.func102, Tryz.ntmps102
 go_upto_region 1 with fail
 change Code.wp _ _ _ _ (w.alloc (.cells (tokC t) 99))
 generalize (w.alloc (.cells (tokC t) 99)) = W at *
 generalize hF : w.heap.size = F at *
 have hFW : F < W.heap.size := by omega
 have HFe := hid hF
 clear hWs hF
 have HS := hid (show ∀ w', Aside b W w' → w'.cell? ⟨q, 0, none⟩ = some (.pointer (some ⟨r, 0, none⟩)) ∧ w'.cell? ⟨F, 0, none⟩ = some (.int .i64 t.kind) ∧ w'.cell? ⟨F, 1, none⟩ = some (.string t.text) ∧ w'.cell? ⟨F, 2, none⟩ = some (.int .i64 t.num) ∧ w'.cell? ⟨F, 3, none⟩ = some (.int .i64 t.at_) ∧ w'.cell? ⟨F, 4, none⟩ = some (.int .i64 t.fin) from fun w' h => by
  have e1 := HQ.out.aside h (by omega)
  have e2 := HB.out.aside h (by omega)
  exact ⟨e1.cell 0, e2.cell 0, e2.cell 1, e2.cell 2, e2.cell 3, e2.cell 4⟩)
 go_cut [6, 7, 8] (fun s6 s7 s8 wx => ItemCut (Rd.fromF O s n room t) b s W s6 s7 s8 wx)
 case first =>
  refine wp_region_held_drew (S := fun w' => w'.cell? ⟨q, 0, none⟩ = some (.pointer (some ⟨r, 0, none⟩)) ∧ w'.cell? ⟨F, 0, none⟩ = some (.int .i64 t.kind) ∧ w'.cell? ⟨F, 1, none⟩ = some (.string t.text) ∧ w'.cell? ⟨F, 2, none⟩ = some (.int .i64 t.num) ∧ w'.cell? ⟨F, 3, none⟩ = some (.int .i64 t.at_) ∧ w'.cell? ⟨F, 4, none⟩ = some (.int .i64 t.fin)) (by kernel_rfl) ?_ (fun hHeld => ?_)
  · exact HS.out _ (Aside.of (Below.refl W.heap.size W).drew)
  refine wpAnyH_take (i := 0) (v := ?_) rfl (by kernel_rfl) (by kernel_rfl) (by kernel_rfl) (fun _ _ _ h => h) (Or.inl ⟨by rfl, ?_⟩) (by assumption) ?_
  rotate_left
  ·
   intro wq hSw
   try dsimp only at hSw
   go_simp
   try (with_reducible rfl)
  try simp only [Act.put, List.getElem_toArray, List.getElem_cons_zero, List.setIfInBounds_toArray, List.set_cons_zero, List.set_cons_succ]
  refine wpAnyH_take (i := 1) (v := ?_) rfl (by kernel_rfl) (by kernel_rfl) (by kernel_rfl) (fun _ _ _ h => h) (Or.inl ⟨by rfl, ?_⟩) (by assumption) ?_
  rotate_left
  ·
   intro wq hSw
   try dsimp only at hSw
   go_simp
   try (with_reducible rfl)
  try simp only [Act.put, sqa, sqb, sqc, sqd, sqe, sqf]
  refine wpAnyH_take (i := 2) (v := ?_) rfl (by kernel_rfl) (by kernel_rfl) (by kernel_rfl) (fun _ _ _ h => h) (Or.inl ⟨by rfl, ?_⟩) (by assumption) ?_
  rotate_left
  ·
   intro wq hSw
   try dsimp only at hSw
   go_simp
   try (with_reducible rfl)
  try simp only [Act.put, sqa, sqb, sqc, sqd, sqe, sqf]
  refine wpAnyH_take (i := 3) (v := ?_) rfl (by kernel_rfl) (by kernel_rfl) (by kernel_rfl) (fun _ _ _ h => h) (Or.inl ⟨by rfl, ?_⟩) (by assumption) ?_
  rotate_left
  ·
   intro wq hSw
   try dsimp only at hSw
   go_simp
   try (with_reducible rfl)
  try simp only [Act.put, sqa, sqb, sqc, sqd, sqe, sqf]
  refine wpAnyH_take (i := 4) (v := ?_) rfl (by kernel_rfl) (by kernel_rfl) (by kernel_rfl) (fun _ _ _ h => h) (Or.inl ⟨by rfl, ?_⟩) (by assumption) ?_
  rotate_left
  ·
   intro wq hSw
   try dsimp only at hSw
   go_simp
   try (with_reducible rfl)
  try simp only [Act.put, sqa, sqb, sqc, sqd, sqe, sqf]
  refine wpAnyH_ready (rs := [5, 10]) (by kernel_rfl) (by simp) ?_
  refine AllReadyH.cons rfl (fun K0 hK => ?_) (AllReadyH.cons rfl (fun K0 hK => ?_) AllReadyH.nil)
  ·
   skip
   go_simp
   refine (HF.out W.drew HOK.out hnn ?_ ?_ ?_ h4).mono ?_
   · exact HR.out
   · exact HL.out
   · exact HE.out.onto (Below.refl W.heap.size W).drew
   rintro e w5 ⟨V, A, c, A', c', p, ec, rfl, hsay⟩
   have HSAY := hid (hsay.back (Below.refl W.heap.size W).drew)
   clear hsay
   unfold T.agg
   refine hK.out _ _ ?_ (fun hHeld => ?_)
   · exact HS.out _ HSAY.out.side
   clear hK K0
   try simp only [Act.put, sqa, sqb, sqc, sqd, sqe, sqf]
   refine wpAnyH_take (i := 6) (v := ?_) rfl (by kernel_rfl) (by kernel_rfl) (by kernel_rfl) (fun _ _ _ h => h) (Or.inl ⟨by rfl, ?_⟩) (by assumption) ?_
   rotate_left
   ·
    intro wq hSw
    try dsimp only at hSw
    go_simp
    try (with_reducible rfl)
   try simp only [Act.put, sqa, sqb, sqc, sqd, sqe, sqf]
   refine wpAnyH_take (i := 7) (v := ?_) rfl (by kernel_rfl) (by kernel_rfl) (by kernel_rfl) (fun _ _ _ h => h) (Or.inl ⟨by rfl, ?_⟩) (by assumption) ?_
   rotate_left
   ·
    intro wq hSw
    try dsimp only at hSw
    go_simp
    try (with_reducible rfl)
   try simp only [Act.put, sqa, sqb, sqc, sqd, sqe, sqf]
   refine wpAnyH_take (i := 8) (v := ?_) rfl (by kernel_rfl) (by kernel_rfl) (by kernel_rfl) (fun _ _ _ h => h) (Or.inl ⟨by rfl, ?_⟩) (by assumption) ?_
   rotate_left
   ·
    intro wq hSw
    try dsimp only at hSw
    go_simp
    try (with_reducible rfl)
   try simp only [Act.put, sqa, sqb, sqc, sqd, sqe, sqf]
   refine wpAnyH_take (i := 9) (v := ?_) rfl (by kernel_rfl) (by kernel_rfl) (by kernel_rfl) (fun _ _ _ h => h) (Or.inl ⟨by rfl, ?_⟩) (by assumption) ?_
   rotate_left
   ·
    intro wq hSw
    try dsimp only at hSw
    go_simp
    try (with_reducible rfl)
   try simp only [Act.put, sqa, sqb, sqc, sqd, sqe, sqf]
   refine wpAnyH_ready (rs := [10]) (by kernel_rfl) (by simp) ?_
   refine AllReadyH.cons rfl (fun K0 hK => ?_) ?_
   rotate_left
   · exact AllReadyH.nil
   go_simp
   refine hK.out _ _ ?_ (fun hHeld => ?_)
   · exact HS.out _ (HSAY.out.side.trans_ (Aside.of ((Below.refl _ _).alloc (Nat.le_refl _) _)))
   clear hK K0
   try simp only [Act.put, sqa, sqb, sqc, sqd, sqe, sqf]
   refine wpAnyH_ready (rs := [11]) (by kernel_rfl) (by simp) ?_
   refine AllReadyH.cons rfl (fun K0 hK => ?_) ?_
   rotate_left
   · exact AllReadyH.nil
   go_simp
   refine hK.out _ _ ?_ (fun hHeld => ?_)
   · exact HS.out _ (HSAY.out.side.trans_ (Aside.of ((Below.refl _ _).alloc (Nat.le_refl _) _)))
   clear hK K0
   try simp only [Act.put, sqa, sqb, sqc, sqd, sqe, sqf]
   refine wpAnyH_take (i := 12) (v := ?_) rfl (by kernel_rfl) (by kernel_rfl) (by kernel_rfl) (fun _ _ _ h => h) (Or.inl ⟨by rfl, ?_⟩) (by assumption) ?_
   rotate_left
   ·
    intro wq hSw
    try dsimp only at hSw
    go_simp
    try (with_reducible rfl)
   try simp only [Act.put, sqa, sqb, sqc, sqd, sqe, sqf]
   refine wpAnyH_take (i := 13) (v := ?_) rfl (by kernel_rfl) (by kernel_rfl) (by kernel_rfl) (fun _ _ _ h => h) (Or.inl ⟨by rfl, ?_⟩) (by assumption) ?_
   rotate_left
   ·
    intro wq hSw
    try dsimp only at hSw
    go_simp
    try (with_reducible rfl)
   try simp only [Act.put, sqa, sqb, sqc, sqd, sqe, sqf]
   refine wpAnyH_done (by kernel_rfl) ?_ _
   go_wp2_with fail
   go_meet
   exact item_cutA HSAY.out (by omega)
  ·
   skip
   go_simp
   have HWa := hid (show Below W.heap.size W (W.alloc (.cells #[.int .i64 0, .bool false, .int .i64 0, .string ⟨#[]⟩, .slice none 0 0, .slice none 0 0] 43)).drew from ((Below.refl W.heap.size W).alloc (Nat.le_refl _) _).drew)
   have HBa := hid (show Blk (W.alloc (.cells #[.int .i64 0, .bool false, .int .i64 0, .string ⟨#[]⟩, .slice none 0 0, .slice none 0 0] 43)).drew W.heap.size 43 #[.int .i64 0, .bool false, .int .i64 0, .string ⟨#[]⟩, .slice none 0 0, .slice none 0 0] from Blk.new W _ _)
   refine hK.out _ _ ?_ (fun hHeld => ?_)
   · exact HS.out _ (Aside.of HWa.out)
   clear hK K0
   try simp only [Act.put, sqa, sqb, sqc, sqd, sqe, sqf]
   have hWa : W.heap.size < (W.alloc (.cells #[.int .i64 0, .bool false, .int .i64 0, .string ⟨#[]⟩, .slice none 0 0, .slice none 0 0] 43)).drew.heap.size := HBa.out.lt
   generalize (W.alloc (.cells #[.int .i64 0, .bool false, .int .i64 0, .string ⟨#[]⟩, .slice none 0 0, .slice none 0 0] 43)).drew = wa at *
   refine wpAnyH_ready (rs := [5]) (by kernel_rfl) (by simp) ?_
   refine AllReadyH.cons rfl (fun K0 hK => ?_) ?_
   rotate_left
   · exact AllReadyH.nil
   go_simp
   refine (HF.out wa HOK.out hnn ?_ ?_ ?_ h4).mono ?_
   · exact HR.out.onto HWa.out
   · exact Blk.onto HL.out HWa.out
   · exact HE.out.onto HWa.out
   rintro e w5 ⟨V, A, c, A', c', p, ec, rfl, hsay⟩
   have HSAY := hid hsay
   have HBb := hid (HBa.out.aside hsay.side (by omega))
   clear hsay
   unfold T.agg
   refine hK.out _ _ ?_ (fun hHeld => ?_)
   · exact HS.out _ ((Aside.of HWa.out).trans_ HSAY.out.side)
   clear hK K0
   try simp only [Act.put, sqa, sqb, sqc, sqd, sqe, sqf]
   refine wpAnyH_take (i := 6) (v := ?_) rfl (by kernel_rfl) (by kernel_rfl) (by kernel_rfl) (fun _ _ _ h => h) (Or.inl ⟨by rfl, ?_⟩) (by assumption) ?_
   rotate_left
   ·
    intro wq hSw
    try dsimp only at hSw
    go_simp
    try (with_reducible rfl)
   try simp only [Act.put, sqa, sqb, sqc, sqd, sqe, sqf]
   refine wpAnyH_take (i := 7) (v := ?_) rfl (by kernel_rfl) (by kernel_rfl) (by kernel_rfl) (fun _ _ _ h => h) (Or.inl ⟨by rfl, ?_⟩) (by assumption) ?_
   rotate_left
   ·
    intro wq hSw
    try dsimp only at hSw
    go_simp
    try (with_reducible rfl)
   try simp only [Act.put, sqa, sqb, sqc, sqd, sqe, sqf]
   refine wpAnyH_take (i := 8) (v := ?_) rfl (by kernel_rfl) (by kernel_rfl) (by kernel_rfl) (fun _ _ _ h => h) (Or.inl ⟨by rfl, ?_⟩) (by assumption) ?_
   rotate_left
   ·
    intro wq hSw
    try dsimp only at hSw
    go_simp
    try (with_reducible rfl)
   try simp only [Act.put, sqa, sqb, sqc, sqd, sqe, sqf]
   refine wpAnyH_take (i := 9) (v := ?_) rfl (by kernel_rfl) (by kernel_rfl) (by kernel_rfl) (fun _ _ _ h => h) (Or.inl ⟨by rfl, ?_⟩) (by assumption) ?_
   rotate_left
   ·
    intro wq hSw
    try dsimp only at hSw
    go_simp
    try (with_reducible rfl)
   try simp only [Act.put, sqa, sqb, sqc, sqd, sqe, sqf]
   refine wpAnyH_ready (rs := [11]) (by kernel_rfl) (by simp) ?_
   refine AllReadyH.cons rfl (fun K0 hK => ?_) ?_
   rotate_left
   · exact AllReadyH.nil
   have q0 : w5.cell? ⟨W.heap.size, 0, none⟩ = some (.int .i64 0) := HBb.out.cell 0
   have q1 : w5.cell? ⟨W.heap.size, 1, none⟩ = some (.bool false) := HBb.out.cell 1
   have q2 : w5.cell? ⟨W.heap.size, 2, none⟩ = some (.int .i64 0) := HBb.out.cell 2
   have q3 : w5.cell? ⟨W.heap.size, 3, none⟩ = some (.string ⟨#[]⟩) := HBb.out.cell 3
   have q4 : w5.cell? ⟨W.heap.size, 4, none⟩ = some (.slice none 0 0) := HBb.out.cell 4
   have q5 : w5.cell? ⟨W.heap.size, 5, none⟩ = some (.slice none 0 0) := HBb.out.cell 5
   have x0 := HBb.out.free 0
   have x1 := HBb.out.free 1
   have x2 := HBb.out.free 2
   have x3 := HBb.out.free 3
   have x4 := HBb.out.free 4
   have x5 := HBb.out.free 5
   go_simp
   refine hK.out _ _ ?_ (fun hHeld => ?_)
   · exact HS.out _ (((Aside.of HWa.out).trans_ HSAY.out.side).put6 (Nat.le_refl _) _ _ _ _ _ _)
   clear hK K0
   try simp only [Act.put, sqa, sqb, sqc, sqd, sqe, sqf]
   refine wpAnyH_take (i := 12) (v := ?_) rfl (by kernel_rfl) (by kernel_rfl) (by kernel_rfl) (fun _ _ _ h => h) (Or.inl ⟨by rfl, ?_⟩) (by assumption) ?_
   rotate_left
   ·
    intro wq hSw
    try dsimp only at hSw
    go_simp
    try (with_reducible rfl)
   try simp only [Act.put, sqa, sqb, sqc, sqd, sqe, sqf]
   refine wpAnyH_take (i := 13) (v := ?_) rfl (by kernel_rfl) (by kernel_rfl) (by kernel_rfl) (fun _ _ _ h => h) (Or.inl ⟨by rfl, ?_⟩) (by assumption) ?_
   rotate_left
   ·
    intro wq hSw
    try dsimp only at hSw
    go_simp
    try (with_reducible rfl)
   try simp only [Act.put, sqa, sqb, sqc, sqd, sqe, sqf]
   refine wpAnyH_done (by kernel_rfl) ?_ _
   go_wp2_with fail
   go_meet
   exact item_cutB HSAY.out HWa.out hWa (by omega) HBb.out
 case rest =>
  obtain ⟨g, V, A, c, A', c', p, ec, rfl, rfl, rfl, hbg, hin, hgW⟩ := hcut
  have hpe : Rd.itemP O s room n t l = match Rd.fromF O s n room t with | .out => .out | .err p c => .err p c | .val v e => .ok (l ++ [v]) e := rfl
  cases hres : Rd.fromF O s n room t with
  | out => rw [hres] at hin; exact hin.elim
  | err p0 c0 =>
   rw [hres] at hin hpe
   obtain ⟨rfl, rfl, he0, hA⟩ := hin
   have v1 : (ec != 0) = true := by rw [bne, he0]; rfl
   have v2 : ¬ ec = 0 := by simpa using he0
   go_wp2_with fail
   refine bodyPost_ret (v := .tuple #[.int .i64 p0, .int .i64 ec]) (by simp [results, Tryz.results102, go_sem]) rfl ?_
   exact ⟨rfl, he0, (Kept.of (HFe.out ▸ HW.out)).trans (Kept.side hA (fun k hk => by rcases hk with hk | hk; have := (HYN.out k hk).1; omega; exact hk.2))⟩
  | val v fin =>
   rw [hres] at hin hpe
   obtain ⟨rfl, rfl, rfl, hT, hA, hLf⟩ := hin
   obtain ⟨i1, hi1, hy0, hy1, hy2⟩ := info_parts infoVal
   have hFe := HFe.out
   have hwl := HW.out.size
   have hown0 := HC.out.2.1
   have hlw := hown0.lt
   have HQc := hid (HQ.out.aside hA (by omega))
   have HG := hid hbg
   have HT := hid hT
   have HA := hid hA
   have HLf := hid hLf
   have hXq := HC.out.1
   have hgl : g < wc.heap.size := hbg.lt
   have HCc := hid (show Coll 43 wc N0 (fun k => Y k ∨ k < N0 ∨ k = q) l (.slice A0 l.length d0) xs0 from HC.out.fresh (fun k hk hx => (HA.out.block k (by omega) (fun e => hx (.inr (.inl (by omega))))).trans (HW.out.block k (by omega))) (Nat.le_trans hwl hA.size) (fun k _ h => h))
   have HS4 := hid (show ∀ w' : World, (∀ k, k < wc.heap.size → some k ≠ (Value.slice A0 l.length d0).ownBlock → w'.heap[k]? = wc.heap[k]?) → w'.cell? ⟨q, 1, none⟩ = some (.slice A0 l.length d0) ∧ (w'.cell? ⟨g, 0, none⟩ = some (.int .i64 V.kind) ∧ w'.cell? ⟨g, 1, none⟩ = some (.bool V.tr) ∧ w'.cell? ⟨g, 2, none⟩ = some (.int .i64 V.num) ∧ w'.cell? ⟨g, 3, none⟩ = some (.string V.str) ∧ w'.cell? ⟨g, 4, none⟩ = some (.slice A V.items.length c) ∧ w'.cell? ⟨g, 5, none⟩ = some (.slice A' V.keys.length c')) from fun w' h => by
    have e1 : Blk w' q 156 #[.pointer (some ⟨r, 0, none⟩), .slice A0 l.length d0] := (h q (by have := hA.size; omega) (fun e => HC.out.1 q e.symm (.inr (.inr rfl)))).trans HQc.out
    have e2 := (h g hgl (fun e => by have := (hlw g e.symm).2; omega)).trans HG.out
    have e3 : Blk w' g 43 #[.int .i64 V.kind, .bool V.tr, .int .i64 V.num, .string V.str, .slice A V.items.length c, .slice A' V.keys.length c'] := e2
    exact ⟨e1.cell 1, e3.cell 0, e3.cell 1, e3.cell 2, e3.cell 3, e3.cell 4, e3.cell 5⟩)
   have hAs := hA.size
   clear hT hA hLf hbg hown0
   go_wp2_with fail
   refine wp_region_held_drew (S := fun w' => (w'.cell? ⟨g, 0, none⟩ = some (.int .i64 V.kind) ∧ w'.cell? ⟨g, 1, none⟩ = some (.bool V.tr) ∧ w'.cell? ⟨g, 2, none⟩ = some (.int .i64 V.num) ∧ w'.cell? ⟨g, 3, none⟩ = some (.string V.str) ∧ w'.cell? ⟨g, 4, none⟩ = some (.slice A V.items.length c) ∧ w'.cell? ⟨g, 5, none⟩ = some (.slice A' V.keys.length c'))) (by kernel_rfl) ?_ (fun hHeld => ?_)
   · exact (HS4.out wc.drew (fun k _ _ => rfl)).2
   refine wpAnyH_take (i := 0) (v := ?_) rfl (by kernel_rfl) (by kernel_rfl) (by kernel_rfl) (fun _ _ _ h => h) (Or.inl ⟨by rfl, ?_⟩) (by assumption) ?_
   rotate_left
   ·
    intro wq hSw
    try dsimp only at hSw
    go_simp
    try (with_reducible rfl)
   try simp only [Act.put, List.getElem_toArray, List.getElem_cons_zero, List.setIfInBounds_toArray, List.set_cons_zero, List.set_cons_succ]
   refine wpAnyH_take (i := 1) (v := ?_) rfl (by kernel_rfl) (by kernel_rfl) (by kernel_rfl) (fun _ _ _ h => h) (Or.inl ⟨by rfl, ?_⟩) (by assumption) ?_
   rotate_left
   ·
    intro wq hSw
    try dsimp only at hSw
    go_simp
    try (with_reducible rfl)
   try simp only [Act.put, sqa, sqb, sqc, sqd, sqe, sqf]
   refine wpAnyH_take (i := 2) (v := ?_) rfl (by kernel_rfl) (by kernel_rfl) (by kernel_rfl) (fun _ _ _ h => h) (Or.inl ⟨by rfl, ?_⟩) (by assumption) ?_
   rotate_left
   ·
    intro wq hSw
    try dsimp only at hSw
    go_simp
    try (with_reducible rfl)
   try simp only [Act.put, sqa, sqb, sqc, sqd, sqe, sqf]
   refine wpAnyH_take (i := 4) (v := ?_) rfl (by kernel_rfl) (by kernel_rfl) (by kernel_rfl) (fun _ _ _ h => h) (Or.inl ⟨by rfl, ?_⟩) (by assumption) ?_
   rotate_left
   ·
    intro wq hSw
    try dsimp only at hSw
    go_simp
    try (with_reducible rfl)
   try simp only [Act.put, sqa, sqb, sqc, sqd, sqe, sqf]
   have hq1 := (HS4.out wc.drew (fun k _ _ => rfl)).1
   refine wpAnyH_ready (rs := [3, 6]) (by kernel_rfl) (by simp) ?_
   refine AllReadyH.cons rfl (fun K0 hK => ?_) (AllReadyH.cons rfl (fun K0 hK => ?_) AllReadyH.nil)
   ·
    skip
    go_simp
    refine hK.out _ _ ?_ (fun hHeld => ?_)
    · exact (HS4.out wc.drew (fun k _ _ => rfl)).2
    clear hK K0
    try simp only [Act.put, sqa, sqb, sqc, sqd, sqe, sqf]
    refine wpAnyH_take (i := 5) (v := ?_) rfl (by kernel_rfl) (by kernel_rfl) (by kernel_rfl) (fun _ _ _ h => h) (Or.inl ⟨by rfl, ?_⟩) (by assumption) ?_
    rotate_left
    ·
     intro wq hSw
     try dsimp only at hSw
     go_simp
     try (with_reducible rfl)
    try simp only [Act.put, sqa, sqb, sqc, sqd, sqe, sqf]
    refine wpAnyH_ready (rs := [6]) (by kernel_rfl) (by simp) ?_
    refine AllReadyH.cons rfl (fun K0 hK => ?_) ?_
    rotate_left
    · exact AllReadyH.nil
    go_simp
    have HBl := hid (show ∀ k, k < wc.heap.size → (wc.alloc (.cells #[.int .i64 0, .bool false, .int .i64 0, .string ⟨#[]⟩, .slice none 0 0, .slice none 0 0] 43)).drew.heap[k]? = wc.heap[k]? from fun k hk => Below.heap_alloc wc _ k hk)
    have HOa := hid (show (wc.alloc (.cells #[.int .i64 0, .bool false, .int .i64 0, .string ⟨#[]⟩, .slice none 0 0, .slice none 0 0] 43)).drew.ownsRow N0 43 6 (.slice A0 l.length d0) l.length xs0 from (HCc.out.2.1.alloc _).drew)
    have HZa := hid (show Blk (wc.alloc (.cells #[.int .i64 0, .bool false, .int .i64 0, .string ⟨#[]⟩, .slice none 0 0, .slice none 0 0] 43)).drew wc.heap.size 43 (T.zero.cs none 0 none 0) from Blk.new wc _ _)
    have HGa := hid (show (wc.alloc (.cells #[.int .i64 0, .bool false, .int .i64 0, .string ⟨#[]⟩, .slice none 0 0, .slice none 0 0] 43)).grownBy (wc.alloc (.cells #[.int .i64 0, .bool false, .int .i64 0, .string ⟨#[]⟩, .slice none 0 0, .slice none 0 0] 43)).drew none from ⟨rfl, rfl, rfl, Nat.le_refl _, fun _ _ _ => rfl⟩)
    have hwaz : (wc.alloc (.cells #[.int .i64 0, .bool false, .int .i64 0, .string ⟨#[]⟩, .slice none 0 0, .slice none 0 0] 43)).drew.heap.size = (wc.alloc (.cells #[.int .i64 0, .bool false, .int .i64 0, .string ⟨#[]⟩, .slice none 0 0, .slice none 0 0] 43)).heap.size := rfl
    have hwa1 : (wc.alloc (.cells #[.int .i64 0, .bool false, .int .i64 0, .string ⟨#[]⟩, .slice none 0 0, .slice none 0 0] 43)).heap.size = wc.heap.size + 1 := by simp
    refine hK.out _ _ ?_ (fun hHeld => ?_)
    · exact (HS4.out _ (fun k hk _ => HBl.out k hk)).2
    clear hK K0
    try simp only [Act.put, sqa, sqb, sqc, sqd, sqe, sqf]
    generalize (wc.alloc (.cells #[.int .i64 0, .bool false, .int .i64 0, .string ⟨#[]⟩, .slice none 0 0, .slice none 0 0] 43)).drew = wa at *
    refine wpAnyH_ready (rs := [7]) (by kernel_rfl) (by simp) ?_
    refine AllReadyH.cons rfl (fun K0 hK => ?_) ?_
    rotate_left
    · exact AllReadyH.nil
    refine app_step rfl (.tmp 26) (.tmp 29) 40 rfl N0 43 i1 (.agg #[.int .i64 0, .bool false, .int .i64 0, .string ⟨#[]⟩, .slice none 0 0, .slice none 0 0]) 6 88 Tryz.underlying40 hi1 hy0 hy1 hy2 rfl (by decide) (.slice A0 l.length d0) l.length xs0 rfl HOa.out (some ⟨wc.heap.size, 0, none⟩) 1 1 (T.zero.cs none 0 none 0).toList rfl (src_of_cs HZa.out) cs_one (by unfold maxLen; have := hok2.1; have := hok2.2.1; omega) (by have := hok2.1; have := hok2.2.1; omega) (by omega) (l.length + 1) rfl ?_
    intro B d8 w8 ho8 hg8 hat8
    obtain ⟨gB, rfl, hgB1, hgB2, hcell, hfree, hown9⟩ := own_put6 ho8 HOa.out.1 rfl V A c A' c'
    have HO9 := hid hown9
    have HG8 := hid hg8
    have HAT := hid hat8
    have hat9 : gB < w.heap.size ∧ some gB = (Value.slice A0 l.length d0).ownBlock ∨ gB = wc.heap.size + 1 := by
     rcases hat8 with h | h
     · left; exact ⟨(hlw gB h.symm).2, h⟩
     · right; have h' : gB = wa.heap.size := Option.some.inj h; omega
    have hgq : gB ≠ q := by
     rcases hat9 with h | h
     · intro e; exact HC.out.1 q (by rw [← e]; exact h.2.symm) (.inr (.inr rfl))
     · omega
    have hgg : gB ≠ g := by
     rcases hat9 with h | h
     · have := h.1; omega
     · omega
    have HB8 := hid (show ∀ k, k < wc.heap.size → some k ≠ (Value.slice A0 l.length d0).ownBlock → w8.heap[k]? = wc.heap[k]? from fun k hk hne => (HG8.out.block k (by omega) hne).trans (HBl.out k hk))
    have n0 : w8.cell? ⟨gB, l.length * 6, none⟩ = some (.int .i64 0) := hcell 0 (by omega)
    have n1 : w8.cell? ⟨gB, l.length * 6 + 1, none⟩ = some (.bool false) := hcell 1 (by omega)
    have n2 : w8.cell? ⟨gB, l.length * 6 + 2, none⟩ = some (.int .i64 0) := hcell 2 (by omega)
    have n3 : w8.cell? ⟨gB, l.length * 6 + 3, none⟩ = some (.string ⟨#[]⟩) := hcell 3 (by omega)
    have n4 : w8.cell? ⟨gB, l.length * 6 + 4, none⟩ = some (.slice none 0 0) := hcell 4 (by omega)
    have n5 : w8.cell? ⟨gB, l.length * 6 + 5, none⟩ = some (.slice none 0 0) := hcell 5 (by omega)
    have z0 := hfree (l.length * 6)
    have z1 := hfree (l.length * 6 + 1)
    have z2 := hfree (l.length * 6 + 2)
    have z3 := hfree (l.length * 6 + 3)
    have z4 := hfree (l.length * 6 + 4)
    have z5 := hfree (l.length * 6 + 5)
    have e1 : (l.length : Int) < ((l.length + 1 : Nat) : Int) := by omega
    have e2 : (0 : Int) ≤ (l.length : Int) := by omega
    have e3 : (l.length : Int) < (l.length : Int) + 1 := by omega
    clear ho8 hg8 hat8 hown9 hcell hfree
    refine hK.out _ _ ?_ (fun hHeld => ?_)
    · exact (HS4.out _ HB8.out).2
    clear hK K0
    try simp only [Act.put, sqa, sqb, sqc, sqd, sqe, sqf]
    refine wpAnyH_take (i := 8) (v := ?_) rfl (by kernel_rfl) (by kernel_rfl) (by kernel_rfl) (fun _ _ _ h => h) (Or.inl ⟨by rfl, ?_⟩) (by assumption) ?_
    rotate_left
    ·
     intro wq hSw
     try dsimp only at hSw
     go_simp
     try (with_reducible rfl)
    try simp only [Act.put, sqa, sqb, sqc, sqd, sqe, sqf]
    refine wpAnyH_take (i := 10) (v := ?_) rfl (by kernel_rfl) (by kernel_rfl) (by kernel_rfl) (fun _ _ _ h => h) (Or.inl ⟨by rfl, ?_⟩) (by assumption) ?_
    rotate_left
    ·
     intro wq hSw
     try dsimp only at hSw
     go_simp
     try (with_reducible rfl)
    try simp only [Act.put, sqa, sqb, sqc, sqd, sqe, sqf]
    refine wpAnyH_take (i := 11) (v := ?_) rfl (by kernel_rfl) (by kernel_rfl) (by kernel_rfl) (fun _ _ _ h => h) (Or.inl ⟨by rfl, ?_⟩) (by assumption) ?_
    rotate_left
    ·
     intro wq hSw
     try dsimp only at hSw
     go_simp
     try (with_reducible rfl)
    try simp only [Act.put, sqa, sqb, sqc, sqd, sqe, sqf]
    have HQ8 := hid (show Blk w8 q 156 #[.pointer (some ⟨r, 0, none⟩), .slice A0 l.length d0] from (HB8.out q (by omega) (fun e => HC.out.1 q e.symm (.inr (.inr rfl)))).trans HQc.out)
    have HG9 := hid (show (wc.alloc (.cells #[.int .i64 0, .bool false, .int .i64 0, .string ⟨#[]⟩, .slice none 0 0, .slice none 0 0] 43)).grownBy ((((((w8.setCell ⟨gB, l.length * 6, none⟩ (.int .i64 V.kind)).setCell ⟨gB, l.length * 6 + 1, none⟩ (.bool V.tr)).setCell ⟨gB, l.length * 6 + 2, none⟩ (.int .i64 V.num)).setCell ⟨gB, l.length * 6 + 3, none⟩ (.string V.str)).setCell ⟨gB, l.length * 6 + 4, none⟩ (.slice A V.items.length c)).setCell ⟨gB, l.length * 6 + 5, none⟩ (.slice A' V.keys.length c')) (Value.slice A0 l.length d0).ownBlock from grown_put6 (⟨HG8.out.os.trans HGa.out.os, HG8.out.tape.trans HGa.out.tape, HG8.out.output.trans HGa.out.output, Nat.le_trans HGa.out.size HG8.out.size, fun k hk hne => (HG8.out.block k (by omega) hne).trans (HGa.out.block k hk (by simp))⟩) (by
     rcases hat9 with h | h
     · exact .inl h.2.symm
     · exact .inr (by omega)))
    have HEND := hid (item_end (room := room) (HFe.out ▸ HW.out) HA.out HCc.out HT.out HLf.out HR.out hYq (fun k hk => HFe.out ▸ HYN.out k hk) h1 h2 h3 h4 (by omega) (by omega) (fun k hk => (hlw k hk).2) HO9.out HG9.out hat9 ((putv_heap (Ne.symm hgq)).trans HQ8.out))
    have hne : ∀ b o, b ≠ gB → (((((((w8.setCell ⟨gB, l.length * 6, none⟩ (.int .i64 V.kind)).setCell ⟨gB, l.length * 6 + 1, none⟩ (.bool V.tr)).setCell ⟨gB, l.length * 6 + 2, none⟩ (.int .i64 V.num)).setCell ⟨gB, l.length * 6 + 3, none⟩ (.string V.str)).setCell ⟨gB, l.length * 6 + 4, none⟩ (.slice A V.items.length c)).setCell ⟨gB, l.length * 6 + 5, none⟩ (.slice A' V.keys.length c'))).cell? ⟨b, o, none⟩ = w8.cell? ⟨b, o, none⟩ := fun b o hb => World.cell?_of_block (putv_heap hb)
    have HNE := hid hne
    clear hne
    refine wpAnyH_ready (rs := [9, 12]) (by kernel_rfl) (by simp) ?_
    refine AllReadyH.cons rfl (fun K0 hK => ?_) (AllReadyH.cons rfl (fun K0 hK => ?_) AllReadyH.nil)
    ·
     skip
     go_simp
     refine hK.out _ _ ?_ (fun hHeld => ?_)
     ·
      have hS := (HS4.out w8 HB8.out).2
      try dsimp only
      rw [HNE.out g _ (Ne.symm hgg), HNE.out g _ (Ne.symm hgg), HNE.out g _ (Ne.symm hgg), HNE.out g _ (Ne.symm hgg), HNE.out g _ (Ne.symm hgg), HNE.out g _ (Ne.symm hgg)]
      exact hS
     clear hK K0
     try simp only [Act.put, sqa, sqb, sqc, sqd, sqe, sqf]
     have HQ9 := hid (show Blk ((((((w8.setCell ⟨gB, l.length * 6, none⟩ (.int .i64 V.kind)).setCell ⟨gB, l.length * 6 + 1, none⟩ (.bool V.tr)).setCell ⟨gB, l.length * 6 + 2, none⟩ (.int .i64 V.num)).setCell ⟨gB, l.length * 6 + 3, none⟩ (.string V.str)).setCell ⟨gB, l.length * 6 + 4, none⟩ (.slice A V.items.length c)).setCell ⟨gB, l.length * 6 + 5, none⟩ (.slice A' V.keys.length c')) q 156 #[.pointer (some ⟨r, 0, none⟩), .slice A0 l.length d0] from (putv_heap (Ne.symm hgq)).trans HQ8.out)
     refine wpAnyH_ready (rs := [12]) (by kernel_rfl) (by simp) ?_
     refine AllReadyH.cons rfl (fun K0 hK => ?_) ?_
     rotate_left
     · exact AllReadyH.nil
     have y1 := HQ9.out.free 1
     have y1c := HQ9.out.cell 1
     go_simp
     refine hK.out _ _ ?_ (fun hHeld => ?_)
     ·
      have hS := (HS4.out w8 HB8.out).2
      have hx : ∀ (w0 : World) (u : Value) o, (w0.setCell ⟨q, 1, none⟩ u).cell? ⟨g, o, none⟩ = w0.cell? ⟨g, o, none⟩ := fun w0 u o => World.cell?_of_block (Below.heap_setCell w0 ⟨q, 1, none⟩ u g (by show g ≠ q; omega))
      try dsimp only
      rw [hx, hx, hx, hx, hx, hx, HNE.out g _ (Ne.symm hgg), HNE.out g _ (Ne.symm hgg), HNE.out g _ (Ne.symm hgg), HNE.out g _ (Ne.symm hgg), HNE.out g _ (Ne.symm hgg), HNE.out g _ (Ne.symm hgg)]
      exact hS
     clear hK K0
     try simp only [Act.put, sqa, sqb, sqc, sqd, sqe, sqf]
     refine wpAnyH_done (by kernel_rfl) ?_ _
     go_wp2_with fail
     refine bodyPost_ret (v := .tuple #[.int .i64 0, .int .i64 0]) (by simp [results, Tryz.results102, go_sem]) rfl ?_
     first | exact ⟨rfl, HEND.out⟩ | (rw [hpe]; exact ⟨rfl, HEND.out⟩)
    ·
     skip
     have y1 := HQ8.out.free 1
     have y1c := HQ8.out.cell 1
     go_simp
     have HX := hid (show ∀ (w0 : World) (u : Value) b o, b ≠ q → (w0.setCell ⟨q, 1, none⟩ u).cell? ⟨b, o, none⟩ = w0.cell? ⟨b, o, none⟩ from fun w0 u b o hb => World.cell?_of_block (Below.heap_setCell w0 ⟨q, 1, none⟩ u b hb))
     have HXF := hid (show ∀ (w0 : World) (u : Value) b o, b ≠ q → (w0.setCell ⟨q, 1, none⟩ u).frozen? ⟨b, o, none⟩ = w0.frozen? ⟨b, o, none⟩ from fun w0 u b o hb => World.frozen?_of_block (Below.heap_setCell w0 ⟨q, 1, none⟩ u b hb))
     refine hK.out _ _ ?_ (fun hHeld => ?_)
     ·
      have hS := (HS4.out w8 HB8.out).2
      try dsimp only
      rw [HX.out _ _ g _ (by omega), HX.out _ _ g _ (by omega), HX.out _ _ g _ (by omega), HX.out _ _ g _ (by omega), HX.out _ _ g _ (by omega), HX.out _ _ g _ (by omega)]
      exact hS
     clear hK K0
     try simp only [Act.put, sqa, sqb, sqc, sqd, sqe, sqf]
     refine wpAnyH_ready (rs := [9]) (by kernel_rfl) (by simp) ?_
     refine AllReadyH.cons rfl (fun K0 hK => ?_) ?_
     rotate_left
     · exact AllReadyH.nil
     replace n0 := (HX.out w8 (.slice (some ⟨gB, 0, none⟩) (l.length + 1) d8) gB _ hgq).trans n0
     replace n1 := (HX.out w8 (.slice (some ⟨gB, 0, none⟩) (l.length + 1) d8) gB _ hgq).trans n1
     replace n2 := (HX.out w8 (.slice (some ⟨gB, 0, none⟩) (l.length + 1) d8) gB _ hgq).trans n2
     replace n3 := (HX.out w8 (.slice (some ⟨gB, 0, none⟩) (l.length + 1) d8) gB _ hgq).trans n3
     replace n4 := (HX.out w8 (.slice (some ⟨gB, 0, none⟩) (l.length + 1) d8) gB _ hgq).trans n4
     replace n5 := (HX.out w8 (.slice (some ⟨gB, 0, none⟩) (l.length + 1) d8) gB _ hgq).trans n5
     replace z0 := (HXF.out w8 (.slice (some ⟨gB, 0, none⟩) (l.length + 1) d8) gB _ hgq).trans z0
     replace z1 := (HXF.out w8 (.slice (some ⟨gB, 0, none⟩) (l.length + 1) d8) gB _ hgq).trans z1
     replace z2 := (HXF.out w8 (.slice (some ⟨gB, 0, none⟩) (l.length + 1) d8) gB _ hgq).trans z2
     replace z3 := (HXF.out w8 (.slice (some ⟨gB, 0, none⟩) (l.length + 1) d8) gB _ hgq).trans z3
     replace z4 := (HXF.out w8 (.slice (some ⟨gB, 0, none⟩) (l.length + 1) d8) gB _ hgq).trans z4
     replace z5 := (HXF.out w8 (.slice (some ⟨gB, 0, none⟩) (l.length + 1) d8) gB _ hgq).trans z5
     have HW1 := hid (show w8.setCell ⟨q, 1, none⟩ (.slice (some ⟨gB, 0, none⟩) (l.length + 1) d8) = w8.setCell ⟨q, 1, none⟩ (.slice (some ⟨gB, 0, none⟩) (l.length + 1) d8) from rfl)
     have HS1 := hid (show (w8.setCell ⟨q, 1, none⟩ (.slice (some ⟨gB, 0, none⟩) (l.length + 1) d8)).cell? ⟨g, 0, none⟩ = some (.int .i64 V.kind) ∧ (w8.setCell ⟨q, 1, none⟩ (.slice (some ⟨gB, 0, none⟩) (l.length + 1) d8)).cell? ⟨g, 1, none⟩ = some (.bool V.tr) ∧ (w8.setCell ⟨q, 1, none⟩ (.slice (some ⟨gB, 0, none⟩) (l.length + 1) d8)).cell? ⟨g, 2, none⟩ = some (.int .i64 V.num) ∧ (w8.setCell ⟨q, 1, none⟩ (.slice (some ⟨gB, 0, none⟩) (l.length + 1) d8)).cell? ⟨g, 3, none⟩ = some (.string V.str) ∧ (w8.setCell ⟨q, 1, none⟩ (.slice (some ⟨gB, 0, none⟩) (l.length + 1) d8)).cell? ⟨g, 4, none⟩ = some (.slice A V.items.length c) ∧ (w8.setCell ⟨q, 1, none⟩ (.slice (some ⟨gB, 0, none⟩) (l.length + 1) d8)).cell? ⟨g, 5, none⟩ = some (.slice A' V.keys.length c') from by
      have hS := (HS4.out w8 HB8.out).2
      rw [HX.out _ _ g _ (by omega), HX.out _ _ g _ (by omega), HX.out _ _ g _ (by omega), HX.out _ _ g _ (by omega), HX.out _ _ g _ (by omega), HX.out _ _ g _ (by omega)]
      exact hS)
     have HFIN := hid (show (((((((w8.setCell ⟨q, 1, none⟩ (.slice (some ⟨gB, 0, none⟩) (l.length + 1) d8)).setCell ⟨gB, l.length * 6, none⟩ (.int .i64 V.kind)).setCell ⟨gB, l.length * 6 + 1, none⟩ (.bool V.tr)).setCell ⟨gB, l.length * 6 + 2, none⟩ (.int .i64 V.num)).setCell ⟨gB, l.length * 6 + 3, none⟩ (.string V.str)).setCell ⟨gB, l.length * 6 + 4, none⟩ (.slice A V.items.length c)).setCell ⟨gB, l.length * 6 + 5, none⟩ (.slice A' V.keys.length c')) = (((((((w8.setCell ⟨gB, l.length * 6, none⟩ (.int .i64 V.kind)).setCell ⟨gB, l.length * 6 + 1, none⟩ (.bool V.tr)).setCell ⟨gB, l.length * 6 + 2, none⟩ (.int .i64 V.num)).setCell ⟨gB, l.length * 6 + 3, none⟩ (.string V.str)).setCell ⟨gB, l.length * 6 + 4, none⟩ (.slice A V.items.length c)).setCell ⟨gB, l.length * 6 + 5, none⟩ (.slice A' V.keys.length c'))).setCell ⟨q, 1, none⟩ (.slice (some ⟨gB, 0, none⟩) (l.length + 1) d8) from putv_comm (Ne.symm hgq))
     generalize w8.setCell ⟨q, 1, none⟩ (.slice (some ⟨gB, 0, none⟩) (l.length + 1) d8) = w10 at *
     go_simp
     refine hK.out _ _ ?_ (fun hHeld => ?_)
     ·
      have hne : ∀ b o, b ≠ gB → (((((((w10.setCell ⟨gB, l.length * 6, none⟩ (.int .i64 V.kind)).setCell ⟨gB, l.length * 6 + 1, none⟩ (.bool V.tr)).setCell ⟨gB, l.length * 6 + 2, none⟩ (.int .i64 V.num)).setCell ⟨gB, l.length * 6 + 3, none⟩ (.string V.str)).setCell ⟨gB, l.length * 6 + 4, none⟩ (.slice A V.items.length c)).setCell ⟨gB, l.length * 6 + 5, none⟩ (.slice A' V.keys.length c'))).cell? ⟨b, o, none⟩ = w10.cell? ⟨b, o, none⟩ := fun b o hb => World.cell?_of_block (putv_heap hb)
      have hS := HS1.out
      try dsimp only
      rw [hne g _ (Ne.symm hgg), hne g _ (Ne.symm hgg), hne g _ (Ne.symm hgg), hne g _ (Ne.symm hgg), hne g _ (Ne.symm hgg), hne g _ (Ne.symm hgg)]
      exact hS
     clear hK K0
     try simp only [Act.put, sqa, sqb, sqc, sqd, sqe, sqf]
     refine wpAnyH_done (by kernel_rfl) ?_ _
     go_wp2_with fail
     refine bodyPost_ret (v := .tuple #[.int .i64 0, .int .i64 0]) (by simp [results, Tryz.results102, go_sem]) rfl ?_
     rw [HFIN.out]
     first | exact ⟨rfl, HEND.out⟩ | (rw [hpe]; exact ⟨rfl, HEND.out⟩)
   ·
    skip
    go_simp
    have HBl := hid (show ∀ k, k < wc.heap.size → (wc.alloc (.cells #[.int .i64 0, .bool false, .int .i64 0, .string ⟨#[]⟩, .slice none 0 0, .slice none 0 0] 43)).drew.heap[k]? = wc.heap[k]? from fun k hk => Below.heap_alloc wc _ k hk)
    have HOa := hid (show (wc.alloc (.cells #[.int .i64 0, .bool false, .int .i64 0, .string ⟨#[]⟩, .slice none 0 0, .slice none 0 0] 43)).drew.ownsRow N0 43 6 (.slice A0 l.length d0) l.length xs0 from (HCc.out.2.1.alloc _).drew)
    have HZa := hid (show Blk (wc.alloc (.cells #[.int .i64 0, .bool false, .int .i64 0, .string ⟨#[]⟩, .slice none 0 0, .slice none 0 0] 43)).drew wc.heap.size 43 (T.zero.cs none 0 none 0) from Blk.new wc _ _)
    have HGa := hid (show (wc.alloc (.cells #[.int .i64 0, .bool false, .int .i64 0, .string ⟨#[]⟩, .slice none 0 0, .slice none 0 0] 43)).grownBy (wc.alloc (.cells #[.int .i64 0, .bool false, .int .i64 0, .string ⟨#[]⟩, .slice none 0 0, .slice none 0 0] 43)).drew none from ⟨rfl, rfl, rfl, Nat.le_refl _, fun _ _ _ => rfl⟩)
    have hwaz : (wc.alloc (.cells #[.int .i64 0, .bool false, .int .i64 0, .string ⟨#[]⟩, .slice none 0 0, .slice none 0 0] 43)).drew.heap.size = (wc.alloc (.cells #[.int .i64 0, .bool false, .int .i64 0, .string ⟨#[]⟩, .slice none 0 0, .slice none 0 0] 43)).heap.size := rfl
    have hwa1 : (wc.alloc (.cells #[.int .i64 0, .bool false, .int .i64 0, .string ⟨#[]⟩, .slice none 0 0, .slice none 0 0] 43)).heap.size = wc.heap.size + 1 := by simp
    refine hK.out _ _ ?_ (fun hHeld => ?_)
    · exact (HS4.out _ (fun k hk _ => HBl.out k hk)).2
    clear hK K0
    try simp only [Act.put, sqa, sqb, sqc, sqd, sqe, sqf]
    generalize (wc.alloc (.cells #[.int .i64 0, .bool false, .int .i64 0, .string ⟨#[]⟩, .slice none 0 0, .slice none 0 0] 43)).drew = wa at *
    have hq2 := (HS4.out wa (fun k hk _ => HBl.out k hk)).1
    refine wpAnyH_ready (rs := [3]) (by kernel_rfl) (by simp) ?_
    refine AllReadyH.cons rfl (fun K0 hK => ?_) ?_
    rotate_left
    · exact AllReadyH.nil
    go_simp
    refine hK.out _ _ ?_ (fun hHeld => ?_)
    · exact (HS4.out _ (fun k hk _ => HBl.out k hk)).2
    clear hK K0
    try simp only [Act.put, sqa, sqb, sqc, sqd, sqe, sqf]
    refine wpAnyH_take (i := 5) (v := ?_) rfl (by kernel_rfl) (by kernel_rfl) (by kernel_rfl) (fun _ _ _ h => h) (Or.inl ⟨by rfl, ?_⟩) (by assumption) ?_
    rotate_left
    ·
     intro wq hSw
     try dsimp only at hSw
     go_simp
     try (with_reducible rfl)
    try simp only [Act.put, sqa, sqb, sqc, sqd, sqe, sqf]
    refine wpAnyH_ready (rs := [7]) (by kernel_rfl) (by simp) ?_
    refine AllReadyH.cons rfl (fun K0 hK => ?_) ?_
    rotate_left
    · exact AllReadyH.nil
    refine app_step rfl (.tmp 26) (.tmp 29) 40 rfl N0 43 i1 (.agg #[.int .i64 0, .bool false, .int .i64 0, .string ⟨#[]⟩, .slice none 0 0, .slice none 0 0]) 6 88 Tryz.underlying40 hi1 hy0 hy1 hy2 rfl (by decide) (.slice A0 l.length d0) l.length xs0 rfl HOa.out (some ⟨wc.heap.size, 0, none⟩) 1 1 (T.zero.cs none 0 none 0).toList rfl (src_of_cs HZa.out) cs_one (by unfold maxLen; have := hok2.1; have := hok2.2.1; omega) (by have := hok2.1; have := hok2.2.1; omega) (by omega) (l.length + 1) rfl ?_
    intro B d8 w8 ho8 hg8 hat8
    obtain ⟨gB, rfl, hgB1, hgB2, hcell, hfree, hown9⟩ := own_put6 ho8 HOa.out.1 rfl V A c A' c'
    have HO9 := hid hown9
    have HG8 := hid hg8
    have HAT := hid hat8
    have hat9 : gB < w.heap.size ∧ some gB = (Value.slice A0 l.length d0).ownBlock ∨ gB = wc.heap.size + 1 := by
     rcases hat8 with h | h
     · left; exact ⟨(hlw gB h.symm).2, h⟩
     · right; have h' : gB = wa.heap.size := Option.some.inj h; omega
    have hgq : gB ≠ q := by
     rcases hat9 with h | h
     · intro e; exact HC.out.1 q (by rw [← e]; exact h.2.symm) (.inr (.inr rfl))
     · omega
    have hgg : gB ≠ g := by
     rcases hat9 with h | h
     · have := h.1; omega
     · omega
    have HB8 := hid (show ∀ k, k < wc.heap.size → some k ≠ (Value.slice A0 l.length d0).ownBlock → w8.heap[k]? = wc.heap[k]? from fun k hk hne => (HG8.out.block k (by omega) hne).trans (HBl.out k hk))
    have n0 : w8.cell? ⟨gB, l.length * 6, none⟩ = some (.int .i64 0) := hcell 0 (by omega)
    have n1 : w8.cell? ⟨gB, l.length * 6 + 1, none⟩ = some (.bool false) := hcell 1 (by omega)
    have n2 : w8.cell? ⟨gB, l.length * 6 + 2, none⟩ = some (.int .i64 0) := hcell 2 (by omega)
    have n3 : w8.cell? ⟨gB, l.length * 6 + 3, none⟩ = some (.string ⟨#[]⟩) := hcell 3 (by omega)
    have n4 : w8.cell? ⟨gB, l.length * 6 + 4, none⟩ = some (.slice none 0 0) := hcell 4 (by omega)
    have n5 : w8.cell? ⟨gB, l.length * 6 + 5, none⟩ = some (.slice none 0 0) := hcell 5 (by omega)
    have z0 := hfree (l.length * 6)
    have z1 := hfree (l.length * 6 + 1)
    have z2 := hfree (l.length * 6 + 2)
    have z3 := hfree (l.length * 6 + 3)
    have z4 := hfree (l.length * 6 + 4)
    have z5 := hfree (l.length * 6 + 5)
    have e1 : (l.length : Int) < ((l.length + 1 : Nat) : Int) := by omega
    have e2 : (0 : Int) ≤ (l.length : Int) := by omega
    have e3 : (l.length : Int) < (l.length : Int) + 1 := by omega
    clear ho8 hg8 hat8 hown9 hcell hfree
    refine hK.out _ _ ?_ (fun hHeld => ?_)
    · exact (HS4.out _ HB8.out).2
    clear hK K0
    try simp only [Act.put, sqa, sqb, sqc, sqd, sqe, sqf]
    refine wpAnyH_take (i := 8) (v := ?_) rfl (by kernel_rfl) (by kernel_rfl) (by kernel_rfl) (fun _ _ _ h => h) (Or.inl ⟨by rfl, ?_⟩) (by assumption) ?_
    rotate_left
    ·
     intro wq hSw
     try dsimp only at hSw
     go_simp
     try (with_reducible rfl)
    try simp only [Act.put, sqa, sqb, sqc, sqd, sqe, sqf]
    refine wpAnyH_take (i := 10) (v := ?_) rfl (by kernel_rfl) (by kernel_rfl) (by kernel_rfl) (fun _ _ _ h => h) (Or.inl ⟨by rfl, ?_⟩) (by assumption) ?_
    rotate_left
    ·
     intro wq hSw
     try dsimp only at hSw
     go_simp
     try (with_reducible rfl)
    try simp only [Act.put, sqa, sqb, sqc, sqd, sqe, sqf]
    refine wpAnyH_take (i := 11) (v := ?_) rfl (by kernel_rfl) (by kernel_rfl) (by kernel_rfl) (fun _ _ _ h => h) (Or.inl ⟨by rfl, ?_⟩) (by assumption) ?_
    rotate_left
    ·
     intro wq hSw
     try dsimp only at hSw
     go_simp
     try (with_reducible rfl)
    try simp only [Act.put, sqa, sqb, sqc, sqd, sqe, sqf]
    have HQ8 := hid (show Blk w8 q 156 #[.pointer (some ⟨r, 0, none⟩), .slice A0 l.length d0] from (HB8.out q (by omega) (fun e => HC.out.1 q e.symm (.inr (.inr rfl)))).trans HQc.out)
    have HG9 := hid (show (wc.alloc (.cells #[.int .i64 0, .bool false, .int .i64 0, .string ⟨#[]⟩, .slice none 0 0, .slice none 0 0] 43)).grownBy ((((((w8.setCell ⟨gB, l.length * 6, none⟩ (.int .i64 V.kind)).setCell ⟨gB, l.length * 6 + 1, none⟩ (.bool V.tr)).setCell ⟨gB, l.length * 6 + 2, none⟩ (.int .i64 V.num)).setCell ⟨gB, l.length * 6 + 3, none⟩ (.string V.str)).setCell ⟨gB, l.length * 6 + 4, none⟩ (.slice A V.items.length c)).setCell ⟨gB, l.length * 6 + 5, none⟩ (.slice A' V.keys.length c')) (Value.slice A0 l.length d0).ownBlock from grown_put6 (⟨HG8.out.os.trans HGa.out.os, HG8.out.tape.trans HGa.out.tape, HG8.out.output.trans HGa.out.output, Nat.le_trans HGa.out.size HG8.out.size, fun k hk hne => (HG8.out.block k (by omega) hne).trans (HGa.out.block k hk (by simp))⟩) (by
     rcases hat9 with h | h
     · exact .inl h.2.symm
     · exact .inr (by omega)))
    have HEND := hid (item_end (room := room) (HFe.out ▸ HW.out) HA.out HCc.out HT.out HLf.out HR.out hYq (fun k hk => HFe.out ▸ HYN.out k hk) h1 h2 h3 h4 (by omega) (by omega) (fun k hk => (hlw k hk).2) HO9.out HG9.out hat9 ((putv_heap (Ne.symm hgq)).trans HQ8.out))
    have hne : ∀ b o, b ≠ gB → (((((((w8.setCell ⟨gB, l.length * 6, none⟩ (.int .i64 V.kind)).setCell ⟨gB, l.length * 6 + 1, none⟩ (.bool V.tr)).setCell ⟨gB, l.length * 6 + 2, none⟩ (.int .i64 V.num)).setCell ⟨gB, l.length * 6 + 3, none⟩ (.string V.str)).setCell ⟨gB, l.length * 6 + 4, none⟩ (.slice A V.items.length c)).setCell ⟨gB, l.length * 6 + 5, none⟩ (.slice A' V.keys.length c'))).cell? ⟨b, o, none⟩ = w8.cell? ⟨b, o, none⟩ := fun b o hb => World.cell?_of_block (putv_heap hb)
    have HNE := hid hne
    clear hne
    refine wpAnyH_ready (rs := [9, 12]) (by kernel_rfl) (by simp) ?_
    refine AllReadyH.cons rfl (fun K0 hK => ?_) (AllReadyH.cons rfl (fun K0 hK => ?_) AllReadyH.nil)
    ·
     skip
     go_simp
     refine hK.out _ _ ?_ (fun hHeld => ?_)
     ·
      have hS := (HS4.out w8 HB8.out).2
      try dsimp only
      rw [HNE.out g _ (Ne.symm hgg), HNE.out g _ (Ne.symm hgg), HNE.out g _ (Ne.symm hgg), HNE.out g _ (Ne.symm hgg), HNE.out g _ (Ne.symm hgg), HNE.out g _ (Ne.symm hgg)]
      exact hS
     clear hK K0
     try simp only [Act.put, sqa, sqb, sqc, sqd, sqe, sqf]
     have HQ9 := hid (show Blk ((((((w8.setCell ⟨gB, l.length * 6, none⟩ (.int .i64 V.kind)).setCell ⟨gB, l.length * 6 + 1, none⟩ (.bool V.tr)).setCell ⟨gB, l.length * 6 + 2, none⟩ (.int .i64 V.num)).setCell ⟨gB, l.length * 6 + 3, none⟩ (.string V.str)).setCell ⟨gB, l.length * 6 + 4, none⟩ (.slice A V.items.length c)).setCell ⟨gB, l.length * 6 + 5, none⟩ (.slice A' V.keys.length c')) q 156 #[.pointer (some ⟨r, 0, none⟩), .slice A0 l.length d0] from (putv_heap (Ne.symm hgq)).trans HQ8.out)
     refine wpAnyH_ready (rs := [12]) (by kernel_rfl) (by simp) ?_
     refine AllReadyH.cons rfl (fun K0 hK => ?_) ?_
     rotate_left
     · exact AllReadyH.nil
     have y1 := HQ9.out.free 1
     have y1c := HQ9.out.cell 1
     go_simp
     refine hK.out _ _ ?_ (fun hHeld => ?_)
     ·
      have hS := (HS4.out w8 HB8.out).2
      have hx : ∀ (w0 : World) (u : Value) o, (w0.setCell ⟨q, 1, none⟩ u).cell? ⟨g, o, none⟩ = w0.cell? ⟨g, o, none⟩ := fun w0 u o => World.cell?_of_block (Below.heap_setCell w0 ⟨q, 1, none⟩ u g (by show g ≠ q; omega))
      try dsimp only
      rw [hx, hx, hx, hx, hx, hx, HNE.out g _ (Ne.symm hgg), HNE.out g _ (Ne.symm hgg), HNE.out g _ (Ne.symm hgg), HNE.out g _ (Ne.symm hgg), HNE.out g _ (Ne.symm hgg), HNE.out g _ (Ne.symm hgg)]
      exact hS
     clear hK K0
     try simp only [Act.put, sqa, sqb, sqc, sqd, sqe, sqf]
     refine wpAnyH_done (by kernel_rfl) ?_ _
     go_wp2_with fail
     refine bodyPost_ret (v := .tuple #[.int .i64 0, .int .i64 0]) (by simp [results, Tryz.results102, go_sem]) rfl ?_
     first | exact ⟨rfl, HEND.out⟩ | (rw [hpe]; exact ⟨rfl, HEND.out⟩)
    ·
     skip
     have y1 := HQ8.out.free 1
     have y1c := HQ8.out.cell 1
     go_simp
     have HX := hid (show ∀ (w0 : World) (u : Value) b o, b ≠ q → (w0.setCell ⟨q, 1, none⟩ u).cell? ⟨b, o, none⟩ = w0.cell? ⟨b, o, none⟩ from fun w0 u b o hb => World.cell?_of_block (Below.heap_setCell w0 ⟨q, 1, none⟩ u b hb))
     have HXF := hid (show ∀ (w0 : World) (u : Value) b o, b ≠ q → (w0.setCell ⟨q, 1, none⟩ u).frozen? ⟨b, o, none⟩ = w0.frozen? ⟨b, o, none⟩ from fun w0 u b o hb => World.frozen?_of_block (Below.heap_setCell w0 ⟨q, 1, none⟩ u b hb))
     refine hK.out _ _ ?_ (fun hHeld => ?_)
     ·
      have hS := (HS4.out w8 HB8.out).2
      try dsimp only
      rw [HX.out _ _ g _ (by omega), HX.out _ _ g _ (by omega), HX.out _ _ g _ (by omega), HX.out _ _ g _ (by omega), HX.out _ _ g _ (by omega), HX.out _ _ g _ (by omega)]
      exact hS
     clear hK K0
     try simp only [Act.put, sqa, sqb, sqc, sqd, sqe, sqf]
     refine wpAnyH_ready (rs := [9]) (by kernel_rfl) (by simp) ?_
     refine AllReadyH.cons rfl (fun K0 hK => ?_) ?_
     rotate_left
     · exact AllReadyH.nil
     replace n0 := (HX.out w8 (.slice (some ⟨gB, 0, none⟩) (l.length + 1) d8) gB _ hgq).trans n0
     replace n1 := (HX.out w8 (.slice (some ⟨gB, 0, none⟩) (l.length + 1) d8) gB _ hgq).trans n1
     replace n2 := (HX.out w8 (.slice (some ⟨gB, 0, none⟩) (l.length + 1) d8) gB _ hgq).trans n2
     replace n3 := (HX.out w8 (.slice (some ⟨gB, 0, none⟩) (l.length + 1) d8) gB _ hgq).trans n3
     replace n4 := (HX.out w8 (.slice (some ⟨gB, 0, none⟩) (l.length + 1) d8) gB _ hgq).trans n4
     replace n5 := (HX.out w8 (.slice (some ⟨gB, 0, none⟩) (l.length + 1) d8) gB _ hgq).trans n5
     replace z0 := (HXF.out w8 (.slice (some ⟨gB, 0, none⟩) (l.length + 1) d8) gB _ hgq).trans z0
     replace z1 := (HXF.out w8 (.slice (some ⟨gB, 0, none⟩) (l.length + 1) d8) gB _ hgq).trans z1
     replace z2 := (HXF.out w8 (.slice (some ⟨gB, 0, none⟩) (l.length + 1) d8) gB _ hgq).trans z2
     replace z3 := (HXF.out w8 (.slice (some ⟨gB, 0, none⟩) (l.length + 1) d8) gB _ hgq).trans z3
     replace z4 := (HXF.out w8 (.slice (some ⟨gB, 0, none⟩) (l.length + 1) d8) gB _ hgq).trans z4
     replace z5 := (HXF.out w8 (.slice (some ⟨gB, 0, none⟩) (l.length + 1) d8) gB _ hgq).trans z5
     have HW1 := hid (show w8.setCell ⟨q, 1, none⟩ (.slice (some ⟨gB, 0, none⟩) (l.length + 1) d8) = w8.setCell ⟨q, 1, none⟩ (.slice (some ⟨gB, 0, none⟩) (l.length + 1) d8) from rfl)
     have HS1 := hid (show (w8.setCell ⟨q, 1, none⟩ (.slice (some ⟨gB, 0, none⟩) (l.length + 1) d8)).cell? ⟨g, 0, none⟩ = some (.int .i64 V.kind) ∧ (w8.setCell ⟨q, 1, none⟩ (.slice (some ⟨gB, 0, none⟩) (l.length + 1) d8)).cell? ⟨g, 1, none⟩ = some (.bool V.tr) ∧ (w8.setCell ⟨q, 1, none⟩ (.slice (some ⟨gB, 0, none⟩) (l.length + 1) d8)).cell? ⟨g, 2, none⟩ = some (.int .i64 V.num) ∧ (w8.setCell ⟨q, 1, none⟩ (.slice (some ⟨gB, 0, none⟩) (l.length + 1) d8)).cell? ⟨g, 3, none⟩ = some (.string V.str) ∧ (w8.setCell ⟨q, 1, none⟩ (.slice (some ⟨gB, 0, none⟩) (l.length + 1) d8)).cell? ⟨g, 4, none⟩ = some (.slice A V.items.length c) ∧ (w8.setCell ⟨q, 1, none⟩ (.slice (some ⟨gB, 0, none⟩) (l.length + 1) d8)).cell? ⟨g, 5, none⟩ = some (.slice A' V.keys.length c') from by
      have hS := (HS4.out w8 HB8.out).2
      rw [HX.out _ _ g _ (by omega), HX.out _ _ g _ (by omega), HX.out _ _ g _ (by omega), HX.out _ _ g _ (by omega), HX.out _ _ g _ (by omega), HX.out _ _ g _ (by omega)]
      exact hS)
     have HFIN := hid (show (((((((w8.setCell ⟨q, 1, none⟩ (.slice (some ⟨gB, 0, none⟩) (l.length + 1) d8)).setCell ⟨gB, l.length * 6, none⟩ (.int .i64 V.kind)).setCell ⟨gB, l.length * 6 + 1, none⟩ (.bool V.tr)).setCell ⟨gB, l.length * 6 + 2, none⟩ (.int .i64 V.num)).setCell ⟨gB, l.length * 6 + 3, none⟩ (.string V.str)).setCell ⟨gB, l.length * 6 + 4, none⟩ (.slice A V.items.length c)).setCell ⟨gB, l.length * 6 + 5, none⟩ (.slice A' V.keys.length c')) = (((((((w8.setCell ⟨gB, l.length * 6, none⟩ (.int .i64 V.kind)).setCell ⟨gB, l.length * 6 + 1, none⟩ (.bool V.tr)).setCell ⟨gB, l.length * 6 + 2, none⟩ (.int .i64 V.num)).setCell ⟨gB, l.length * 6 + 3, none⟩ (.string V.str)).setCell ⟨gB, l.length * 6 + 4, none⟩ (.slice A V.items.length c)).setCell ⟨gB, l.length * 6 + 5, none⟩ (.slice A' V.keys.length c'))).setCell ⟨q, 1, none⟩ (.slice (some ⟨gB, 0, none⟩) (l.length + 1) d8) from putv_comm (Ne.symm hgq))
     generalize w8.setCell ⟨q, 1, none⟩ (.slice (some ⟨gB, 0, none⟩) (l.length + 1) d8) = w10 at *
     go_simp
     refine hK.out _ _ ?_ (fun hHeld => ?_)
     ·
      have hne : ∀ b o, b ≠ gB → (((((((w10.setCell ⟨gB, l.length * 6, none⟩ (.int .i64 V.kind)).setCell ⟨gB, l.length * 6 + 1, none⟩ (.bool V.tr)).setCell ⟨gB, l.length * 6 + 2, none⟩ (.int .i64 V.num)).setCell ⟨gB, l.length * 6 + 3, none⟩ (.string V.str)).setCell ⟨gB, l.length * 6 + 4, none⟩ (.slice A V.items.length c)).setCell ⟨gB, l.length * 6 + 5, none⟩ (.slice A' V.keys.length c'))).cell? ⟨b, o, none⟩ = w10.cell? ⟨b, o, none⟩ := fun b o hb => World.cell?_of_block (putv_heap hb)
      have hS := HS1.out
      try dsimp only
      rw [hne g _ (Ne.symm hgg), hne g _ (Ne.symm hgg), hne g _ (Ne.symm hgg), hne g _ (Ne.symm hgg), hne g _ (Ne.symm hgg), hne g _ (Ne.symm hgg)]
      exact hS
     clear hK K0
     try simp only [Act.put, sqa, sqb, sqc, sqd, sqe, sqf]
     refine wpAnyH_done (by kernel_rfl) ?_ _
     go_wp2_with fail
     refine bodyPost_ret (v := .tuple #[.int .i64 0, .int .i64 0]) (by simp [results, Tryz.results102, go_sem]) rfl ?_
     rw [HFIN.out]
     first | exact ⟨rfl, HEND.out⟩ | (rw [hpe]; exact ⟨rfl, HEND.out⟩)
open Go.RowKit
open Tk
theorem item_parted {O : List (ByteArray × T) → T} {s : ByteArray} {n0 q r b N0 room : Nat} (IH : ∀ n, n ≤ n0 → FromAt O s n) (hroom : room ≤ 1000) (hs : s.size ≤ 90000) : Parted (Rd.itemP O s room) (ItemJ q r b N0 room) 102 (.pointer (some ⟨q, 0, none⟩)) b r N0 n0 s List.length where
 stable := item_stable
 reader := fun Y l w h => ⟨room, h.2.1⟩
 step := fun n Y t l w hn hJ hL hE hok _ hnn hm => item_step IH hroom hs n Y t l w hn hJ hL hE hok hnn hm
theorem fromF_91 (O : List (ByteArray × T) → T) (s : ByteArray) (n room : Nat) (t : Tok) (h : Rd.isM t 91) (hr : room ≠ 0) : Rd.fromF O s (n + 1) room t = (Rd.startF (Rd.itemP O s (room - 1)) s 93 n t.fin []).res Rd.arrT := by
 have hk : t.kind = 1 := h.1
 unfold Rd.fromF Rd.startF
 rw [if_neg (by omega), if_neg (by omega), if_neg (by omega), if_neg (by omega), if_neg (fun k => k.1 h), if_neg hr]
 cases next s t.fin with
 | err p c => rfl
 | tok u =>
  dsimp only
  rw [if_pos h]
  split
  · rfl
  · exact Rd.items_loop O s (room - 1) n u []
theorem fromF_123 (O : List (ByteArray × T) → T) (s : ByteArray) (n room : Nat) (t : Tok) (h : Rd.isM t 123) (h91 : ¬ Rd.isM t 91) (hr : room ≠ 0) : Rd.fromF O s (n + 1) room t = (Rd.startF (Rd.membP O s (room - 1)) s 125 n t.fin []).res O := by
 have hk : t.kind = 1 := h.1
 unfold Rd.fromF Rd.startF
 rw [if_neg (by omega), if_neg (by omega), if_neg (by omega), if_neg (by omega), if_neg (fun k => k.2 h), if_neg hr]
 cases next s t.fin with
 | err p c => rfl
 | tok u =>
  dsimp only
  rw [if_neg h91]
  split
  · rfl
  · exact Rd.membs_loop O s (room - 1) n u []
theorem loop_out {α : Type} {part : Nat → Tok → α → Rd.Gp α} {m : α → Nat} {s : ByteArray} (G : Rd.Good part m s) (c : Nat) : ∀ (k : Nat) (t : Tok) (a : α), Rd.Ok s t → 2 * (s.size - t.at_) + 2 ≤ k → Rd.loopF part s c k t a ≠ .out := by
 intro k
 induction k with
 | zero => intro t a _ h; omega
 | succ k ih =>
  intro t a ht h
  obtain ⟨g1, g2⟩ := G k t a ht (by omega)
  unfold Rd.loopF
  split
  · rename_i h1; exact absurd h1 g1
  · intro h'; cases h'
  ·
   rename_i a' e he
   obtain ⟨e1, e2, _⟩ := g2 a' e he
   split
   · intro h'; cases h'
   ·
    rename_i u hu
    obtain ⟨⟨o1, o2, _⟩, hle⟩ := Rd.ok_next e2 hu
    split
    · intro h'; cases h'
    ·
     split
     · intro h'; cases h'
     ·
      split
      · intro h'; cases h'
      ·
       rename_i x hx
       obtain ⟨ho, hle2⟩ := Rd.ok_next o2 hx
       exact ih x a' ho (by have := ho.1; have := ho.2.1; omega)
theorem start_out {α : Type} {part : Nat → Tok → α → Rd.Gp α} {m : α → Nat} {s : ByteArray} (G : Rd.Good part m s) (c n i : Nat) (a : α) (hi : i ≤ s.size) (hn : 2 * (s.size - i) + 2 ≤ n) : Rd.startF part s c n i a ≠ .out := by
 unfold Rd.startF
 split
 · intro h; cases h
 ·
  rename_i u hu
  obtain ⟨ho, hle⟩ := Rd.ok_next hi hu
  split
  · intro h; cases h
  · exact loop_out G c n u a ho (by omega)
theorem box_put {w2 : World} {G base : Nat} {V : T} {A : Option Addr} {c : Nat} {A' : Option Addr} {c' : Nat} (hT : TV w2 (fun k => base ≤ k ∧ k < w2.heap.size ∧ k ≠ G) V A c A' c') {v0 v1 v2 v3 v4 v5 : Value} : TV ((((((w2.setCell ⟨G, 0, none⟩ v0).setCell ⟨G, 1, none⟩ v1).setCell ⟨G, 2, none⟩ v2).setCell ⟨G, 3, none⟩ v3).setCell ⟨G, 4, none⟩ v4).setCell ⟨G, 5, none⟩ v5) (fun k => base ≤ k ∧ k < (((((((w2.setCell ⟨G, 0, none⟩ v0).setCell ⟨G, 1, none⟩ v1).setCell ⟨G, 2, none⟩ v2).setCell ⟨G, 3, none⟩ v3).setCell ⟨G, 4, none⟩ v4).setCell ⟨G, 5, none⟩ v5)).heap.size) V A c A' c' :=
 (hT.keep fun k hk => putv_heap hk.2.2).wide fun k hk => ⟨hk.1, by rw [putv_size]; exact hk.2.1⟩
theorem array_any {O : List (ByteArray × T) → T} {s : ByteArray} {n r b room i : Nat} (IH : ∀ k, k < n → FromAt O s k) (hroom : room ≤ 1000) (hs : s.size ≤ 90000) (w : World) (hr : Blk w r 77 #[.pointer (some ⟨b, 0, none⟩), .int .i64 room]) (hL : Lx w b s i) (hE : ErrAt b w) (hi : i ≤ s.size) (hn : 2 * (s.size - i) + 2 ≤ n) (h4 : r ≠ b) :
 Calls Tryz.prog 82 #[.pointer (some ⟨r, 0, none⟩)] w (FromGives ((Rd.startF (Rd.itemP O s room) s 93 n i []).res Rd.arrT) b s w) := by
 have hrl := hr.lt
 have hbl : b < w.heap.size := Blk.lt hL
 have HPA := hid (fun (W : World) (Y : Nat → Prop) (q : Nat) => parts_any (item_parted (O := O) (s := s) (n0 := n - 1) (q := q) (r := r) (b := b) (N0 := w.heap.size) (room := room) (fun k hk => IH k (by omega)) hroom hs) (Rd.item_good O s room) (Go.Proofs.enters_of Tryz.func102 (by kernel_rfl) rfl) 93 hs hbl h4 n i (by omega) Y [] W)
 have HB := hid (Blk.new w 43 #[.int .i64 0, .bool false, .int .i64 0, .string ⟨#[]⟩, .slice none 0 0, .slice none 0 0])
 have hW : Below w.heap.size w (w.alloc (.cells #[.int .i64 0, .bool false, .int .i64 0, .string ⟨#[]⟩, .slice none 0 0, .slice none 0 0] 43)) := (Below.refl _ _).alloc (Nat.le_refl _) _
 have HR := hid (hr.onto hW)
 have HL := hid (show Lx _ b s i from Blk.onto hL hW)
 have HE := hid (hE.onto hW)
 have HW := hid hW
 have hWs : (w.alloc (.cells #[.int .i64 0, .bool false, .int .i64 0, .string ⟨#[]⟩, .slice none 0 0, .slice none 0 0] 43)).heap.size = w.heap.size + 1 := by simp
 clear hW hr hL hE
 go_enter Tryz.func82, Tryz.ntmps82
 go_upto_region 1 with fail
 change Code.wp _ _ _ _ (w.alloc (.cells #[.int .i64 0, .bool false, .int .i64 0, .string ⟨#[]⟩, .slice none 0 0, .slice none 0 0] 43))
 generalize (w.alloc (.cells #[.int .i64 0, .bool false, .int .i64 0, .string ⟨#[]⟩, .slice none 0 0, .slice none 0 0] 43)) = W at *
 have hGW : w.heap.size < W.heap.size := by omega
 generalize hG : w.heap.size = G at *
 have HG := hid hG
 have HWs := hid hWs
 clear hG hWs
 go_upto_region 2 with fail
 refine alloc_gn (fun W1 hB1 hQ1 => ?_)
 have hW1s := hB1.size
 have hq1 := hQ1.lt
 have HJ := hid (show ItemJ W.heap.size r b G room (fun k => k = G) [] W1 from ⟨⟨none, 0, [], hQ1, Coll.nil _ _ _ _⟩, HR.out.onto hB1, by omega, fun k hk => ⟨by omega, by omega⟩, by omega, by omega, by omega, h4⟩)
 have HL1 := hid (show Lx W1 b s i from Blk.onto HL.out hB1)
 have HE1 := hid (HE.out.onto hB1)
 have HB1 := hid hB1
 have HBr := hid (HB.out.onto hB1)
 generalize hq : W.heap.size = q at *
 have HQq := hid hq
 clear hB1 hQ1 hq
 go_wp2_with fail
 refine (HPA.out W1 (fun k => k = G) q HJ.out HL1.out HE1.out hi hn (Nat.zero_le _) (by omega) (by omega)).mono ?_
 intro e w2 hg
 cases hres : Rd.startF (Rd.itemP O s room) s 93 n i [] with
 | out => exact absurd hres (start_out (Rd.item_good O s room) 93 n i [] hi hn)
 | err p c =>
  rw [hres] at hg
  obtain ⟨rfl, hc0, hk⟩ := hg
  have v1 : (c != 0) = true := by rw [bne, hc0]; rfl
  have v2 : ¬ c = 0 := by simpa using hc0
  have hAs : Aside b w w2 := Kept.aside ((Aside.of (HG.out ▸ HW.out)).trans_ (Aside.of (HQq.out ▸ HB1.out))) hk (fun k hk' hne => .inr ⟨by have := HG.out; omega, hne⟩)
  have HA := hid hAs
  have HBx := hid (HBr.out.kept hk (.inl rfl))
  have q0 : w2.cell? ⟨G, 0, none⟩ = some (.int .i64 0) := HBx.out.cell 0
  have q1 : w2.cell? ⟨G, 1, none⟩ = some (.bool false) := HBx.out.cell 1
  have q2 : w2.cell? ⟨G, 2, none⟩ = some (.int .i64 0) := HBx.out.cell 2
  have q3 : w2.cell? ⟨G, 3, none⟩ = some (.string ⟨#[]⟩) := HBx.out.cell 3
  have q4 : w2.cell? ⟨G, 4, none⟩ = some (.slice none 0 0) := HBx.out.cell 4
  have q5 : w2.cell? ⟨G, 5, none⟩ = some (.slice none 0 0) := HBx.out.cell 5
  have xq0 := HBx.out.free 0
  have xq1 := HBx.out.free 1
  have xq2 := HBx.out.free 2
  have xq3 := HBx.out.free 3
  have xq4 := HBx.out.free 4
  have xq5 := HBx.out.free 5
  clear hAs hk
  go_wp2_with fail
  have hF : Blk ((((((w2.setCell ⟨G, 0, none⟩ (.int .i64 0)).setCell ⟨G, 1, none⟩ (.bool false)).setCell ⟨G, 2, none⟩ (.int .i64 0)).setCell ⟨G, 3, none⟩ (.string ⟨#[]⟩)).setCell ⟨G, 4, none⟩ (.slice none 0 0)).setCell ⟨G, 5, none⟩ (.slice none 0 0)) G 43 (#[.int .i64 T.zero.kind, .bool T.zero.tr, .int .i64 T.zero.num, .string T.zero.str, .slice none T.zero.items.length 0, .slice none T.zero.keys.length 0]) := res_put HBx.out rfl T.zero none 0 none 0
  have HZ := hid (show Aside b w ((((((w2.setCell ⟨G, 0, none⟩ (.int .i64 0)).setCell ⟨G, 1, none⟩ (.bool false)).setCell ⟨G, 2, none⟩ (.int .i64 0)).setCell ⟨G, 3, none⟩ (.string ⟨#[]⟩)).setCell ⟨G, 4, none⟩ (.slice none 0 0)).setCell ⟨G, 5, none⟩ (.slice none 0 0)) from HA.out.put6 (by have := HG.out; omega) _ _ _ _ _ _)
  change Blk ((((((w2.setCell ⟨G, 0, none⟩ (.int .i64 0)).setCell ⟨G, 1, none⟩ (.bool false)).setCell ⟨G, 2, none⟩ (.int .i64 0)).setCell ⟨G, 3, none⟩ (.string ⟨#[]⟩)).setCell ⟨G, 4, none⟩ (.slice none 0 0)).setCell ⟨G, 5, none⟩ (.slice none 0 0)) _ _ _ at hF
  generalize ((((((w2.setCell ⟨G, 0, none⟩ (.int .i64 0)).setCell ⟨G, 1, none⟩ (.bool false)).setCell ⟨G, 2, none⟩ (.int .i64 0)).setCell ⟨G, 3, none⟩ (.string ⟨#[]⟩)).setCell ⟨G, 4, none⟩ (.slice none 0 0)).setCell ⟨G, 5, none⟩ (.slice none 0 0)) = V9 at *
  have m0 : V9.cell? ⟨G, 0, none⟩ = some (.int .i64 0) := hF.cell 0
  have m1 : V9.cell? ⟨G, 1, none⟩ = some (.bool false) := hF.cell 1
  have m2 : V9.cell? ⟨G, 2, none⟩ = some (.int .i64 0) := hF.cell 2
  have m3 : V9.cell? ⟨G, 3, none⟩ = some (.string ⟨#[]⟩) := hF.cell 3
  have m4 : V9.cell? ⟨G, 4, none⟩ = some (.slice none 0 0) := hF.cell 4
  have m5 : V9.cell? ⟨G, 5, none⟩ = some (.slice none 0 0) := hF.cell 5
  refine bodyPost_ret (v := .tuple #[T.zero.agg none 0 none 0, .int .i64 p, .int .i64 c]) (by simp [results, Tryz.results82, go_sem, T.agg, T.zero, T.kind, T.tr, T.num, T.str, T.items, T.keys, m0, m1, m2, m3, m4, m5]) rfl ?_
  rw [hres]
  exact ⟨rfl, HZ.out⟩
 | ok l fin =>
  rw [hres] at hg
  obtain ⟨rfl, ⟨Y', hY', ⟨A, d, xs, hq2, hcl⟩, hr2, hYq, hYN, _⟩, hLf, hk⟩ := hg
  obtain ⟨_, hld, hvr⟩ := hcl.vreads
  have hAs : Aside b w w2 := Kept.aside ((Aside.of (HG.out ▸ HW.out)).trans_ (Aside.of (HQq.out ▸ HB1.out))) hk (fun k hk' hne => .inr ⟨by have := HG.out; omega, hne⟩)
  have HA := hid hAs
  have HBx := hid (HBr.out.kept hk (.inl rfl))
  have HLf := hid hLf
  have hYG := hY' G rfl
  have HT := hid (show TV w2 (fun k => w.heap.size ≤ k ∧ k < w2.heap.size ∧ k ≠ G) (Rd.arrT l) A d none 0 from TV.of hld (Nat.zero_le _) (fun hn => (VReads.wide hvr (fun k hk' => ⟨by have h : ¬ k < G := fun h => hk'.2 (.inr (.inl h)); have := HG.out; omega, hk'.1, fun e => hk'.2 (.inl (e ▸ hYG))⟩)) hn) (SReads.none_ _ _ _))
  have c1 : w2.cell? ⟨q, 1, none⟩ = some (.slice A l.length d) := hq2.cell 1
  have q0 : w2.cell? ⟨G, 0, none⟩ = some (.int .i64 0) := HBx.out.cell 0
  have q1 : w2.cell? ⟨G, 1, none⟩ = some (.bool false) := HBx.out.cell 1
  have q2 : w2.cell? ⟨G, 2, none⟩ = some (.int .i64 0) := HBx.out.cell 2
  have q3 : w2.cell? ⟨G, 3, none⟩ = some (.string ⟨#[]⟩) := HBx.out.cell 3
  have q4 : w2.cell? ⟨G, 4, none⟩ = some (.slice none 0 0) := HBx.out.cell 4
  have q5 : w2.cell? ⟨G, 5, none⟩ = some (.slice none 0 0) := HBx.out.cell 5
  have xq0 := HBx.out.free 0
  have xq1 := HBx.out.free 1
  have xq2 := HBx.out.free 2
  have xq3 := HBx.out.free 3
  have xq4 := HBx.out.free 4
  have xq5 := HBx.out.free 5
  clear hAs hk hq2 hcl hr2 hYN hvr hLf
  go_wp2_with fail
  have hF : Blk ((((((w2.setCell ⟨G, 0, none⟩ (.int .i64 4)).setCell ⟨G, 1, none⟩ (.bool false)).setCell ⟨G, 2, none⟩ (.int .i64 0)).setCell ⟨G, 3, none⟩ (.string ⟨#[]⟩)).setCell ⟨G, 4, none⟩ (.slice A l.length d)).setCell ⟨G, 5, none⟩ (.slice none 0 0)) G 43 (#[.int .i64 (Rd.arrT l).kind, .bool (Rd.arrT l).tr, .int .i64 (Rd.arrT l).num, .string (Rd.arrT l).str, .slice A (Rd.arrT l).items.length d, .slice none (Rd.arrT l).keys.length 0]) := res_put HBx.out rfl (Rd.arrT l) A d none 0
  have HZ := hid (show FromGives (.val (Rd.arrT l) fin) b s w (.returned (.tuple #[(Rd.arrT l).agg A d none 0, .int .i64 0, .int .i64 0])) ((((((w2.setCell ⟨G, 0, none⟩ (.int .i64 4)).setCell ⟨G, 1, none⟩ (.bool false)).setCell ⟨G, 2, none⟩ (.int .i64 0)).setCell ⟨G, 3, none⟩ (.string ⟨#[]⟩)).setCell ⟨G, 4, none⟩ (.slice A l.length d)).setCell ⟨G, 5, none⟩ (.slice none 0 0)) from ⟨A, d, none, 0, rfl, box_put HT.out, HA.out.put6 (by have := HG.out; omega) _ _ _ _ _ _, (putv_heap (by omega)).trans HLf.out⟩)
  change Blk ((((((w2.setCell ⟨G, 0, none⟩ (.int .i64 4)).setCell ⟨G, 1, none⟩ (.bool false)).setCell ⟨G, 2, none⟩ (.int .i64 0)).setCell ⟨G, 3, none⟩ (.string ⟨#[]⟩)).setCell ⟨G, 4, none⟩ (.slice A l.length d)).setCell ⟨G, 5, none⟩ (.slice none 0 0)) _ _ _ at hF
  generalize ((((((w2.setCell ⟨G, 0, none⟩ (.int .i64 4)).setCell ⟨G, 1, none⟩ (.bool false)).setCell ⟨G, 2, none⟩ (.int .i64 0)).setCell ⟨G, 3, none⟩ (.string ⟨#[]⟩)).setCell ⟨G, 4, none⟩ (.slice A l.length d)).setCell ⟨G, 5, none⟩ (.slice none 0 0)) = V9 at *
  have m0 : V9.cell? ⟨G, 0, none⟩ = some (.int .i64 4) := hF.cell 0
  have m1 : V9.cell? ⟨G, 1, none⟩ = some (.bool false) := hF.cell 1
  have m2 : V9.cell? ⟨G, 2, none⟩ = some (.int .i64 0) := hF.cell 2
  have m3 : V9.cell? ⟨G, 3, none⟩ = some (.string ⟨#[]⟩) := hF.cell 3
  have m4 : V9.cell? ⟨G, 4, none⟩ = some (.slice A l.length d) := hF.cell 4
  have m5 : V9.cell? ⟨G, 5, none⟩ = some (.slice none 0 0) := hF.cell 5
  refine bodyPost_ret (v := .tuple #[.agg #[.int .i64 4, .bool false, .int .i64 0, .string ⟨#[]⟩, .slice A l.length d, .slice none 0 0], .int .i64 0, .int .i64 0]) (by simp [results, Tryz.results82, go_sem, m0, m1, m2, m3, m4, m5]) rfl ?_
  rw [hres]
  exact HZ.out
end Go.Proofs.YtgblenoaeanogaaGreatDoor
