/- What the law does with each path that it is handed: contract. -/
import Derived.Test.YthkpeomdklcnmaaDoorHandA
import Derived.Test.YthkpeomdklcnmaaDoorPick
import Derived.Test.YthkpeomdklcnmaaDoorCells
import Derived.Outline
namespace Go.Proofs.YthkpeomdklcnmaaDoor
open Go.RowKit
set_option linter.unusedVariables false

theorem PReads.at7 {w : World} {S : Nat → Prop} {A : Option Addr} {n : Nat} {L : List (List ByteArray × T)} (h : PReads w S A n L) {i : Nat} {q : List ByteArray} {x : T} (hi : L[i]? = some (q, x)) :
    ∃ b o P cp B e B' e', A = some ⟨b, o, none⟩ ∧ S b ∧ w.cell? ⟨b, o + i * 7, none⟩ = some (.slice P q.length cp) ∧ Six w b (o + i * 7 + 1) x B e B' e' ∧ q.length ≤ cp ∧ SReads w S P q ∧ TV w S x B e B' e' := by
  obtain ⟨rfl, xs, hc, hs⟩ := h
  obtain ⟨b, o, e, hlt, hcell⟩ := hs (by intro hn; rw [hn] at hi; simp at hi)
  obtain ⟨P, cp, B, e1, B', e1', h1, h2, h3, h4⟩ := hc.2.2 i (q, x) hi
  have key : ∀ j u, j < 7 → (partCs q P cp x B e1 B' e1')[j]? = some u → w.cell? ⟨b, o + (i * 7 + j), none⟩ = some u := fun j u hj hu => hcell _ _ (by rw [h1 j hj]; exact hu)
  refine ⟨b, o, P, cp, B, e1, B', e1', e, hlt, key 0 _ (by omega) rfl, ⟨?_, ?_, ?_, ?_, ?_, ?_⟩, h2, h3, h4⟩
  · exact key 1 _ (by omega) rfl
  · exact key 2 _ (by omega) rfl
  · exact key 3 _ (by omega) rfl
  · exact key 4 _ (by omega) rfl
  · exact key 5 _ (by omega) rfl
  · exact key 6 _ (by omega) rfl
theorem PReads.keep {w w' : World} {S : Nat → Prop} {A : Option Addr} {n : Nat} {L : List (List ByteArray × T)} (h : PReads w S A n L) (hk : Keeps S w w') : PReads w' S A n L := by
  obtain ⟨rfl, xs, hc, hs⟩ := h
  refine ⟨rfl, xs, hc.keep hk, fun hn => ?_⟩
  obtain ⟨b, o, e, hS, hcell⟩ := hs hn
  exact ⟨b, o, e, hS, fun j u hu => (hk.cell hS _).trans (hcell j u hu)⟩

/-- the law's four variables: all went well, k are told, of the list L, as many as m -/
structure Told (w : World) (b8 b7 b6 b3 : Nat) (L : List (List ByteArray × T)) (m k : Nat) (S : Nat → Prop) (A : Option Addr) (c : Nat) : Prop where
  ok : Blk w b8 4 #[.bool true]
  n : Blk w b7 3 #[.int .i64 k]
  l : Blk w b6 49 #[.slice A L.length c]
  m : Blk w b3 5 #[.int .u8 m]
  reads : PReads w S A L.length L
theorem blk_ne {w : World} {a b : Nat} {s t : TypeId} {xs ys : Array Value} (h : Blk w a s xs) (k : Blk w b t ys) (hst : s ≠ t) : a ≠ b := by
  rintro rfl
  unfold Blk at h k
  rw [h] at k
  injection k with k
  injection k with _ k _
  exact hst k
/-- what the law's variables leave alone -/
def Vars (b8 b7 : Nat) (b : Nat) : Prop := b = b8 ∨ b = b7
theorem Told.step {w w' : World} {b8 b7 b6 b3 : Nat} {L : List (List ByteArray × T)} {m k : Nat} {S : Nat → Prop} {A : Option Addr} {c : Nat} {D : Nat → Prop} (h : Told w b8 b7 b6 b3 L m k S A c) (hb : But D w w') (h8 : ¬ D b8) (h7 : ¬ D b7) (h6 : ¬ D b6) (h3 : ¬ D b3) (hS : ∀ b, S b → b < w.heap.size ∧ ¬ D b) : Told w' b8 b7 b6 b3 L m k S A c :=
  ⟨hb.blk h.ok h8, hb.blk h.n h7, hb.blk h.l h6, hb.blk h.m h3, h.reads.keep (hb.keeps hS)⟩
theorem Told.on {w w' : World} {b8 b7 b6 b3 : Nat} {L : List (List ByteArray × T)} {m k : Nat} {S : Nat → Prop} {A : Option Addr} {c : Nat} (h : Told w b8 b7 b6 b3 L m k S A c) (hb : Below w.heap.size w w') (hS : ∀ b, S b → b < w.heap.size) : Told w' b8 b7 b6 b3 L m k S A c :=
  h.step (D := fun _ => False) (But.of hb) id id id id fun b hb' => ⟨hS b hb', id⟩
set_option maxRecDepth 100000 in
set_option maxHeartbeats 8000000 in
theorem told_any (b8 b7 b6 b3 : Nat) (L : List (List ByteArray × T)) (m k : Nat) (S : Nat → Prop) (A : Option Addr) (c : Nat) (q : List ByteArray) (x : T) (P : Option Addr) (cp : Nat) (C : Option Addr) (f : Nat) (C' : Option Addr) (f' : Nat) (w : World)
    (ht : Told w b8 b7 b6 b3 L m k S A c) (hL : L.length ≤ 100) (hm : m ≤ 255) (hk : L[k]? = some (q, x)) (hx : x.Fine) (hql : q.length ≤ 1000) (hq : SReads w (· < w.heap.size) P q) (hv : TV w (· < w.heap.size) x C f C' f') (hS : ∀ b, S b → b < w.heap.size ∧ ¬ Vars b8 b7 b) :
    Calls Tryd.prog 19 #[.slice P q.length cp, .agg #[.int .i64 x.kind, .bool x.tr, .int .i64 x.num, .string x.str, .slice C x.items.length f, .slice C' x.keys.length f'], .pointer (some ⟨b8, 0, none⟩), .pointer (some ⟨b7, 0, none⟩), .pointer (some ⟨b6, 0, none⟩), .pointer (some ⟨b3, 0, none⟩)] w
      fun e w' => e = .returned (.bool (decide (k + 1 < m))) ∧ Told w' b8 b7 b6 b3 L m (k + 1) S A c ∧ But (Vars b8 b7) w w' := by
  have hkl := lt_of_get hk
  have n87 : b8 ≠ b7 := blk_ne ht.ok ht.n (by decide)
  have n86 : b8 ≠ b6 := blk_ne ht.ok ht.l (by decide)
  have n83 : b8 ≠ b3 := blk_ne ht.ok ht.m (by decide)
  have n76 : b7 ≠ b6 := blk_ne ht.n ht.l (by decide)
  have n73 : b7 ≠ b3 := blk_ne ht.n ht.m (by decide)
  have n63 : b6 ≠ b3 := blk_ne ht.l ht.m (by decide)
  obtain ⟨bb, o, P2, cp2, B, e1, B', e1', rfl, hSb, hcell, h6, hlc, hrd, htv⟩ := ht.reads.at7 hk
  have hbb := hS bb hSb
  have l8 := ht.ok.lt
  have l7 := ht.n.lt
  have l6 := ht.l.lt
  have l3 := ht.m.lt
  have HX := Lib.hid hx
  have HQ := Lib.hid hq
  have HV := Lib.hid hv
  have HT := Lib.hid ht
  have HC := Lib.hid hcell
  have H6 := Lib.hid h6
  have HR := Lib.hid (hrd.wide fun b hb => (hS b hb).1)
  have HTV := Lib.hid (htv.wide fun b hb => (hS b hb).1)
  have HS := Lib.hid hS
  clear ht hx hq hv hcell h6 hrd htv hS hk
  have u1 : decide ((k : Int) < (L.length : Int)) = true := decide_eq_true (by omega)
  have i1 : (k : Int) < (L.length : Int) := by omega
  have i2 : (0 : Int) ≤ (k : Int) := by omega
  go_enter Tryd.func19, Tryd.ntmps19
  go_upto_region 1 with fail
  have hW : Below w.heap.size w (w.alloc (.cells #[.int .i64 x.kind, .bool x.tr, .int .i64 x.num, .string x.str, .slice C x.items.length f, .slice C' x.keys.length f'] 32)) := (Below.refl _ _).alloc (Nat.le_refl _) _
  have hB0 : Blk (w.alloc (.cells #[.int .i64 x.kind, .bool x.tr, .int .i64 x.num, .string x.str, .slice C x.items.length f, .slice C' x.keys.length f'] 32)) w.heap.size 32 #[.int .i64 x.kind, .bool x.tr, .int .i64 x.num, .string x.str, .slice C x.items.length f, .slice C' x.keys.length f'] := Blk.new w _ _
  change Code.wp _ _ _ _ (w.alloc (.cells #[.int .i64 x.kind, .bool x.tr, .int .i64 x.num, .string x.str, .slice C x.items.length f, .slice C' x.keys.length f'] 32))
  generalize (w.alloc (.cells #[.int .i64 x.kind, .bool x.tr, .int .i64 x.num, .string x.str, .slice C x.items.length f, .slice C' x.keys.length f'] 32)) = W at *
  have HW := Lib.hid hW
  have HB0 := Lib.hid hB0
  have hlw := hB0.lt
  clear hW hB0
  have HSS := Lib.hid (show ∀ w', Below W.heap.size W w' → w'.cell? ⟨b8, 0, none⟩ = some (.bool true) ∧ w'.cell? ⟨b7, 0, none⟩ = some (.int .i64 k) ∧ w'.cell? ⟨b6, 0, none⟩ = some (.slice (some ⟨bb, o, none⟩) L.length c) ∧ w'.cell? ⟨bb, o + k * 7, none⟩ = some (.slice P2 q.length cp2) ∧ (w'.cell? ⟨bb, o + k * 7 + 1, none⟩ = some (.int .i64 x.kind) ∧ w'.cell? ⟨bb, o + k * 7 + 1 + 1, none⟩ = some (.bool x.tr) ∧ w'.cell? ⟨bb, o + k * 7 + 1 + 2, none⟩ = some (.int .i64 x.num) ∧ w'.cell? ⟨bb, o + k * 7 + 1 + 3, none⟩ = some (.string x.str) ∧ w'.cell? ⟨bb, o + k * 7 + 1 + 4, none⟩ = some (.slice B x.items.length e1) ∧ w'.cell? ⟨bb, o + k * 7 + 1 + 5, none⟩ = some (.slice B' x.keys.length e1')) ∧ (w'.cell? ⟨w.heap.size, 0, none⟩ = some (.int .i64 x.kind) ∧ w'.cell? ⟨w.heap.size, 1, none⟩ = some (.bool x.tr) ∧ w'.cell? ⟨w.heap.size, 2, none⟩ = some (.int .i64 x.num) ∧ w'.cell? ⟨w.heap.size, 3, none⟩ = some (.string x.str) ∧ w'.cell? ⟨w.heap.size, 4, none⟩ = some (.slice C x.items.length f) ∧ w'.cell? ⟨w.heap.size, 5, none⟩ = some (.slice C' x.keys.length f')) from fun w' h => by
    have hb := HW.out.trans (h.mono HW.out.size)
    have h8 := HT.out.ok.onto hb
    have h7 := HT.out.n.onto hb
    have h6 := HT.out.l.onto hb
    have hx := HB0.out.onto h
    have hk : Keeps (· < w.heap.size) w w' := .of_below hb
    refine ⟨h8.cell 0, h7.cell 0, h6.cell 0, (hk.cell hbb.1 _).trans HC.out, H6.out.keep hbb.1 hk, hx.cell 0, hx.cell 1, hx.cell 2, hx.cell 3, hx.cell 4, hx.cell 5⟩)
  refine wp_region_held_drew (S := fun w' => w'.cell? ⟨b8, 0, none⟩ = some (.bool true) ∧ w'.cell? ⟨b7, 0, none⟩ = some (.int .i64 k) ∧ w'.cell? ⟨b6, 0, none⟩ = some (.slice (some ⟨bb, o, none⟩) L.length c) ∧ w'.cell? ⟨bb, o + k * 7, none⟩ = some (.slice P2 q.length cp2) ∧ (w'.cell? ⟨bb, o + k * 7 + 1, none⟩ = some (.int .i64 x.kind) ∧ w'.cell? ⟨bb, o + k * 7 + 1 + 1, none⟩ = some (.bool x.tr) ∧ w'.cell? ⟨bb, o + k * 7 + 1 + 2, none⟩ = some (.int .i64 x.num) ∧ w'.cell? ⟨bb, o + k * 7 + 1 + 3, none⟩ = some (.string x.str) ∧ w'.cell? ⟨bb, o + k * 7 + 1 + 4, none⟩ = some (.slice B x.items.length e1) ∧ w'.cell? ⟨bb, o + k * 7 + 1 + 5, none⟩ = some (.slice B' x.keys.length e1')) ∧ (w'.cell? ⟨w.heap.size, 0, none⟩ = some (.int .i64 x.kind) ∧ w'.cell? ⟨w.heap.size, 1, none⟩ = some (.bool x.tr) ∧ w'.cell? ⟨w.heap.size, 2, none⟩ = some (.int .i64 x.num) ∧ w'.cell? ⟨w.heap.size, 3, none⟩ = some (.string x.str) ∧ w'.cell? ⟨w.heap.size, 4, none⟩ = some (.slice C x.items.length f) ∧ w'.cell? ⟨w.heap.size, 5, none⟩ = some (.slice C' x.keys.length f'))) (by kernel_rfl) ?_ (fun hHeld => ?_)
  · exact HSS.out _ (Below.refl _ _).drew
  refine wpAnyH_take (i := 0) (v := ?_) rfl (by kernel_rfl) (by kernel_rfl) (by kernel_rfl) (fun _ _ _ h => h) (Or.inl ⟨by rfl, ?_⟩) (by assumption) ?_
  rotate_left
  · intro wq hSw
    try dsimp only at hSw
    go_simp
    try (with_reducible rfl)
  try simp only [Act.put, List.getElem_toArray, List.getElem_cons_zero, List.setIfInBounds_toArray, List.set_cons_zero, List.set_cons_succ]
  refine wpAnyH_take (i := 1) (v := ?_) rfl (by kernel_rfl) (by kernel_rfl) (by kernel_rfl) (fun _ _ _ h => h) (Or.inl ⟨by rfl, ?_⟩) (by assumption) ?_
  rotate_left
  · intro wq hSw
    try dsimp only at hSw
    go_simp
    try (with_reducible rfl)
  try simp only [Act.put, List.getElem_toArray, List.getElem_cons_succ, List.getElem_cons_zero, List.setIfInBounds_toArray, List.set_cons_zero, List.set_cons_succ]
  refine wpAnyH_take (i := 2) (v := ?_) rfl (by kernel_rfl) (by kernel_rfl) (by kernel_rfl) (fun _ _ _ h => h) (Or.inl ⟨by rfl, ?_⟩) (by assumption) ?_
  rotate_left
  · intro wq hSw
    try dsimp only at hSw
    go_simp
    try (with_reducible rfl)
  try simp only [Act.put, List.getElem_toArray, List.getElem_cons_succ, List.getElem_cons_zero, List.setIfInBounds_toArray, List.set_cons_zero, List.set_cons_succ]
  refine wpAnyH_take (i := 3) (v := ?_) rfl (by kernel_rfl) (by kernel_rfl) (by kernel_rfl) (fun _ _ _ h => h) (Or.inl ⟨by rfl, ?_⟩) (by assumption) ?_
  rotate_left
  · intro wq hSw
    try dsimp only at hSw
    go_simp
    try (with_reducible rfl)
  try simp only [Act.put, List.getElem_toArray, List.getElem_cons_succ, List.getElem_cons_zero, List.setIfInBounds_toArray, List.set_cons_zero, List.set_cons_succ]
  refine wpAnyH_take (i := 4) (v := ?_) rfl (by kernel_rfl) (by kernel_rfl) (by kernel_rfl) (fun _ _ _ h => h) (Or.inl ⟨by rfl, ?_⟩) (by assumption) ?_
  rotate_left
  · intro wq hSw
    try dsimp only at hSw
    go_simp
    try (with_reducible rfl)
  try simp only [Act.put, List.getElem_toArray, List.getElem_cons_succ, List.getElem_cons_zero, List.setIfInBounds_toArray, List.set_cons_zero, List.set_cons_succ]
  refine wpAnyH_take (i := 5) (v := ?_) rfl (by kernel_rfl) (by kernel_rfl) (by kernel_rfl) (fun _ _ _ h => h) (Or.inl ⟨by rfl, ?_⟩) (by assumption) ?_
  rotate_left
  · intro wq hSw
    try dsimp only at hSw
    go_simp
    try (with_reducible rfl)
  try simp only [Act.put, List.getElem_toArray, List.getElem_cons_succ, List.getElem_cons_zero, List.setIfInBounds_toArray, List.set_cons_zero, List.set_cons_succ]
  refine wpAnyH_take (i := 6) (v := ?_) rfl (by kernel_rfl) (by kernel_rfl) (by kernel_rfl) (fun _ _ _ h => h) (Or.inl ⟨by rfl, ?_⟩) (by assumption) ?_
  rotate_left
  · intro wq hSw
    try dsimp only at hSw
    go_simp
    try (with_reducible rfl)
  try simp only [Act.put, List.getElem_toArray, List.getElem_cons_succ, List.getElem_cons_zero, List.setIfInBounds_toArray, List.set_cons_zero, List.set_cons_succ]
  refine wpAnyH_take (i := 7) (v := ?_) rfl (by kernel_rfl) (by kernel_rfl) (by kernel_rfl) (fun _ _ _ h => h) (Or.inl ⟨by rfl, ?_⟩) (by assumption) ?_
  rotate_left
  · intro wq hSw
    try dsimp only at hSw
    go_simp
    try (with_reducible rfl)
  try simp only [Act.put, List.getElem_toArray, List.getElem_cons_succ, List.getElem_cons_zero, List.setIfInBounds_toArray, List.set_cons_zero, List.set_cons_succ]
  refine wpAnyH_take (i := 8) (v := ?_) rfl (by kernel_rfl) (by kernel_rfl) (by kernel_rfl) (fun _ _ _ h => h) (Or.inl ⟨by rfl, ?_⟩) (by assumption) ?_
  rotate_left
  · intro wq hSw
    try dsimp only at hSw
    go_simp
    try (with_reducible rfl)
  try simp only [Act.put, List.getElem_toArray, List.getElem_cons_succ, List.getElem_cons_zero, List.setIfInBounds_toArray, List.set_cons_zero, List.set_cons_succ]
  refine wpAnyH_take (i := 9) (v := ?_) rfl (by kernel_rfl) (by kernel_rfl) (by kernel_rfl) (fun _ _ _ h => h) (Or.inl ⟨by rfl, ?_⟩) (by assumption) ?_
  rotate_left
  · intro wq hSw
    try dsimp only at hSw
    go_simp
    try (with_reducible rfl)
  try simp only [Act.put, List.getElem_toArray, List.getElem_cons_succ, List.getElem_cons_zero, List.setIfInBounds_toArray, List.set_cons_zero, List.set_cons_succ]
  refine wpAnyH_take (i := 10) (v := ?_) rfl (by kernel_rfl) (by kernel_rfl) (by kernel_rfl) (fun _ _ _ h => h) (Or.inl ⟨by rfl, ?_⟩) (by assumption) ?_
  rotate_left
  · intro wq hSw
    try dsimp only at hSw
    go_simp
    try (with_reducible rfl)
  try simp only [Act.put, List.getElem_toArray, List.getElem_cons_succ, List.getElem_cons_zero, List.setIfInBounds_toArray, List.set_cons_zero, List.set_cons_succ]
  refine wpAnyH_take (i := 11) (v := ?_) rfl (by kernel_rfl) (by kernel_rfl) (by kernel_rfl) (fun _ _ _ h => h) (Or.inl ⟨by rfl, ?_⟩) (by assumption) ?_
  rotate_left
  · intro wq hSw
    try dsimp only at hSw
    go_simp
    try (with_reducible rfl)
  try simp only [Act.put, List.getElem_toArray, List.getElem_cons_succ, List.getElem_cons_zero, List.setIfInBounds_toArray, List.set_cons_zero, List.set_cons_succ]
  refine wpAnyH_take (i := 12) (v := ?_) rfl (by kernel_rfl) (by kernel_rfl) (by kernel_rfl) (fun _ _ _ h => h) (Or.inl ⟨by rfl, ?_⟩) (by assumption) ?_
  rotate_left
  · intro wq hSw
    try dsimp only at hSw
    go_simp
    try (with_reducible rfl)
  try simp only [Act.put, List.getElem_toArray, List.getElem_cons_succ, List.getElem_cons_zero, List.setIfInBounds_toArray, List.set_cons_zero, List.set_cons_succ]
  refine wpAnyH_take (i := 13) (v := ?_) rfl (by kernel_rfl) (by kernel_rfl) (by kernel_rfl) (fun _ _ _ h => h) (Or.inl ⟨by rfl, ?_⟩) (by assumption) ?_
  rotate_left
  · intro wq hSw
    try dsimp only at hSw
    go_simp
    try (with_reducible rfl)
  try simp only [Act.put, List.getElem_toArray, List.getElem_cons_succ, List.getElem_cons_zero, List.setIfInBounds_toArray, List.set_cons_zero, List.set_cons_succ]
  refine wpAnyH_ready (rs := [14]) (by kernel_rfl) (by simp) ?_
  refine AllReadyH.cons rfl (fun K0 hK => ?_) ?_
  rotate_left
  · exact AllReadyH.nil
  go_simp
  refine (same_w4 q q P cp P2 cp2 _ (by omega) (by omega) (HQ.out.on HW.out.drew) (HR.out.on HW.out.drew)).mono ?_
  rintro e0 v1 ⟨b1, rfl, hb1, hb0⟩
  cases b1 with
  | false => exact absurd rfl (hb1 rfl)
  | true =>
  clear hb1
  have L1 := Lib.hid (show Below W.heap.size W v1 from (Below.refl W.heap.size W).drew.trans hb0)
  clear hb0
  go_wp2_with fail
  refine hK.out _ _ ?_ (fun hHeld => ?_)
  · exact HSS.out _ L1.out
  clear hK K0
  try simp only [Act.put, List.getElem_toArray, List.getElem_cons_succ, List.getElem_cons_zero, List.setIfInBounds_toArray, List.set_cons_zero, List.set_cons_succ]
  refine wpAnyH_take (i := 15) (v := ?_) rfl (by kernel_rfl) (by kernel_rfl) (by kernel_rfl) (fun _ _ _ h => h) (Or.inl ⟨by rfl, ?_⟩) (by assumption) ?_
  rotate_left
  · intro wq hSw
    try dsimp only at hSw
    go_simp
    try (with_reducible rfl)
  try simp only [Act.put, List.getElem_toArray, List.getElem_cons_succ, List.getElem_cons_zero, List.setIfInBounds_toArray, List.set_cons_zero, List.set_cons_succ]
  refine wpAnyH_take (i := 16) (v := ?_) rfl (by kernel_rfl) (by kernel_rfl) (by kernel_rfl) (fun _ _ _ h => h) (Or.inl ⟨by rfl, ?_⟩) (by assumption) ?_
  rotate_left
  · intro wq hSw
    try dsimp only at hSw
    go_simp
    try (with_reducible rfl)
  try simp only [Act.put, List.getElem_toArray, List.getElem_cons_succ, List.getElem_cons_zero, List.setIfInBounds_toArray, List.set_cons_zero, List.set_cons_succ]
  refine wpAnyH_take (i := 17) (v := ?_) rfl (by kernel_rfl) (by kernel_rfl) (by kernel_rfl) (fun _ _ _ h => h) (Or.inl ⟨by rfl, ?_⟩) (by assumption) ?_
  rotate_left
  · intro wq hSw
    try dsimp only at hSw
    go_simp
    try (with_reducible rfl)
  try simp only [Act.put, List.getElem_toArray, List.getElem_cons_succ, List.getElem_cons_zero, List.setIfInBounds_toArray, List.set_cons_zero, List.set_cons_succ]
  refine wpAnyH_take (i := 19) (v := ?_) rfl (by kernel_rfl) (by kernel_rfl) (by kernel_rfl) (fun _ _ _ h => h) (Or.inl ⟨by rfl, ?_⟩) (by assumption) ?_
  rotate_left
  · intro wq hSw
    try dsimp only at hSw
    go_simp
    try (with_reducible rfl)
  try simp only [Act.put, List.getElem_toArray, List.getElem_cons_succ, List.getElem_cons_zero, List.setIfInBounds_toArray, List.set_cons_zero, List.set_cons_succ]
  refine wpAnyH_take (i := 20) (v := ?_) rfl (by kernel_rfl) (by kernel_rfl) (by kernel_rfl) (fun _ _ _ h => h) (Or.inl ⟨by rfl, ?_⟩) (by assumption) ?_
  rotate_left
  · intro wq hSw
    try dsimp only at hSw
    go_simp
    try (with_reducible rfl)
  try simp only [Act.put, List.getElem_toArray, List.getElem_cons_succ, List.getElem_cons_zero, List.setIfInBounds_toArray, List.set_cons_zero, List.set_cons_succ]
  refine wpAnyH_take (i := 21) (v := ?_) rfl (by kernel_rfl) (by kernel_rfl) (by kernel_rfl) (fun _ _ _ h => h) (Or.inl ⟨by rfl, ?_⟩) (by assumption) ?_
  rotate_left
  · intro wq hSw
    try dsimp only at hSw
    go_simp
    try (with_reducible rfl)
  try simp only [Act.put, List.getElem_toArray, List.getElem_cons_succ, List.getElem_cons_zero, List.setIfInBounds_toArray, List.set_cons_zero, List.set_cons_succ]
  refine wpAnyH_take (i := 22) (v := ?_) rfl (by kernel_rfl) (by kernel_rfl) (by kernel_rfl) (fun _ _ _ h => h) (Or.inl ⟨by rfl, ?_⟩) (by assumption) ?_
  rotate_left
  · intro wq hSw
    try dsimp only at hSw
    go_simp
    try (with_reducible rfl)
  try simp only [Act.put, List.getElem_toArray, List.getElem_cons_succ, List.getElem_cons_zero, List.setIfInBounds_toArray, List.set_cons_zero, List.set_cons_succ]
  refine wpAnyH_take (i := 23) (v := ?_) rfl (by kernel_rfl) (by kernel_rfl) (by kernel_rfl) (fun _ _ _ h => h) (Or.inl ⟨by rfl, ?_⟩) (by assumption) ?_
  rotate_left
  · intro wq hSw
    try dsimp only at hSw
    go_simp
    try (with_reducible rfl)
  try simp only [Act.put, List.getElem_toArray, List.getElem_cons_succ, List.getElem_cons_zero, List.setIfInBounds_toArray, List.set_cons_zero, List.set_cons_succ]
  refine wpAnyH_ready (rs := [18]) (by kernel_rfl) (by simp) ?_
  refine AllReadyH.cons rfl (fun K0 hK => ?_) ?_
  rotate_left
  · exact AllReadyH.nil
  go_simp
  refine (ref_cells _ x C f C' f' _ HX.out.le (Nat.le_refl _) (HV.out.on (HW.out.trans (L1.out.mono HW.out.size)))).mono ?_
  rintro e0 v2 ⟨R1, r1, R1', r1', rfl, hU, hb0⟩
  unfold T.agg
  have L2 := Lib.hid (L1.out.trans (hb0.mono L1.out.size))
  have HU := Lib.hid (show TV v2 (· < v2.heap.size) x R1 r1 R1' r1' from hU.wide fun b hb => by
    have h1 := hb0.size
    rcases hb with hb | hb
    · exact Nat.lt_of_lt_of_le hb h1
    · exact hb.2)
  clear hU hb0
  go_wp2_with fail
  refine hK.out _ _ ?_ (fun hHeld => ?_)
  · exact HSS.out _ L2.out
  clear hK K0
  try simp only [Act.put, List.getElem_toArray, List.getElem_cons_succ, List.getElem_cons_zero, List.setIfInBounds_toArray, List.set_cons_zero, List.set_cons_succ]
  refine wpAnyH_ready (rs := [24]) (by kernel_rfl) (by simp) ?_
  refine AllReadyH.cons rfl (fun K0 hK => ?_) ?_
  rotate_left
  · exact AllReadyH.nil
  go_simp
  refine (rsame_cells x R1 r1 R1' r1' B e1 B' e1' _ HX.out.le HX.out.small HU.out (HTV.out.on (HW.out.trans (L2.out.mono HW.out.size)))).mono ?_
  rintro e0 v3 ⟨rfl, hb0⟩
  have L3 := Lib.hid (L2.out.trans (hb0.mono L2.out.size))
  clear hb0 HU
  go_wp2_with fail
  refine hK.out _ _ ?_ (fun hHeld => ?_)
  · exact HSS.out _ L3.out
  clear hK K0
  try simp only [Act.put, List.getElem_toArray, List.getElem_cons_succ, List.getElem_cons_zero, List.setIfInBounds_toArray, List.set_cons_zero, List.set_cons_succ]
  refine wpAnyH_take (i := 25) (v := ?_) rfl (by kernel_rfl) (by kernel_rfl) (by kernel_rfl) (fun _ _ _ h => h) (Or.inl ⟨by rfl, ?_⟩) (by assumption) ?_
  rotate_left
  · intro wq hSw
    try dsimp only at hSw
    go_simp
    try (with_reducible rfl)
  try simp only [Act.put, List.getElem_toArray, List.getElem_cons_succ, List.getElem_cons_zero, List.setIfInBounds_toArray, List.set_cons_zero, List.set_cons_succ]
  have HT3 := Lib.hid (HT.out.on (HW.out.trans (L3.out.mono HW.out.size)) fun b hb => (HS.out b hb).1)
  have f8 := HT3.out.ok.free 0
  have HB9 := Lib.hid (show Below W.heap.size W (v3.setCell ⟨b8, 0, none⟩ (.bool true)) from L3.out.trans ⟨rfl, rfl, rfl, by simp [World.setCell], fun k hk => by
    by_cases e : k = b8
    · subst e
      exact (HT3.out.ok.set_ 0 (.bool true)).trans HT3.out.ok.symm
    · exact Below.heap_setCell v3 ⟨b8, 0, none⟩ (.bool true) k e⟩)
  refine wpAnyH_ready (rs := [26]) (by kernel_rfl) (by simp) ?_
  refine AllReadyH.cons rfl (fun K0 hK => ?_) ?_
  rotate_left
  · exact AllReadyH.nil
  go_simp
  refine hK.out _ _ ?_ (fun hHeld => ?_)
  · exact HSS.out _ HB9.out
  clear hK K0
  try simp only [Act.put, List.getElem_toArray, List.getElem_cons_succ, List.getElem_cons_zero, List.setIfInBounds_toArray, List.set_cons_zero, List.set_cons_succ]
  refine wpAnyH_done (by kernel_rfl) ?_ _
  clear f8 HT3 L1 L2 L3
  generalize v3.setCell ⟨b8, 0, none⟩ (.bool true) = W9 at *
  have HT9 := Lib.hid (HT.out.on (HW.out.trans (HB9.out.mono HW.out.size)) fun b hb => (HS.out b hb).1)
  have HB9' := Lib.hid (HW.out.trans (HB9.out.mono HW.out.size))
  have x7 : W9.cell? ⟨b7, 0, none⟩ = some (.int .i64 k) := HT9.out.n.cell 0
  have f7 := HT9.out.n.free 0
  clear HSS HB0 HB9 HT
  go_upto_region 3 with fail
  have hBk : But (Vars b8 b7) W9 (W9.setCell ⟨b7, 0, none⟩ (.int .i64 (k + 1))) := (But.of (Below.refl _ _)).set (.inl (.inr rfl)) _
  have hT : Told (W9.setCell ⟨b7, 0, none⟩ (.int .i64 (k + 1))) b8 b7 b6 b3 L m (k + 1) S (some ⟨bb, o, none⟩) c :=
    ⟨HT9.out.ok.far (p := ⟨b7, 0, none⟩) n87 _, HT9.out.n.set_ 0 _, HT9.out.l.far (p := ⟨b7, 0, none⟩) (Ne.symm n76) _, HT9.out.m.far (p := ⟨b7, 0, none⟩) (Ne.symm n73) _,
      HT9.out.reads.keep (hBk.keeps fun b hb => ⟨by have := (HS.out b hb).1; have := HB9'.out.size; omega, (HS.out b hb).2⟩)⟩
  change Code.wp _ _ _ _ (W9.setCell ⟨b7, 0, none⟩ (.int .i64 (k + 1)))
  generalize W9.setCell ⟨b7, 0, none⟩ (.int .i64 (k + 1)) = WA at *
  have HTA := Lib.hid hT
  have HBA := Lib.hid (show But (Vars b8 b7) w WA from (But.of HB9'.out).trans hBk)
  clear x7 f7 HT9 HB9' hBk
  have y8 : WA.cell? ⟨b8, 0, none⟩ = some (.bool true) := hT.ok.cell 0
  have y7 : WA.cell? ⟨b7, 0, none⟩ = some (.int .i64 (k + 1)) := hT.n.cell 0
  have y3 : WA.cell? ⟨b3, 0, none⟩ = some (.int .u8 m) := hT.m.cell 0
  have hmw : IntKind.i64.wrap (m : Int) = m := IntWalk.i64_in _ (by omega)
  clear hT
  by_cases hkm : k + 1 < m
  · have u2 : decide ((k : Int) + 1 < (m : Int)) = true := decide_eq_true (by omega)
    go_wp2_with fail
    go_ret
    exact ⟨by rw [decide_eq_true hkm]; rfl, HTA.out, HBA.out⟩
  · have u2 : decide ((k : Int) + 1 < (m : Int)) = false := decide_eq_false (by omega)
    go_wp2_with fail
    go_ret
    exact ⟨by rw [decide_eq_false hkm]; rfl, HTA.out, HBA.out⟩
end Go.Proofs.YthkpeomdklcnmaaDoor
