/- All's walk: contract. -/
import Derived.Test.YthkpeomdklcnmaaDoorHandC
import Derived.Outline
namespace Go.Proofs.YthkpeomdklcnmaaDoor
open Go.RowKit
set_option linter.unusedVariables false

/-- what walk leaves alone: the law's two counters, and the spare room of the path -/
def Left (b8 b7 : Nat) (v : Value) (b : Nat) : Prop := Vars b8 b7 b ∨ some b = v.ownBlock
def WalkPost (b8 b7 b6 b3 : Nat) (L : List (List ByteArray × T)) (m k : Nat) (S : Nat → Prop) (A6 : Option Addr) (c6 base : Nat) (t : T) (p : List ByteArray) (P : Option Addr) (cp : Nat) (w : World) (e : Ending) (w' : World) : Prop :=
  ∃ k', k' = min (k + t.size) (max m 1) ∧ e = .returned (.bool (decide (k' < m))) ∧ Told w' b8 b7 b6 b3 L m k' S A6 c6 ∧ But (Left b8 b7 (.slice P p.length cp)) w w' ∧ w'.ownsRow base 9 1 (.slice P p.length cp) p.length (p.map Value.string)
def WalkAt (b8 b7 b6 b3 : Nat) (L : List (List ByteArray × T)) (m : Nat) (S : Nat → Prop) (A6 : Option Addr) (c6 n : Nat) : Prop := ∀ (V : Nat → Prop) (t : T) (p : List ByteArray) (P : Option Addr) (cp : Nat) (A : Option Addr) (c : Nat) (A' : Option Addr) (c' k base : Nat) (w : World), t.size ≤ n → n ≤ 80 → t.Fine → p.length + n ≤ 500 → base ≤ w.heap.size →
  w.ownsRow base 9 1 (.slice P p.length cp) p.length (p.map Value.string) → TV w V t A c A' c' → (∀ b, V b ∨ S b → b < w.heap.size ∧ ¬ Left b8 b7 (.slice P p.length cp) b) → Told w b8 b7 b6 b3 L m k S A6 c6 → (k = 0 ∨ k < m) → (∀ i qx, (t.parts p)[i]? = some qx → L[k + i]? = some qx) →
  Calls Tryd.prog 36 #[.agg #[.int .i64 t.kind, .bool t.tr, .int .i64 t.num, .string t.str, .slice A t.items.length c, .slice A' t.keys.length c'], .slice P p.length cp, .func (.func 19) #[] #[.pointer (some ⟨b8, 0, none⟩), .pointer (some ⟨b7, 0, none⟩), .pointer (some ⟨b6, 0, none⟩), .pointer (some ⟨b3, 0, none⟩)]] w (WalkPost b8 b7 b6 b3 L m k S A6 c6 base t p P cp w)
theorem own_neW {w : World} {base n : Nat} {v : Value} {xs : List Value} (h : w.ownsRow base 9 1 v n xs) {b : Nat} {ty : TypeId} {cs : Array Value} (hb : Blk w b ty cs) (ht : ty ≠ 9) : some b ≠ v.ownBlock := by
  rcases h.2 with ⟨rfl, _⟩ | ⟨g, cap, cur, rfl, _, hg, _⟩
  · simp [Value.ownBlock]
  · intro e
    simp only [Value.ownBlock] at e
    injection e with e
    subst e
    exact blk_ne hb (show Blk w b 9 cur from hg) ht rfl
theorem own_readsK {w : World} {lo hi : Nat} {l : List ByteArray} {A : Option Addr} (h : OwnKeys w lo hi l A) (hh : hi ≤ w.heap.size) : SReads w (· < w.heap.size) A l := by
  intro hn
  obtain ⟨g, cs, rfl, h1, h2, hb, h3, h4⟩ := h hn
  exact ⟨g, 0, rfl, by show g < _; omega, fun i s hi => by rw [Nat.zero_add, hb.cell]; exact h4 i s hi⟩
theorem own_but {w w' : World} {base n : Nat} {v : Value} {xs : List Value} {D : Nat → Prop} (h : w.ownsRow base 9 1 v n xs) (hb : But D w w') (hD : ∀ b, some b = v.ownBlock → ¬ D b) : w'.ownsRow base 9 1 v n xs := by
  have hlt := h.lt
  refine ⟨h.1, ?_⟩
  rcases h.2 with hn | ⟨g, cap, cur, rfl, hbg, hg, rest⟩
  · exact .inl hn
  · exact .inr ⟨g, cap, cur, rfl, hbg, (hb.block g (hlt g rfl).2 (hD g rfl)).trans hg, rest⟩
set_option maxRecDepth 100000 in
set_option maxHeartbeats 16000000 in
theorem walk_at (b8 b7 b6 b3 : Nat) (L : List (List ByteArray × T)) (m : Nat) (S : Nat → Prop) (A6 : Option Addr) (c6 : Nat) (hL : L.length ≤ 100) (hm : m ≤ 255) (n : Nat) : WalkAt b8 b7 b6 b3 L m S A6 c6 n := by
  induction n with
  | zero => intro V t p P cp A c A' c' k base w h; have := t.size_pos; omega
  | succ n ih =>
    intro V t p P cp A c A' c' k base w hsz hn80 hn hpl hbase hown hv hVS ht hk hseg
    have hil := hn.items80
    have t0 := hseg 0 (p, t) (by rw [parts_eq]; rfl)
    rw [Nat.add_zero] at t0
    obtain ⟨hpc, hpr⟩ := own_strs2 rfl hown
    have hGL : ¬ Left b8 b7 (.slice P p.length cp) w.heap.size := by
      rintro ((h | h) | h)
      · have := ht.ok.lt; omega
      · have := ht.n.lt; omega
      · have := (hown.lt _ h.symm).2; omega
    have o8 := own_neW hown ht.ok (by decide)
    have o7 := own_neW hown ht.n (by decide)
    have o6 := own_neW hown ht.l (by decide)
    have o3 := own_neW hown ht.m (by decide)
    have n86 : b6 ≠ b8 := blk_ne ht.l ht.ok (by decide)
    have n83 : b3 ≠ b8 := blk_ne ht.m ht.ok (by decide)
    have n76 : b6 ≠ b7 := blk_ne ht.l ht.n (by decide)
    have n73 : b3 ≠ b7 := blk_ne ht.m ht.n (by decide)
    have hpos := t.size_pos
    have hse := T.size_eq t
    have HN := Lib.hid hn
    have HO := Lib.hid hown
    have HV := Lib.hid hv
    have HVS := Lib.hid hVS
    have HT := Lib.hid ht
    have HSEG := Lib.hid hseg
    have HPR := Lib.hid (show SReads w (· < w.heap.size) P p from hpr.wide fun b hb => hb.2)
    have HT0 := Lib.hid t0
    have IH := Lib.hid ih
    have HO8 := Lib.hid o8
    have HO7 := Lib.hid o7
    have HO6 := Lib.hid o6
    have HO3 := Lib.hid o3
    have HVW := Lib.hid (show TV w (· < w.heap.size) t A c A' c' from hv.wide fun b hb => (hVS b (.inl hb)).1)
    clear hn hown hv hVS ht hseg hpr t0 ih o8 o7 o6 o3
    go_enter Tryd.func36, Tryd.ntmps36
    go_upto_region 1 with fail
    have hW : Below w.heap.size w (w.alloc (.cells #[.int .i64 t.kind, .bool t.tr, .int .i64 t.num, .string t.str, .slice A t.items.length c, .slice A' t.keys.length c'] 32)) := (Below.refl _ _).alloc (Nat.le_refl _) _
    have hB0 : Blk (w.alloc (.cells #[.int .i64 t.kind, .bool t.tr, .int .i64 t.num, .string t.str, .slice A t.items.length c, .slice A' t.keys.length c'] 32)) w.heap.size 32 #[.int .i64 t.kind, .bool t.tr, .int .i64 t.num, .string t.str, .slice A t.items.length c, .slice A' t.keys.length c'] := Blk.new w _ _
    change Code.wp _ _ _ _ (w.alloc (.cells #[.int .i64 t.kind, .bool t.tr, .int .i64 t.num, .string t.str, .slice A t.items.length c, .slice A' t.keys.length c'] 32))
    generalize (w.alloc (.cells #[.int .i64 t.kind, .bool t.tr, .int .i64 t.num, .string t.str, .slice A t.items.length c, .slice A' t.keys.length c'] 32)) = W at *
    have HW := Lib.hid hW
    have HB0 := Lib.hid hB0
    have hws := hW.size
    have hgw := hB0.lt
    clear hW hB0
    have HSS := Lib.hid (show ∀ w', But (Left b8 b7 (.slice P p.length cp)) W w' → (w'.cell? ⟨w.heap.size, 0, none⟩ = some (.int .i64 t.kind) ∧ w'.cell? ⟨w.heap.size, 1, none⟩ = some (.bool t.tr) ∧ w'.cell? ⟨w.heap.size, 2, none⟩ = some (.int .i64 t.num) ∧ w'.cell? ⟨w.heap.size, 3, none⟩ = some (.string t.str) ∧ w'.cell? ⟨w.heap.size, 4, none⟩ = some (.slice A t.items.length c) ∧ w'.cell? ⟨w.heap.size, 5, none⟩ = some (.slice A' t.keys.length c')) from fun w' h => by
      have h0 := h.blk HB0.out hGL
      exact ⟨h0.cell 0, h0.cell 1, h0.cell 2, h0.cell 3, h0.cell 4, h0.cell 5⟩)
    refine wp_region_held_drew (S := fun w' => w'.cell? ⟨w.heap.size, 0, none⟩ = some (.int .i64 t.kind) ∧ w'.cell? ⟨w.heap.size, 1, none⟩ = some (.bool t.tr) ∧ w'.cell? ⟨w.heap.size, 2, none⟩ = some (.int .i64 t.num) ∧ w'.cell? ⟨w.heap.size, 3, none⟩ = some (.string t.str) ∧ w'.cell? ⟨w.heap.size, 4, none⟩ = some (.slice A t.items.length c) ∧ w'.cell? ⟨w.heap.size, 5, none⟩ = some (.slice A' t.keys.length c')) (by kernel_rfl) ?_ (fun hHeld => ?_)
    · exact HSS.out _ (But.of (Below.refl _ _).drew)
    refine wpAnyH_take (i := 0) (v := ?_) rfl (by kernel_rfl) (by kernel_rfl) (by kernel_rfl) (fun _ _ _ h => h) (Or.inl ⟨by rfl, ?_⟩) (by assumption) ?_
    rotate_left
    · intro wq hSw
      try dsimp only at hSw
      go_simp
      try (with_reducible rfl)
    try simp only [Act.put, List.getElem_toArray, List.getElem_cons_zero, List.setIfInBounds_toArray, List.set_cons_zero, List.set_cons_succ]
    refine wpAnyH_take (i := 1) (v := ?_) rfl (by kernel_rfl) (by kernel_rfl) (by kernel_rfl) (fun _ _ _ h => h) (Or.inl ⟨by rfl, ?_⟩) (by assumption) ?_
    rotate_left
    · intro wq hSw
      try dsimp only at hSw
      go_simp
      try (with_reducible rfl)
    try simp only [Act.put, List.getElem_toArray, List.getElem_cons_succ, List.getElem_cons_zero, List.setIfInBounds_toArray, List.set_cons_zero, List.set_cons_succ]
    refine wpAnyH_take (i := 3) (v := ?_) rfl (by kernel_rfl) (by kernel_rfl) (by kernel_rfl) (fun _ _ _ h => h) (Or.inl ⟨by rfl, ?_⟩) (by assumption) ?_
    rotate_left
    · intro wq hSw
      try dsimp only at hSw
      go_simp
      try (with_reducible rfl)
    try simp only [Act.put, List.getElem_toArray, List.getElem_cons_succ, List.getElem_cons_zero, List.setIfInBounds_toArray, List.set_cons_zero, List.set_cons_succ]
    refine wpAnyH_ready (rs := [2]) (by kernel_rfl) (by simp) ?_
    refine AllReadyH.cons rfl (fun K0 hK => ?_) ?_
    rotate_left
    · exact AllReadyH.nil
    go_simp
    refine (clone_any p P cp _ (by omega) (HPR.out.on (HW.out.drew))).mono ?_
    rintro e0 v1 ⟨Q, cq, rfl, hcq, hQ, hb0⟩
    have L1 := Lib.hid (show Below W.heap.size W v1 from (Below.refl W.heap.size W).drew.trans hb0)
    have HQ1 := Lib.hid (own_readsK hQ (Nat.le_refl _))
    clear hQ hb0
    go_wp2_with fail
    refine hK.out _ _ ?_ (fun hHeld => ?_)
    · exact HSS.out _ (But.of L1.out)
    clear hK K0
    try simp only [Act.put, List.getElem_toArray, List.getElem_cons_succ, List.getElem_cons_zero, List.setIfInBounds_toArray, List.set_cons_zero, List.set_cons_succ]
    refine wpAnyH_ready (rs := [4]) (by kernel_rfl) (by simp) ?_
    refine AllReadyH.cons rfl (fun K0 hK => ?_) ?_
    rotate_left
    · exact AllReadyH.nil
    go_simp
    have L1w := Lib.hid (show Below w.heap.size w v1 from HW.out.trans (L1.out.mono hws))
    refine (copy_cells t A c A' c' _ HN.out.le HN.out.small (HVW.out.on L1w.out)).mono ?_
    rintro e0 v2 ⟨B, d, B', d', rfl, hO2, hb0⟩
    unfold T.agg
    have L2 := Lib.hid (L1.out.trans (hb0.mono L1.out.size))
    have L2w := Lib.hid (L1w.out.trans (hb0.mono L1w.out.size))
    have HQ2 := Lib.hid (HQ1.out.on hb0)
    have HC2 := Lib.hid (show TV v2 (· < v2.heap.size) t B d B' d' from hO2.tv.wide fun b hb => hb.2)
    clear hO2 hb0 HQ1 L1 L1w
    go_wp2_with fail
    refine hK.out _ _ ?_ (fun hHeld => ?_)
    · exact HSS.out _ (But.of L2.out)
    clear hK K0
    try simp only [Act.put, List.getElem_toArray, List.getElem_cons_succ, List.getElem_cons_zero, List.setIfInBounds_toArray, List.set_cons_zero, List.set_cons_succ]
    refine wpAnyH_ready (rs := [5]) (by kernel_rfl) (by simp) ?_
    refine AllReadyH.cons rfl (fun K0 hK => ?_) ?_
    rotate_left
    · exact AllReadyH.nil
    go_simp
    have hv2 := L2w.out.size
    refine (told_any b8 b7 b6 b3 L m k S A6 c6 p t Q cq B d B' d' v2 (HT.out.on L2w.out fun b hb => (HVS.out b (.inr hb)).1) hL hm HT0.out HN.out (by omega) HQ2.out HC2.out fun b hb => ⟨by have := (HVS.out b (.inr hb)).1; omega, fun h => (HVS.out b (.inr hb)).2 (.inl h)⟩).mono ?_
    rintro e0 v3 ⟨he0, hT3, hb3⟩
    obtain ⟨bk, hbk⟩ : ∃ bk, decide (k + 1 < m) = bk := ⟨_, rfl⟩
    rw [hbk] at he0
    subst he0
    have HBK := Lib.hid hbk
    clear hbk
    have HT3 := Lib.hid hT3
    have HB3v := Lib.hid (show But (Vars b8 b7) W v3 from (But.of L2.out).trans hb3)
    have HB3 := Lib.hid (HB3v.out.wide (E := Left b8 b7 (.slice P p.length cp)) fun k h => .inl (.inl h))
    clear hT3 hb3 HC2 HQ2 L2 L2w hv2
    go_wp2_with fail
    refine hK.out _ _ ?_ (fun hHeld => ?_)
    · exact HSS.out _ HB3.out
    clear hK K0
    try simp only [Act.put, List.getElem_toArray, List.getElem_cons_succ, List.getElem_cons_zero, List.setIfInBounds_toArray, List.set_cons_zero, List.set_cons_succ]
    refine wpAnyH_take (i := 6) (v := ?_) rfl (by kernel_rfl) (by kernel_rfl) (by kernel_rfl) (fun _ _ _ h => h) (Or.inl ⟨by rfl, ?_⟩) (by assumption) ?_
    rotate_left
    · intro wq hSw
      try dsimp only at hSw
      go_simp
      try (with_reducible rfl)
    try simp only [Act.put, List.getElem_toArray, List.getElem_cons_succ, List.getElem_cons_zero, List.setIfInBounds_toArray, List.set_cons_zero, List.set_cons_succ]
    refine wpAnyH_done (by kernel_rfl) ?_ _
    have hWb : Below w.heap.size w W := HW.out
    have HW3 := Lib.hid (show But (Left b8 b7 (.slice P p.length cp)) w v3 from (But.of hWb).trans HB3.out)
    have HR3 := Lib.hid (show v3.ownsRow base 9 1 (.slice P p.length cp) p.length (p.map Value.string) from own_but (own_but HO.out (But.of (D := fun _ => False) hWb) fun _ _ h => h) HB3v.out fun b hb h => by
      rcases h with rfl | rfl
      · exact HO8.out hb
      · exact HO7.out hb)
    clear hWb HB3v
    cases bk with
    | false =>
      have hkm := of_decide_eq_false HBK.out
      go_wp2_with fail
      go_ret
      exact ⟨k + 1, by omega, by rw [HBK.out]; rfl, HT3.out, HW3.out, HR3.out⟩
    | true =>
    have hkm := of_decide_eq_true HBK.out
    obtain ⟨a0, a1, a2, a3, a4, a5⟩ := HSS.out _ HB3.out
    go_wp2_with fail
    refine (items_any t A c A' c' _ HN.out).mono ?_
    rintro e0 v4 ⟨rfl, hb0⟩
    have HT4 := Lib.hid (HT3.out.on hb0 fun b hb => by have h1 := (HVS.out b (.inr hb)).1; have h2 := HW3.out.size; omega)
    have HB4 := Lib.hid (HB3.out.trans (But.of hb0))
    have HW4 := Lib.hid (HW3.out.trans (But.of hb0))
    have HR4 := Lib.hid (own_but HR3.out (But.of (D := fun _ => False) hb0) fun _ _ h => h)
    clear hb0 a0 a1 a2 a3 a4 a5 HB3 HW3 HR3 HT3 HBK
    go_wp2_with fail
    go_loopw [17] (fun s wr => ∃ j : Nat, j ≤ t.items.length ∧ s = .int .i64 j ∧ k + 1 + T.sizes (t.items.take j) < m ∧ Told wr b8 b7 b6 b3 L m (k + 1 + T.sizes (t.items.take j)) S A6 c6 ∧ But (Left b8 b7 (.slice P p.length cp)) W wr ∧ wr.ownsRow base 9 1 (.slice P p.length cp) p.length (p.map Value.string)) (fun s _ => t.items.length - (intOf s).toNat)
    case atStart => exact ⟨0, Nat.zero_le _, rfl, by simpa [T.sizes] using hkm, by simpa [T.sizes] using HT4.out, HB4.out, HR4.out⟩
    case round =>
      obtain ⟨j, hj, rfl, hkj, hT, hB, hR⟩ := hrel
      have HTr := Lib.hid hT
      have HBr := Lib.hid hB
      have HRr := Lib.hid hR
      clear hT hB hR HT4 HB4 HW4 HR4
      have HWr := Lib.hid (show But (Left b8 b7 (.slice P p.length cp)) w wr from (But.of HW.out).trans HBr.out)
      have hsr := HWr.out.size
      have hKV : Keeps (fun b => V b ∨ S b) w wr := HWr.out.keeps fun b hb => HVS.out b hb
      have HKV := Lib.hid hKV
      clear hKV
      by_cases hlt : j < t.items.length
      rotate_left
      · obtain rfl : j = t.items.length := by omega
        have u1 : decide (t.items.length < t.items.length) = false := decide_eq_false hlt
        have u2 : decide ((t.items.length : Int) < (t.items.length : Int)) = false := decide_eq_false (by omega)
        rw [List.take_length] at hkj HTr
        go_wp2_with fail
        go_ret
        have hend : k + 1 + T.sizes t.items = min (k + t.size) (max m 1) := by omega
        exact ⟨k + 1 + T.sizes t.items, hend, by rw [decide_eq_true hkj]; rfl, HTr.out, HWr.out, HRr.out⟩
      have u1 : decide (j < t.items.length) = true := decide_eq_true hlt
      have u2 : decide ((j : Int) < (t.items.length : Int)) = true := decide_eq_true (by omega)
      have i1 : (j : Int) < (t.items.length : Int) := by omega
      have i2 : (0 : Int) ≤ (j : Int) := by omega
      obtain ⟨bA, oA, x, D, g, D', g', rfl, hbA, hx, h6x, hX⟩ := HV.out.at_ hlt
      have HX := Lib.hid (hX.keep (fun b hb => HKV.out b (.inl hb)))
      have HX6 := Lib.hid (h6x.keep (S := V) hbA fun b hb => HKV.out b (.inl hb))
      have Hx := Lib.hid hx
      have HXN := Lib.hid (HN.out.at_ hx)
      have hsn := T.sizes_snoc hx
      have hst2 := T.sizes_take t.items (j + 1)
      have hxp := x.size_pos
      have hbA2 := HVS.out bA (.inl hbA)
      clear hX h6x hx
      have HS6 := Lib.hid (show ∀ w', But (Left b8 b7 (.slice P p.length cp)) wr w' → (w'.cell? ⟨w.heap.size, 0, none⟩ = some (.int .i64 t.kind) ∧ w'.cell? ⟨w.heap.size, 1, none⟩ = some (.bool t.tr) ∧ w'.cell? ⟨w.heap.size, 2, none⟩ = some (.int .i64 t.num) ∧ w'.cell? ⟨w.heap.size, 3, none⟩ = some (.string t.str) ∧ w'.cell? ⟨w.heap.size, 4, none⟩ = some (.slice (some ⟨bA, oA, none⟩) t.items.length c) ∧ w'.cell? ⟨w.heap.size, 5, none⟩ = some (.slice A' t.keys.length c')) ∧ (w'.cell? ⟨bA, oA + j * 6, none⟩ = some (.int .i64 x.kind) ∧ w'.cell? ⟨bA, oA + j * 6 + 1, none⟩ = some (.bool x.tr) ∧ w'.cell? ⟨bA, oA + j * 6 + 2, none⟩ = some (.int .i64 x.num) ∧ w'.cell? ⟨bA, oA + j * 6 + 3, none⟩ = some (.string x.str) ∧ w'.cell? ⟨bA, oA + j * 6 + 4, none⟩ = some (.slice D x.items.length g) ∧ w'.cell? ⟨bA, oA + j * 6 + 5, none⟩ = some (.slice D' x.keys.length g')) from fun w' h => by
        have h0 := (HBr.out.trans h).blk HB0.out hGL
        have hk : Keeps V wr w' := fun b hb => h.block b (by have := (HVS.out b (.inl hb)).1; omega) (HVS.out b (.inl hb)).2
        exact ⟨⟨h0.cell 0, h0.cell 1, h0.cell 2, h0.cell 3, h0.cell 4, h0.cell 5⟩, HX6.out.keep hbA hk⟩)
      go_upto_region 6 with fail
      refine wp_region_held_drew (S := fun w' => (w'.cell? ⟨w.heap.size, 0, none⟩ = some (.int .i64 t.kind) ∧ w'.cell? ⟨w.heap.size, 1, none⟩ = some (.bool t.tr) ∧ w'.cell? ⟨w.heap.size, 2, none⟩ = some (.int .i64 t.num) ∧ w'.cell? ⟨w.heap.size, 3, none⟩ = some (.string t.str) ∧ w'.cell? ⟨w.heap.size, 4, none⟩ = some (.slice (some ⟨bA, oA, none⟩) t.items.length c) ∧ w'.cell? ⟨w.heap.size, 5, none⟩ = some (.slice A' t.keys.length c')) ∧ (w'.cell? ⟨bA, oA + j * 6, none⟩ = some (.int .i64 x.kind) ∧ w'.cell? ⟨bA, oA + j * 6 + 1, none⟩ = some (.bool x.tr) ∧ w'.cell? ⟨bA, oA + j * 6 + 2, none⟩ = some (.int .i64 x.num) ∧ w'.cell? ⟨bA, oA + j * 6 + 3, none⟩ = some (.string x.str) ∧ w'.cell? ⟨bA, oA + j * 6 + 4, none⟩ = some (.slice D x.items.length g) ∧ w'.cell? ⟨bA, oA + j * 6 + 5, none⟩ = some (.slice D' x.keys.length g'))) (by kernel_rfl) ?_ (fun hHeld => ?_)
      · exact HS6.out _ (But.of (Below.refl _ _).drew)
      refine wpAnyH_take (i := 0) (v := ?_) rfl (by kernel_rfl) (by kernel_rfl) (by kernel_rfl) (fun _ _ _ h => h) (Or.inl ⟨by rfl, ?_⟩) (by assumption) ?_
      rotate_left
      · intro wq hSw
        try dsimp only at hSw
        go_simp
        try (with_reducible rfl)
      try simp only [Act.put, List.getElem_toArray, List.getElem_cons_zero, List.setIfInBounds_toArray, List.set_cons_zero, List.set_cons_succ]
      refine wpAnyH_take (i := 1) (v := ?_) rfl (by kernel_rfl) (by kernel_rfl) (by kernel_rfl) (fun _ _ _ h => h) (Or.inl ⟨by rfl, ?_⟩) (by assumption) ?_
      rotate_left
      · intro wq hSw
        try dsimp only at hSw
        go_simp
        try (with_reducible rfl)
      try simp only [Act.put, List.getElem_toArray, List.getElem_cons_succ, List.getElem_cons_zero, List.setIfInBounds_toArray, List.set_cons_zero, List.set_cons_succ]
      refine wpAnyH_take (i := 2) (v := ?_) rfl (by kernel_rfl) (by kernel_rfl) (by kernel_rfl) (fun _ _ _ h => h) (Or.inl ⟨by rfl, ?_⟩) (by assumption) ?_
      rotate_left
      · intro wq hSw
        try dsimp only at hSw
        go_simp
        try (with_reducible rfl)
      try simp only [Act.put, List.getElem_toArray, List.getElem_cons_succ, List.getElem_cons_zero, List.setIfInBounds_toArray, List.set_cons_zero, List.set_cons_succ]
      refine wpAnyH_take (i := 3) (v := ?_) rfl (by kernel_rfl) (by kernel_rfl) (by kernel_rfl) (fun _ _ _ h => h) (Or.inl ⟨by rfl, ?_⟩) (by assumption) ?_
      rotate_left
      · intro wq hSw
        try dsimp only at hSw
        go_simp
        try (with_reducible rfl)
      try simp only [Act.put, List.getElem_toArray, List.getElem_cons_succ, List.getElem_cons_zero, List.setIfInBounds_toArray, List.set_cons_zero, List.set_cons_succ]
      refine wpAnyH_take (i := 4) (v := ?_) rfl (by kernel_rfl) (by kernel_rfl) (by kernel_rfl) (fun _ _ _ h => h) (Or.inl ⟨by rfl, ?_⟩) (by assumption) ?_
      rotate_left
      · intro wq hSw
        try dsimp only at hSw
        go_simp
        try (with_reducible rfl)
      try simp only [Act.put, List.getElem_toArray, List.getElem_cons_succ, List.getElem_cons_zero, List.setIfInBounds_toArray, List.set_cons_zero, List.set_cons_succ]
      refine wpAnyH_take (i := 5) (v := ?_) rfl (by kernel_rfl) (by kernel_rfl) (by kernel_rfl) (fun _ _ _ h => h) (Or.inl ⟨by rfl, ?_⟩) (by assumption) ?_
      rotate_left
      · intro wq hSw
        try dsimp only at hSw
        go_simp
        try (with_reducible rfl)
      try simp only [Act.put, List.getElem_toArray, List.getElem_cons_succ, List.getElem_cons_zero, List.setIfInBounds_toArray, List.set_cons_zero, List.set_cons_succ]
      refine wpAnyH_take (i := 6) (v := ?_) rfl (by kernel_rfl) (by kernel_rfl) (by kernel_rfl) (fun _ _ _ h => h) (Or.inl ⟨by rfl, ?_⟩) (by assumption) ?_
      rotate_left
      · intro wq hSw
        try dsimp only at hSw
        go_simp
        try (with_reducible rfl)
      try simp only [Act.put, List.getElem_toArray, List.getElem_cons_succ, List.getElem_cons_zero, List.setIfInBounds_toArray, List.set_cons_zero, List.set_cons_succ]
      refine wpAnyH_take (i := 7) (v := ?_) rfl (by kernel_rfl) (by kernel_rfl) (by kernel_rfl) (fun _ _ _ h => h) (Or.inl ⟨by rfl, ?_⟩) (by assumption) ?_
      rotate_left
      · intro wq hSw
        try dsimp only at hSw
        go_simp
        try (with_reducible rfl)
      try simp only [Act.put, List.getElem_toArray, List.getElem_cons_succ, List.getElem_cons_zero, List.setIfInBounds_toArray, List.set_cons_zero, List.set_cons_succ]
      refine wpAnyH_take (i := 11) (v := ?_) rfl (by kernel_rfl) (by kernel_rfl) (by kernel_rfl) (fun _ _ _ h => h) (Or.inl ⟨by rfl, ?_⟩) (by assumption) ?_
      rotate_left
      · intro wq hSw
        try dsimp only at hSw
        go_simp
        try (with_reducible rfl)
      try simp only [Act.put, List.getElem_toArray, List.getElem_cons_succ, List.getElem_cons_zero, List.setIfInBounds_toArray, List.set_cons_zero, List.set_cons_succ]
      refine wpAnyH_ready (rs := [8]) (by kernel_rfl) (by simp) ?_
      refine AllReadyH.cons rfl (fun K0 hK => ?_) ?_
      rotate_left
      · exact AllReadyH.nil
      go_simp
      have hVr : TV wr.drew (· < wr.drew.heap.size) t (some ⟨bA, oA, none⟩) c A' c' := ((HV.out.keep fun b hb => HKV.out b (.inl hb)).wide (S' := (· < wr.heap.size)) fun b hb => by have := (HVS.out b (.inl hb)).1; show b < wr.heap.size; omega).on (Below.refl _ _).drew
      obtain ⟨st, hst⟩ : ∃ st, stepOf t.kind t.keys j = st := ⟨_, rfl⟩
      have hcall := stepTo_any t (some ⟨bA, oA, none⟩) c A' c' j wr.drew HN.out hlt hVr
      rw [hst] at hcall
      have HST := Lib.hid hst
      clear hst hVr
      refine hcall.mono ?_
      clear hcall
      rintro e0 x1 ⟨rfl, hb0⟩
      have M1 := Lib.hid (show Below wr.heap.size wr x1 from (Below.refl wr.heap.size wr).drew.trans hb0)
      clear hb0
      go_wp2_with fail
      refine hK.out _ _ ?_ (fun hHeld => ?_)
      · exact HS6.out _ (But.of M1.out)
      clear hK K0
      try simp only [Act.put, List.getElem_toArray, List.getElem_cons_succ, List.getElem_cons_zero, List.setIfInBounds_toArray, List.set_cons_zero, List.set_cons_succ]
      refine wpAnyH_ready (rs := [9]) (by kernel_rfl) (by simp) ?_
      refine AllReadyH.cons rfl (fun K0 hK => ?_) ?_
      rotate_left
      · exact AllReadyH.nil
      go_simp
      have M2 := Lib.hid (show Below wr.heap.size wr (x1.alloc (.cells #[.string st] 9)) from M1.out.alloc M1.out.size _)
      have HBs := Lib.hid (show Blk (x1.alloc (.cells #[.string st] 9)) x1.heap.size 9 #[.string st] from Blk.new x1 _ _)
      refine hK.out _ _ ?_ (fun hHeld => ?_)
      · exact HS6.out _ (But.of M2.out)
      clear hK K0
      try simp only [Act.put, List.getElem_toArray, List.getElem_cons_succ, List.getElem_cons_zero, List.setIfInBounds_toArray, List.set_cons_zero, List.set_cons_succ]
      generalize x1.alloc (.cells #[.string st] 9) = x2 at *
      generalize x1.heap.size = gs at *
      have HO2 := Lib.hid (own_but HRr.out (But.of (D := fun _ => False) M2.out) fun _ _ h => h)
      have HT2 := Lib.hid (HTr.out.on M2.out fun b hb => by have := (HVS.out b (.inr hb)).1; omega)
      refine wpAnyH_ready (rs := [10]) (by kernel_rfl) (by simp) ?_
      refine AllReadyH.cons rfl (fun K0 hK => ?_) ?_
      rotate_left
      · exact AllReadyH.nil
      refine app_onto_step rfl (.tmp 25) (.tmp 29) rfl base P cp p rfl HO2.out gs 1 st rfl HBs.out (by omega) (by have := M2.out.size; omega) ?_
      intro B2 d2 x3 ho3 hg3 hat3
      have HO3' := Lib.hid ho3
      have HG3 := Lib.hid hg3
      have HAT := Lib.hid hat3
      have M3 := Lib.hid (show But (Left b8 b7 (.slice P p.length cp)) wr x3 from (But.of M2.out).trans (But.grown hg3 fun k e => .inr e))
      have M23 := Lib.hid (show But (fun b => some b = (Value.slice P p.length cp).ownBlock) x2 x3 from But.grown hg3 fun k e => e)
      clear ho3 hg3 hat3
      refine hK.out _ _ ?_ (fun hHeld => ?_)
      · exact HS6.out _ M3.out
      clear hK K0
      try simp only [Act.put, List.getElem_toArray, List.getElem_cons_succ, List.getElem_cons_zero, List.setIfInBounds_toArray, List.set_cons_zero, List.set_cons_succ]
      refine wpAnyH_ready (rs := [12]) (by kernel_rfl) (by simp) ?_
      refine AllReadyH.cons rfl (fun K0 hK => ?_) ?_
      rotate_left
      · exact AllReadyH.nil
      go_simp
      have hx2 := M2.out.size
      have hs3 := M23.out.size
      have hcall := IH.out V x (p ++ [st]) B2 d2 D g D' g' (k + 1 + T.sizes (t.items.take j)) base x3 (by omega) (by omega) HXN.out (by simp; omega) (by omega) HO3'.out
        (HX.out.keep fun b hb => (M3.out.block b (by have := (HVS.out b (.inl hb)).1; omega) (HVS.out b (.inl hb)).2))
        (fun b hb => ⟨by have := (HVS.out b hb).1; omega, by
          have hv := HVS.out b hb
          rintro (h | h)
          · exact hv.2 (.inl h)
          · rcases HAT.out with ⟨g0, c0, e1, e2⟩ | ⟨e, _⟩
            · refine hv.2 (.inr ?_)
              rw [e1]; rw [e2] at h; exact h
            · rw [e] at h; injection h with h; omega⟩)
        (HT2.out.step M23.out HO8.out HO7.out HO6.out HO3.out fun b hb => ⟨by have := (HVS.out b (.inr hb)).1; omega, fun h => (HVS.out b (.inr hb)).2 (.inr h)⟩)
        (.inr hkj)
        (fun i qx hi => by
          have h1 := parts_seg Hx.out (p := p) (i := i) (qx := qx) (by rw [HST.out]; exact hi)
          have h2 := HSEG.out _ _ h1
          rw [show k + (1 + T.sizes (t.items.take j) + i) = k + 1 + T.sizes (t.items.take j) + i by omega] at h2
          exact h2)
      have HLN := Lib.hid (show (p ++ [st]).length = p.length + 1 from by simp)
      have hcall2 : Calls Tryd.prog 36 #[.agg #[.int .i64 x.kind, .bool x.tr, .int .i64 x.num, .string x.str, .slice D x.items.length g, .slice D' x.keys.length g'], .slice B2 (p.length + 1) d2, .func (.func 19) #[] #[.pointer (some ⟨b8, 0, none⟩), .pointer (some ⟨b7, 0, none⟩), .pointer (some ⟨b6, 0, none⟩), .pointer (some ⟨b3, 0, none⟩)]] x3 (WalkPost b8 b7 b6 b3 L m (k + 1 + T.sizes (t.items.take j)) S A6 c6 base x (p ++ [st]) B2 d2 x3) := by
        rw [← HLN.out]; exact hcall
      clear hcall
      refine hcall2.mono ?_
      clear hcall2
      rintro e0 x4 ⟨k2, hk2, he0, hT4, hb4, ho4⟩
      obtain ⟨bj, hbj⟩ : ∃ bj, decide (k2 < m) = bj := ⟨_, rfl⟩
      rw [hbj] at he0
      subst he0
      have HBJ := Lib.hid hbj
      have HT4 := Lib.hid hT4
      have M4 := Lib.hid (M3.out.step hb4 (fun b hb => by
        rcases hb with h | h
        · exact .inl (.inl h)
        · rcases HAT.out with ⟨g0, c0, e1, e2⟩ | ⟨e, _⟩
          · left; right
            rw [e1]; rw [e2] at h; exact h
          · right
            rw [e] at h; injection h with h; omega))
      have HR4 := Lib.hid (show x4.ownsRow base 9 1 (.slice P p.length cp) p.length (p.map Value.string) from by
        have ho5 : x4.ownsRow base 9 1 (.slice B2 (p ++ [st]).length d2) (p.length + 1) (p.map Value.string ++ [.string st]) := by
          have h5 := ho4
          rw [List.map_append] at h5
          rw [← HLN.out]; exact h5
        have hat := HAT.out
        rw [HLN.out] at hat ho5
        refine row_back (D := Vars b8 b7) HO2.out HG3.out hat ho5 (by rw [← HLN.out]; exact hb4) fun b hb => ?_
        rcases hb with rfl | rfl
        · exact HO8.out
        · exact HO7.out)
      clear hbj hT4 hb4 ho4 HO3' HG3 HAT M3 M23 HO2 HT2 HBs
      go_wp2_with fail
      refine hK.out _ _ ?_ (fun hHeld => ?_)
      · exact HS6.out _ M4.out
      clear hK K0
      try simp only [Act.put, List.getElem_toArray, List.getElem_cons_succ, List.getElem_cons_zero, List.setIfInBounds_toArray, List.set_cons_zero, List.set_cons_succ]
      refine wpAnyH_take (i := 13) (v := ?_) rfl (by kernel_rfl) (by kernel_rfl) (by kernel_rfl) (fun _ _ _ h => h) (Or.inl ⟨by rfl, ?_⟩) (by assumption) ?_
      rotate_left
      · intro wq hSw
        try dsimp only at hSw
        go_simp
        try (with_reducible rfl)
      try simp only [Act.put, List.getElem_toArray, List.getElem_cons_succ, List.getElem_cons_zero, List.setIfInBounds_toArray, List.set_cons_zero, List.set_cons_succ]
      refine wpAnyH_done (by kernel_rfl) ?_ _
      have HW4 := Lib.hid (HWr.out.trans M4.out)
      cases bj with
      | false =>
        have hkm2 := of_decide_eq_false HBJ.out
        go_wp2_with fail
        go_ret
        have hend : k2 = min (k + t.size) (max m 1) := by omega
        exact ⟨k2, hend, by rw [HBJ.out]; rfl, HT4.out, HW4.out, HR4.out⟩
      | true =>
      have hkm2 := of_decide_eq_true HBJ.out
      have hk3 : k2 = k + 1 + T.sizes (t.items.take (j + 1)) := by omega
      go_wp2_with fail
      go_roundw
      case rel => exact ⟨j + 1, hlt, by go_num, hk3 ▸ hkm2, hk3 ▸ HT4.out, HBr.out.trans M4.out, HR4.out⟩
      case measure => simp [intOf]; omega
end Go.Proofs.YthkpeomdklcnmaaDoor
