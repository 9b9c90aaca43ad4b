/- A row of values that is being collected. -/
import Derived.Test.YtgiapdmoiaiofaaDoorApp
namespace Go.Proofs.YtgiapdmoiaiofaaDoor
open Go.RowKit

/-- the slice value v owns a row of the values l; all that they reach lies outside X and outside the row -/
def Coll (ty : TypeId) (w : World) (lo : Nat) (X : Nat → Prop) (l : List T) (v : Value) (xs : List Value) : Prop :=
  (∀ b, v.ownBlock = some b → ¬ X b) ∧ w.ownsRow lo ty 6 v l.length xs ∧
    ∀ i x, l[i]? = some x → ∃ B e B' e', (∀ j, j < 6 → xs[i * 6 + j]? = (x.cs B e B' e')[j]?) ∧ TV w (fun b => b < w.heap.size ∧ ¬ X b ∧ some b ≠ v.ownBlock) x B e B' e'
theorem Coll.nil (ty : TypeId) (w : World) (lo : Nat) (X : Nat → Prop) : Coll ty w lo X [] (.slice none 0 0) [] :=
  ⟨fun b h => by simp [Value.ownBlock] at h, World.ownsRow_nil _ _ _ _, fun i x h => by simp at h⟩
theorem Coll.step_ {ty : TypeId} {w w' : World} {lo : Nat} {X : Nat → Prop} {l : List T} {v : Value} {xs : List Value} (h : Coll ty w lo X l v xs) (hg : ∀ b, b < w.heap.size → ¬ X b → w'.heap[b]? = w.heap[b]?) (hs : w.heap.size ≤ w'.heap.size) : Coll ty w' lo X l v xs := by
  obtain ⟨hX, ho, hi⟩ := h
  refine ⟨hX, ⟨ho.1, ?_⟩, fun i x hx => ?_⟩
  · rcases ho.2 with h0 | ⟨g, cap, cur, rfl, hb, hgg, rest⟩
    · exact .inl h0
    · exact .inr ⟨g, cap, cur, rfl, hb, (hg g (Array.getElem?_eq_some_iff.1 hgg).1 (hX g rfl)).trans hgg, rest⟩
  · obtain ⟨B, e, B', e', hc, ht⟩ := hi i x hx
    exact ⟨B, e, B', e', hc, (ht.keep fun b hb => hg b hb.1 hb.2.1).wide fun b hb => ⟨Nat.lt_of_lt_of_le hb.1 hs, hb.2⟩⟩
theorem Coll.onto {ty : TypeId} {w w' : World} {lo : Nat} {X : Nat → Prop} {l : List T} {v : Value} {xs : List Value} (h : Coll ty w lo X l v xs) (hb : Below w.heap.size w w') : Coll ty w' lo X l v xs :=
  h.step_ (fun b hb' _ => hb.block b hb') hb.size
theorem Coll.set {ty : TypeId} {w : World} {lo : Nat} {X : Nat → Prop} {l : List T} {v : Value} {xs : List Value} (h : Coll ty w lo X l v xs) {p : Addr} (hp : X p.block) (u : Value) : Coll ty (w.setCell p u) lo X l v xs :=
  h.step_ (fun b _ hx => Below.heap_setCell _ _ _ _ (fun e => hx (e ▸ hp))) (by simp [World.setCell])
theorem Coll.alloc {ty : TypeId} {w : World} {lo : Nat} {X : Nat → Prop} {l : List T} {v : Value} {xs : List Value} (h : Coll ty w lo X l v xs) (o : Obj) : Coll ty (w.alloc o) lo X l v xs :=
  h.step_ (fun b hb _ => Below.heap_alloc _ _ _ hb) (by simp)
/-- what an append of one value leaves -/
theorem Coll.app {ty : TypeId} {w w' : World} {lo : Nat} {X : Nat → Prop} {l : List T} {v v' : Value} {xs : List Value} (h : Coll ty w lo X l v xs) {x : T} {B : Option Addr} {e : Nat} {B' : Option Addr} {e' : Nat}
    (ht : TV w (fun b => b < w.heap.size ∧ ¬ X b ∧ some b ≠ v.ownBlock) x B e B' e') (hn : ¬ X w.heap.size)
    (ho : w'.ownsRow lo ty 6 v' (l.length + 1) (xs ++ (x.cs B e B' e').toList)) (hg : w.grownBy w' v.ownBlock) (hv : v'.ownBlock = v.ownBlock ∨ v'.ownBlock = some w.heap.size) :
    Coll ty w' lo X (l ++ [x]) v' (xs ++ (x.cs B e B' e').toList) := by
  obtain ⟨hX, ho0, hi⟩ := h
  have hl := ho0.1
  have hon : ∀ {y C f C' f'}, TV w (fun b => b < w.heap.size ∧ ¬ X b ∧ some b ≠ v.ownBlock) y C f C' f' → TV w' (fun b => b < w'.heap.size ∧ ¬ X b ∧ some b ≠ v'.ownBlock) y C f C' f' := fun h =>
    (h.keep fun b hb => hg.block b hb.1 hb.2.2).wide fun b hb => ⟨Nat.lt_of_lt_of_le hb.1 hg.size, hb.2.1, by
      rcases hv with hv | hv <;> rw [hv]
      · exact hb.2.2
      · intro he; injection he with he; omega⟩
  refine ⟨fun b hb => ?_, by rw [List.length_append]; exact ho, fun i y hy => ?_⟩
  · rcases hv with hv | hv <;> rw [hv] at hb
    · exact hX b hb
    · injection hb with hb; exact hb ▸ hn
  · rcases Nat.lt_or_ge i l.length with h1 | h1
    · rw [List.getElem?_append_left h1] at hy
      obtain ⟨C, f, C', f', hc, hty⟩ := hi i y hy
      exact ⟨C, f, C', f', fun j hj => by rw [List.getElem?_append_left (by omega)]; exact hc j hj, hon hty⟩
    · rw [List.getElem?_append_right h1] at hy
      have h2 : i - l.length = 0 := by
        rcases Nat.eq_zero_or_pos (i - l.length) with h2 | h2
        · exact h2
        · rw [List.getElem?_eq_none (by simp; omega)] at hy; cases hy
      rw [h2] at hy
      injection hy with hy
      subst hy
      refine ⟨B, e, B', e', fun j hj => ?_, hon ht⟩
      rw [List.getElem?_append_right (by omega), show i * 6 + j - xs.length = j by omega, Array.getElem?_toList]
/-- .. where the value was laid in a new block for it -/
theorem Coll.app_new {ty : TypeId} {w w' : World} {lo : Nat} {X : Nat → Prop} {l : List T} {v v' : Value} {xs : List Value} (h : Coll ty w lo X l v xs) {x : T} {B : Option Addr} {e : Nat} {B' : Option Addr} {e' : Nat}
    (ht : TV w (fun b => b < w.heap.size ∧ ¬ X b ∧ some b ≠ v.ownBlock) x B e B' e') (hn : ¬ X (w.heap.size + 1)) {o : Obj} {n : Nat} (hl : l.length + 1 = n)
    (ho : w'.ownsRow lo ty 6 v' n (xs ++ (x.cs B e B' e').toList)) (hg : (w.alloc o).grownBy w' v.ownBlock) (hv : v'.ownBlock = v.ownBlock ∨ v'.ownBlock = some (w.alloc o).heap.size) :
    Coll ty w' lo X (l ++ [x]) v' (xs ++ (x.cs B e B' e').toList) := by
  subst hl
  refine (h.alloc o).app ?_ (by simpa using hn) ho hg hv
  exact (ht.keep fun b hb => Below.heap_alloc _ _ _ hb.1).wide fun b hb => ⟨by simp; omega, hb.2⟩
theorem Coll.blk {ty : TypeId} {w w' : World} {lo : Nat} {X : Nat → Prop} {l : List T} {v : Value} {xs : List Value} (h : Coll ty w lo X l v xs) {o : Obj} (hg : (w.alloc o).grownBy w' v.ownBlock) {q : Nat} {t' : TypeId} {cs : Array Value} (hq : Blk w q t' cs) (hX : X q) : Blk w' q t' cs :=
  (hg.block q (by have := hq.lt; simp; omega) (fun e => h.1 q e.symm hX)).trans (hq.alloc o)
/-- the row, read -/
theorem Coll.vreads {ty : TypeId} {w : World} {lo : Nat} {X : Nat → Prop} {l : List T} {A : Option Addr} {n c : Nat} {xs : List Value} (h : Coll ty w lo X l (.slice A n c) xs) : n = l.length ∧ n ≤ c ∧ VReads w (fun b => b < w.heap.size ∧ ¬ X b) A l := by
  obtain ⟨hX, ho, hi⟩ := h
  rcases ho.2 with ⟨h0, h1⟩ | ⟨g, cap, cur, e, hb, hgg, h2, h3, h4, h5⟩
  · injection h0 with _ hn _
    have : l = [] := List.eq_nil_of_length_eq_zero h1
    subst this
    exact ⟨hn, by rw [hn]; exact Nat.zero_le _, VReads.none_ _ _ _⟩
  · injection e with e1 e2 e3
    subst e1 e2 e3
    refine ⟨rfl, h2, fun _ => ⟨g, 0, rfl, ⟨(Array.getElem?_eq_some_iff.1 hgg).1, hX g rfl⟩, fun i x hx => ?_⟩⟩
    obtain ⟨B, e, B', e', hc, ht⟩ := hi i x hx
    have hl := lt_of_get hx
    have hcell : ∀ j, j < 6 → w.cell? ⟨g, i * 6 + j, none⟩ = (x.cs B e B' e')[j]? := fun j hj => by
      rw [cell_of_row w g _ cur ty (0, 0) hgg, ← hc j hj, ← h5, List.getElem?_take_of_lt (by omega), Array.getElem?_toList]
    exact ⟨B, e, B', e', by rw [Nat.zero_add]; exact ⟨hcell 0 (by omega), hcell 1 (by omega), hcell 2 (by omega), hcell 3 (by omega), hcell 4 (by omega), hcell 5 (by omega)⟩, ht.wide fun b hb => ⟨hb.1, hb.2.1⟩⟩
theorem cs_one {t : T} {A : Option Addr} {c : Nat} {A' : Option Addr} {c' : Nat} : ∀ u ∈ (t.cs A c A' c').toList, u.oneCell' = true := by
  intro u hu
  simp only [T.cs, List.mem_cons, List.not_mem_nil, or_false] at hu
  rcases hu with rfl | rfl | rfl | rfl | rfl | rfl <;> rfl
/-- a value that lies in a block of its own is a source -/
theorem src_of_cs {w : World} {g : Nat} {ty : TypeId} {t : T} {A : Option Addr} {c : Nat} {A' : Option Addr} {c' : Nat} (h : Blk w g ty (t.cs A c A' c')) : Src w (some ⟨g, 0, none⟩) 1 6 (t.cs A c A' c').toList := by
  refine ⟨rfl, fun _ => ⟨_, rfl, fun j u hu => ?_⟩⟩
  rw [add_lit, Nat.zero_add, h.cell, ← Array.getElem?_toList]
  exact hu
theorem OwnKeys.step_ {w w' : World} {lo : Nat} {l : List ByteArray} {A : Option Addr} (h : OwnKeys w lo w.heap.size l A) (hg : ∀ (b : Nat) (cs : Array Value), Blk w b 9 cs → w'.heap[b]? = w.heap[b]?) (hs : w.heap.size ≤ w'.heap.size) : OwnKeys w' lo w'.heap.size l A := by
  intro hn
  obtain ⟨g, cs, e, h1, h2, hb, h3, h4⟩ := h hn
  exact ⟨g, cs, e, h1, Nat.lt_of_lt_of_le h2 hs, (hg g cs hb).trans hb, h3, h4⟩
theorem OwnKeys.onto {w w' : World} {lo : Nat} {l : List ByteArray} {A : Option Addr} (h : OwnKeys w lo w.heap.size l A) (hb : Below w.heap.size w w') : OwnKeys w' lo w'.heap.size l A :=
  h.step_ (fun b _ hk => hb.block b hk.lt) hb.size
theorem OwnKeys.set {w : World} {lo : Nat} {l : List ByteArray} {A : Option Addr} (h : OwnKeys w lo w.heap.size l A) {p : Addr} {ty : TypeId} {cs : Array Value} (hp : Blk w p.block ty cs) (hne : ty ≠ 9) (u : Value) : OwnKeys (w.setCell p u) lo (w.setCell p u).heap.size l A :=
  h.step_ (fun b cs' hk => Below.heap_setCell _ _ _ _ (by
    rintro rfl
    unfold Blk at hk hp
    rw [hp] at hk
    injection hk with hk
    injection hk with _ h2 _
    exact hne h2)) (by simp [World.setCell])
theorem OwnKeys.grown {w w' : World} {lo : Nat} {l : List ByteArray} {A : Option Addr} (h : OwnKeys w lo w.heap.size l A) {base : Nat} {ty : TypeId} {size n : Nat} {v : Value} {xs : List Value} (ho : w.ownsRow base ty size v n xs) (hne : ty ≠ 9) (hg : w.grownBy w' v.ownBlock) : OwnKeys w' lo w'.heap.size l A :=
  h.step_ (fun b cs' hk => hg.block b hk.lt (by
    rcases ho.2 with ⟨rfl, _⟩ | ⟨g, cap, cur, rfl, _, hh, _⟩
    · simp [Value.ownBlock]
    · intro he
      have e1 : b = g := by simpa [Value.ownBlock] using he
      unfold Blk at hk
      rw [e1, hh] at hk
      injection hk with hk
      injection hk with _ h2 _
      exact hne h2)) hg.size
/-- the cells xs are those of the values l, whose rows lie in S -/
def Cells (w : World) (S : Nat → Prop) (l : List T) (xs : List Value) : Prop :=
  xs.length = l.length * 6 ∧ (∀ u ∈ xs, u.oneCell' = true) ∧ ∀ i x, l[i]? = some x → ∃ B e B' e', (∀ j, j < 6 → xs[i * 6 + j]? = (x.cs B e B' e')[j]?) ∧ TV w S x B e B' e'
theorem VReads.take {w : World} {S : Nat → Prop} {A : Option Addr} {l : List T} (h : VReads w S A l) (k : Nat) : VReads w S A (l.take k) := by
  intro hn
  obtain ⟨b, o, e, hs, hi⟩ := h (by rintro rfl; simp at hn)
  refine ⟨b, o, e, hs, fun i x hx => ?_⟩
  have hl := lt_of_get hx
  rw [List.length_take] at hl
  rw [List.getElem?_take_of_lt (by omega)] at hx
  exact hi i x hx
theorem VReads.drop {w : World} {S : Nat → Prop} {A : Option Addr} {l : List T} (h : VReads w S A l) (k : Nat) : VReads w S (A.map fun a => a.add (k * 6)) (l.drop k) := by
  intro hn
  obtain ⟨b, o, rfl, hs, hi⟩ := h (by rintro rfl; simp at hn)
  refine ⟨b, o + k * 6, by simp [add_lit], hs, fun i x hx => ?_⟩
  rw [List.getElem?_drop] at hx
  obtain ⟨B, d, B', d', h6, ht⟩ := hi (k + i) x hx
  refine ⟨B, d, B', d', ?_, ht⟩
  rw [show o + (k + i) * 6 = o + k * 6 + i * 6 by omega] at h6
  exact h6
theorem Six.at_ {w : World} {b o : Nat} {t : T} {A : Option Addr} {c : Nat} {A' : Option Addr} {c' : Nat} (h : Six w b o t A c A' c') {j : Nat} (hj : j < 6) : w.cell? ⟨b, o + j, none⟩ = (t.cs A c A' c')[j]? := by
  obtain ⟨a0, a1, a2, a3, a4, a5⟩ := h
  rcases (by omega : j = 0 ∨ j = 1 ∨ j = 2 ∨ j = 3 ∨ j = 4 ∨ j = 5) with rfl | rfl | rfl | rfl | rfl | rfl
  · exact a0
  · exact a1
  · exact a2
  · exact a3
  · exact a4
  · exact a5
theorem cs_get {t : T} {A : Option Addr} {c : Nat} {A' : Option Addr} {c' : Nat} {j : Nat} (hj : j < 6) : ∃ u, (t.cs A c A' c')[j]? = some u ∧ u.oneCell' = true :=
  ⟨(t.cs A c A' c')[j]'hj, Array.getElem?_eq_getElem hj, cs_one (t := t) (A := A) (c := c) (A' := A') (c' := c') _ (by rw [Array.mem_toList_iff]; exact Array.getElem_mem _)⟩
/-- a row that is read has cells, and is a source of them -/
theorem VReads.cells {w : World} {S : Nat → Prop} {A : Option Addr} {l : List T} (h : VReads w S A l) : ∃ xs, Cells w S l xs ∧ (l ≠ [] → ∃ b o, A = some ⟨b, o, none⟩ ∧ S b ∧ ∀ j u, xs[j]? = some u → w.cell? ⟨b, o + j, none⟩ = some u) := by
  by_cases hn : l = []
  · subst hn
    refine ⟨[], ⟨rfl, fun u hu => ?_, fun i x hx => ?_⟩, fun h => absurd rfl h⟩
    · cases hu
    · simp at hx
  · obtain ⟨b, o, e, hs, hi⟩ := h hn
    have hcell : ∀ j, j < l.length * 6 → ∃ u, w.cell? ⟨b, o + j, none⟩ = some u ∧ u.oneCell' = true := by
      intro j hj
      have hq : j / 6 < l.length := by omega
      obtain ⟨B, d, B', d', h6, _⟩ := hi (j / 6) _ (List.getElem?_eq_getElem hq)
      obtain ⟨u, hu, h1⟩ := cs_get (t := l[j / 6]) (A := B) (c := d) (A' := B') (c' := d') (j := j % 6) (by omega)
      refine ⟨u, ?_, h1⟩
      rw [← hu, ← h6.at_ (by omega), show o + j / 6 * 6 + j % 6 = o + j by omega]
    have hx : ∀ j u, ((List.range (l.length * 6)).map fun j => (w.cell? ⟨b, o + j, none⟩).getD undef)[j]? = some u → j < l.length * 6 ∧ w.cell? ⟨b, o + j, none⟩ = some u := by
      intro j u hu
      have hj := lt_of_get hu
      rw [List.length_map, List.length_range] at hj
      rw [List.getElem?_map, List.getElem?_range hj] at hu
      obtain ⟨v, hv, _⟩ := hcell j hj
      rw [Option.map_some, hv] at hu
      exact ⟨hj, by rw [hv]; exact hu⟩
    refine ⟨_, ⟨by simp, fun u hu => ?_, fun i x hxi => ?_⟩, fun _ => ⟨b, o, e, hs, fun j u hu => (hx j u hu).2⟩⟩
    · obtain ⟨j, hj⟩ := List.mem_iff_getElem?.1 hu
      obtain ⟨hlt, hc⟩ := hx j u hj
      obtain ⟨v, hv, h1⟩ := hcell j hlt
      rw [hv] at hc
      injection hc with hc
      exact hc ▸ h1
    · obtain ⟨B, d, B', d', h6, ht⟩ := hi i x hxi
      have hl := lt_of_get hxi
      refine ⟨B, d, B', d', fun j hj => ?_, ht⟩
      rw [List.getElem?_map, List.getElem?_range (by omega), Option.map_some, ← h6.at_ hj, Nat.add_assoc]
      obtain ⟨v, hv, _⟩ := hcell (i * 6 + j) (by omega)
      rw [hv]; rfl
theorem Cells.append {w : World} {S : Nat → Prop} {l m : List T} {xs ys : List Value} (h : Cells w S l xs) (k : Cells w S m ys) : Cells w S (l ++ m) (xs ++ ys) := by
  obtain ⟨h1, h2, h3⟩ := h
  obtain ⟨k1, k2, k3⟩ := k
  refine ⟨by rw [List.length_append, List.length_append, h1, k1]; omega, fun u hu => ?_, fun i x hx => ?_⟩
  · rcases List.mem_append.1 hu with hu | hu
    · exact h2 u hu
    · exact k2 u hu
  · rcases Nat.lt_or_ge i l.length with hl | hl
    · rw [List.getElem?_append_left hl] at hx
      obtain ⟨B, e, B', e', hc, ht⟩ := h3 i x hx
      exact ⟨B, e, B', e', fun j hj => by rw [List.getElem?_append_left (by omega)]; exact hc j hj, ht⟩
    · rw [List.getElem?_append_right hl] at hx
      obtain ⟨B, e, B', e', hc, ht⟩ := k3 _ x hx
      exact ⟨B, e, B', e', fun j hj => by rw [List.getElem?_append_right (by omega), show i * 6 + j - xs.length = (i - l.length) * 6 + j by omega]; exact hc j hj, ht⟩
theorem Cells.one {w : World} {S : Nat → Prop} {x : T} {B : Option Addr} {e : Nat} {B' : Option Addr} {e' : Nat} (h : TV w S x B e B' e') : Cells w S [x] (x.cs B e B' e').toList := by
  refine ⟨rfl, cs_one, fun i y hy => ?_⟩
  have h2 : i = 0 := by
    rcases Nat.eq_zero_or_pos i with h2 | h2
    · exact h2
    · rw [List.getElem?_eq_none (by simp; omega)] at hy; cases hy
  subst h2
  injection hy with hy
  subst hy
  exact ⟨B, e, B', e', fun j _ => by rw [Nat.zero_mul, Nat.zero_add, Array.getElem?_toList], h⟩
/-- a row of the call's own that holds such cells reads as the values -/
theorem Cells.row {ty : TypeId} {w : World} {lo : Nat} {l : List T} {A : Option Addr} {n c : Nat} {xs : List Value} (hn : l.length = n) (ho : w.ownsRow lo ty 6 (.slice A n c) n xs) (hc : Cells w (· < lo) l xs) (hlo : lo ≤ w.heap.size) : n ≤ c ∧ VReads w (· < w.heap.size) A l := by
  subst hn
  have : Coll ty w lo (fun _ => False) l (.slice A l.length c) xs := ⟨fun _ _ h => h, ho, fun i x hx => by
    obtain ⟨B, e, B', e', h1, h2⟩ := hc.2.2 i x hx
    exact ⟨B, e, B', e', h1, h2.wide fun b hb => ⟨Nat.lt_of_lt_of_le hb hlo, fun h => h, fun e1 => by have := (ho.lt b e1.symm).1; omega⟩⟩⟩
  obtain ⟨_, h2, h3⟩ := this.vreads
  exact ⟨h2, h3.wide fun b hb => hb.1⟩
theorem Cells.on {w w' : World} {B B' : Nat} {l : List T} {xs : List Value} (h : Cells w (· < B) l xs) (hb : Below B w w') (hB : B ≤ B') : Cells w' (· < B') l xs := by
  refine ⟨h.1, h.2.1, fun i x hx => ?_⟩
  obtain ⟨C, e, C', e', hc, ht⟩ := h.2.2 i x hx
  exact ⟨C, e, C', e', hc, (ht.under hb).wide fun b hb' => Nat.lt_of_lt_of_le hb' hB⟩
theorem VReads.src {w : World} {B : Nat} {A : Option Addr} {l : List T} (h : VReads w (· < B) A l) : ∃ xs, Cells w (· < B) l xs ∧ ∀ W2, Below B w W2 → Src W2 A l.length 6 xs := by
  obtain ⟨xs, hc, hs⟩ := h.cells
  refine ⟨xs, hc, fun W2 hb => ⟨hc.1, fun hm => ?_⟩⟩
  obtain ⟨b, o, e, hlt, hcell⟩ := hs (by intro hn; rw [hn] at hm; simp at hm)
  refine ⟨_, e, fun j u hu => ?_⟩
  rw [add_lit]
  exact ((Keeps.of_below hb).cell hlt _).trans (hcell j u hu)
theorem Cells.wide {w : World} {S S' : Nat → Prop} {l : List T} {xs : List Value} (h : Cells w S l xs) (hs : ∀ b, S b → S' b) : Cells w S' l xs :=
  ⟨h.1, h.2.1, fun i x hx => by
    obtain ⟨C, e, C', e', hc, ht⟩ := h.2.2 i x hx
    exact ⟨C, e, C', e', hc, ht.wide hs⟩⟩
theorem VReads.src_in {w : World} {B : Nat} {S : Nat → Prop} {A : Option Addr} {l : List T} (h : VReads w S A l) (hS : ∀ b, S b → b < B) : ∃ xs, Cells w S l xs ∧ ∀ W2, Below B w W2 → Src W2 A l.length 6 xs := by
  obtain ⟨xs, hc, hs⟩ := h.cells
  refine ⟨xs, hc, fun W2 hb => ⟨hc.1, fun hm => ?_⟩⟩
  obtain ⟨b, o, e, hlt, hcell⟩ := hs (by intro hn; rw [hn] at hm; simp at hm)
  refine ⟨_, e, fun j u hu => ?_⟩
  rw [add_lit]
  exact ((Keeps.of_below hb).cell (hS b hlt) _).trans (hcell j u hu)
theorem Src.nil_any {w : World} {A A' : Option Addr} {size : Nat} {xs : List Value} (h : Src w A 0 size xs) : Src w A' 0 size xs := ⟨h.1, fun hm => absurd hm (by omega)⟩
end Go.Proofs.YtgiapdmoiaiofaaDoor
