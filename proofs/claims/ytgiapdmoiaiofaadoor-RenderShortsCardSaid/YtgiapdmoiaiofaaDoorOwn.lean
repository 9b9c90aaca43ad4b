/- Rows of values, and values whose rows are their own. -/
import Derived.Test.YtgiapdmoiaiofaaDoorMem3
namespace Go.Proofs.YtgiapdmoiaiofaaDoor
open Go.RowKit

/-- a slice value whose elements are the values l, in blocks of S -/
def VReads (w : World) (S : Nat → Prop) (A : Option Addr) (l : List T) : Prop :=
  l ≠ [] → ∃ b o, A = some ⟨b, o, none⟩ ∧ S b ∧ ∀ i x, l[i]? = some x → ∃ B d B' d', Six w b (o + i * 6) x B d B' d' ∧ TV w S x B d B' d'
theorem TV.vreads {w : World} {S : Nat → Prop} {t : T} {A : Option Addr} {c : Nat} {A' : Option Addr} {c' : Nat} (h : TV w S t A c A' c') : VReads w S A t.items := fun hn => h.row hn
theorem VReads.none_ (w : World) (S : Nat → Prop) (A : Option Addr) : VReads w S A [] := fun h => absurd rfl h
theorem VReads.keep {w w' : World} {S : Nat → Prop} {A : Option Addr} {l : List T} (h : VReads w S A l) (hk : Keeps S w w') : VReads w' S A l := by
  intro hn
  obtain ⟨b, o, e, hs, hi⟩ := h hn
  refine ⟨b, o, e, hs, fun i x hx => ?_⟩
  obtain ⟨B, d, B', d', h6, ht⟩ := hi i x hx
  exact ⟨B, d, B', d', h6.keep hs hk, ht.keep hk⟩
theorem VReads.wide {w : World} {S S' : Nat → Prop} {A : Option Addr} {l : List T} (h : VReads w S A l) (hs : ∀ b, S b → S' b) : VReads w S' A l := by
  intro hn
  obtain ⟨b, o, e, h0, hi⟩ := h hn
  refine ⟨b, o, e, hs b h0, fun i x hx => ?_⟩
  obtain ⟨B, d, B', d', h6, ht⟩ := hi i x hx
  exact ⟨B, d, B', d', h6, ht.wide hs⟩
theorem VReads.under {B : Nat} {w w' : World} {A : Option Addr} {l : List T} (h : VReads w (· < B) A l) (hb : Below B w w') : VReads w' (· < B) A l := h.keep (.of_below hb)
theorem VReads.on {w w' : World} {A : Option Addr} {l : List T} (h : VReads w (· < w.heap.size) A l) (hb : Below w.heap.size w w') : VReads w' (· < w'.heap.size) A l :=
  (h.under hb).wide fun _ hx => Nat.lt_of_lt_of_le hx hb.size
theorem VReads.at_ {w : World} {S : Nat → Prop} {A : Option Addr} {l : List T} (h : VReads w S A l) {k : Nat} (hk : k < l.length) :
    ∃ b o x B d B' d', A = some ⟨b, o, none⟩ ∧ S b ∧ l[k]? = some x ∧ Six w b (o + k * 6) x B d B' d' ∧ TV w S x B d B' d' := by
  obtain ⟨b, o, e, hs, hi⟩ := h (by intro hn; rw [hn] at hk; simp at hk)
  obtain ⟨B, d, B', d', h6, ht⟩ := hi k _ (List.getElem?_eq_getElem hk)
  exact ⟨b, o, _, B, d, B', d', e, hs, List.getElem?_eq_getElem hk, h6, ht⟩

/-- the value's rows lie in blocks from lo on, below hi, none in another part's -/
inductive Own (w : World) : Nat → Nat → T → Option Addr → Nat → Option Addr → Nat → Prop
  | mk (lo hi : Nat) (t : T) (A : Option Addr) (c : Nat) (A' : Option Addr) (c' : Nat) (h : Nat → Nat) (hA : Nat → Option Addr) (hc : Nat → Nat) (hA' : Nat → Option Addr) (hc' : Nat → Nat)
      (h1 : t.items.length ≤ c) (h2 : t.keys.length ≤ c')
      (hrow : t.items ≠ [] → ∃ (g : Nat) (cs : Array Value), A = some ⟨g, 0, none⟩ ∧ lo ≤ g ∧ g < h 0 ∧ Blk w g 29 cs ∧ t.items.length * 6 ≤ cs.size ∧ ∀ i x, t.items[i]? = some x → Six w g (i * 6) x (hA i) (hc i) (hA' i) (hc' i))
      (hlo : lo ≤ h 0) (hmono : ∀ i, i < t.items.length → h i ≤ h (i + 1)) (hhi : h t.items.length ≤ hi)
      (hkey : t.keys ≠ [] → ∃ (g : Nat) (cs : Array Value), A' = some ⟨g, 0, none⟩ ∧ h t.items.length ≤ g ∧ g < hi ∧ Blk w g 9 cs ∧ t.keys.length ≤ cs.size ∧ ∀ (i : Nat) (s : ByteArray), t.keys[i]? = some s → cs[i]? = some (Value.string s))
      (hin : ∀ i x, t.items[i]? = some x → Own w (h i) (h (i + 1)) x (hA i) (hc i) (hA' i) (hc' i)) : Own w lo hi t A c A' c'
theorem up_to {h : Nat → Nat} {n : Nat} (hm : ∀ i, i < n → h i ≤ h (i + 1)) : ∀ j, j ≤ n → ∀ i, i ≤ j → h i ≤ h j := by
  intro j
  induction j with
  | zero => intro _ i hi; obtain rfl : i = 0 := by omega
            exact Nat.le_refl _
  | succ j ih =>
    intro hj i hi
    rcases Nat.lt_or_ge i (j + 1) with h1 | h1
    · exact Nat.le_trans (ih (by omega) i (by omega)) (hm j (by omega))
    · obtain rfl : i = j + 1 := by omega
      exact Nat.le_refl _
theorem lt_of_get {α : Type} {l : List α} {i : Nat} {x : α} (h : l[i]? = some x) : i < l.length := (List.getElem?_eq_some_iff.1 h).1
theorem Own.tv {w : World} {lo hi : Nat} {t : T} {A : Option Addr} {c : Nat} {A' : Option Addr} {c' : Nat} (h : Own w lo hi t A c A' c') : TV w (fun b => lo ≤ b ∧ b < hi) t A c A' c' := by
  induction h with
  | mk lo hi t A c A' c' h hA hc hA' hc' h1 h2 hrow hlo hmono hhi hkey hin ih =>
    refine .mk t A c A' c' hA hc hA' hc' h1 h2 (fun hn => ?_) (fun hn => ?_) (fun i x hx => ?_)
    · obtain ⟨g, cs, e, h3, h4, _, _, h6⟩ := hrow hn
      refine ⟨g, 0, e, ⟨h3, ?_⟩, fun i x hx => by rw [Nat.zero_add]; exact h6 i x hx⟩
      have := up_to hmono t.items.length (Nat.le_refl _) 0 (by omega)
      omega
    · obtain ⟨g, cs, e, h3, h4, hb, _, h6⟩ := hkey hn
      have := up_to hmono t.items.length (Nat.le_refl _) 0 (by omega)
      exact ⟨g, 0, e, ⟨by omega, h4⟩, fun i s hs => by rw [Nat.zero_add, hb.cell]; exact h6 i s hs⟩
    · have hl := lt_of_get hx
      have a1 := up_to hmono i (by omega) 0 (by omega)
      have a2 := up_to hmono t.items.length (Nat.le_refl _) (i + 1) (by omega)
      exact (ih i x hx).wide fun b hb => ⟨by omega, by omega⟩
theorem Blk.keep {w w' : World} {g : Nat} {t : TypeId} {cs : Array Value} {S : Nat → Prop} (h : Blk w g t cs) (hk : Keeps S w w') (hs : S g) : Blk w' g t cs := (hk g hs).trans h
theorem Six.on_blk {w w' : World} {b o : Nat} {t : T} {A : Option Addr} {c : Nat} {A' : Option Addr} {c' : Nat} (h : Six w b o t A c A' c') (hk : w'.heap[b]? = w.heap[b]?) : Six w' b o t A c A' c' :=
  h.keep (S := (· = b)) rfl (fun x hx => by subst hx; exact hk)
theorem Own.keep {w w' : World} {lo hi : Nat} {t : T} {A : Option Addr} {c : Nat} {A' : Option Addr} {c' : Nat} (h : Own w lo hi t A c A' c') (hk : Keeps (fun b => lo ≤ b ∧ b < hi) w w') : Own w' lo hi t A c A' c' := by
  induction h with
  | mk lo hi t A c A' c' h hA hc hA' hc' h1 h2 hrow hlo hmono hhi hkey hin ih =>
    have a0 := up_to hmono t.items.length (Nat.le_refl _) 0 (by omega)
    refine .mk lo hi t A c A' c' h hA hc hA' hc' h1 h2 (fun hn => ?_) hlo hmono hhi (fun hn => ?_) (fun i x hx => ?_)
    · obtain ⟨g, cs, e, h3, h4, hb, h5, h6⟩ := hrow hn
      exact ⟨g, cs, e, h3, h4, hb.keep hk ⟨h3, by omega⟩, h5, fun i x hx => (h6 i x hx).on_blk (hk g ⟨h3, by omega⟩)⟩
    · obtain ⟨g, cs, e, h3, h4, hb, h5, h6⟩ := hkey hn
      exact ⟨g, cs, e, h3, h4, hb.keep hk ⟨by omega, h4⟩, h5, h6⟩
    · have hl := lt_of_get hx
      have a1 := up_to hmono i (by omega) 0 (by omega)
      have a2 := up_to hmono t.items.length (Nat.le_refl _) (i + 1) (by omega)
      exact ih i x hx (hk.mono fun b hb => ⟨by omega, by omega⟩)
theorem Own.wide {w : World} {lo hi lo' hi' : Nat} {t : T} {A : Option Addr} {c : Nat} {A' : Option Addr} {c' : Nat} (h : Own w lo hi t A c A' c') (h1 : lo' ≤ lo) (h2 : hi ≤ hi') : Own w lo' hi' t A c A' c' := by
  cases h with
  | mk _ _ _ _ _ _ _ h hA hc hA' hc' k1 k2 hrow hlo hmono hhi hkey hin =>
    refine .mk lo' hi' t A c A' c' h hA hc hA' hc' k1 k2 (fun hn => ?_) (by omega) hmono (by omega) (fun hn => ?_) hin
    · obtain ⟨g, cs, e, h3, h4, hb, h5, h6⟩ := hrow hn
      exact ⟨g, cs, e, by omega, h4, hb, h5, h6⟩
    · obtain ⟨g, cs, e, h3, h4, hb, h5, h6⟩ := hkey hn
      exact ⟨g, cs, e, h3, by omega, hb, h5, h6⟩
/-- a row of values of its own -/
def OwnRow (w : World) (lo hi : Nat) (l : List T) (A : Option Addr) : Prop :=
  ∃ h : Nat → Nat, (l ≠ [] → ∃ (g : Nat) (cs : Array Value), A = some ⟨g, 0, none⟩ ∧ lo ≤ g ∧ g < h 0 ∧ Blk w g 29 cs ∧ l.length * 6 ≤ cs.size ∧
      ∀ i x, l[i]? = some x → ∃ B d B' d', Six w g (i * 6) x B d B' d' ∧ Own w (h i) (h (i + 1)) x B d B' d') ∧
    lo ≤ h 0 ∧ (∀ i, i < l.length → h i ≤ h (i + 1)) ∧ h l.length ≤ hi
theorem OwnRow.nil (w : World) (lo : Nat) (A : Option Addr) : OwnRow w lo lo [] A := ⟨fun _ => lo, fun h => absurd rfl h, Nat.le_refl _, fun _ h => by simp at h, Nat.le_refl _⟩
theorem OwnRow.keep {w w' : World} {lo hi : Nat} {l : List T} {A : Option Addr} (h : OwnRow w lo hi l A) (hk : Keeps (fun b => lo ≤ b ∧ b < hi) w w') : OwnRow w' lo hi l A := by
  obtain ⟨h, hrow, hlo, hmono, hhi⟩ := h
  have a0 := up_to hmono l.length (Nat.le_refl _) 0 (by omega)
  refine ⟨h, fun hn => ?_, hlo, hmono, hhi⟩
  obtain ⟨g, cs, e, h3, h4, hb, h5, h6⟩ := hrow hn
  refine ⟨g, cs, e, h3, h4, hb.keep hk ⟨h3, by omega⟩, h5, fun i x hx => ?_⟩
  obtain ⟨B, d, B', d', k6, ko⟩ := h6 i x hx
  have hl := lt_of_get hx
  have a1 := up_to hmono i (by omega) 0 (by omega)
  have a2 := up_to hmono l.length (Nat.le_refl _) (i + 1) (by omega)
  exact ⟨B, d, B', d', k6.on_blk (hk g ⟨h3, by omega⟩), ko.keep (hk.mono fun b hb => ⟨by omega, by omega⟩)⟩
theorem OwnRow.vreads {w : World} {lo hi : Nat} {l : List T} {A : Option Addr} (h : OwnRow w lo hi l A) : VReads w (fun b => lo ≤ b ∧ b < hi) A l := by
  obtain ⟨h, hrow, hlo, hmono, hhi⟩ := h
  intro hn
  have a0 := up_to hmono l.length (Nat.le_refl _) 0 (by omega)
  obtain ⟨g, cs, e, h3, h4, hb, h5, h6⟩ := hrow hn
  refine ⟨g, 0, e, ⟨h3, by omega⟩, fun i x hx => ?_⟩
  obtain ⟨B, d, B', d', k6, ko⟩ := h6 i x hx
  have hl := lt_of_get hx
  have a1 := up_to hmono i (by omega) 0 (by omega)
  have a2 := up_to hmono l.length (Nat.le_refl _) (i + 1) (by omega)
  exact ⟨B, d, B', d', by rw [Nat.zero_add]; exact k6, ko.tv.wide fun b hb => ⟨by omega, by omega⟩⟩
/-- keys of its own -/
def OwnKeys (w : World) (lo hi : Nat) (l : List ByteArray) (A : Option Addr) : Prop :=
  l ≠ [] → ∃ (g : Nat) (cs : Array Value), A = some ⟨g, 0, none⟩ ∧ lo ≤ g ∧ g < hi ∧ Blk w g 9 cs ∧ l.length ≤ cs.size ∧ ∀ (i : Nat) (s : ByteArray), l[i]? = some s → cs[i]? = some (Value.string s)
theorem Own.of {w : World} {lo mid hi : Nat} {t : T} {A : Option Addr} {c : Nat} {A' : Option Addr} {c' : Nat} (h1 : t.items.length ≤ c) (h2 : t.keys.length ≤ c') (hm : mid ≤ hi) (hr : OwnRow w lo mid t.items A) (hk : OwnKeys w mid hi t.keys A') : Own w lo hi t A c A' c' := by
  obtain ⟨h, hrow, hlo, hmono, hhi⟩ := hr
  have hkey : t.keys ≠ [] → ∃ (g : Nat) (cs : Array Value), A' = some ⟨g, 0, none⟩ ∧ h t.items.length ≤ g ∧ g < hi ∧ Blk w g 9 cs ∧ t.keys.length ≤ cs.size ∧ ∀ (i : Nat) (s : ByteArray), t.keys[i]? = some s → cs[i]? = some (Value.string s) := by
    intro hn
    obtain ⟨g, cs, e, h3, h4, hb, h5, h6⟩ := hk hn
    exact ⟨g, cs, e, by omega, h4, hb, h5, h6⟩
  by_cases hn : t.items = []
  · exact .mk lo hi t A c A' c' h (fun _ => none) (fun _ => 0) (fun _ => none) (fun _ => 0) h1 h2 (fun h => absurd hn h) hlo hmono (by omega) hkey (fun i x hx => by rw [hn] at hx; simp at hx)
  · obtain ⟨g, cs, e, h3, h4, hb, h5, h6⟩ := hrow hn
    have : ∀ i, ∃ q : Option Addr × Nat × Option Addr × Nat, ∀ x, t.items[i]? = some x → Six w g (i * 6) x q.1 q.2.1 q.2.2.1 q.2.2.2 ∧ Own w (h i) (h (i + 1)) x q.1 q.2.1 q.2.2.1 q.2.2.2 := by
      intro i
      cases hx : t.items[i]? with
      | none => exact ⟨(none, 0, none, 0), fun x h => by cases h⟩
      | some x =>
        obtain ⟨B, d, B', d', h6⟩ := h6 i x hx
        exact ⟨(B, d, B', d'), fun y h => by injection h with h; subst h; exact h6⟩
    obtain ⟨q, hq⟩ := Classical.axiomOfChoice this
    exact .mk lo hi t A c A' c' h (fun i => (q i).1) (fun i => (q i).2.1) (fun i => (q i).2.2.1) (fun i => (q i).2.2.2) h1 h2
      (fun _ => ⟨g, cs, e, h3, h4, hb, h5, fun i x hx => (hq i x hx).1⟩) hlo hmono (by omega) hkey (fun i x hx => (hq i x hx).2)
/-- in the midst of copying: the first k elements of l lie in row g, and their own rows behind it -/
def Copied (w : World) (g : Nat) (l : List T) (k : Nat) : Prop :=
  ∃ (h : Nat → Nat) (cs : Array Value), g < h 0 ∧ (∀ i, i < k → h i ≤ h (i + 1)) ∧ h k ≤ w.heap.size ∧ Blk w g 29 cs ∧ cs.size = l.length * 6 ∧
    ∀ i x, i < k → l[i]? = some x → ∃ B d B' d', Six w g (i * 6) x B d B' d' ∧ Own w (h i) (h (i + 1)) x B d B' d'
theorem Copied.row {w : World} {g : Nat} {l : List T} (h : Copied w g l l.length) : OwnRow w g w.heap.size l (some ⟨g, 0, none⟩) := by
  obtain ⟨h, cs, h0, hm, hk, hb, hz, hi⟩ := h
  exact ⟨h, fun _ => ⟨g, cs, rfl, Nat.le_refl _, h0, hb, by omega, fun i x hx => hi i x (lt_of_get hx) hx⟩, by omega, hm, hk⟩
theorem Copied.blk {w : World} {g : Nat} {l : List T} {k : Nat} (h : Copied w g l k) : ∃ cs, Blk w g 29 cs ∧ cs.size = l.length * 6 := by
  obtain ⟨h, cs, _, _, _, hb, hz, _⟩ := h
  exact ⟨cs, hb, hz⟩
theorem Copied.onto {w w' : World} {g : Nat} {l : List T} {k : Nat} (h : Copied w g l k) (hb : Below w.heap.size w w') : Copied w' g l k := by
  obtain ⟨h, cs, h0, hm, hk, hbk, hz, hi⟩ := h
  have hlt := hbk.lt
  refine ⟨h, cs, h0, hm, Nat.le_trans hk hb.size, hbk.onto hb, hz, fun i x hik hx => ?_⟩
  obtain ⟨B, d, B', d', h6, ho⟩ := hi i x hik hx
  have a2 := up_to hm k (Nat.le_refl _) (i + 1) (by omega)
  exact ⟨B, d, B', d', h6.on_blk (hb.block g hlt), ho.keep fun b hb' => hb.block b (by omega)⟩
/-- the step: element k, whose own rows lie from q on, is stored -/
theorem Copied.step {w : World} {g : Nat} {l : List T} {k q : Nat} {x : T} {B : Option Addr} {d : Nat} {B' : Option Addr} {d' : Nat} (h : Copied w g l k) (hx : l[k]? = some x) (hq : q ≤ w.heap.size)
    (hlow : ∃ w0 : World, Copied w0 g l k ∧ w0.heap.size ≤ q ∧ Below w0.heap.size w0 w) (ho : Own w q w.heap.size x B d B' d') :
    Copied ((((((w.setCell ⟨g, k * 6, none⟩ (.int .i64 x.kind)).setCell ⟨g, k * 6 + 1, none⟩ (.bool x.tr)).setCell ⟨g, k * 6 + 2, none⟩ (.int .i64 x.num)).setCell ⟨g, k * 6 + 3, none⟩ (.string x.str)).setCell ⟨g, k * 6 + 4, none⟩ (.slice B x.items.length d)).setCell ⟨g, k * 6 + 5, none⟩ (.slice B' x.keys.length d')) g l (k + 1) := by
  obtain ⟨w0, h, hsz, hb⟩ := hlow
  obtain ⟨h, cs, h0, hm, hk, hbk, hz, hi⟩ := h
  have hlt := hbk.lt
  have hkl := lt_of_get hx
  have hb2 : Blk w g 29 cs := hbk.onto hb
  obtain ⟨cs', hb', hz', h6', hfar⟩ := six_put hb2 (o := k * 6) (by omega) x B d B' d'
  have hkeep : ∀ b, b ≠ g → ((((((w.setCell ⟨g, k * 6, none⟩ (.int .i64 x.kind)).setCell ⟨g, k * 6 + 1, none⟩ (.bool x.tr)).setCell ⟨g, k * 6 + 2, none⟩ (.int .i64 x.num)).setCell ⟨g, k * 6 + 3, none⟩ (.string x.str)).setCell ⟨g, k * 6 + 4, none⟩ (.slice B x.items.length d)).setCell ⟨g, k * 6 + 5, none⟩ (.slice B' x.keys.length d')).heap[b]? = w.heap[b]? := by
    intro b hne
    rw [Below.heap_setCell _ _ _ _ hne, Below.heap_setCell _ _ _ _ hne, Below.heap_setCell _ _ _ _ hne, Below.heap_setCell _ _ _ _ hne, Below.heap_setCell _ _ _ _ hne, Below.heap_setCell _ _ _ _ hne]
  have hsize : ((((((w.setCell ⟨g, k * 6, none⟩ (.int .i64 x.kind)).setCell ⟨g, k * 6 + 1, none⟩ (.bool x.tr)).setCell ⟨g, k * 6 + 2, none⟩ (.int .i64 x.num)).setCell ⟨g, k * 6 + 3, none⟩ (.string x.str)).setCell ⟨g, k * 6 + 4, none⟩ (.slice B x.items.length d)).setCell ⟨g, k * 6 + 5, none⟩ (.slice B' x.keys.length d')).heap.size = w.heap.size := by simp [World.setCell]
  generalize ((((((w.setCell ⟨g, k * 6, none⟩ (.int .i64 x.kind)).setCell ⟨g, k * 6 + 1, none⟩ (.bool x.tr)).setCell ⟨g, k * 6 + 2, none⟩ (.int .i64 x.num)).setCell ⟨g, k * 6 + 3, none⟩ (.string x.str)).setCell ⟨g, k * 6 + 4, none⟩ (.slice B x.items.length d)).setCell ⟨g, k * 6 + 5, none⟩ (.slice B' x.keys.length d')) = W at *
  have hup := up_to hm k (Nat.le_refl _)
  refine ⟨fun i => if i ≤ k then h i else w.heap.size, cs', by show g < if 0 ≤ k then h 0 else w.heap.size; rw [if_pos (by omega)]; exact h0, fun i hik => ?_, ?_, hb', by omega, fun i y hik hy => ?_⟩
  · show (if i ≤ k then h i else w.heap.size) ≤ if i + 1 ≤ k then h (i + 1) else w.heap.size
    by_cases h1 : i + 1 ≤ k
    · rw [if_pos (by omega), if_pos h1]; exact hm i (by omega)
    · rw [if_pos (by omega), if_neg h1]
      have := hup i (by omega)
      omega
  · show (if k + 1 ≤ k then h (k + 1) else w.heap.size) ≤ W.heap.size; rw [if_neg (by omega)]; omega
  · show ∃ B d B' d', Six W g (i * 6) y B d B' d' ∧ Own W (if i ≤ k then h i else w.heap.size) (if i + 1 ≤ k then h (i + 1) else w.heap.size) y B d B' d'
    rcases Nat.lt_or_ge i k with h1 | h1
    · obtain ⟨C, e, C', e', k6, ko⟩ := hi i y h1 hy
      have a0 := hup 0 (by omega)
      have a1 := up_to hm i (by omega) 0 (by omega)
      have a2 := hup (i + 1) (by omega)
      rw [if_pos (by omega), if_pos (by omega)]
      refine ⟨C, e, C', e', ?_, ko.keep fun b hb1 => ?_⟩
      · have hc : ∀ j, j < 6 → W.cell? ⟨g, i * 6 + j, none⟩ = w0.cell? ⟨g, i * 6 + j, none⟩ := fun j hj => by
          rw [hb'.cell, hbk.cell]; exact hfar _ (by omega)
        obtain ⟨e0, e1, e2, e3, e4, e5⟩ := k6
        exact ⟨(hc 0 (by omega)).trans e0, (hc 1 (by omega)).trans e1, (hc 2 (by omega)).trans e2, (hc 3 (by omega)).trans e3, (hc 4 (by omega)).trans e4, (hc 5 (by omega)).trans e5⟩
      · exact (hkeep b (by omega)).trans (hb.block b (by omega))
    · obtain rfl : i = k := by omega
      rw [hx] at hy
      injection hy with hy
      subst hy
      rw [if_pos (by omega), if_neg (by omega)]
      exact ⟨B, d, B', d', h6', (ho.keep fun b hb1 => hkeep b (by omega)).wide (by omega) (Nat.le_refl _)⟩
end Go.Proofs.YtgiapdmoiaiofaaDoor
