/- Rows of values, and values whose rows are their own. Appending to a row of the call's own, whatever the source: nil, empty or not. append of one element, onto a row of bytes or of texts of the call's own. The reference's Quote: contract. -/
import Derived.Test.YtfiahpeajccinaaGreatDoorQI
import Derived.Test.YtfiahpeajccinaaGreatDoorShelf3
import Derived.Maps.AppendAt
import Derived.Deep.AppendLies
import Derived.Laws.OwnMore
import Derived.Test.YtfiahpeajccinaaGreatDoorPE
import Derived.Lib.RuneBytes
import Derived.Outline
namespace Go.Proofs.YtfiahpeajccinaaGreatDoor
open Go.RowKit

/-- a slice value whose elements are the values l, in blocks of S -/
def VReads (w : World) (S : Nat → Prop) (A : Option Addr) (l : List T) : Prop :=
  l ≠ [] → ∃ b o, A = some ⟨b, o, none⟩ ∧ S b ∧ ∀ i x, l[i]? = some x → ∃ B d B' d', Six w b (o + i * 6) x B d B' d' ∧ TV w S x B d B' d'
theorem TV.vreads {w : World} {S : Nat → Prop} {t : T} {A : Option Addr} {c : Nat} {A' : Option Addr} {c' : Nat} (h : TV w S t A c A' c') : VReads w S A t.items := fun hn => h.row hn
theorem VReads.none_ (w : World) (S : Nat → Prop) (A : Option Addr) : VReads w S A [] := fun h => absurd rfl h
theorem VReads.keep {w w' : World} {S : Nat → Prop} {A : Option Addr} {l : List T} (h : VReads w S A l) (hk : Keeps S w w') : VReads w' S A l := by
  intro hn
  obtain ⟨b, o, e, hs, hi⟩ := h hn
  refine ⟨b, o, e, hs, fun i x hx => ?_⟩
  obtain ⟨B, d, B', d', h6, ht⟩ := hi i x hx
  exact ⟨B, d, B', d', h6.keep hs hk, ht.keep hk⟩
theorem VReads.wide {w : World} {S S' : Nat → Prop} {A : Option Addr} {l : List T} (h : VReads w S A l) (hs : ∀ b, S b → S' b) : VReads w S' A l := by
  intro hn
  obtain ⟨b, o, e, h0, hi⟩ := h hn
  refine ⟨b, o, e, hs b h0, fun i x hx => ?_⟩
  obtain ⟨B, d, B', d', h6, ht⟩ := hi i x hx
  exact ⟨B, d, B', d', h6, ht.wide hs⟩
theorem VReads.under {B : Nat} {w w' : World} {A : Option Addr} {l : List T} (h : VReads w (· < B) A l) (hb : Below B w w') : VReads w' (· < B) A l := h.keep (.of_below hb)
theorem VReads.on {w w' : World} {A : Option Addr} {l : List T} (h : VReads w (· < w.heap.size) A l) (hb : Below w.heap.size w w') : VReads w' (· < w'.heap.size) A l :=
  (h.under hb).wide fun _ hx => Nat.lt_of_lt_of_le hx hb.size
theorem VReads.at_ {w : World} {S : Nat → Prop} {A : Option Addr} {l : List T} (h : VReads w S A l) {k : Nat} (hk : k < l.length) :
    ∃ b o x B d B' d', A = some ⟨b, o, none⟩ ∧ S b ∧ l[k]? = some x ∧ Six w b (o + k * 6) x B d B' d' ∧ TV w S x B d B' d' := by
  obtain ⟨b, o, e, hs, hi⟩ := h (by intro hn; rw [hn] at hk; simp at hk)
  obtain ⟨B, d, B', d', h6, ht⟩ := hi k _ (List.getElem?_eq_getElem hk)
  exact ⟨b, o, _, B, d, B', d', e, hs, List.getElem?_eq_getElem hk, h6, ht⟩

/-- the value's rows lie in blocks from lo on, below hi, none in another part's -/
inductive Own (w : World) : Nat → Nat → T → Option Addr → Nat → Option Addr → Nat → Prop
  | mk (lo hi : Nat) (t : T) (A : Option Addr) (c : Nat) (A' : Option Addr) (c' : Nat) (h : Nat → Nat) (hA : Nat → Option Addr) (hc : Nat → Nat) (hA' : Nat → Option Addr) (hc' : Nat → Nat)
      (h1 : t.items.length ≤ c) (h2 : t.keys.length ≤ c')
      (hrow : t.items ≠ [] → ∃ (g : Nat) (cs : Array Value), A = some ⟨g, 0, none⟩ ∧ lo ≤ g ∧ g < h 0 ∧ Blk w g 52 cs ∧ t.items.length * 6 ≤ cs.size ∧ ∀ i x, t.items[i]? = some x → Six w g (i * 6) x (hA i) (hc i) (hA' i) (hc' i))
      (hlo : lo ≤ h 0) (hmono : ∀ i, i < t.items.length → h i ≤ h (i + 1)) (hhi : h t.items.length ≤ hi)
      (hkey : t.keys ≠ [] → ∃ (g : Nat) (cs : Array Value), A' = some ⟨g, 0, none⟩ ∧ h t.items.length ≤ g ∧ g < hi ∧ Blk w g 9 cs ∧ t.keys.length ≤ cs.size ∧ ∀ (i : Nat) (s : ByteArray), t.keys[i]? = some s → cs[i]? = some (Value.string s))
      (hin : ∀ i x, t.items[i]? = some x → Own w (h i) (h (i + 1)) x (hA i) (hc i) (hA' i) (hc' i)) : Own w lo hi t A c A' c'
theorem up_to {h : Nat → Nat} {n : Nat} (hm : ∀ i, i < n → h i ≤ h (i + 1)) : ∀ j, j ≤ n → ∀ i, i ≤ j → h i ≤ h j := by
  intro j
  induction j with
  | zero => intro _ i hi; obtain rfl : i = 0 := by omega
            exact Nat.le_refl _
  | succ j ih =>
    intro hj i hi
    rcases Nat.lt_or_ge i (j + 1) with h1 | h1
    · exact Nat.le_trans (ih (by omega) i (by omega)) (hm j (by omega))
    · obtain rfl : i = j + 1 := by omega
      exact Nat.le_refl _
theorem lt_of_get {α : Type} {l : List α} {i : Nat} {x : α} (h : l[i]? = some x) : i < l.length := (List.getElem?_eq_some_iff.1 h).1
theorem Own.tv {w : World} {lo hi : Nat} {t : T} {A : Option Addr} {c : Nat} {A' : Option Addr} {c' : Nat} (h : Own w lo hi t A c A' c') : TV w (fun b => lo ≤ b ∧ b < hi) t A c A' c' := by
  induction h with
  | mk lo hi t A c A' c' h hA hc hA' hc' h1 h2 hrow hlo hmono hhi hkey hin ih =>
    refine .mk t A c A' c' hA hc hA' hc' h1 h2 (fun hn => ?_) (fun hn => ?_) (fun i x hx => ?_)
    · obtain ⟨g, cs, e, h3, h4, _, _, h6⟩ := hrow hn
      refine ⟨g, 0, e, ⟨h3, ?_⟩, fun i x hx => by rw [Nat.zero_add]; exact h6 i x hx⟩
      have := up_to hmono t.items.length (Nat.le_refl _) 0 (by omega)
      omega
    · obtain ⟨g, cs, e, h3, h4, hb, _, h6⟩ := hkey hn
      have := up_to hmono t.items.length (Nat.le_refl _) 0 (by omega)
      exact ⟨g, 0, e, ⟨by omega, h4⟩, fun i s hs => by rw [Nat.zero_add, hb.cell]; exact h6 i s hs⟩
    · have hl := lt_of_get hx
      have a1 := up_to hmono i (by omega) 0 (by omega)
      have a2 := up_to hmono t.items.length (Nat.le_refl _) (i + 1) (by omega)
      exact (ih i x hx).wide fun b hb => ⟨by omega, by omega⟩
theorem Blk.keep {w w' : World} {g : Nat} {t : TypeId} {cs : Array Value} {S : Nat → Prop} (h : Blk w g t cs) (hk : Keeps S w w') (hs : S g) : Blk w' g t cs := (hk g hs).trans h
theorem Six.on_blk {w w' : World} {b o : Nat} {t : T} {A : Option Addr} {c : Nat} {A' : Option Addr} {c' : Nat} (h : Six w b o t A c A' c') (hk : w'.heap[b]? = w.heap[b]?) : Six w' b o t A c A' c' :=
  h.keep (S := (· = b)) rfl (fun x hx => by subst hx; exact hk)
theorem Own.keep {w w' : World} {lo hi : Nat} {t : T} {A : Option Addr} {c : Nat} {A' : Option Addr} {c' : Nat} (h : Own w lo hi t A c A' c') (hk : Keeps (fun b => lo ≤ b ∧ b < hi) w w') : Own w' lo hi t A c A' c' := by
  induction h with
  | mk lo hi t A c A' c' h hA hc hA' hc' h1 h2 hrow hlo hmono hhi hkey hin ih =>
    have a0 := up_to hmono t.items.length (Nat.le_refl _) 0 (by omega)
    refine .mk lo hi t A c A' c' h hA hc hA' hc' h1 h2 (fun hn => ?_) hlo hmono hhi (fun hn => ?_) (fun i x hx => ?_)
    · obtain ⟨g, cs, e, h3, h4, hb, h5, h6⟩ := hrow hn
      exact ⟨g, cs, e, h3, h4, hb.keep hk ⟨h3, by omega⟩, h5, fun i x hx => (h6 i x hx).on_blk (hk g ⟨h3, by omega⟩)⟩
    · obtain ⟨g, cs, e, h3, h4, hb, h5, h6⟩ := hkey hn
      exact ⟨g, cs, e, h3, h4, hb.keep hk ⟨by omega, h4⟩, h5, h6⟩
    · have hl := lt_of_get hx
      have a1 := up_to hmono i (by omega) 0 (by omega)
      have a2 := up_to hmono t.items.length (Nat.le_refl _) (i + 1) (by omega)
      exact ih i x hx (hk.mono fun b hb => ⟨by omega, by omega⟩)
theorem Own.wide {w : World} {lo hi lo' hi' : Nat} {t : T} {A : Option Addr} {c : Nat} {A' : Option Addr} {c' : Nat} (h : Own w lo hi t A c A' c') (h1 : lo' ≤ lo) (h2 : hi ≤ hi') : Own w lo' hi' t A c A' c' := by
  cases h with
  | mk _ _ _ _ _ _ _ h hA hc hA' hc' k1 k2 hrow hlo hmono hhi hkey hin =>
    refine .mk lo' hi' t A c A' c' h hA hc hA' hc' k1 k2 (fun hn => ?_) (by omega) hmono (by omega) (fun hn => ?_) hin
    · obtain ⟨g, cs, e, h3, h4, hb, h5, h6⟩ := hrow hn
      exact ⟨g, cs, e, by omega, h4, hb, h5, h6⟩
    · obtain ⟨g, cs, e, h3, h4, hb, h5, h6⟩ := hkey hn
      exact ⟨g, cs, e, h3, by omega, hb, h5, h6⟩
/-- a row of values of its own -/
def OwnRow (w : World) (lo hi : Nat) (l : List T) (A : Option Addr) : Prop :=
  ∃ h : Nat → Nat, (l ≠ [] → ∃ (g : Nat) (cs : Array Value), A = some ⟨g, 0, none⟩ ∧ lo ≤ g ∧ g < h 0 ∧ Blk w g 52 cs ∧ l.length * 6 ≤ cs.size ∧
      ∀ i x, l[i]? = some x → ∃ B d B' d', Six w g (i * 6) x B d B' d' ∧ Own w (h i) (h (i + 1)) x B d B' d') ∧
    lo ≤ h 0 ∧ (∀ i, i < l.length → h i ≤ h (i + 1)) ∧ h l.length ≤ hi
theorem OwnRow.nil (w : World) (lo : Nat) (A : Option Addr) : OwnRow w lo lo [] A := ⟨fun _ => lo, fun h => absurd rfl h, Nat.le_refl _, fun _ h => by simp at h, Nat.le_refl _⟩
theorem OwnRow.keep {w w' : World} {lo hi : Nat} {l : List T} {A : Option Addr} (h : OwnRow w lo hi l A) (hk : Keeps (fun b => lo ≤ b ∧ b < hi) w w') : OwnRow w' lo hi l A := by
  obtain ⟨h, hrow, hlo, hmono, hhi⟩ := h
  have a0 := up_to hmono l.length (Nat.le_refl _) 0 (by omega)
  refine ⟨h, fun hn => ?_, hlo, hmono, hhi⟩
  obtain ⟨g, cs, e, h3, h4, hb, h5, h6⟩ := hrow hn
  refine ⟨g, cs, e, h3, h4, hb.keep hk ⟨h3, by omega⟩, h5, fun i x hx => ?_⟩
  obtain ⟨B, d, B', d', k6, ko⟩ := h6 i x hx
  have hl := lt_of_get hx
  have a1 := up_to hmono i (by omega) 0 (by omega)
  have a2 := up_to hmono l.length (Nat.le_refl _) (i + 1) (by omega)
  exact ⟨B, d, B', d', k6.on_blk (hk g ⟨h3, by omega⟩), ko.keep (hk.mono fun b hb => ⟨by omega, by omega⟩)⟩
theorem OwnRow.vreads {w : World} {lo hi : Nat} {l : List T} {A : Option Addr} (h : OwnRow w lo hi l A) : VReads w (fun b => lo ≤ b ∧ b < hi) A l := by
  obtain ⟨h, hrow, hlo, hmono, hhi⟩ := h
  intro hn
  have a0 := up_to hmono l.length (Nat.le_refl _) 0 (by omega)
  obtain ⟨g, cs, e, h3, h4, hb, h5, h6⟩ := hrow hn
  refine ⟨g, 0, e, ⟨h3, by omega⟩, fun i x hx => ?_⟩
  obtain ⟨B, d, B', d', k6, ko⟩ := h6 i x hx
  have hl := lt_of_get hx
  have a1 := up_to hmono i (by omega) 0 (by omega)
  have a2 := up_to hmono l.length (Nat.le_refl _) (i + 1) (by omega)
  exact ⟨B, d, B', d', by rw [Nat.zero_add]; exact k6, ko.tv.wide fun b hb => ⟨by omega, by omega⟩⟩
/-- keys of its own -/
def OwnKeys (w : World) (lo hi : Nat) (l : List ByteArray) (A : Option Addr) : Prop :=
  l ≠ [] → ∃ (g : Nat) (cs : Array Value), A = some ⟨g, 0, none⟩ ∧ lo ≤ g ∧ g < hi ∧ Blk w g 9 cs ∧ l.length ≤ cs.size ∧ ∀ (i : Nat) (s : ByteArray), l[i]? = some s → cs[i]? = some (Value.string s)
theorem Own.of {w : World} {lo mid hi : Nat} {t : T} {A : Option Addr} {c : Nat} {A' : Option Addr} {c' : Nat} (h1 : t.items.length ≤ c) (h2 : t.keys.length ≤ c') (hm : mid ≤ hi) (hr : OwnRow w lo mid t.items A) (hk : OwnKeys w mid hi t.keys A') : Own w lo hi t A c A' c' := by
  obtain ⟨h, hrow, hlo, hmono, hhi⟩ := hr
  have hkey : t.keys ≠ [] → ∃ (g : Nat) (cs : Array Value), A' = some ⟨g, 0, none⟩ ∧ h t.items.length ≤ g ∧ g < hi ∧ Blk w g 9 cs ∧ t.keys.length ≤ cs.size ∧ ∀ (i : Nat) (s : ByteArray), t.keys[i]? = some s → cs[i]? = some (Value.string s) := by
    intro hn
    obtain ⟨g, cs, e, h3, h4, hb, h5, h6⟩ := hk hn
    exact ⟨g, cs, e, by omega, h4, hb, h5, h6⟩
  by_cases hn : t.items = []
  · exact .mk lo hi t A c A' c' h (fun _ => none) (fun _ => 0) (fun _ => none) (fun _ => 0) h1 h2 (fun h => absurd hn h) hlo hmono (by omega) hkey (fun i x hx => by rw [hn] at hx; simp at hx)
  · obtain ⟨g, cs, e, h3, h4, hb, h5, h6⟩ := hrow hn
    have : ∀ i, ∃ q : Option Addr × Nat × Option Addr × Nat, ∀ x, t.items[i]? = some x → Six w g (i * 6) x q.1 q.2.1 q.2.2.1 q.2.2.2 ∧ Own w (h i) (h (i + 1)) x q.1 q.2.1 q.2.2.1 q.2.2.2 := by
      intro i
      cases hx : t.items[i]? with
      | none => exact ⟨(none, 0, none, 0), fun x h => by cases h⟩
      | some x =>
        obtain ⟨B, d, B', d', h6⟩ := h6 i x hx
        exact ⟨(B, d, B', d'), fun y h => by injection h with h; subst h; exact h6⟩
    obtain ⟨q, hq⟩ := Classical.axiomOfChoice this
    exact .mk lo hi t A c A' c' h (fun i => (q i).1) (fun i => (q i).2.1) (fun i => (q i).2.2.1) (fun i => (q i).2.2.2) h1 h2
      (fun _ => ⟨g, cs, e, h3, h4, hb, h5, fun i x hx => (hq i x hx).1⟩) hlo hmono (by omega) hkey (fun i x hx => (hq i x hx).2)
/-- in the midst of copying: the first k elements of l lie in row g, and their own rows behind it -/
def Copied (w : World) (g : Nat) (l : List T) (k : Nat) : Prop :=
  ∃ (h : Nat → Nat) (cs : Array Value), g < h 0 ∧ (∀ i, i < k → h i ≤ h (i + 1)) ∧ h k ≤ w.heap.size ∧ Blk w g 52 cs ∧ cs.size = l.length * 6 ∧
    ∀ i x, i < k → l[i]? = some x → ∃ B d B' d', Six w g (i * 6) x B d B' d' ∧ Own w (h i) (h (i + 1)) x B d B' d'
theorem Copied.row {w : World} {g : Nat} {l : List T} (h : Copied w g l l.length) : OwnRow w g w.heap.size l (some ⟨g, 0, none⟩) := by
  obtain ⟨h, cs, h0, hm, hk, hb, hz, hi⟩ := h
  exact ⟨h, fun _ => ⟨g, cs, rfl, Nat.le_refl _, h0, hb, by omega, fun i x hx => hi i x (lt_of_get hx) hx⟩, by omega, hm, hk⟩
theorem Copied.blk {w : World} {g : Nat} {l : List T} {k : Nat} (h : Copied w g l k) : ∃ cs, Blk w g 52 cs ∧ cs.size = l.length * 6 := by
  obtain ⟨h, cs, _, _, _, hb, hz, _⟩ := h
  exact ⟨cs, hb, hz⟩
theorem Copied.onto {w w' : World} {g : Nat} {l : List T} {k : Nat} (h : Copied w g l k) (hb : Below w.heap.size w w') : Copied w' g l k := by
  obtain ⟨h, cs, h0, hm, hk, hbk, hz, hi⟩ := h
  have hlt := hbk.lt
  refine ⟨h, cs, h0, hm, Nat.le_trans hk hb.size, hbk.onto hb, hz, fun i x hik hx => ?_⟩
  obtain ⟨B, d, B', d', h6, ho⟩ := hi i x hik hx
  have a2 := up_to hm k (Nat.le_refl _) (i + 1) (by omega)
  exact ⟨B, d, B', d', h6.on_blk (hb.block g hlt), ho.keep fun b hb' => hb.block b (by omega)⟩
/-- the step: element k, whose own rows lie from q on, is stored -/
theorem Copied.step {w : World} {g : Nat} {l : List T} {k q : Nat} {x : T} {B : Option Addr} {d : Nat} {B' : Option Addr} {d' : Nat} (h : Copied w g l k) (hx : l[k]? = some x) (hq : q ≤ w.heap.size)
    (hlow : ∃ w0 : World, Copied w0 g l k ∧ w0.heap.size ≤ q ∧ Below w0.heap.size w0 w) (ho : Own w q w.heap.size x B d B' d') :
    Copied ((((((w.setCell ⟨g, k * 6, none⟩ (.int .i64 x.kind)).setCell ⟨g, k * 6 + 1, none⟩ (.bool x.tr)).setCell ⟨g, k * 6 + 2, none⟩ (.int .i64 x.num)).setCell ⟨g, k * 6 + 3, none⟩ (.string x.str)).setCell ⟨g, k * 6 + 4, none⟩ (.slice B x.items.length d)).setCell ⟨g, k * 6 + 5, none⟩ (.slice B' x.keys.length d')) g l (k + 1) := by
  obtain ⟨w0, h, hsz, hb⟩ := hlow
  obtain ⟨h, cs, h0, hm, hk, hbk, hz, hi⟩ := h
  have hlt := hbk.lt
  have hkl := lt_of_get hx
  have hb2 : Blk w g 52 cs := hbk.onto hb
  obtain ⟨cs', hb', hz', h6', hfar⟩ := six_put hb2 (o := k * 6) (by omega) x B d B' d'
  have hkeep : ∀ b, b ≠ g → ((((((w.setCell ⟨g, k * 6, none⟩ (.int .i64 x.kind)).setCell ⟨g, k * 6 + 1, none⟩ (.bool x.tr)).setCell ⟨g, k * 6 + 2, none⟩ (.int .i64 x.num)).setCell ⟨g, k * 6 + 3, none⟩ (.string x.str)).setCell ⟨g, k * 6 + 4, none⟩ (.slice B x.items.length d)).setCell ⟨g, k * 6 + 5, none⟩ (.slice B' x.keys.length d')).heap[b]? = w.heap[b]? := by
    intro b hne
    rw [Below.heap_setCell _ _ _ _ hne, Below.heap_setCell _ _ _ _ hne, Below.heap_setCell _ _ _ _ hne, Below.heap_setCell _ _ _ _ hne, Below.heap_setCell _ _ _ _ hne, Below.heap_setCell _ _ _ _ hne]
  have hsize : ((((((w.setCell ⟨g, k * 6, none⟩ (.int .i64 x.kind)).setCell ⟨g, k * 6 + 1, none⟩ (.bool x.tr)).setCell ⟨g, k * 6 + 2, none⟩ (.int .i64 x.num)).setCell ⟨g, k * 6 + 3, none⟩ (.string x.str)).setCell ⟨g, k * 6 + 4, none⟩ (.slice B x.items.length d)).setCell ⟨g, k * 6 + 5, none⟩ (.slice B' x.keys.length d')).heap.size = w.heap.size := by simp [World.setCell]
  generalize ((((((w.setCell ⟨g, k * 6, none⟩ (.int .i64 x.kind)).setCell ⟨g, k * 6 + 1, none⟩ (.bool x.tr)).setCell ⟨g, k * 6 + 2, none⟩ (.int .i64 x.num)).setCell ⟨g, k * 6 + 3, none⟩ (.string x.str)).setCell ⟨g, k * 6 + 4, none⟩ (.slice B x.items.length d)).setCell ⟨g, k * 6 + 5, none⟩ (.slice B' x.keys.length d')) = W at *
  have hup := up_to hm k (Nat.le_refl _)
  refine ⟨fun i => if i ≤ k then h i else w.heap.size, cs', by show g < if 0 ≤ k then h 0 else w.heap.size; rw [if_pos (by omega)]; exact h0, fun i hik => ?_, ?_, hb', by omega, fun i y hik hy => ?_⟩
  · show (if i ≤ k then h i else w.heap.size) ≤ if i + 1 ≤ k then h (i + 1) else w.heap.size
    by_cases h1 : i + 1 ≤ k
    · rw [if_pos (by omega), if_pos h1]; exact hm i (by omega)
    · rw [if_pos (by omega), if_neg h1]
      have := hup i (by omega)
      omega
  · show (if k + 1 ≤ k then h (k + 1) else w.heap.size) ≤ W.heap.size; rw [if_neg (by omega)]; omega
  · show ∃ B d B' d', Six W g (i * 6) y B d B' d' ∧ Own W (if i ≤ k then h i else w.heap.size) (if i + 1 ≤ k then h (i + 1) else w.heap.size) y B d B' d'
    rcases Nat.lt_or_ge i k with h1 | h1
    · obtain ⟨C, e, C', e', k6, ko⟩ := hi i y h1 hy
      have a0 := hup 0 (by omega)
      have a1 := up_to hm i (by omega) 0 (by omega)
      have a2 := hup (i + 1) (by omega)
      rw [if_pos (by omega), if_pos (by omega)]
      refine ⟨C, e, C', e', ?_, ko.keep fun b hb1 => ?_⟩
      · have hc : ∀ j, j < 6 → W.cell? ⟨g, i * 6 + j, none⟩ = w0.cell? ⟨g, i * 6 + j, none⟩ := fun j hj => by
          rw [hb'.cell, hbk.cell]; exact hfar _ (by omega)
        obtain ⟨e0, e1, e2, e3, e4, e5⟩ := k6
        exact ⟨(hc 0 (by omega)).trans e0, (hc 1 (by omega)).trans e1, (hc 2 (by omega)).trans e2, (hc 3 (by omega)).trans e3, (hc 4 (by omega)).trans e4, (hc 5 (by omega)).trans e5⟩
      · exact (hkeep b (by omega)).trans (hb.block b (by omega))
    · obtain rfl : i = k := by omega
      rw [hx] at hy
      injection hy with hy
      subst hy
      rw [if_pos (by omega), if_neg (by omega)]
      exact ⟨B, d, B', d', h6', (ho.keep fun b hb1 => hkeep b (by omega)).wide (by omega) (Nat.le_refl _)⟩
end Go.Proofs.YtfiahpeajccinaaGreatDoor
namespace Go.Proofs.YtfiahpeajccinaaGreatDoor
open Go.RowKit

/-- a source of m elements, whose cells are news -/
def Src (w : World) (A : Option Addr) (m size : Nat) (news : List Value) : Prop :=
  news.length = m * size ∧ (0 < m → ∃ ad, A = some ad ∧ ∀ j u, news[j]? = some u → w.cell? (ad.add j) = some u)
section
variable {P : Program} {w : World}
theorem app_nil {base : Nat} {t ty e : TypeId} {i : TypeInfo} {size : Nat} (ht : P.underlying t = some (.slice e)) (hi : P.info? e = some i)
    {v : Value} {n : Nat} {xs : List Value} (hown : w.ownsRow base e size v n xs) (c : Nat) : (Builtin.append_ #[t, t] ty #[v, .slice none 0 c]).run P w = .ok v w := by
  rcases hown.2 with ⟨rfl, rfl⟩ | ⟨g, cap, cur, rfl, _, _, hnc, _⟩ <;>
    simp [Builtin.append_, run_underlying ht, sizeOf, typeInfo, Builtin.lenOf, Builtin.firstCells, storeCells, *]
theorem app_run {base : Nat} {t ty e : TypeId} {i : TypeInfo} {z : Value} {size bytes : Nat} (ht : P.underlying t = some (.slice e)) (hi : P.info? e = some i) (hz : i.zero = some z)
    (hsize : i.size = size) (hby : i.bytes = bytes) (hzs : z.cells.size = size) (hsz : 0 < size)
    {v : Value} {n : Nat} {xs : List Value} (hown : w.ownsRow base e size v n xs)
    {A : Option Addr} {m c : Nat} {news : List Value} (hs : Src w A m size news) (h1 : ∀ u ∈ news, u.oneCell' = true)
    (h63 : n + m ≤ maxLen) (hbytes : (n + m) * bytes ≤ 140737488355328) (hbase : base ≤ w.heap.size) :
    ∃ v' w', (Builtin.append_ #[t, t] ty #[v, .slice A m c]).run P w = .ok v' w' ∧ w'.ownsRow base e size v' (n + m) (xs ++ news) ∧ w.grownBy w' v.ownBlock ∧
      (v'.ownBlock = v.ownBlock ∨ v'.ownBlock = some w.heap.size) := by
  obtain ⟨hl, hc⟩ := hs
  rcases Nat.eq_zero_or_pos m with rfl | hm
  · obtain rfl : news = [] := List.eq_nil_of_length_eq_zero (by simpa using hl)
    cases A with
    | none => exact ⟨v, w, app_nil ht hi hown c, by simpa using hown, World.grownBy.refl w _, .inl rfl⟩
    | some ad =>
      obtain ⟨v', w', hr, h2, h3, _, h5⟩ := run_append_own_at (P := P) w base t ty e i z size bytes ht hi hz hsize hby hzs hsz v n xs hown ad 0 c [] hl (fun j u h => by simp at h) h1 h63 hbytes hbase
      exact ⟨v', w', hr, h2, h3, h5⟩
  · obtain ⟨ad, rfl, hcell⟩ := hc hm
    obtain ⟨v', w', hr, h2, h3, _, h5⟩ := run_append_own_at (P := P) w base t ty e i z size bytes ht hi hz hsize hby hzs hsz v n xs hown ad m c news hl hcell h1 h63 hbytes hbase
    exact ⟨v', w', hr, h2, h3, h5⟩
theorem own_slice {base : Nat} {e : TypeId} {size n : Nat} {v : Value} {xs : List Value} (h : w.ownsRow base e size v n xs) : ∃ B d, v = .slice B n d := by
  rcases h.2 with ⟨rfl, rfl⟩ | ⟨g, cap, cur, rfl, _⟩
  · exact ⟨_, _, rfl⟩
  · exact ⟨_, _, rfl⟩
/-- at an operation -/
theorem app_wp {o : Oper} {a : Act} {K : Act → World → Prop} {Q : Exit → Act → World → Prop} (s x : Operand) (t : TypeId)
    (ho : o.op = .call { callee := .builtin .append, args := #[s, x], argTypes := #[t, t] })
    (base : Nat) (e : TypeId) (i : TypeInfo) (z : Value) (size bytes : Nat) (ht : P.underlying t = some (.slice e)) (hi : P.info? e = some i) (hz : i.zero = some z)
    (hsize : i.size = size) (hby : i.bytes = bytes) (hzs : z.cells.size = size) (hsz : 0 < size)
    (v : Value) (n : Nat) (xs : List Value) (hv : a.eval s = v) (hown : w.ownsRow base e size v n xs)
    (A : Option Addr) (m c : Nat) (news : List Value) (hx : a.eval x = .slice A m c) (hs : Src w A m size news) (h1 : ∀ u ∈ news, u.oneCell' = true)
    (h63 : n + m ≤ maxLen) (hbytes : (n + m) * bytes ≤ 140737488355328) (hbase : base ≤ w.heap.size)
    (N : Nat) (hN : n + m = N)
    (h : ∀ B d w', w'.ownsRow base e size (.slice B N d) N (xs ++ news) → w.grownBy w' v.ownBlock → ((Value.slice B N d).ownBlock = v.ownBlock ∨ (Value.slice B N d).ownBlock = some w.heap.size) → K (a.put o.dst (.slice B N d)) w') : o.wp P a w K Q := by
  obtain ⟨v', w', hr, h2, h3, h5⟩ := app_run (P := P) (ty := o.type) ht hi hz hsize hby hzs hsz hown (c := c) hs h1 h63 hbytes hbase
  unfold Oper.wp execOp
  simp only [ho, resolve, invoke, builtin, Sem.run_bind, Sem.run_pure, Result.andThen_ok, List.map_toArray, List.map_cons, List.map_nil, hv, hx, hr]
  subst hN
  obtain ⟨B, d, rfl⟩ := own_slice h2
  exact h B d w' h2 h3 h5
/-- in a plain region -/
theorem app_list {ops : Array Oper} {rest : List Oper} {o : Oper} {a : Act} {Q : Exit → Act → World → Prop} (hgd : o.guard = none) (s x : Operand) (t : TypeId)
    (ho : o.op = .call { callee := .builtin .append, args := #[s, x], argTypes := #[t, t] })
    (base : Nat) (e : TypeId) (i : TypeInfo) (z : Value) (size bytes : Nat) (ht : P.underlying t = some (.slice e)) (hi : P.info? e = some i) (hz : i.zero = some z)
    (hsize : i.size = size) (hby : i.bytes = bytes) (hzs : z.cells.size = size) (hsz : 0 < size)
    (v : Value) (n : Nat) (xs : List Value) (hv : a.eval s = v) (hown : w.ownsRow base e size v n xs)
    (A : Option Addr) (m c : Nat) (news : List Value) (hx : a.eval x = .slice A m c) (hs : Src w A m size news) (h1 : ∀ u ∈ news, u.oneCell' = true)
    (h63 : n + m ≤ maxLen) (hbytes : (n + m) * bytes ≤ 140737488355328) (hbase : base ≤ w.heap.size)
    (N : Nat) (hN : n + m = N)
    (h : ∀ B d w', w'.ownsRow base e size (.slice B N d) N (xs ++ news) → w.grownBy w' v.ownBlock → ((Value.slice B N d).ownBlock = v.ownBlock ∨ (Value.slice B N d).ownBlock = some w.heap.size) → wpList P ops Q rest (a.put o.dst (.slice B N d)) w') : wpList P ops Q (o :: rest) a w :=
  wpList_plain hgd fun _ hK => app_wp s x t ho base e i z size bytes ht hi hz hsize hby hzs hsz v n xs hv hown A m c news hx hs h1 h63 hbytes hbase N hN fun B d w' h2 h3 h4 => hK _ _ (h B d w' h2 h3 h4)
/-- at a step of a region that draws its order -/
theorem app_step {ops : Array Oper} {o : Oper} {a : Act} {K : Act → World → Prop} {Q : Exit → Act → World → Prop} {E : Prop} (hgd : o.guard = none) (s x : Operand) (t : TypeId)
    (ho : o.op = .call { callee := .builtin .append, args := #[s, x], argTypes := #[t, t] })
    (base : Nat) (e : TypeId) (i : TypeInfo) (z : Value) (size bytes : Nat) (ht : P.underlying t = some (.slice e)) (hi : P.info? e = some i) (hz : i.zero = some z)
    (hsize : i.size = size) (hby : i.bytes = bytes) (hzs : z.cells.size = size) (hsz : 0 < size)
    (v : Value) (n : Nat) (xs : List Value) (hv : a.eval s = v) (hown : w.ownsRow base e size v n xs)
    (A : Option Addr) (m c : Nat) (news : List Value) (hx : a.eval x = .slice A m c) (hs : Src w A m size news) (h1 : ∀ u ∈ news, u.oneCell' = true)
    (h63 : n + m ≤ maxLen) (hbytes : (n + m) * bytes ≤ 140737488355328) (hbase : base ≤ w.heap.size)
    (N : Nat) (hN : n + m = N)
    (h : ∀ B d w', w'.ownsRow base e size (.slice B N d) N (xs ++ news) → w.grownBy w' v.ownBlock → ((Value.slice B N d).ownBlock = v.ownBlock ∨ (Value.slice B N d).ownBlock = some w.heap.size) → K (a.put o.dst (.slice B N d)) w') :
    if Region.wanted o (yielded ops a.tmps) = true then Oper.wp P o a w K Q else E := by
  have hw : Region.wanted o (yielded ops a.tmps) = true := by simp [Region.wanted, hgd]
  rw [if_pos hw]
  exact app_wp s x t ho base e i z size bytes ht hi hz hsize hby hzs hsz v n xs hv hown A m c news hx hs h1 h63 hbytes hbase N hN h
end
theorem far6 {w : World} {q b o : Nat} {v0 v1 v2 v3 v4 v5 : Value} (h : b ≠ q) :
    ((((((w.setCell ⟨q, 0, none⟩ v0).setCell ⟨q, 1, none⟩ v1).setCell ⟨q, 2, none⟩ v2).setCell ⟨q, 3, none⟩ v3).setCell ⟨q, 4, none⟩ v4).setCell ⟨q, 5, none⟩ v5).cell? ⟨b, o, none⟩ = w.cell? ⟨b, o, none⟩ := by
  have hh : ((((((w.setCell ⟨q, 0, none⟩ v0).setCell ⟨q, 1, none⟩ v1).setCell ⟨q, 2, none⟩ v2).setCell ⟨q, 3, none⟩ v3).setCell ⟨q, 4, none⟩ v4).setCell ⟨q, 5, none⟩ v5).heap[b]? = w.heap[b]? := by
    rw [Below.heap_setCell _ _ _ _ h, Below.heap_setCell _ _ _ _ h, Below.heap_setCell _ _ _ _ h, Below.heap_setCell _ _ _ _ h, Below.heap_setCell _ _ _ _ h, Below.heap_setCell _ _ _ _ h]
  exact World.cell?_of_block hh
theorem fary {w : World} {b o : Nat} {ob : Obj} (h : b < w.heap.size) : (w.alloc ob).cell? ⟨b, o, none⟩ = w.cell? ⟨b, o, none⟩ := World.cell?_alloc_lt _ _ _ h
theorem infoStr : (Tryz.prog.info? 9).map (fun i => (i.zero, i.size, i.bytes)) = some (some (.string ⟨#[]⟩), 1, 16) := by kernel_rfl
theorem add_lit (b o i : Nat) : (⟨b, o, none⟩ : Addr).add i = ⟨b, o + i, none⟩ := by unfold Addr.add; split <;> simp_all
theorem SReads.src {w : World} {S : Nat → Prop} {A : Option Addr} {l : List ByteArray} (h : SReads w S A l) : Src w A l.length 1 (l.map Value.string) := by
  refine ⟨by simp, fun hm => ?_⟩
  obtain ⟨b, o, e, _, hc⟩ := h (by intro hn; rw [hn] at hm; simp at hm)
  refine ⟨_, e, fun j u hu => ?_⟩
  rw [List.getElem?_map] at hu
  cases hs : l[j]? with
  | none => rw [hs] at hu; cases hu
  | some s =>
    rw [hs] at hu
    injection hu with hu
    subst hu
    rw [add_lit]
    exact hc j s hs
end Go.Proofs.YtfiahpeajccinaaGreatDoor
namespace Go.Proofs.YtfiahpeajccinaaGreatDoor
open Go.RowKit
set_option linter.unusedVariables false

theorem lt_of_getS {α : Type} {l : List α} {i : Nat} {x : α} (h : l[i]? = some x) : i < l.length := (List.getElem?_eq_some_iff.1 h).1
theorem app_u8 {ops : Array Oper} {rest : List Oper} {o : Oper} {a : Act} {Q : Exit → Act → World → Prop} {w : World} (hgd : o.guard = none) (s x : Operand)
    (ho : o.op = .call { callee := .builtin .append, args := #[s, x], argTypes := #[72, 72] })
    (base : Nat) (v : Value) (l : List UInt8) (y : UInt8) (z : Int) (hz : z = (y.toNat : Int)) (hs : a.eval s = v) (hx : a.eval x = .slice (some ⟨w.heap.size, 0, none⟩) 1 1)
    (hown : w.ownsRow base 5 1 v l.length (Lib.byteCells l)) (hn : l.length ≤ 1000000) (hbase : base ≤ w.heap.size)
    (h : ∀ (v' : Value) (w' : World), w'.ownsRow base 5 1 v' (l ++ [y]).length (Lib.byteCells (l ++ [y])) → (∀ W, Below base W w → Below base W w') → wpList Tryz.prog ops Q rest (a.put o.dst v') w') :
    wpList Tryz.prog ops Q (o :: rest) a (w.alloc (.cells #[.int .u8 z] 5)) := by
  subst hz
  obtain ⟨i0, hi, hz0, hz1, hz2⟩ := info_parts info5
  refine wpList_append_own _ hgd s x 72 ho base 5 i0 (.int .u8 0) 1 1 Tryz.underlying72 hi hz0 hz1 hz2 rfl (by decide) v _ _ hs (hown.alloc _) ⟨w.heap.size, 0, none⟩ 1 1 [.int .u8 y.toNat] hx rfl ?_ ?_ ?_ ?_ ?_ ?_
  · intro j u hu
    match j, hu with
    | 0, hu => simp at hu; subst hu; simp [Addr.add]
  · intro u hu; simp at hu; subst hu; rfl
  · unfold maxLen; omega
  · omega
  · simp; omega
  · intro v' w' h1 h2 _
    refine h v' w' ?_ (fun W hW => ?_)
    · rw [List.length_append, Lib.byteCells_append]; exact h1
    · exact (hW.alloc hbase _).grown h2 (by simp; omega) (fun k hk => (hown.lt k hk).1)
theorem app_u82 {ops : Array Oper} {rest : List Oper} {o : Oper} {a : Act} {Q : Exit → Act → World → Prop} {w : World} (hgd : o.guard = none) (s x : Operand)
    (ho : o.op = .call { callee := .builtin .append, args := #[s, x], argTypes := #[72, 72] })
    (base : Nat) (v : Value) (l : List UInt8) (y y2 : UInt8) (z z2 : Int) (hz : z = (y.toNat : Int)) (hz2 : z2 = (y2.toNat : Int)) (hs : a.eval s = v) (hx : a.eval x = .slice (some ⟨w.heap.size, 0, none⟩) 2 2)
    (hown : w.ownsRow base 5 1 v l.length (Lib.byteCells l)) (hn : l.length ≤ 1000000) (hbase : base ≤ w.heap.size)
    (h : ∀ (v' : Value) (w' : World), w'.ownsRow base 5 1 v' (l ++ [y, y2]).length (Lib.byteCells (l ++ [y, y2])) → (∀ W, Below base W w → Below base W w') → wpList Tryz.prog ops Q rest (a.put o.dst v') w') :
    wpList Tryz.prog ops Q (o :: rest) a (w.alloc (.cells #[.int .u8 z, .int .u8 z2] 5)) := by
  subst hz hz2
  obtain ⟨i0, hi, hz0, hz1, hz2⟩ := info_parts info5
  refine wpList_append_own _ hgd s x 72 ho base 5 i0 (.int .u8 0) 1 1 Tryz.underlying72 hi hz0 hz1 hz2 rfl (by decide) v _ _ hs (hown.alloc _) ⟨w.heap.size, 0, none⟩ 2 2 [.int .u8 y.toNat, .int .u8 y2.toNat] hx rfl ?_ ?_ ?_ ?_ ?_ ?_
  · intro j u hu
    match j, hu with
    | 0, hu => simp at hu; subst hu; simp [Addr.add]
    | 1, hu => simp at hu; subst hu; simp [Addr.add]
  · intro u hu; simp at hu; rcases hu with rfl | rfl <;> rfl
  · unfold maxLen; omega
  · omega
  · simp; omega
  · intro v' w' h1 h2 _
    refine h v' w' ?_ (fun W hW => ?_)
    · rw [List.length_append, Lib.byteCells_append]; exact h1
    · exact (hW.alloc hbase _).grown h2 (by simp; omega) (fun k hk => (hown.lt k hk).1)
end Go.Proofs.YtfiahpeajccinaaGreatDoor
namespace Go.Proofs.YtfiahpeajccinaaGreatDoor
open Go.RowKit
set_option linter.unusedVariables false

/-- a row of bytes of the call's own -/
def Row8 (B : Nat) (l : List UInt8) (v : Value) (w : World) : Prop := w.ownsRow B 5 1 v l.length (Lib.byteCells l) ∧ B ≤ w.heap.size
theorem Row8.on {B : Nat} {l : List UInt8} {v : Value} {w w' : World} (h : Row8 B l v w) (hb : Below w.heap.size w w') : Row8 B l v w' := ⟨own_keptS h.1 hb, Nat.le_trans h.2 hb.size⟩
theorem escK_len (c : UInt8) (k : Nat) (hk : k ≤ 7) : (Q.escK c k).length ≤ 14 := by
  unfold Q.escK
  have : ∀ (l : List (UInt8 × UInt8)), (l.flatMap fun pq => if pq.1 = c then [92, pq.2] else []).length ≤ 2 * l.length := by
    intro l
    induction l with
    | nil => simp
    | cons a l ih => simp only [List.flatMap_cons, List.length_append, List.length_cons]; split <;> (simp only [List.length_cons, List.length_nil]; omega)
  have h := this (Q.P7.take k)
  have h2 : (Q.P7.take k).length ≤ 7 := by rw [List.length_take]; exact Nat.min_le_right _ _
  omega
theorem src6 {w : World} {a b c d e f : UInt8} : Src (w.alloc (.cells #[.int .u8 a.toNat, .int .u8 b.toNat, .int .u8 c.toNat, .int .u8 d.toNat, .int .u8 e.toNat, .int .u8 f.toNat] 5)).drew (some ⟨w.heap.size, 0, none⟩) 6 1 (Lib.byteCells [a, b, c, d, e, f]) := by
  refine ⟨rfl, fun _ => ⟨⟨w.heap.size, 0, none⟩, rfl, fun j u hu => ?_⟩⟩
  rw [add_lit]
  have hb : Blk (w.alloc (.cells #[.int .u8 a.toNat, .int .u8 b.toNat, .int .u8 c.toNat, .int .u8 d.toNat, .int .u8 e.toNat, .int .u8 f.toNat] 5)) w.heap.size 5 #[.int .u8 a.toNat, .int .u8 b.toNat, .int .u8 c.toNat, .int .u8 d.toNat, .int .u8 e.toNat, .int .u8 f.toNat] := Blk.new w _ _
  have h := hb.cell (0 + j)
  rw [Nat.zero_add] at h ⊢
  exact h.trans (by rw [← hu]; simp [Lib.byteCells])
theorem grown_size {w w' : World} {o : Obj} {row : Option Nat} (h : ((w.alloc o).drew).grownBy w' row) : w.heap.size ≤ w'.heap.size := by
  have h1 := h.size
  have h2 : ((w.alloc o).drew).heap.size = w.heap.size + 1 := by show (w.heap.push o).size = _; rw [Array.size_push]
  omega
theorem alloc_size {w : World} {o : Obj} {B : Nat} (h : B ≤ w.heap.size) : B ≤ ((w.alloc o).drew).heap.size := by
  have h2 : ((w.alloc o).drew).heap.size = w.heap.size + 1 := by show (w.heap.push o).size = _; rw [Array.size_push]
  omega
set_option maxRecDepth 100000 in
set_option maxHeartbeats 200000000 in
theorem rquote_any (s : ByteArray) (w : World) (hs : s.size ≤ 1000) :
    Calls Tryz.prog 34 #[.string s] w fun e w' => e = .returned (.string (mkB (Q.quo s.data.toList))) ∧ Below w.heap.size w w' := by
  obtain ⟨i0, hi, hz0, hz1, hz2⟩ := info_parts info5
  go_enter Tryz.func34, Tryz.ntmps34
  go_upto_region 3 with fail
  have hA : Below w.heap.size w (w.alloc (.cells #[.int .u8 34] 5)) := (Below.refl _ _).alloc (Nat.le_refl _) _
  have hR : Row8 w.heap.size [34] (.slice (some ⟨w.heap.size, 0, none⟩) 1 1) (w.alloc (.cells #[.int .u8 34] 5)) := ⟨World.ownsRow_lit (base := w.heap.size) (e := 5) (size := 1) w #[.int .u8 34] 1 (Nat.le_refl _) (by unfold maxLen; omega) rfl, by simp⟩
  have HA := Lib.hid hA
  have HR0 := Lib.hid hR
  clear hA hR
  change Code.wp _ _ _ _ (w.alloc (.cells #[.int .u8 34] 5))
  generalize (w.alloc (.cells #[.int .u8 34] 5)) = W at *
  go_wp2_with fail
  go_loopw [6, 3] (fun x y wr => ∃ j : Nat, j ≤ s.size ∧ x = .int .i64 j ∧ Row8 w.heap.size (34 :: (s.data.toList.take j).flatMap Q.esc) y wr ∧ Below w.heap.size w wr) (fun x _ _ => s.size - (intOf x).toNat)
  case atStart => exact ⟨0, Nat.zero_le _, rfl, by simpa using HR0.out, HA.out⟩
  case round =>
    obtain ⟨j, hj, rfl, hrow, hbel⟩ := hrel
    have HR := Lib.hid hrow
    have HBl := Lib.hid hbel
    have hfl := flat_take_len s.data.toList j s.size (by simp)
    clear hrow hbel
    by_cases hlt : j < s.size
    · have u1 : decide (j < s.size) = true := decide_eq_true hlt
      have u2 : decide ((j : Int) < (s.size : Int)) = true := decide_eq_true (by omega)
      have i1 : (j : Int) < (s.size : Int) := by omega
      have i2 : (0 : Int) ≤ (j : Int) := by omega
      have HTF := Lib.hid (take_flat hlt)
      go_upto_region 7 with fail
      generalize s[j] = ch at *
      have HEK := Lib.hid (Q.esc_K ch)
      go_wp2_with fail
      go_loopw [9, 3, 8] (fun x y z wq => ∃ m : Int, 0 ≤ m ∧ m ≤ 7 ∧ x = .int .i64 m ∧ Row8 w.heap.size ((34 :: (s.data.toList.take j).flatMap Q.esc) ++ Q.escK ch m.toNat) y wq ∧ z = .bool (!(Q.escK ch m.toNat).isEmpty) ∧ Below w.heap.size w wq) (fun x _ _ _ => 7 - (intOf x).toNat)
      case atStart => exact ⟨0, Int.le_refl _, by omega, rfl, by simpa [Q.escK] using HR.out, rfl, HBl.out⟩
      case round =>
        obtain ⟨m, hm0, hm7, rfl, hrow, rfl, hbel⟩ := hrel
        have HQ := Lib.hid hrow
        have HBq := Lib.hid hbel
        clear hrow hbel
        have hek := escK_len ch m.toNat (by omega)
        have hq0 := HQ.out.2
        rcases (by omega : m = 0 ∨ m = 1 ∨ m = 2 ∨ m = 3 ∨ m = 4 ∨ m = 5 ∨ m = 6 ∨ m = 7) with rfl | rfl | rfl | rfl | rfl | rfl | rfl | rfl
        · by_cases hc : ch.toNat = 34
          · have he : ch = 34 := UInt8.toNat_inj.1 hc
            have u3 : ((ch.toNat : Int) == 34) = true := by rw [beq_iff_eq, hc]; rfl
            have u4 : ((ch.toNat : Int) == ((((⟨#[34, 92, 8, 12, 10, 13, 9]⟩ : ByteArray)[0]'(by decide)).toNat : Nat) : Int)) = true := u3
            have HS := Lib.hid (show Q.escK ch 1 = Q.escK ch 0 ++ [92, 34] from by rw [Q.escK_succ ch (k := 0) (p := (34, 34)) rfl, he]; rfl)
            clear hc he
            go_wp2_with (
              at_builtin
              go_loud (refine app_u82 rfl (.tmp 31) (.tmp 35) rfl w.heap.size _ ((34 :: (s.data.toList.take j).flatMap Q.esc) ++ Q.escK ch 0) 92 34 _ _ rfl rfl rfl rfl HQ.out.1 (by simp only [List.length_append, List.length_cons]; simp at hek; omega) HQ.out.2 ?_)
              intro v2 w2 ho2 hb2
              have HO2 := Lib.hid ho2
              have H2 := Lib.hid (hb2 w HBq.out)
              clear ho2 hb2)
            go_roundw
            case rel => exact ⟨1, by omega, by omega, rfl, by rw [show (1 : Int).toNat = 1 from rfl, HS.out, ← List.append_assoc]; exact ⟨HO2.out, H2.out.size⟩, by rw [show (1 : Int).toNat = 1 from rfl, HS.out]; simp, H2.out⟩
            case measure => simp [intOf]
          · have u3 : ((ch.toNat : Int) == 34) = false := by rw [beq_eq_false_iff_ne]; omega
            have u4 : ((ch.toNat : Int) == ((((⟨#[34, 92, 8, 12, 10, 13, 9]⟩ : ByteArray)[0]'(by decide)).toNat : Nat) : Int)) = false := u3
            have HS := Lib.hid (show Q.escK ch 1 = Q.escK ch 0 from by rw [Q.escK_succ ch (k := 0) (p := (34, 34)) rfl, if_neg (fun e => hc (by rw [← e]; rfl)), List.append_nil])
            clear hc
            go_wp2_with fail
            go_roundw
            case rel => exact ⟨1, by omega, by omega, rfl, by rw [show (1 : Int).toNat = 1 from rfl, HS.out]; exact HQ.out, by rw [show (1 : Int).toNat = 1 from rfl, HS.out]; rfl, HBq.out⟩
            case measure => simp [intOf]
        · by_cases hc : ch.toNat = 92
          · have he : ch = 92 := UInt8.toNat_inj.1 hc
            have u3 : ((ch.toNat : Int) == 92) = true := by rw [beq_iff_eq, hc]; rfl
            have u4 : ((ch.toNat : Int) == ((((⟨#[34, 92, 8, 12, 10, 13, 9]⟩ : ByteArray)[1]'(by decide)).toNat : Nat) : Int)) = true := u3
            have HS := Lib.hid (show Q.escK ch 2 = Q.escK ch 1 ++ [92, 92] from by rw [Q.escK_succ ch (k := 1) (p := (92, 92)) rfl, he]; rfl)
            clear hc he
            go_wp2_with (
              at_builtin
              go_loud (refine app_u82 rfl (.tmp 31) (.tmp 35) rfl w.heap.size _ ((34 :: (s.data.toList.take j).flatMap Q.esc) ++ Q.escK ch 1) 92 92 _ _ rfl rfl rfl rfl HQ.out.1 (by simp only [List.length_append, List.length_cons]; simp at hek; omega) HQ.out.2 ?_)
              intro v2 w2 ho2 hb2
              have HO2 := Lib.hid ho2
              have H2 := Lib.hid (hb2 w HBq.out)
              clear ho2 hb2)
            go_roundw
            case rel => exact ⟨2, by omega, by omega, rfl, by rw [show (2 : Int).toNat = 2 from rfl, HS.out, ← List.append_assoc]; exact ⟨HO2.out, H2.out.size⟩, by rw [show (2 : Int).toNat = 2 from rfl, HS.out]; simp, H2.out⟩
            case measure => simp [intOf]
          · have u3 : ((ch.toNat : Int) == 92) = false := by rw [beq_eq_false_iff_ne]; omega
            have u4 : ((ch.toNat : Int) == ((((⟨#[34, 92, 8, 12, 10, 13, 9]⟩ : ByteArray)[1]'(by decide)).toNat : Nat) : Int)) = false := u3
            have HS := Lib.hid (show Q.escK ch 2 = Q.escK ch 1 from by rw [Q.escK_succ ch (k := 1) (p := (92, 92)) rfl, if_neg (fun e => hc (by rw [← e]; rfl)), List.append_nil])
            clear hc
            go_wp2_with fail
            go_roundw
            case rel => exact ⟨2, by omega, by omega, rfl, by rw [show (2 : Int).toNat = 2 from rfl, HS.out]; exact HQ.out, by rw [show (2 : Int).toNat = 2 from rfl, HS.out]; rfl, HBq.out⟩
            case measure => simp [intOf]
        · by_cases hc : ch.toNat = 8
          · have he : ch = 8 := UInt8.toNat_inj.1 hc
            have u3 : ((ch.toNat : Int) == 8) = true := by rw [beq_iff_eq, hc]; rfl
            have u4 : ((ch.toNat : Int) == ((((⟨#[34, 92, 8, 12, 10, 13, 9]⟩ : ByteArray)[2]'(by decide)).toNat : Nat) : Int)) = true := u3
            have HS := Lib.hid (show Q.escK ch 3 = Q.escK ch 2 ++ [92, 98] from by rw [Q.escK_succ ch (k := 2) (p := (8, 98)) rfl, he]; rfl)
            clear hc he
            go_wp2_with (
              at_builtin
              go_loud (refine app_u82 rfl (.tmp 31) (.tmp 35) rfl w.heap.size _ ((34 :: (s.data.toList.take j).flatMap Q.esc) ++ Q.escK ch 2) 92 98 _ _ rfl rfl rfl rfl HQ.out.1 (by simp only [List.length_append, List.length_cons]; simp at hek; omega) HQ.out.2 ?_)
              intro v2 w2 ho2 hb2
              have HO2 := Lib.hid ho2
              have H2 := Lib.hid (hb2 w HBq.out)
              clear ho2 hb2)
            go_roundw
            case rel => exact ⟨3, by omega, by omega, rfl, by rw [show (3 : Int).toNat = 3 from rfl, HS.out, ← List.append_assoc]; exact ⟨HO2.out, H2.out.size⟩, by rw [show (3 : Int).toNat = 3 from rfl, HS.out]; simp, H2.out⟩
            case measure => simp [intOf]
          · have u3 : ((ch.toNat : Int) == 8) = false := by rw [beq_eq_false_iff_ne]; omega
            have u4 : ((ch.toNat : Int) == ((((⟨#[34, 92, 8, 12, 10, 13, 9]⟩ : ByteArray)[2]'(by decide)).toNat : Nat) : Int)) = false := u3
            have HS := Lib.hid (show Q.escK ch 3 = Q.escK ch 2 from by rw [Q.escK_succ ch (k := 2) (p := (8, 98)) rfl, if_neg (fun e => hc (by rw [← e]; rfl)), List.append_nil])
            clear hc
            go_wp2_with fail
            go_roundw
            case rel => exact ⟨3, by omega, by omega, rfl, by rw [show (3 : Int).toNat = 3 from rfl, HS.out]; exact HQ.out, by rw [show (3 : Int).toNat = 3 from rfl, HS.out]; rfl, HBq.out⟩
            case measure => simp [intOf]
        · by_cases hc : ch.toNat = 12
          · have he : ch = 12 := UInt8.toNat_inj.1 hc
            have u3 : ((ch.toNat : Int) == 12) = true := by rw [beq_iff_eq, hc]; rfl
            have u4 : ((ch.toNat : Int) == ((((⟨#[34, 92, 8, 12, 10, 13, 9]⟩ : ByteArray)[3]'(by decide)).toNat : Nat) : Int)) = true := u3
            have HS := Lib.hid (show Q.escK ch 4 = Q.escK ch 3 ++ [92, 102] from by rw [Q.escK_succ ch (k := 3) (p := (12, 102)) rfl, he]; rfl)
            clear hc he
            go_wp2_with (
              at_builtin
              go_loud (refine app_u82 rfl (.tmp 31) (.tmp 35) rfl w.heap.size _ ((34 :: (s.data.toList.take j).flatMap Q.esc) ++ Q.escK ch 3) 92 102 _ _ rfl rfl rfl rfl HQ.out.1 (by simp only [List.length_append, List.length_cons]; simp at hek; omega) HQ.out.2 ?_)
              intro v2 w2 ho2 hb2
              have HO2 := Lib.hid ho2
              have H2 := Lib.hid (hb2 w HBq.out)
              clear ho2 hb2)
            go_roundw
            case rel => exact ⟨4, by omega, by omega, rfl, by rw [show (4 : Int).toNat = 4 from rfl, HS.out, ← List.append_assoc]; exact ⟨HO2.out, H2.out.size⟩, by rw [show (4 : Int).toNat = 4 from rfl, HS.out]; simp, H2.out⟩
            case measure => simp [intOf]
          · have u3 : ((ch.toNat : Int) == 12) = false := by rw [beq_eq_false_iff_ne]; omega
            have u4 : ((ch.toNat : Int) == ((((⟨#[34, 92, 8, 12, 10, 13, 9]⟩ : ByteArray)[3]'(by decide)).toNat : Nat) : Int)) = false := u3
            have HS := Lib.hid (show Q.escK ch 4 = Q.escK ch 3 from by rw [Q.escK_succ ch (k := 3) (p := (12, 102)) rfl, if_neg (fun e => hc (by rw [← e]; rfl)), List.append_nil])
            clear hc
            go_wp2_with fail
            go_roundw
            case rel => exact ⟨4, by omega, by omega, rfl, by rw [show (4 : Int).toNat = 4 from rfl, HS.out]; exact HQ.out, by rw [show (4 : Int).toNat = 4 from rfl, HS.out]; rfl, HBq.out⟩
            case measure => simp [intOf]
        · by_cases hc : ch.toNat = 10
          · have he : ch = 10 := UInt8.toNat_inj.1 hc
            have u3 : ((ch.toNat : Int) == 10) = true := by rw [beq_iff_eq, hc]; rfl
            have u4 : ((ch.toNat : Int) == ((((⟨#[34, 92, 8, 12, 10, 13, 9]⟩ : ByteArray)[4]'(by decide)).toNat : Nat) : Int)) = true := u3
            have HS := Lib.hid (show Q.escK ch 5 = Q.escK ch 4 ++ [92, 110] from by rw [Q.escK_succ ch (k := 4) (p := (10, 110)) rfl, he]; rfl)
            clear hc he
            go_wp2_with (
              at_builtin
              go_loud (refine app_u82 rfl (.tmp 31) (.tmp 35) rfl w.heap.size _ ((34 :: (s.data.toList.take j).flatMap Q.esc) ++ Q.escK ch 4) 92 110 _ _ rfl rfl rfl rfl HQ.out.1 (by simp only [List.length_append, List.length_cons]; simp at hek; omega) HQ.out.2 ?_)
              intro v2 w2 ho2 hb2
              have HO2 := Lib.hid ho2
              have H2 := Lib.hid (hb2 w HBq.out)
              clear ho2 hb2)
            go_roundw
            case rel => exact ⟨5, by omega, by omega, rfl, by rw [show (5 : Int).toNat = 5 from rfl, HS.out, ← List.append_assoc]; exact ⟨HO2.out, H2.out.size⟩, by rw [show (5 : Int).toNat = 5 from rfl, HS.out]; simp, H2.out⟩
            case measure => simp [intOf]
          · have u3 : ((ch.toNat : Int) == 10) = false := by rw [beq_eq_false_iff_ne]; omega
            have u4 : ((ch.toNat : Int) == ((((⟨#[34, 92, 8, 12, 10, 13, 9]⟩ : ByteArray)[4]'(by decide)).toNat : Nat) : Int)) = false := u3
            have HS := Lib.hid (show Q.escK ch 5 = Q.escK ch 4 from by rw [Q.escK_succ ch (k := 4) (p := (10, 110)) rfl, if_neg (fun e => hc (by rw [← e]; rfl)), List.append_nil])
            clear hc
            go_wp2_with fail
            go_roundw
            case rel => exact ⟨5, by omega, by omega, rfl, by rw [show (5 : Int).toNat = 5 from rfl, HS.out]; exact HQ.out, by rw [show (5 : Int).toNat = 5 from rfl, HS.out]; rfl, HBq.out⟩
            case measure => simp [intOf]
        · by_cases hc : ch.toNat = 13
          · have he : ch = 13 := UInt8.toNat_inj.1 hc
            have u3 : ((ch.toNat : Int) == 13) = true := by rw [beq_iff_eq, hc]; rfl
            have u4 : ((ch.toNat : Int) == ((((⟨#[34, 92, 8, 12, 10, 13, 9]⟩ : ByteArray)[5]'(by decide)).toNat : Nat) : Int)) = true := u3
            have HS := Lib.hid (show Q.escK ch 6 = Q.escK ch 5 ++ [92, 114] from by rw [Q.escK_succ ch (k := 5) (p := (13, 114)) rfl, he]; rfl)
            clear hc he
            go_wp2_with (
              at_builtin
              go_loud (refine app_u82 rfl (.tmp 31) (.tmp 35) rfl w.heap.size _ ((34 :: (s.data.toList.take j).flatMap Q.esc) ++ Q.escK ch 5) 92 114 _ _ rfl rfl rfl rfl HQ.out.1 (by simp only [List.length_append, List.length_cons]; simp at hek; omega) HQ.out.2 ?_)
              intro v2 w2 ho2 hb2
              have HO2 := Lib.hid ho2
              have H2 := Lib.hid (hb2 w HBq.out)
              clear ho2 hb2)
            go_roundw
            case rel => exact ⟨6, by omega, by omega, rfl, by rw [show (6 : Int).toNat = 6 from rfl, HS.out, ← List.append_assoc]; exact ⟨HO2.out, H2.out.size⟩, by rw [show (6 : Int).toNat = 6 from rfl, HS.out]; simp, H2.out⟩
            case measure => simp [intOf]
          · have u3 : ((ch.toNat : Int) == 13) = false := by rw [beq_eq_false_iff_ne]; omega
            have u4 : ((ch.toNat : Int) == ((((⟨#[34, 92, 8, 12, 10, 13, 9]⟩ : ByteArray)[5]'(by decide)).toNat : Nat) : Int)) = false := u3
            have HS := Lib.hid (show Q.escK ch 6 = Q.escK ch 5 from by rw [Q.escK_succ ch (k := 5) (p := (13, 114)) rfl, if_neg (fun e => hc (by rw [← e]; rfl)), List.append_nil])
            clear hc
            go_wp2_with fail
            go_roundw
            case rel => exact ⟨6, by omega, by omega, rfl, by rw [show (6 : Int).toNat = 6 from rfl, HS.out]; exact HQ.out, by rw [show (6 : Int).toNat = 6 from rfl, HS.out]; rfl, HBq.out⟩
            case measure => simp [intOf]
        · by_cases hc : ch.toNat = 9
          · have he : ch = 9 := UInt8.toNat_inj.1 hc
            have u3 : ((ch.toNat : Int) == 9) = true := by rw [beq_iff_eq, hc]; rfl
            have u4 : ((ch.toNat : Int) == ((((⟨#[34, 92, 8, 12, 10, 13, 9]⟩ : ByteArray)[6]'(by decide)).toNat : Nat) : Int)) = true := u3
            have HS := Lib.hid (show Q.escK ch 7 = Q.escK ch 6 ++ [92, 116] from by rw [Q.escK_succ ch (k := 6) (p := (9, 116)) rfl, he]; rfl)
            clear hc he
            go_wp2_with (
              at_builtin
              go_loud (refine app_u82 rfl (.tmp 31) (.tmp 35) rfl w.heap.size _ ((34 :: (s.data.toList.take j).flatMap Q.esc) ++ Q.escK ch 6) 92 116 _ _ rfl rfl rfl rfl HQ.out.1 (by simp only [List.length_append, List.length_cons]; simp at hek; omega) HQ.out.2 ?_)
              intro v2 w2 ho2 hb2
              have HO2 := Lib.hid ho2
              have H2 := Lib.hid (hb2 w HBq.out)
              clear ho2 hb2)
            go_roundw
            case rel => exact ⟨7, by omega, by omega, rfl, by rw [show (7 : Int).toNat = 7 from rfl, HS.out, ← List.append_assoc]; exact ⟨HO2.out, H2.out.size⟩, by rw [show (7 : Int).toNat = 7 from rfl, HS.out]; simp, H2.out⟩
            case measure => simp [intOf]
          · have u3 : ((ch.toNat : Int) == 9) = false := by rw [beq_eq_false_iff_ne]; omega
            have u4 : ((ch.toNat : Int) == ((((⟨#[34, 92, 8, 12, 10, 13, 9]⟩ : ByteArray)[6]'(by decide)).toNat : Nat) : Int)) = false := u3
            have HS := Lib.hid (show Q.escK ch 7 = Q.escK ch 6 from by rw [Q.escK_succ ch (k := 6) (p := (9, 116)) rfl, if_neg (fun e => hc (by rw [← e]; rfl)), List.append_nil])
            clear hc
            go_wp2_with fail
            go_roundw
            case rel => exact ⟨7, by omega, by omega, rfl, by rw [show (7 : Int).toNat = 7 from rfl, HS.out]; exact HQ.out, by rw [show (7 : Int).toNat = 7 from rfl, HS.out]; rfl, HBq.out⟩
            case measure => simp [intOf]
        · have h7 : (7 : Int).toNat = 7 := rfl
          rw [h7] at HQ hek ⊢
          clear h7
          obtain ⟨db, hdb⟩ : ∃ db, (!(Q.escK ch 7).isEmpty) = db := ⟨_, rfl⟩
          rw [hdb]
          cases db with
          | true =>
            have hesc := Lib.hid (show Q.esc ch = Q.escK ch 7 from by rw [HEK.out, if_neg (by intro e; rw [e] at hdb; simp at hdb)])
            clear hdb HEK
            go_wp2_with fail
            go_roundw
            case rel => exact ⟨j + 1, hlt, by go_num, by rw [HTF.out, hesc.out, ← List.cons_append]; exact HQ.out, HBq.out⟩
            case measure => simp [intOf]; omega
          | false =>
            have h7 : Q.escK ch 7 = [] := by simpa using hdb
            have HQ2 := Lib.hid (show Row8 w.heap.size (34 :: (s.data.toList.take j).flatMap Q.esc) _ wr from by have := HQ.out; rw [h7, List.append_nil] at this; exact this)
            clear HQ
            by_cases h32 : ch.toNat < 32
            · have he : ∀ d : UInt8, ch.toNat = d.toNat → ch = d := fun d h => UInt8.toNat_inj.1 h
              have hn7 : ch.toNat ≠ 8 ∧ ch.toNat ≠ 9 ∧ ch.toNat ≠ 10 ∧ ch.toNat ≠ 12 ∧ ch.toNat ≠ 13 := by
                refine ⟨?_, ?_, ?_, ?_, ?_⟩ <;> intro e
                · cases he 8 e; revert h7; decide
                · cases he 9 e; revert h7; decide
                · cases he 10 e; revert h7; decide
                · cases he 12 e; revert h7; decide
                · cases he 13 e; revert h7; decide
              obtain ⟨dh, hdh⟩ : ∃ dh : Nat, dh = ch.toNat / 16 := ⟨_, rfl⟩
              obtain ⟨dl, hdl⟩ : ∃ dl : Nat, dl = ch.toNat % 16 := ⟨_, rfl⟩
              have dh16 : dh < 16 := by omega
              have dl16 : dl < 16 := by omega
              have hesc0 : Q.esc ch = [92, 117, 48, 48, (⟨#[48, 49, 50, 51, 52, 53, 54, 55, 56, 57, 97, 98, 99, 100, 101, 102]⟩ : ByteArray)[dh]'(dig_lt dh16), (⟨#[48, 49, 50, 51, 52, 53, 54, 55, 56, 57, 97, 98, 99, 100, 101, 102]⟩ : ByteArray)[dl]'(dig_lt dl16)] := by
                have := esc_hex ⟨ch.toNat, h32⟩ hn7.1 hn7.2.1 hn7.2.2.1 hn7.2.2.2.1 hn7.2.2.2.2
                rw [dig_at, dig_at, hdh, hdl]
                rw [show ch.toNat.toUInt8 = ch by simp] at this
                exact this
              have hesc := Lib.hid hesc0
              have u1 : decide ((ch.toNat : Int) < 32) = true := decide_eq_true (by omega)
              have u2 : decide (ch.toNat < 32) = true := decide_eq_true (by omega)
              have e1 : (ch.toNat : Int).tdiv 16 = (dh : Int) := by rw [Int.tdiv_eq_ediv_of_nonneg (by omega)]; omega
              have e2 : (ch.toNat : Int).tmod 16 = (dl : Int) := by rw [Int.tmod_eq_emod_of_nonneg (by omega)]; omega
              have e1' : (ch.toNat : Int) / 16 = (dh : Int) := by omega
              have e2' : (ch.toNat : Int) % 16 = (dl : Int) := by omega
              have q1 : IntKind.u8.wrap (dh : Int) = (dh : Int) := IntWalk.u8_in _ (by omega)
              have q2 : IntKind.u8.wrap (dl : Int) = (dl : Int) := IntWalk.u8_in _ (by omega)
              have b1 : (dh : Int) < 16 := by omega
              have b2 : (dl : Int) < 16 := by omega
              have b3 : (0 : Int) ≤ (dh : Int) := by omega
              have b4 : (0 : Int) ≤ (dl : Int) := by omega
              clear h7 h32 hn7 HEK hdb hesc0 hdh hdl he
              obtain ⟨N, hN⟩ : ∃ N, ((34 :: (s.data.toList.take j).flatMap Q.esc) ++ [92, 117, 48, 48, (⟨#[48, 49, 50, 51, 52, 53, 54, 55, 56, 57, 97, 98, 99, 100, 101, 102]⟩ : ByteArray)[dh]'(dig_lt dh16), (⟨#[48, 49, 50, 51, 52, 53, 54, 55, 56, 57, 97, 98, 99, 100, 101, 102]⟩ : ByteArray)[dl]'(dig_lt dl16)]).length = N := ⟨_, rfl⟩
              have HN := Lib.hid hN
              clear hN
              go_wp2_with fail
              refine wp_region_held_drew (S := fun _ => True) (by kernel_rfl) ?_ (fun hHeld => ?_)
              · trivial
              refine wpAnyH_take (i := 0) (v := ?_) rfl (by kernel_rfl) (by kernel_rfl) (by kernel_rfl) (fun _ _ _ h => h) (Or.inl ⟨by rfl, ?_⟩) (by assumption) ?_
              rotate_left
              · intro wq hSw
                try dsimp only at hSw
                go_simp
                try (with_reducible rfl)
              try simp only [Act.put, List.getElem_toArray, List.getElem_cons_zero, List.setIfInBounds_toArray, List.set_cons_zero, List.set_cons_succ]
              refine wpAnyH_take (i := 1) (v := ?_) rfl (by kernel_rfl) (by kernel_rfl) (by kernel_rfl) (fun _ _ _ h => h) (Or.inl ⟨by rfl, ?_⟩) (by assumption) ?_
              rotate_left
              · intro wq hSw
                try dsimp only at hSw
                go_simp
                try (with_reducible rfl)
              try simp only [Act.put, List.getElem_toArray, List.getElem_cons_succ, List.getElem_cons_zero, List.setIfInBounds_toArray, List.set_cons_zero, List.set_cons_succ]
              refine wpAnyH_take (i := 2) (v := ?_) rfl (by kernel_rfl) (by kernel_rfl) (by kernel_rfl) (fun _ _ _ h => h) (Or.inl ⟨by rfl, ?_⟩) (by assumption) ?_
              rotate_left
              · intro wq hSw
                try dsimp only at hSw
                go_simp
                try (with_reducible rfl)
              try simp only [Act.put, List.getElem_toArray, List.getElem_cons_succ, List.getElem_cons_zero, List.setIfInBounds_toArray, List.set_cons_zero, List.set_cons_succ]
              refine wpAnyH_take (i := 3) (v := ?_) rfl (by kernel_rfl) (by kernel_rfl) (by kernel_rfl) (fun _ _ _ h => h) (Or.inl ⟨by rfl, ?_⟩) (by assumption) ?_
              rotate_left
              · intro wq hSw
                try dsimp only at hSw
                go_simp
                try (with_reducible rfl)
              try simp only [Act.put, List.getElem_toArray, List.getElem_cons_succ, List.getElem_cons_zero, List.setIfInBounds_toArray, List.set_cons_zero, List.set_cons_succ]
              refine wpAnyH_take (i := 4) (v := ?_) rfl (by kernel_rfl) (by kernel_rfl) (by kernel_rfl) (fun _ _ _ h => h) (Or.inl ⟨by rfl, ?_⟩) (by assumption) ?_
              rotate_left
              · intro wq hSw
                try dsimp only at hSw
                go_simp
                try (with_reducible rfl)
              try simp only [Act.put, List.getElem_toArray, List.getElem_cons_succ, List.getElem_cons_zero, List.setIfInBounds_toArray, List.set_cons_zero, List.set_cons_succ]
              refine wpAnyH_take (i := 5) (v := ?_) rfl (by kernel_rfl) (by kernel_rfl) (by kernel_rfl) (fun _ _ _ h => h) (Or.inl ⟨by rfl, ?_⟩) (by assumption) ?_
              rotate_left
              · intro wq hSw
                try dsimp only at hSw
                go_simp
                try (with_reducible rfl)
              try simp only [Act.put, List.getElem_toArray, List.getElem_cons_succ, List.getElem_cons_zero, List.setIfInBounds_toArray, List.set_cons_zero, List.set_cons_succ]
              refine wpAnyH_take (i := 6) (v := ?_) rfl (by kernel_rfl) (by kernel_rfl) (by kernel_rfl) (fun _ _ _ h => h) (Or.inl ⟨by rfl, ?_⟩) (by assumption) ?_
              rotate_left
              · intro wq hSw
                try dsimp only at hSw
                go_simp
                try (with_reducible rfl)
              try simp only [Act.put, List.getElem_toArray, List.getElem_cons_succ, List.getElem_cons_zero, List.setIfInBounds_toArray, List.set_cons_zero, List.set_cons_succ]
              refine wpAnyH_ready (rs := [7]) (by kernel_rfl) (by simp) ?_
              refine AllReadyH.cons rfl (fun K0 hK => ?_) ?_
              rotate_left
              · exact AllReadyH.nil
              go_simp
              refine hK.out _ _ ?_ (fun hHeld => ?_)
              · trivial
              clear hK K0
              try simp only [Act.put, List.getElem_toArray, List.getElem_cons_succ, List.getElem_cons_zero, List.setIfInBounds_toArray, List.set_cons_zero, List.set_cons_succ]
              refine wpAnyH_ready (rs := [8]) (by kernel_rfl) (by simp) ?_
              refine AllReadyH.cons rfl (fun K0 hK => ?_) ?_
              rotate_left
              · exact AllReadyH.nil
              refine app_step rfl (.tmp 43) (.tmp 50) 72 rfl w.heap.size 5 i0 (.int .u8 0) 1 1 Tryz.underlying72 hi hz0 hz1 hz2 rfl (by decide) _ _ _ rfl (HQ2.out.1.alloc _).drew (some ⟨wr.heap.size, 0, none⟩) 6 6 (Lib.byteCells [92, 117, 48, 48, (⟨#[48, 49, 50, 51, 52, 53, 54, 55, 56, 57, 97, 98, 99, 100, 101, 102]⟩ : ByteArray)[dh]'(dig_lt dh16), (⟨#[48, 49, 50, 51, 52, 53, 54, 55, 56, 57, 97, 98, 99, 100, 101, 102]⟩ : ByteArray)[dl]'(dig_lt dl16)]) rfl (src6 (a := 92) (b := 117) (c := 48) (d := 48) (e := (⟨#[48, 49, 50, 51, 52, 53, 54, 55, 56, 57, 97, 98, 99, 100, 101, 102]⟩ : ByteArray)[dh]'(dig_lt dh16)) (f := (⟨#[48, 49, 50, 51, 52, 53, 54, 55, 56, 57, 97, 98, 99, 100, 101, 102]⟩ : ByteArray)[dl]'(dig_lt dl16))) (by intro u hu; simp [Lib.byteCells] at hu; rcases hu with rfl | rfl | rfl | rfl | rfl | rfl <;> rfl) (by unfold maxLen; simp only [List.length_cons]; omega) (by simp only [List.length_cons]; omega) (alloc_size HQ2.out.2) N (by have := HN.out; simp only [List.length_append, List.length_cons, List.length_nil] at this ⊢; omega) ?_
              intro B5 d5 w5 ho5 hg5 hat5
              have HO5 := Lib.hid (show Row8 w.heap.size ((34 :: (s.data.toList.take j).flatMap Q.esc) ++ [92, 117, 48, 48, (⟨#[48, 49, 50, 51, 52, 53, 54, 55, 56, 57, 97, 98, 99, 100, 101, 102]⟩ : ByteArray)[dh]'(dig_lt dh16), (⟨#[48, 49, 50, 51, 52, 53, 54, 55, 56, 57, 97, 98, 99, 100, 101, 102]⟩ : ByteArray)[dl]'(dig_lt dl16)]) (.slice B5 N d5) w5 from ⟨by rw [Lib.byteCells_append, HN.out]; exact ho5, Nat.le_trans HQ2.out.2 (grown_size hg5)⟩)
              have HB5 := Lib.hid (((HBq.out.alloc hq0 _).drew).grown hg5 (alloc_size HQ2.out.2) (fun k hk => (HQ2.out.1.lt k hk).1))
              clear ho5 hg5 hat5
              refine hK.out _ _ ?_ (fun hHeld => ?_)
              · trivial
              clear hK K0
              try simp only [Act.put, List.getElem_toArray, List.getElem_cons_succ, List.getElem_cons_zero, List.setIfInBounds_toArray, List.set_cons_zero, List.set_cons_succ]
              refine wpAnyH_take (i := 9) (v := ?_) rfl (by kernel_rfl) (by kernel_rfl) (by kernel_rfl) (fun _ _ _ h => h) (Or.inl ⟨by rfl, ?_⟩) (by assumption) ?_
              rotate_left
              · intro wq hSw
                try dsimp only at hSw
                go_simp
                try (with_reducible rfl)
              try simp only [Act.put, List.getElem_toArray, List.getElem_cons_succ, List.getElem_cons_zero, List.setIfInBounds_toArray, List.set_cons_zero, List.set_cons_succ]
              refine wpAnyH_done (by kernel_rfl) ?_ _
              go_wp2_with fail
              go_roundw
              case rel => exact ⟨j + 1, hlt, by go_num, by rw [HTF.out, hesc.out, ← List.cons_append]; exact HO5.out, HB5.out⟩
              case measure => simp [intOf]; omega
            · have hesc := Lib.hid (show Q.esc ch = [ch] from by rw [HEK.out, if_pos h7, if_neg (fun (e : ch < 32) => h32 e)])
              have v1 : decide ((ch.toNat : Int) < 32) = false := decide_eq_false (by omega)
              have v2 : decide (ch.toNat < 32) = false := decide_eq_false h32
              clear h7 hdb HEK h32
              go_wp2_with (
                at_builtin
                go_loud (refine app_u8 rfl (.tmp 54) (.tmp 56) rfl w.heap.size _ (34 :: (s.data.toList.take j).flatMap Q.esc) ch _ rfl rfl rfl HQ2.out.1 (by simp only [List.length_cons]; omega) HQ2.out.2 ?_)
                intro v2 w2 ho2 hb2
                have HO2 := Lib.hid ho2
                have H2 := Lib.hid (hb2 w HBq.out)
                clear ho2 hb2)
              go_roundw
              case rel => exact ⟨j + 1, hlt, by go_num, by rw [HTF.out, hesc.out, ← List.cons_append]; exact ⟨HO2.out, H2.out.size⟩, H2.out⟩
              case measure => simp [intOf]; omega
    · have u1 : decide (j < s.size) = false := decide_eq_false hlt
      have u2 : decide ((j : Int) < (s.size : Int)) = false := decide_eq_false (by omega)
      have hfull : s.data.toList.take j = s.data.toList := List.take_of_length_le (by simp; omega)
      have HF := Lib.hid (show Row8 w.heap.size (34 :: s.data.toList.flatMap Q.esc) _ _ from hfull ▸ HR.out)
      rw [hfull] at hfl
      clear hfull HR
      go_wp2_with (
        at_builtin
        go_loud (refine app_u8 rfl (.tmp 58) (.tmp 59) rfl w.heap.size _ (34 :: s.data.toList.flatMap Q.esc) 34 _ rfl rfl rfl HF.out.1 (by simp only [List.length_cons]; omega) HF.out.2 ?_)
        intro v2 w2 ho2 hb2
        have HO2 := Lib.hid ho2
        have H2 := Lib.hid (hb2 w HBl.out)
        have hcv := conv_owned HO2.out
        clear ho2 hb2)
      go_ret
      exact ⟨rfl, H2.out⟩
end Go.Proofs.YtfiahpeajccinaaGreatDoor
