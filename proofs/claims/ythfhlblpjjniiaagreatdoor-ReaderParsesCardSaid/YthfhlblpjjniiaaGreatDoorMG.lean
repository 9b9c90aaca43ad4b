/- Values in memory: words for the contracts. Rows of values, and values whose rows are their own. Copies: contracts of slices.Clone at texts, copies and Copy. Contracts of glyph.Points, and of the reference's Points and Valid. Texts, and rows of them: contracts of both validity tests, areTexts and areRising. Sorted texts: contracts of slices.Sort and slices.BinarySearch at texts. Object: contract. -/
import Derived.Test.YthfhlblpjjniiaaGreatDoorMA
import Derived.Test.YthfhlblpjjniiaaGreatDoorMB
import Derived.WalkKit
import Derived.WalkSpells
import Derived.Deep.QuietTactic
import Derived.BigQuiet
import Derived.Below
import Derived.OwnWalk
import Derived.Laws.AppendOwn
import Derived.Laws.MakeOwn
import Derived.OneCell
import Derived.LoopTactic
import Derived.Deep.RegionHeld3
import Derived.RegionTactic
import Derived.Lib.Hide
import Derived.Test.YthfhlblpjjniiaaGreatDoorShelf3
import Derived.Test.YthfhlblpjjniiaaGreatDoorME
import Derived.WalkLawsBesides
import Derived.Sort.Walk0
namespace Go.Proofs.YthfhlblpjjniiaaGreatDoor
open Go.RowKit
def SReads (w : World) (S : Nat → Prop) (A : Option Addr) (l : List ByteArray) : Prop :=
 l ≠ [] → ∃ b o, A = some ⟨b, o, none⟩ ∧ S b ∧ ∀ i s, l[i]? = some s → w.cell? ⟨b, o + i, none⟩ = some (.string s)
theorem SReads.keep {w w' : World} {S : Nat → Prop} {A : Option Addr} {l : List ByteArray} (h : SReads w S A l) (hk : Keeps S w w') : SReads w' S A l := by
 intro hn
 obtain ⟨b, o, e, hs, hc⟩ := h hn
 exact ⟨b, o, e, hs, fun i s hi => (hk.cell hs _).trans (hc i s hi)⟩
theorem SReads.wide {w : World} {S S' : Nat → Prop} {A : Option Addr} {l : List ByteArray} (h : SReads w S A l) (hs : ∀ b, S b → S' b) : SReads w S' A l := by
 intro hn
 obtain ⟨b, o, e, h1, hc⟩ := h hn
 exact ⟨b, o, e, hs b h1, hc⟩
theorem SReads.none_ (w : World) (S : Nat → Prop) (A : Option Addr) : SReads w S A [] := fun h => absurd rfl h
def T.agg (t : T) (A : Option Addr) (c : Nat) (A' : Option Addr) (c' : Nat) : Value :=
 .agg #[.int .i64 t.kind, .bool t.tr, .int .i64 t.num, .string t.str, .slice A t.items.length c, .slice A' t.keys.length c']
def Six (w : World) (b o : Nat) (t : T) (A : Option Addr) (c : Nat) (A' : Option Addr) (c' : Nat) : Prop :=
 w.cell? ⟨b, o, none⟩ = some (.int .i64 t.kind) ∧ w.cell? ⟨b, o + 1, none⟩ = some (.bool t.tr) ∧ w.cell? ⟨b, o + 2, none⟩ = some (.int .i64 t.num) ∧
 w.cell? ⟨b, o + 3, none⟩ = some (.string t.str) ∧ w.cell? ⟨b, o + 4, none⟩ = some (.slice A t.items.length c) ∧ w.cell? ⟨b, o + 5, none⟩ = some (.slice A' t.keys.length c')
inductive TV (w : World) (S : Nat → Prop) : T → Option Addr → Nat → Option Addr → Nat → Prop
 | mk (t : T) (A : Option Addr) (c : Nat) (A' : Option Addr) (c' : Nat) (hA : Nat → Option Addr) (hc : Nat → Nat) (hA' : Nat → Option Addr) (hc' : Nat → Nat)
  (h1 : t.items.length ≤ c) (h2 : t.keys.length ≤ c')
  (hrow : t.items ≠ [] → ∃ b o, A = some ⟨b, o, none⟩ ∧ S b ∧ ∀ i x, t.items[i]? = some x → Six w b (o + i * 6) x (hA i) (hc i) (hA' i) (hc' i))
  (hkey : SReads w S A' t.keys)
  (hin : ∀ i x, t.items[i]? = some x → TV w S x (hA i) (hc i) (hA' i) (hc' i)) : TV w S t A c A' c'
theorem TV.lens {w : World} {S : Nat → Prop} {t : T} {A : Option Addr} {c : Nat} {A' : Option Addr} {c' : Nat} (h : TV w S t A c A' c') : t.items.length ≤ c ∧ t.keys.length ≤ c' := by
 cases h with | mk _ _ _ _ _ _ _ _ _ h1 h2 => exact ⟨h1, h2⟩
theorem TV.keys {w : World} {S : Nat → Prop} {t : T} {A : Option Addr} {c : Nat} {A' : Option Addr} {c' : Nat} (h : TV w S t A c A' c') : SReads w S A' t.keys := by
 cases h with | mk _ _ _ _ _ _ _ _ _ _ _ _ hk => exact hk
theorem TV.row {w : World} {S : Nat → Prop} {t : T} {A : Option Addr} {c : Nat} {A' : Option Addr} {c' : Nat} (h : TV w S t A c A' c') (hn : t.items ≠ []) :
 ∃ b o, A = some ⟨b, o, none⟩ ∧ S b ∧ ∀ i x, t.items[i]? = some x → ∃ B d B' d', Six w b (o + i * 6) x B d B' d' ∧ TV w S x B d B' d' := by
 cases h with
 | mk _ _ _ _ _ hA hc hA' hc' _ _ hrow _ hin =>
  obtain ⟨b, o, e, hs, h6⟩ := hrow hn
  exact ⟨b, o, e, hs, fun i x hx => ⟨_, _, _, _, h6 i x hx, hin i x hx⟩⟩
theorem TV.at_ {w : World} {S : Nat → Prop} {t : T} {A : Option Addr} {c : Nat} {A' : Option Addr} {c' : Nat} (h : TV w S t A c A' c') {k : Nat} (hk : k < t.items.length) :
 ∃ b o x B d B' d', A = some ⟨b, o, none⟩ ∧ S b ∧ t.items[k]? = some x ∧ Six w b (o + k * 6) x B d B' d' ∧ TV w S x B d B' d' := by
 obtain ⟨b, o, e, hs, hi⟩ := h.row (by intro hn; rw [hn] at hk; simp at hk)
 obtain ⟨B, d, B', d', h6, ht⟩ := hi k _ (List.getElem?_eq_getElem hk)
 exact ⟨b, o, _, B, d, B', d', e, hs, List.getElem?_eq_getElem hk, h6, ht⟩
theorem TV.of {w : World} {S : Nat → Prop} {t : T} {A : Option Addr} {c : Nat} {A' : Option Addr} {c' : Nat} (h1 : t.items.length ≤ c) (h2 : t.keys.length ≤ c')
 (hrow : t.items ≠ [] → ∃ b o, A = some ⟨b, o, none⟩ ∧ S b ∧ ∀ i x, t.items[i]? = some x → ∃ B d B' d', Six w b (o + i * 6) x B d B' d' ∧ TV w S x B d B' d')
 (hkey : SReads w S A' t.keys) : TV w S t A c A' c' := by
 by_cases hn : t.items = []
 · exact .mk t A c A' c' (fun _ => none) (fun _ => 0) (fun _ => none) (fun _ => 0) h1 h2 (fun h => absurd hn h) hkey (fun i x hx => by rw [hn] at hx; simp at hx)
 ·
  obtain ⟨b, o, e, hs, hi⟩ := hrow hn
  have : ∀ i, ∃ q : Option Addr × Nat × Option Addr × Nat, ∀ x, t.items[i]? = some x → Six w b (o + i * 6) x q.1 q.2.1 q.2.2.1 q.2.2.2 ∧ TV w S x q.1 q.2.1 q.2.2.1 q.2.2.2 := by
   intro i
   cases hx : t.items[i]? with
   | none => exact ⟨(none, 0, none, 0), fun x h => by cases h⟩
   | some x =>
    obtain ⟨B, d, B', d', h6⟩ := hi i x hx
    exact ⟨(B, d, B', d'), fun y h => by injection h with h; subst h; exact h6⟩
  obtain ⟨q, hq⟩ := Classical.axiomOfChoice this
  exact .mk t A c A' c' (fun i => (q i).1) (fun i => (q i).2.1) (fun i => (q i).2.2.1) (fun i => (q i).2.2.2) h1 h2
   (fun _ => ⟨b, o, e, hs, fun i x hx => (hq i x hx).1⟩) hkey (fun i x hx => (hq i x hx).2)
theorem Six.keep {w w' : World} {S : Nat → Prop} {b o : Nat} {t : T} {A : Option Addr} {c : Nat} {A' : Option Addr} {c' : Nat} (h : Six w b o t A c A' c') (hs : S b) (hk : Keeps S w w') : Six w' b o t A c A' c' := by
 obtain ⟨a0, a1, a2, a3, a4, a5⟩ := h
 exact ⟨(hk.cell hs _).trans a0, (hk.cell hs _).trans a1, (hk.cell hs _).trans a2, (hk.cell hs _).trans a3, (hk.cell hs _).trans a4, (hk.cell hs _).trans a5⟩
theorem TV.keep {w w' : World} {S : Nat → Prop} {t : T} {A : Option Addr} {c : Nat} {A' : Option Addr} {c' : Nat} (h : TV w S t A c A' c') (hk : Keeps S w w') : TV w' S t A c A' c' := by
 induction h with
 | mk t A c A' c' hA hc hA' hc' h1 h2 hrow hkey hin ih =>
  refine .mk t A c A' c' hA hc hA' hc' h1 h2 (fun hn => ?_) (hkey.keep hk) ih
  obtain ⟨b, o, e, hs, h6⟩ := hrow hn
  exact ⟨b, o, e, hs, fun i x hx => (h6 i x hx).keep hs hk⟩
theorem TV.wide {w : World} {S S' : Nat → Prop} {t : T} {A : Option Addr} {c : Nat} {A' : Option Addr} {c' : Nat} (h : TV w S t A c A' c') (hs : ∀ b, S b → S' b) : TV w S' t A c A' c' := by
 induction h with
 | mk t A c A' c' hA hc hA' hc' h1 h2 hrow hkey hin ih =>
  refine .mk t A c A' c' hA hc hA' hc' h1 h2 (fun hn => ?_) (hkey.wide hs) ih
  obtain ⟨b, o, e, h0, h6⟩ := hrow hn
  exact ⟨b, o, e, hs b h0, h6⟩
theorem TV.under {B : Nat} {w w' : World} {t : T} {A : Option Addr} {c : Nat} {A' : Option Addr} {c' : Nat} (h : TV w (· < B) t A c A' c') (hb : Below B w w') : TV w' (· < B) t A c A' c' := h.keep (.of_below hb)
theorem TV.on {w w' : World} {t : T} {A : Option Addr} {c : Nat} {A' : Option Addr} {c' : Nat} (h : TV w (· < w.heap.size) t A c A' c') (hb : Below w.heap.size w w') : TV w' (· < w'.heap.size) t A c A' c' :=
 (h.under hb).wide fun _ hx => Nat.lt_of_lt_of_le hx hb.size
theorem SReads.below {B : Nat} {w w' : World} {A : Option Addr} {l : List ByteArray} (h : SReads w (· < B) A l) (hb : Below B w w') : SReads w' (· < B) A l := h.keep (.of_below hb)
theorem SReads.on {w w' : World} {A : Option Addr} {l : List ByteArray} (h : SReads w (· < w.heap.size) A l) (hb : Below w.heap.size w w') : SReads w' (· < w'.heap.size) A l :=
 (h.below hb).wide fun _ hx => Nat.lt_of_lt_of_le hx hb.size
def T.cs (t : T) (A : Option Addr) (c : Nat) (A' : Option Addr) (c' : Nat) : Array Value :=
 #[.int .i64 t.kind, .bool t.tr, .int .i64 t.num, .string t.str, .slice A t.items.length c, .slice A' t.keys.length c']
theorem six_put {w : World} {g : Nat} {ty : TypeId} {cs : Array Value} (h : Blk w g ty cs) {o : Nat} (ho : o + 6 ≤ cs.size) (t : T) (A : Option Addr) (c : Nat) (A' : Option Addr) (c' : Nat) :
 ∃ cs', Blk ((((((w.setCell ⟨g, o, none⟩ (.int .i64 t.kind)).setCell ⟨g, o + 1, none⟩ (.bool t.tr)).setCell ⟨g, o + 2, none⟩ (.int .i64 t.num)).setCell ⟨g, o + 3, none⟩ (.string t.str)).setCell ⟨g, o + 4, none⟩ (.slice A t.items.length c)).setCell ⟨g, o + 5, none⟩ (.slice A' t.keys.length c')) g ty cs' ∧ cs'.size = cs.size ∧
  Six ((((((w.setCell ⟨g, o, none⟩ (.int .i64 t.kind)).setCell ⟨g, o + 1, none⟩ (.bool t.tr)).setCell ⟨g, o + 2, none⟩ (.int .i64 t.num)).setCell ⟨g, o + 3, none⟩ (.string t.str)).setCell ⟨g, o + 4, none⟩ (.slice A t.items.length c)).setCell ⟨g, o + 5, none⟩ (.slice A' t.keys.length c')) g o t A c A' c' ∧
  ∀ j, j < o ∨ o + 6 ≤ j → cs'[j]? = cs[j]? := by
 have hb := ((((((h.set_ o (.int .i64 t.kind)).set_ (o + 1) (.bool t.tr)).set_ (o + 2) (.int .i64 t.num)).set_ (o + 3) (.string t.str)).set_ (o + 4) (.slice A t.items.length c)).set_ (o + 5) (.slice A' t.keys.length c'))
 refine ⟨_, hb, by simp, ⟨?_, ?_, ?_, ?_, ?_, ?_⟩, fun j hj => ?_⟩
 all_goals first
  | (rw [hb.cell]; simp (disch := ((try simp only [Array.size_setIfInBounds]); omega)) only [Array.getElem?_setIfInBounds_ne, Array.getElem?_setIfInBounds_self_of_lt]; done)
  | (simp (disch := ((try simp only [Array.size_setIfInBounds]); omega)) only [Array.getElem?_setIfInBounds_ne])
theorem set_six {cs : Array Value} (h : cs.size = 6) {v0 v1 v2 v3 v4 v5 : Value} : (((((cs.setIfInBounds 0 v0).setIfInBounds 1 v1).setIfInBounds 2 v2).setIfInBounds 3 v3).setIfInBounds 4 v4).setIfInBounds 5 v5 = #[v0, v1, v2, v3, v4, v5] := by
 apply Array.ext_getElem?
 intro i
 rcases Nat.lt_or_ge i 6 with h3 | h3
 · rcases (by omega : i = 0 ∨ i = 1 ∨ i = 2 ∨ i = 3 ∨ i = 4 ∨ i = 5) with rfl | rfl | rfl | rfl | rfl | rfl <;>
  (simp (disch := ((try simp only [Array.size_setIfInBounds]); omega)) only [Array.getElem?_setIfInBounds_ne, Array.getElem?_setIfInBounds_self_of_lt]; rfl)
 · rw [Array.getElem?_eq_none (by simpa [h] using h3), Array.getElem?_eq_none (by simpa using h3)]
theorem res_put {w : World} {g : Nat} {ty : TypeId} {cs : Array Value} (h : Blk w g ty cs) (ho : cs.size = 6) (t : T) (A : Option Addr) (c : Nat) (A' : Option Addr) (c' : Nat) :
 Blk ((((((w.setCell ⟨g, 0, none⟩ (.int .i64 t.kind)).setCell ⟨g, 1, none⟩ (.bool t.tr)).setCell ⟨g, 2, none⟩ (.int .i64 t.num)).setCell ⟨g, 3, none⟩ (.string t.str)).setCell ⟨g, 4, none⟩ (.slice A t.items.length c)).setCell ⟨g, 5, none⟩ (.slice A' t.keys.length c')) g ty (t.cs A c A' c') := by
 have hb := ((((((h.set_ 0 (.int .i64 t.kind)).set_ 1 (.bool t.tr)).set_ 2 (.int .i64 t.num)).set_ 3 (.string t.str)).set_ 4 (.slice A t.items.length c)).set_ 5 (.slice A' t.keys.length c'))
 rw [set_six ho] at hb
 exact hb
end Go.Proofs.YthfhlblpjjniiaaGreatDoor
namespace Go.Proofs.YthfhlblpjjniiaaGreatDoor
open Go.RowKit
def VReads (w : World) (S : Nat → Prop) (A : Option Addr) (l : List T) : Prop :=
 l ≠ [] → ∃ b o, A = some ⟨b, o, none⟩ ∧ S b ∧ ∀ i x, l[i]? = some x → ∃ B d B' d', Six w b (o + i * 6) x B d B' d' ∧ TV w S x B d B' d'
theorem TV.vreads {w : World} {S : Nat → Prop} {t : T} {A : Option Addr} {c : Nat} {A' : Option Addr} {c' : Nat} (h : TV w S t A c A' c') : VReads w S A t.items := fun hn => h.row hn
theorem VReads.none_ (w : World) (S : Nat → Prop) (A : Option Addr) : VReads w S A [] := fun h => absurd rfl h
theorem VReads.keep {w w' : World} {S : Nat → Prop} {A : Option Addr} {l : List T} (h : VReads w S A l) (hk : Keeps S w w') : VReads w' S A l := by
 intro hn
 obtain ⟨b, o, e, hs, hi⟩ := h hn
 refine ⟨b, o, e, hs, fun i x hx => ?_⟩
 obtain ⟨B, d, B', d', h6, ht⟩ := hi i x hx
 exact ⟨B, d, B', d', h6.keep hs hk, ht.keep hk⟩
theorem VReads.wide {w : World} {S S' : Nat → Prop} {A : Option Addr} {l : List T} (h : VReads w S A l) (hs : ∀ b, S b → S' b) : VReads w S' A l := by
 intro hn
 obtain ⟨b, o, e, h0, hi⟩ := h hn
 refine ⟨b, o, e, hs b h0, fun i x hx => ?_⟩
 obtain ⟨B, d, B', d', h6, ht⟩ := hi i x hx
 exact ⟨B, d, B', d', h6, ht.wide hs⟩
inductive Own (w : World) : Nat → Nat → T → Option Addr → Nat → Option Addr → Nat → Prop
 | mk (lo hi : Nat) (t : T) (A : Option Addr) (c : Nat) (A' : Option Addr) (c' : Nat) (h : Nat → Nat) (hA : Nat → Option Addr) (hc : Nat → Nat) (hA' : Nat → Option Addr) (hc' : Nat → Nat)
  (h1 : t.items.length ≤ c) (h2 : t.keys.length ≤ c')
  (hrow : t.items ≠ [] → ∃ (g : Nat) (cs : Array Value), A = some ⟨g, 0, none⟩ ∧ lo ≤ g ∧ g < h 0 ∧ Blk w g 26 cs ∧ t.items.length * 6 ≤ cs.size ∧ ∀ i x, t.items[i]? = some x → Six w g (i * 6) x (hA i) (hc i) (hA' i) (hc' i))
  (hlo : lo ≤ h 0) (hmono : ∀ i, i < t.items.length → h i ≤ h (i + 1)) (hhi : h t.items.length ≤ hi)
  (hkey : t.keys ≠ [] → ∃ (g : Nat) (cs : Array Value), A' = some ⟨g, 0, none⟩ ∧ h t.items.length ≤ g ∧ g < hi ∧ Blk w g 9 cs ∧ t.keys.length ≤ cs.size ∧ ∀ (i : Nat) (s : ByteArray), t.keys[i]? = some s → cs[i]? = some (Value.string s))
  (hin : ∀ i x, t.items[i]? = some x → Own w (h i) (h (i + 1)) x (hA i) (hc i) (hA' i) (hc' i)) : Own w lo hi t A c A' c'
theorem lt_of_get {α : Type} {l : List α} {i : Nat} {x : α} (h : l[i]? = some x) : i < l.length := (List.getElem?_eq_some_iff.1 h).1
theorem Six.on_blk {w w' : World} {b o : Nat} {t : T} {A : Option Addr} {c : Nat} {A' : Option Addr} {c' : Nat} (h : Six w b o t A c A' c') (hk : w'.heap[b]? = w.heap[b]?) : Six w' b o t A c A' c' :=
 h.keep (S := (· = b)) rfl (fun x hx => by subst hx; exact hk)
def OwnRow (w : World) (lo hi : Nat) (l : List T) (A : Option Addr) : Prop :=
 ∃ h : Nat → Nat, (l ≠ [] → ∃ (g : Nat) (cs : Array Value), A = some ⟨g, 0, none⟩ ∧ lo ≤ g ∧ g < h 0 ∧ Blk w g 26 cs ∧ l.length * 6 ≤ cs.size ∧
  ∀ i x, l[i]? = some x → ∃ B d B' d', Six w g (i * 6) x B d B' d' ∧ Own w (h i) (h (i + 1)) x B d B' d') ∧
  lo ≤ h 0 ∧ (∀ i, i < l.length → h i ≤ h (i + 1)) ∧ h l.length ≤ hi
def OwnKeys (w : World) (lo hi : Nat) (l : List ByteArray) (A : Option Addr) : Prop :=
 l ≠ [] → ∃ (g : Nat) (cs : Array Value), A = some ⟨g, 0, none⟩ ∧ lo ≤ g ∧ g < hi ∧ Blk w g 9 cs ∧ l.length ≤ cs.size ∧ ∀ (i : Nat) (s : ByteArray), l[i]? = some s → cs[i]? = some (Value.string s)
def Copied (w : World) (g : Nat) (l : List T) (k : Nat) : Prop :=
 ∃ (h : Nat → Nat) (cs : Array Value), g < h 0 ∧ (∀ i, i < k → h i ≤ h (i + 1)) ∧ h k ≤ w.heap.size ∧ Blk w g 26 cs ∧ cs.size = l.length * 6 ∧
  ∀ i x, i < k → l[i]? = some x → ∃ B d B' d', Six w g (i * 6) x B d B' d' ∧ Own w (h i) (h (i + 1)) x B d B' d'
end Go.Proofs.YthfhlblpjjniiaaGreatDoor
namespace Go.Proofs.YthfhlblpjjniiaaGreatDoor
open Go.RowKit
theorem own_keys {w : World} {base : Nat} {v : Value} {l : List ByteArray} (h : w.ownsRow base 9 1 v l.length (l.map Value.string)) :
 ∃ B d, v = .slice B l.length d ∧ l.length ≤ d ∧ OwnKeys w base w.heap.size l B := by
 rcases h.2 with ⟨rfl, h0⟩ | ⟨g, cap, cur, rfl, hb, hh, hle, hm, hs, ht⟩
 ·
  obtain rfl : l = [] := List.eq_nil_of_length_eq_zero h0
  exact ⟨none, 0, rfl, Nat.le_refl _, fun hn => absurd rfl hn⟩
 ·
  refine ⟨_, _, rfl, hle, fun _ => ⟨g, cur, rfl, hb, (Array.getElem?_eq_some_iff.1 hh).1, hh, by omega, fun i s hi => ?_⟩⟩
  have hl := lt_of_get hi
  have h1 : (cur.toList.take (l.length * 1))[i]? = (l.map Value.string)[i]? := by rw [ht]
  rw [List.getElem?_take_of_lt (by omega), Array.getElem?_toList, List.getElem?_map, hi] at h1
  exact h1
theorem OwnKeys.sreads {w : World} {lo hi : Nat} {l : List ByteArray} {A : Option Addr} (h : OwnKeys w lo hi l A) : SReads w (fun b => lo ≤ b ∧ b < hi) A l := by
 intro hn
 obtain ⟨g, cs, e, h1, h2, hb, _, hc⟩ := h hn
 exact ⟨g, 0, e, ⟨h1, h2⟩, fun i s hs => by rw [Nat.zero_add, hb.cell]; exact hc i s hs⟩
theorem infoVal : (Tryz.prog.info? 26).map (fun i => (i.zero, i.size, i.bytes)) = some (some (.agg #[.int .i64 0, .bool false, .int .i64 0, .string ⟨#[]⟩, .slice none 0 0, .slice none 0 0]), 6, 88) := by kernel_rfl
end Go.Proofs.YthfhlblpjjniiaaGreatDoor
namespace Go.Proofs.YthfhlblpjjniiaaGreatDoor
open Go.RowKit
open Pl
theorem getD_take_succ (l : List Int) (k : Nat) (h : k < l.length) : l.take (k + 1) = l.take k ++ [l.getD k 0] := by
 rw [List.take_succ_eq_append_getElem h]; simp [List.getElem?_eq_getElem h]
theorem Reads.below {w w' : World} {B B' : Nat} {A : Option Addr} {l : List Int} (h : Reads w B A l) (hb : Below B' w w') (hB : B ≤ B') : Reads w' B A l := by
 intro hn
 obtain ⟨b, o, e, hlt, hc⟩ := h hn
 exact ⟨b, o, e, hlt, fun i hi => (hb.cell (p := ⟨b, o + i, none⟩) (by show b < B'; omega)).trans (hc i hi)⟩
theorem Reads.more {w : World} {B B' : Nat} {A : Option Addr} {l : List Int} (h : Reads w B A l) (hB : B ≤ B') : Reads w B' A l := by
 intro hn
 obtain ⟨b, o, e, hlt, hc⟩ := h hn
 exact ⟨b, o, e, by omega, hc⟩
theorem own_reads {w : World} {base : Nat} {v : Value} {l : List Int} (h : w.ownsRow base 3 1 v l.length (l.map (Value.int .i64))) : ∃ A c, v = .slice A l.length c ∧ Reads w w.heap.size A l := by
 rcases h.2 with ⟨rfl, h0⟩ | ⟨g, cap, cur, rfl, hb, hh, _⟩
 ·
  obtain rfl : l = [] := List.eq_nil_of_length_eq_zero h0
  exact ⟨none, 0, rfl, fun hn => absurd rfl hn⟩
 ·
  refine ⟨_, _, rfl, fun _ => ⟨g, 0, rfl, (Array.getElem?_eq_some_iff.1 hh).1, fun i hi => ?_⟩⟩
  have := h.cells (g := g) rfl i (.int .i64 (l.getD i 0)) (by simp [List.getElem?_eq_getElem hi])
  have hadd : (⟨g, 0, none⟩ : Addr).add i = ⟨g, 0 + i, none⟩ := by unfold Addr.add; split <;> simp_all
  rwa [hadd] at this
def GivesRow (l : List Int) (x : Value) (w : World) (e : Ending) (w' : World) : Prop :=
 ∃ A c, e = .returned (.tuple #[.slice A l.length c, x]) ∧ Reads w' w'.heap.size A l ∧ Below w.heap.size w w'
end Go.Proofs.YthfhlblpjjniiaaGreatDoor
namespace Go.Proofs.YthfhlblpjjniiaaGreatDoor
open Go.RowKit
open Pl
def okText (s : ByteArray) : Prop := ∃ l, Split s.data.toList l []
theorem gval_yes (s : ByteArray) (w : World) (h : okText s) :
 Calls Tryz.prog 71 #[.string s] w fun e w' => (∃ n, e = .returned (.tuple #[.int .i64 n, .bool true])) ∧ Below w.heap.size w w' := by
 obtain ⟨l, h⟩ := h
 exact (valid_any s l [] h w).mono fun e w' ⟨he, hb⟩ => ⟨⟨_, he⟩, hb⟩
def AllText (l : List ByteArray) : Prop := ∀ s ∈ l, okText s
theorem SReads.at_ {w : World} {S : Nat → Prop} {A : Option Addr} {l : List ByteArray} (h : SReads w S A l) {k : Nat} (hk : k < l.length) :
 ∃ b o s, A = some ⟨b, o, none⟩ ∧ S b ∧ l[k]? = some s ∧ w.cell? ⟨b, o + k, none⟩ = some (.string s) := by
 obtain ⟨b, o, e, hs, hi⟩ := h (by intro hn; rw [hn] at hk; simp at hk)
 exact ⟨b, o, _, e, hs, List.getElem?_eq_getElem hk, hi k _ (List.getElem?_eq_getElem hk)⟩
set_option maxRecDepth 100000 in
set_option maxHeartbeats 2000000 in
theorem texts_yes (l : List ByteArray) (A : Option Addr) (c : Nat) (w : World) (hl : l.length ≤ 100000) (h : AllText l) (hr : SReads w (· < w.heap.size) A l) :
 Calls Tryz.prog 38 #[.slice A l.length c] w fun e w' => e = .returned (.bool true) ∧ Below w.heap.size w w' := by
 have HR := Lib.hid hr
 have HA := Lib.hid h
 clear hr h
 go_enter Tryz.func38, Tryz.ntmps38
 go_wp2_with fail
 go_loopw [9] (fun i wr => ∃ k : Nat, k ≤ l.length ∧ i = .int .i64 k ∧ Below w.heap.size w wr) (fun i _ => l.length - (intOf i).toNat)
 case atStart => exact ⟨0, Nat.zero_le _, rfl, Below.refl _ _⟩
 case round =>
  obtain ⟨k, hk, rfl, hbel⟩ := hrel
  have Hbel := Lib.hid hbel
  clear hbel
  by_cases hlt : k < l.length
  ·
   have u1 : decide (k < l.length) = true := decide_eq_true hlt
   obtain ⟨b, o, s, rfl, hb, hx, hc⟩ := HR.out.at_ hlt
   have Hok := Lib.hid (HA.out s (List.mem_of_getElem? hx))
   have e0 := ((Keeps.of_below Hbel.out).cell hb (o + k)).trans hc
   clear hx hc
   go_wp2_with fail
   refine (gval_yes s _ Hok.out).mono ?_
   rintro e w2 ⟨⟨n, rfl⟩, hb2⟩
   have Hb2 := Lib.hid (Hbel.out.trans (hb2.mono Hbel.out.size))
   clear hb2
   go_wp2_with fail
   go_roundw
   case rel => exact ⟨k + 1, hlt, by go_num, Hb2.out⟩
   case measure => simp [intOf]; omega
  ·
   obtain rfl : l.length = k := by omega
   go_wp2_with fail
   go_ret
   exact ⟨rfl, Hbel.out⟩
def sl (a b : ByteArray) : Bool := Op.bytesLess a.toList b.toList
theorem sl_iff (a b : ByteArray) : sl a b = true ↔ a.data.toList < b.data.toList := by
 unfold sl
 rw [Go.Proofs.bytesLess_eq, ByteArray.toList_eq, ByteArray.toList_eq]
 exact decide_eq_true_iff
theorem ba_ext {a b : ByteArray} (h : a.data.toList = b.data.toList) : a = b := by
 cases a; cases b; simp at h; rw [h]
theorem sl_irrefl (a : ByteArray) : sl a a = false := by
 rw [Bool.eq_false_iff]; intro h; exact List.lt_irrefl _ ((sl_iff a a).1 h)
theorem sl_trans {a b c : ByteArray} (h : sl a b = true) (k : sl b c = true) : sl a c = true := (sl_iff _ _).2 (List.lt_trans ((sl_iff _ _).1 h) ((sl_iff _ _).1 k))
theorem sl_tri (a b : ByteArray) : sl a b = true ∨ a = b ∨ sl b a = true := by
 by_cases h : a.data.toList < b.data.toList
 · exact .inl ((sl_iff _ _).2 h)
 ·
  rcases List.le_iff_lt_or_eq.1 (List.not_lt.1 h) with h | h
  · exact .inr (.inr ((sl_iff _ _).2 h))
  · exact .inr (.inl (ba_ext h.symm))
theorem sl_asymm {a b : ByteArray} (h : sl a b = true) : sl b a = false := by
 rw [Bool.eq_false_iff]; intro k
 have := sl_trans h k
 rw [sl_irrefl] at this; cases this
def Rising (l : List ByteArray) : Prop := ∀ (i : Nat) (a b : ByteArray), l[i]? = some a → l[i + 1]? = some b → sl a b = true
set_option maxRecDepth 100000 in
set_option maxHeartbeats 2000000 in
theorem rising_yes (l : List ByteArray) (A : Option Addr) (c : Nat) (w : World) (hl : l.length ≤ 100000) (h : Rising l) (hr : SReads w (· < w.heap.size) A l) :
 Calls Tryz.prog 39 #[.slice A l.length c] w fun e w' => e = .returned (.bool true) ∧ Below w.heap.size w w' := by
 have HR := Lib.hid hr
 have HA := Lib.hid h
 clear hr h
 go_enter Tryz.func39, Tryz.ntmps39
 go_wp2_with fail
 go_loopw [3] (fun i wr => ∃ k : Nat, (k ≤ l.length ∨ k = 1) ∧ 1 ≤ k ∧ i = .int .i64 k ∧ Below w.heap.size w wr) (fun i _ => l.length - (intOf i).toNat)
 case atStart => exact ⟨1, .inr rfl, Nat.le_refl _, rfl, Below.refl _ _⟩
 case round =>
  obtain ⟨k, hk, hk1, rfl, hbel⟩ := hrel
  have Hbel := Lib.hid hbel
  clear hbel
  by_cases hlt : k < l.length
  ·
   have u1 : decide ((k : Int) < (l.length : Int)) = true := decide_eq_true (by omega)
   obtain ⟨b, o, s, rfl, hb, hx, hc⟩ := HR.out.at_ hlt
   obtain ⟨j, rfl⟩ : ∃ j, k = j + 1 := ⟨k - 1, by omega⟩
   obtain ⟨_, _, s', e', _, hx', hc'⟩ := HR.out.at_ (show j < l.length by omega)
   injection e' with e'; injection e' with e1 e2 _; subst e1 e2
   have e0 := ((Keeps.of_below Hbel.out).cell hb (o + (j + 1))).trans hc
   have e1 := ((Keeps.of_below Hbel.out).cell hb (o + j)).trans hc'
   have hs := HA.out j s' s hx' hx
   unfold sl at hs
   have w1 : IntKind.i64.wrap (j : Int) = j := IntWalk.i64_in _ (by omega)
   have i1 : (j : Int) < l.length := by omega
   have i2 : (0 : Int) ≤ j := by omega
   have i3 : (j : Int) + 1 < l.length := by omega
   have i4 : (0 : Int) ≤ (j : Int) + 1 := by omega
   have i5 : ((j : Int) + 1).toNat = j + 1 := by omega
   clear hx hc hx' hc'
   go_wp2_with fail
   go_quiet (fail)
   go_wp2_with fail
   go_roundw
   case rel => exact ⟨j + 1 + 1, .inl hlt, by omega, by go_num, below_drewN Hbel.out _⟩
   case measure => simp [intOf]; omega
  ·
   have u1 : decide ((k : Int) < (l.length : Int)) = false := decide_eq_false (by omega)
   go_wp2_with fail
   go_ret
   exact ⟨rfl, Hbel.out⟩
end Go.Proofs.YthfhlblpjjniiaaGreatDoor
namespace Go.Proofs.YthfhlblpjjniiaaGreatDoor
open Go.RowKit Go.Sort
def srt (l : List ByteArray) : List ByteArray := ((l.map fun s => s.data.toList).mergeSort fun x y => decide (x ≤ y)).map fun b => ⟨b.toArray⟩
theorem map_back (l : List ByteArray) : (l.map fun s => s.data.toList).map (fun b => (⟨b.toArray⟩ : ByteArray)) = l := by
 rw [List.map_map]
 conv => rhs; rw [← List.map_id l]
 apply List.map_congr_left
 intro s _
 cases s; simp
theorem srt_perm (l : List ByteArray) : (srt l).Perm l := by
 have := (List.mergeSort_perm (l.map fun s => s.data.toList) fun x y => decide (x ≤ y)).map fun b => (⟨b.toArray⟩ : ByteArray)
 rw [map_back] at this
 exact this
theorem srt_len (l : List ByteArray) : (srt l).length = l.length := (srt_perm l).length_eq
theorem srt_pair (l : List ByteArray) : (srt l).Pairwise fun a b => sl b a = false := by
 unfold srt
 rw [List.pairwise_map]
 refine (List.pairwise_mergeSort (le := fun x y => decide (x ≤ y)) ?_ ?_ _).imp ?_
 ·
  intro a b c h1 h2
  simp only [decide_eq_true_eq] at *
  exact List.le_trans h1 h2
 ·
  intro a b
  simp only [Bool.or_eq_true, decide_eq_true_eq]
  exact List.le_total a b
 ·
  intro a b h
  rw [decide_eq_true_eq] at h
  rw [Bool.eq_false_iff]
  intro k
  exact h (by have := (sl_iff _ _).1 k; simpa using this)
theorem get_pair {α : Type} {R : α → α → Prop} {l : List α} (h : l.Pairwise R) {i j : Nat} {a b : α} (hi : l[i]? = some a) (hj : l[j]? = some b) (hij : i < j) : R a b := by
 have h1 := lt_of_get hi
 have h2 := lt_of_get hj
 have := List.pairwise_iff_getElem.1 h i j h1 h2 hij
 rw [List.getElem?_eq_getElem h1] at hi
 rw [List.getElem?_eq_getElem h2] at hj
 injection hi with hi
 injection hj with hj
 rw [hi, hj] at this
 exact this
theorem srt_rising {l : List ByteArray} (h : l.Nodup) : Rising (srt l) := by
 intro i a b ha hb
 have h1 := get_pair (srt_pair l) ha hb (by omega)
 have h2 : a ≠ b := get_pair ((srt_perm l).nodup_iff.2 h) ha hb (by omega)
 rcases sl_tri a b with k | k | k
 · exact k
 · exact absurd k h2
 · rw [h1] at k; cases k
theorem Rising.mono {l : List ByteArray} (h : Rising l) {i : Nat} {a : ByteArray} (hi : l[i]? = some a) : ∀ (j : Nat) (b : ByteArray), i < j → l[j]? = some b → sl a b = true := by
 intro j
 induction j with
 | zero => intro b h0; omega
 | succ j ih =>
  intro b hij hb
  rcases Nat.lt_or_ge i j with h1 | h1
  ·
   have hj : j < l.length := by have := lt_of_get hb; omega
   have h2 := ih _ h1 (List.getElem?_eq_getElem hj)
   exact sl_trans h2 (h j _ b (List.getElem?_eq_getElem hj) hb)
  ·
   obtain rfl : i = j := by omega
   exact h i a b hi hb
theorem Rising.nodup {l : List ByteArray} (h : Rising l) : l.Nodup := by
 rw [List.Nodup, List.pairwise_iff_getElem]
 intro i j h1 h2 hij heq
 have := h.mono (List.getElem?_eq_getElem h1) j _ hij (List.getElem?_eq_getElem h2)
 rw [heq, sl_irrefl] at this
 cases this
theorem srt_map (l : List ByteArray) : ((l.map fun s => s.data.toList).mergeSort fun x y => decide (x ≤ y)).map encStr = (srt l).map Value.string := by
 unfold srt
 rw [List.map_map]
 rfl
end Go.Proofs.YthfhlblpjjniiaaGreatDoor
namespace Go.Proofs.YthfhlblpjjniiaaGreatDoor
open Go.RowKit
def T.zero : T := .mk 0 false 0 ⟨#[]⟩ [] []
def look : List ByteArray → List T → ByteArray → T
 | k :: r, x :: s, q => if k.data = q.data then x else look r s q
 | _, _, _ => T.zero
theorem look_at {keys : List ByteArray} {items : List T} (hn : keys.Nodup) {i : Nat} {k : ByteArray} {x : T} (hk : keys[i]? = some k) (hx : items[i]? = some x) : look keys items k = x := by
 induction keys generalizing items i with
 | nil => simp at hk
 | cons a r ih =>
  cases items with
  | nil => simp at hx
  | cons y s =>
   cases i with
   | zero =>
    simp at hk hx
    subst hk hx
    simp [look]
   | succ i =>
    simp at hk hx
    have h1 : a.data ≠ k.data := by
     intro h
     have h2 : a = k := by cases a; cases k; simp at h; rw [h]
     subst h2
     exact (List.nodup_cons.1 hn).1 (List.mem_of_getElem? hk)
    rw [look, if_neg h1]
    exact ih (List.nodup_cons.1 hn).2 hk hx
def placed (keys : List ByteArray) (items : List T) : List T := (srt keys).map (look keys items)
def objT (keys : List ByteArray) (items : List T) : T := .mk 5 false 0 ⟨#[]⟩ (placed keys items) (srt keys)
def Placed (w : World) (R g : Nat) (keys : List ByteArray) (items : List T) (k : Nat) : Prop :=
 ∃ cs : Array Value, Blk w g 26 cs ∧ cs.size = keys.length * 6 ∧
  ∀ (i p : Nat) (s : ByteArray) (x : T), i < k → keys[i]? = some s → (srt keys)[p]? = some s → items[i]? = some x → ∃ B d B' d', Six w g (p * 6) x B d B' d' ∧ TV w (fun b => R < b ∧ b < w.heap.size ∧ b ≠ g) x B d B' d'
def zeros : Array Value := #[.int .i64 0, .bool false, .int .i64 0, .string ⟨#[]⟩, .slice none 0 0, .slice none 0 0]
end Go.Proofs.YthfhlblpjjniiaaGreatDoor
