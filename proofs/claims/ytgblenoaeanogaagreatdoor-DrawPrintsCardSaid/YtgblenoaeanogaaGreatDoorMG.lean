/- Values in memory: words for the contracts. Rows of values, and values whose rows are their own. Copies: contracts of slices.Clone at texts, copies and Copy. Contracts of glyph.Points, and of the reference's Points and Valid. Texts, and rows of them: contracts of both validity tests, areTexts and areRising. Sorted texts: contracts of slices.Sort and slices.BinarySearch at texts. Object: contract. -/
import Derived.WalkKit
import Derived.WalkSpells
import Derived.Deep.QuietTactic
import Derived.BigQuiet
import Derived.Below
import Derived.OwnWalk
import Derived.Laws.AppendOwn
import Derived.Laws.MakeOwn
import Derived.OneCell
import Derived.LoopTactic
import Derived.Deep.RegionHeld3
import Derived.RegionTactic
import Derived.Lib.Hide
import Derived.Test.YtgblenoaeanogaaGreatDoorME
import Derived.WalkLawsBesides
import Derived.Sort.Walk0
set_option linter.unusedVariables false
set_option maxRecDepth 100000
set_option maxHeartbeats 8000000
open Go.Lib (hid)
namespace Go.Proofs.YtgblenoaeanogaaGreatDoor
open Go.RowKit
def SReads (w : World) (S : Nat → Prop) (A : Option Addr) (l : List ByteArray) : Prop :=
 l ≠ [] → ∃ b o, A = some ⟨b, o, none⟩ ∧ S b ∧ ∀ i s, l[i]? = some s → w.cell? ⟨b, o + i, none⟩ = some (.string s)
theorem SReads.keep {w w' : World} {S : Nat → Prop} {A : Option Addr} {l : List ByteArray} (h : SReads w S A l) (hk : Keeps S w w') : SReads w' S A l := by
 intro hn
 obtain ⟨b, o, e, hs, hc⟩ := h hn
 exact ⟨b, o, e, hs, fun i s hi => (hk.cell hs _).trans (hc i s hi)⟩
theorem SReads.wide {w : World} {S S' : Nat → Prop} {A : Option Addr} {l : List ByteArray} (h : SReads w S A l) (hs : ∀ b, S b → S' b) : SReads w S' A l := by
 intro hn
 obtain ⟨b, o, e, h1, hc⟩ := h hn
 exact ⟨b, o, e, hs b h1, hc⟩
theorem SReads.none_ (w : World) (S : Nat → Prop) (A : Option Addr) : SReads w S A [] := fun h => absurd rfl h
def T.agg (t : T) (A : Option Addr) (c : Nat) (A' : Option Addr) (c' : Nat) : Value :=
 .agg #[.int .i64 t.kind, .bool t.tr, .int .i64 t.num, .string t.str, .slice A t.items.length c, .slice A' t.keys.length c']
def Six (w : World) (b o : Nat) (t : T) (A : Option Addr) (c : Nat) (A' : Option Addr) (c' : Nat) : Prop :=
 w.cell? ⟨b, o, none⟩ = some (.int .i64 t.kind) ∧ w.cell? ⟨b, o + 1, none⟩ = some (.bool t.tr) ∧ w.cell? ⟨b, o + 2, none⟩ = some (.int .i64 t.num) ∧
 w.cell? ⟨b, o + 3, none⟩ = some (.string t.str) ∧ w.cell? ⟨b, o + 4, none⟩ = some (.slice A t.items.length c) ∧ w.cell? ⟨b, o + 5, none⟩ = some (.slice A' t.keys.length c')
inductive TV (w : World) (S : Nat → Prop) : T → Option Addr → Nat → Option Addr → Nat → Prop
 | mk (t : T) (A : Option Addr) (c : Nat) (A' : Option Addr) (c' : Nat) (hA : Nat → Option Addr) (hc : Nat → Nat) (hA' : Nat → Option Addr) (hc' : Nat → Nat)
  (h1 : t.items.length ≤ c) (h2 : t.keys.length ≤ c')
  (hrow : t.items ≠ [] → ∃ b o, A = some ⟨b, o, none⟩ ∧ S b ∧ ∀ i x, t.items[i]? = some x → Six w b (o + i * 6) x (hA i) (hc i) (hA' i) (hc' i))
  (hkey : SReads w S A' t.keys)
  (hin : ∀ i x, t.items[i]? = some x → TV w S x (hA i) (hc i) (hA' i) (hc' i)) : TV w S t A c A' c'
theorem TV.lens {w : World} {S : Nat → Prop} {t : T} {A : Option Addr} {c : Nat} {A' : Option Addr} {c' : Nat} (h : TV w S t A c A' c') : t.items.length ≤ c ∧ t.keys.length ≤ c' := by
 cases h with | mk _ _ _ _ _ _ _ _ _ h1 h2 => exact ⟨h1, h2⟩
theorem TV.keys {w : World} {S : Nat → Prop} {t : T} {A : Option Addr} {c : Nat} {A' : Option Addr} {c' : Nat} (h : TV w S t A c A' c') : SReads w S A' t.keys := by
 cases h with | mk _ _ _ _ _ _ _ _ _ _ _ _ hk => exact hk
theorem TV.row {w : World} {S : Nat → Prop} {t : T} {A : Option Addr} {c : Nat} {A' : Option Addr} {c' : Nat} (h : TV w S t A c A' c') (hn : t.items ≠ []) :
 ∃ b o, A = some ⟨b, o, none⟩ ∧ S b ∧ ∀ i x, t.items[i]? = some x → ∃ B d B' d', Six w b (o + i * 6) x B d B' d' ∧ TV w S x B d B' d' := by
 cases h with
 | mk _ _ _ _ _ hA hc hA' hc' _ _ hrow _ hin =>
  obtain ⟨b, o, e, hs, h6⟩ := hrow hn
  exact ⟨b, o, e, hs, fun i x hx => ⟨_, _, _, _, h6 i x hx, hin i x hx⟩⟩
theorem TV.at_ {w : World} {S : Nat → Prop} {t : T} {A : Option Addr} {c : Nat} {A' : Option Addr} {c' : Nat} (h : TV w S t A c A' c') {k : Nat} (hk : k < t.items.length) :
 ∃ b o x B d B' d', A = some ⟨b, o, none⟩ ∧ S b ∧ t.items[k]? = some x ∧ Six w b (o + k * 6) x B d B' d' ∧ TV w S x B d B' d' := by
 obtain ⟨b, o, e, hs, hi⟩ := h.row (by intro hn; rw [hn] at hk; simp at hk)
 obtain ⟨B, d, B', d', h6, ht⟩ := hi k _ (List.getElem?_eq_getElem hk)
 exact ⟨b, o, _, B, d, B', d', e, hs, List.getElem?_eq_getElem hk, h6, ht⟩
theorem TV.of {w : World} {S : Nat → Prop} {t : T} {A : Option Addr} {c : Nat} {A' : Option Addr} {c' : Nat} (h1 : t.items.length ≤ c) (h2 : t.keys.length ≤ c')
 (hrow : t.items ≠ [] → ∃ b o, A = some ⟨b, o, none⟩ ∧ S b ∧ ∀ i x, t.items[i]? = some x → ∃ B d B' d', Six w b (o + i * 6) x B d B' d' ∧ TV w S x B d B' d')
 (hkey : SReads w S A' t.keys) : TV w S t A c A' c' := by
 by_cases hn : t.items = []
 · exact .mk t A c A' c' (fun _ => none) (fun _ => 0) (fun _ => none) (fun _ => 0) h1 h2 (fun h => absurd hn h) hkey (fun i x hx => by rw [hn] at hx; simp at hx)
 ·
  obtain ⟨b, o, e, hs, hi⟩ := hrow hn
  have : ∀ i, ∃ q : Option Addr × Nat × Option Addr × Nat, ∀ x, t.items[i]? = some x → Six w b (o + i * 6) x q.1 q.2.1 q.2.2.1 q.2.2.2 ∧ TV w S x q.1 q.2.1 q.2.2.1 q.2.2.2 := by
   intro i
   cases hx : t.items[i]? with
   | none => exact ⟨(none, 0, none, 0), fun x h => by cases h⟩
   | some x =>
    obtain ⟨B, d, B', d', h6⟩ := hi i x hx
    exact ⟨(B, d, B', d'), fun y h => by injection h with h; subst h; exact h6⟩
  obtain ⟨q, hq⟩ := Classical.axiomOfChoice this
  exact .mk t A c A' c' (fun i => (q i).1) (fun i => (q i).2.1) (fun i => (q i).2.2.1) (fun i => (q i).2.2.2) h1 h2
   (fun _ => ⟨b, o, e, hs, fun i x hx => (hq i x hx).1⟩) hkey (fun i x hx => (hq i x hx).2)
theorem Six.keep {w w' : World} {S : Nat → Prop} {b o : Nat} {t : T} {A : Option Addr} {c : Nat} {A' : Option Addr} {c' : Nat} (h : Six w b o t A c A' c') (hs : S b) (hk : Keeps S w w') : Six w' b o t A c A' c' := by
 obtain ⟨a0, a1, a2, a3, a4, a5⟩ := h
 exact ⟨(hk.cell hs _).trans a0, (hk.cell hs _).trans a1, (hk.cell hs _).trans a2, (hk.cell hs _).trans a3, (hk.cell hs _).trans a4, (hk.cell hs _).trans a5⟩
theorem TV.keep {w w' : World} {S : Nat → Prop} {t : T} {A : Option Addr} {c : Nat} {A' : Option Addr} {c' : Nat} (h : TV w S t A c A' c') (hk : Keeps S w w') : TV w' S t A c A' c' := by
 induction h with
 | mk t A c A' c' hA hc hA' hc' h1 h2 hrow hkey hin ih =>
  refine .mk t A c A' c' hA hc hA' hc' h1 h2 (fun hn => ?_) (hkey.keep hk) ih
  obtain ⟨b, o, e, hs, h6⟩ := hrow hn
  exact ⟨b, o, e, hs, fun i x hx => (h6 i x hx).keep hs hk⟩
theorem TV.wide {w : World} {S S' : Nat → Prop} {t : T} {A : Option Addr} {c : Nat} {A' : Option Addr} {c' : Nat} (h : TV w S t A c A' c') (hs : ∀ b, S b → S' b) : TV w S' t A c A' c' := by
 induction h with
 | mk t A c A' c' hA hc hA' hc' h1 h2 hrow hkey hin ih =>
  refine .mk t A c A' c' hA hc hA' hc' h1 h2 (fun hn => ?_) (hkey.wide hs) ih
  obtain ⟨b, o, e, h0, h6⟩ := hrow hn
  exact ⟨b, o, e, hs b h0, h6⟩
theorem TV.under {B : Nat} {w w' : World} {t : T} {A : Option Addr} {c : Nat} {A' : Option Addr} {c' : Nat} (h : TV w (· < B) t A c A' c') (hb : Below B w w') : TV w' (· < B) t A c A' c' := h.keep (.of_below hb)
theorem TV.on {w w' : World} {t : T} {A : Option Addr} {c : Nat} {A' : Option Addr} {c' : Nat} (h : TV w (· < w.heap.size) t A c A' c') (hb : Below w.heap.size w w') : TV w' (· < w'.heap.size) t A c A' c' :=
 (h.under hb).wide fun _ hx => Nat.lt_of_lt_of_le hx hb.size
theorem SReads.below {B : Nat} {w w' : World} {A : Option Addr} {l : List ByteArray} (h : SReads w (· < B) A l) (hb : Below B w w') : SReads w' (· < B) A l := h.keep (.of_below hb)
theorem SReads.on {w w' : World} {A : Option Addr} {l : List ByteArray} (h : SReads w (· < w.heap.size) A l) (hb : Below w.heap.size w w') : SReads w' (· < w'.heap.size) A l :=
 (h.below hb).wide fun _ hx => Nat.lt_of_lt_of_le hx hb.size
def T.cs (t : T) (A : Option Addr) (c : Nat) (A' : Option Addr) (c' : Nat) : Array Value :=
 #[.int .i64 t.kind, .bool t.tr, .int .i64 t.num, .string t.str, .slice A t.items.length c, .slice A' t.keys.length c']
theorem six_put {w : World} {g : Nat} {ty : TypeId} {cs : Array Value} (h : Blk w g ty cs) {o : Nat} (ho : o + 6 ≤ cs.size) (t : T) (A : Option Addr) (c : Nat) (A' : Option Addr) (c' : Nat) :
 ∃ cs', Blk ((((((w.setCell ⟨g, o, none⟩ (.int .i64 t.kind)).setCell ⟨g, o + 1, none⟩ (.bool t.tr)).setCell ⟨g, o + 2, none⟩ (.int .i64 t.num)).setCell ⟨g, o + 3, none⟩ (.string t.str)).setCell ⟨g, o + 4, none⟩ (.slice A t.items.length c)).setCell ⟨g, o + 5, none⟩ (.slice A' t.keys.length c')) g ty cs' ∧ cs'.size = cs.size ∧
  Six ((((((w.setCell ⟨g, o, none⟩ (.int .i64 t.kind)).setCell ⟨g, o + 1, none⟩ (.bool t.tr)).setCell ⟨g, o + 2, none⟩ (.int .i64 t.num)).setCell ⟨g, o + 3, none⟩ (.string t.str)).setCell ⟨g, o + 4, none⟩ (.slice A t.items.length c)).setCell ⟨g, o + 5, none⟩ (.slice A' t.keys.length c')) g o t A c A' c' ∧
  ∀ j, j < o ∨ o + 6 ≤ j → cs'[j]? = cs[j]? := by
 have hb := ((((((h.set_ o (.int .i64 t.kind)).set_ (o + 1) (.bool t.tr)).set_ (o + 2) (.int .i64 t.num)).set_ (o + 3) (.string t.str)).set_ (o + 4) (.slice A t.items.length c)).set_ (o + 5) (.slice A' t.keys.length c'))
 refine ⟨_, hb, by simp, ⟨?_, ?_, ?_, ?_, ?_, ?_⟩, fun j hj => ?_⟩
 all_goals first
  | (rw [hb.cell]; simp (disch := ((try simp only [Array.size_setIfInBounds]); omega)) only [Array.getElem?_setIfInBounds_ne, Array.getElem?_setIfInBounds_self_of_lt]; done)
  | (simp (disch := ((try simp only [Array.size_setIfInBounds]); omega)) only [Array.getElem?_setIfInBounds_ne])
theorem set_six {cs : Array Value} (h : cs.size = 6) {v0 v1 v2 v3 v4 v5 : Value} : (((((cs.setIfInBounds 0 v0).setIfInBounds 1 v1).setIfInBounds 2 v2).setIfInBounds 3 v3).setIfInBounds 4 v4).setIfInBounds 5 v5 = #[v0, v1, v2, v3, v4, v5] := by
 apply Array.ext_getElem?
 intro i
 rcases Nat.lt_or_ge i 6 with h3 | h3
 · rcases (by omega : i = 0 ∨ i = 1 ∨ i = 2 ∨ i = 3 ∨ i = 4 ∨ i = 5) with rfl | rfl | rfl | rfl | rfl | rfl <;>
    (simp (disch := ((try simp only [Array.size_setIfInBounds]); omega)) only [Array.getElem?_setIfInBounds_ne, Array.getElem?_setIfInBounds_self_of_lt]; rfl)
 · rw [Array.getElem?_eq_none (by simpa [h] using h3), Array.getElem?_eq_none (by simpa using h3)]
theorem res_put {w : World} {g : Nat} {ty : TypeId} {cs : Array Value} (h : Blk w g ty cs) (ho : cs.size = 6) (t : T) (A : Option Addr) (c : Nat) (A' : Option Addr) (c' : Nat) :
 Blk ((((((w.setCell ⟨g, 0, none⟩ (.int .i64 t.kind)).setCell ⟨g, 1, none⟩ (.bool t.tr)).setCell ⟨g, 2, none⟩ (.int .i64 t.num)).setCell ⟨g, 3, none⟩ (.string t.str)).setCell ⟨g, 4, none⟩ (.slice A t.items.length c)).setCell ⟨g, 5, none⟩ (.slice A' t.keys.length c')) g ty (t.cs A c A' c') := by
 have hb := ((((((h.set_ 0 (.int .i64 t.kind)).set_ 1 (.bool t.tr)).set_ 2 (.int .i64 t.num)).set_ 3 (.string t.str)).set_ 4 (.slice A t.items.length c)).set_ 5 (.slice A' t.keys.length c'))
 rw [set_six ho] at hb
 exact hb
theorem Blk.six {w : World} {g : Nat} {ty : TypeId} {cs : Array Value} (h : Blk w g ty cs) {o : Nat} (ho : o + 6 ≤ cs.size) :
 ∃ u0 u1 u2 u3 u4 u5, w.cell? ⟨g, o, none⟩ = some u0 ∧ w.cell? ⟨g, o + 1, none⟩ = some u1 ∧ w.cell? ⟨g, o + 2, none⟩ = some u2 ∧ w.cell? ⟨g, o + 3, none⟩ = some u3 ∧ w.cell? ⟨g, o + 4, none⟩ = some u4 ∧ w.cell? ⟨g, o + 5, none⟩ = some u5 :=
 ⟨cs[o]'(by omega), cs[o + 1]'(by omega), cs[o + 2]'(by omega), cs[o + 3]'(by omega), cs[o + 4]'(by omega), cs[o + 5]'(by omega), by rw [h.cell]; simp, by rw [h.cell]; simp, by rw [h.cell]; simp, by rw [h.cell]; simp, by rw [h.cell]; simp, by rw [h.cell]; simp⟩
open Go.RowKit
def VReads (w : World) (S : Nat → Prop) (A : Option Addr) (l : List T) : Prop :=
 l ≠ [] → ∃ b o, A = some ⟨b, o, none⟩ ∧ S b ∧ ∀ i x, l[i]? = some x → ∃ B d B' d', Six w b (o + i * 6) x B d B' d' ∧ TV w S x B d B' d'
theorem TV.vreads {w : World} {S : Nat → Prop} {t : T} {A : Option Addr} {c : Nat} {A' : Option Addr} {c' : Nat} (h : TV w S t A c A' c') : VReads w S A t.items := fun hn => h.row hn
theorem VReads.none_ (w : World) (S : Nat → Prop) (A : Option Addr) : VReads w S A [] := fun h => absurd rfl h
theorem VReads.keep {w w' : World} {S : Nat → Prop} {A : Option Addr} {l : List T} (h : VReads w S A l) (hk : Keeps S w w') : VReads w' S A l := by
 intro hn
 obtain ⟨b, o, e, hs, hi⟩ := h hn
 refine ⟨b, o, e, hs, fun i x hx => ?_⟩
 obtain ⟨B, d, B', d', h6, ht⟩ := hi i x hx
 exact ⟨B, d, B', d', h6.keep hs hk, ht.keep hk⟩
theorem VReads.wide {w : World} {S S' : Nat → Prop} {A : Option Addr} {l : List T} (h : VReads w S A l) (hs : ∀ b, S b → S' b) : VReads w S' A l := by
 intro hn
 obtain ⟨b, o, e, h0, hi⟩ := h hn
 refine ⟨b, o, e, hs b h0, fun i x hx => ?_⟩
 obtain ⟨B, d, B', d', h6, ht⟩ := hi i x hx
 exact ⟨B, d, B', d', h6, ht.wide hs⟩
theorem VReads.under {B : Nat} {w w' : World} {A : Option Addr} {l : List T} (h : VReads w (· < B) A l) (hb : Below B w w') : VReads w' (· < B) A l := h.keep (.of_below hb)
theorem VReads.on {w w' : World} {A : Option Addr} {l : List T} (h : VReads w (· < w.heap.size) A l) (hb : Below w.heap.size w w') : VReads w' (· < w'.heap.size) A l :=
 (h.under hb).wide fun _ hx => Nat.lt_of_lt_of_le hx hb.size
theorem VReads.at_ {w : World} {S : Nat → Prop} {A : Option Addr} {l : List T} (h : VReads w S A l) {k : Nat} (hk : k < l.length) :
 ∃ b o x B d B' d', A = some ⟨b, o, none⟩ ∧ S b ∧ l[k]? = some x ∧ Six w b (o + k * 6) x B d B' d' ∧ TV w S x B d B' d' := by
 obtain ⟨b, o, e, hs, hi⟩ := h (by intro hn; rw [hn] at hk; simp at hk)
 obtain ⟨B, d, B', d', h6, ht⟩ := hi k _ (List.getElem?_eq_getElem hk)
 exact ⟨b, o, _, B, d, B', d', e, hs, List.getElem?_eq_getElem hk, h6, ht⟩
inductive Own (w : World) : Nat → Nat → T → Option Addr → Nat → Option Addr → Nat → Prop
 | mk (lo hi : Nat) (t : T) (A : Option Addr) (c : Nat) (A' : Option Addr) (c' : Nat) (h : Nat → Nat) (hA : Nat → Option Addr) (hc : Nat → Nat) (hA' : Nat → Option Addr) (hc' : Nat → Nat)
  (h1 : t.items.length ≤ c) (h2 : t.keys.length ≤ c')
  (hrow : t.items ≠ [] → ∃ (g : Nat) (cs : Array Value), A = some ⟨g, 0, none⟩ ∧ lo ≤ g ∧ g < h 0 ∧ Blk w g 43 cs ∧ t.items.length * 6 ≤ cs.size ∧ ∀ i x, t.items[i]? = some x → Six w g (i * 6) x (hA i) (hc i) (hA' i) (hc' i))
  (hlo : lo ≤ h 0) (hmono : ∀ i, i < t.items.length → h i ≤ h (i + 1)) (hhi : h t.items.length ≤ hi)
  (hkey : t.keys ≠ [] → ∃ (g : Nat) (cs : Array Value), A' = some ⟨g, 0, none⟩ ∧ h t.items.length ≤ g ∧ g < hi ∧ Blk w g 9 cs ∧ t.keys.length ≤ cs.size ∧ ∀ (i : Nat) (s : ByteArray), t.keys[i]? = some s → cs[i]? = some (Value.string s))
  (hin : ∀ i x, t.items[i]? = some x → Own w (h i) (h (i + 1)) x (hA i) (hc i) (hA' i) (hc' i)) : Own w lo hi t A c A' c'
theorem up_to {h : Nat → Nat} {n : Nat} (hm : ∀ i, i < n → h i ≤ h (i + 1)) : ∀ j, j ≤ n → ∀ i, i ≤ j → h i ≤ h j := by
 intro j
 induction j with
 | zero =>
  intro _ i hi; obtain rfl : i = 0 := by omega
  exact Nat.le_refl _
 | succ j ih =>
  intro hj i hi
  rcases Nat.lt_or_ge i (j + 1) with h1 | h1
  · exact Nat.le_trans (ih (by omega) i (by omega)) (hm j (by omega))
  ·
   obtain rfl : i = j + 1 := by omega
   exact Nat.le_refl _
theorem lt_of_get {α : Type} {l : List α} {i : Nat} {x : α} (h : l[i]? = some x) : i < l.length := (List.getElem?_eq_some_iff.1 h).1
theorem Own.tv {w : World} {lo hi : Nat} {t : T} {A : Option Addr} {c : Nat} {A' : Option Addr} {c' : Nat} (h : Own w lo hi t A c A' c') : TV w (fun b => lo ≤ b ∧ b < hi) t A c A' c' := by
 induction h with
 | mk lo hi t A c A' c' h hA hc hA' hc' h1 h2 hrow hlo hmono hhi hkey hin ih =>
  refine .mk t A c A' c' hA hc hA' hc' h1 h2 (fun hn => ?_) (fun hn => ?_) (fun i x hx => ?_)
  ·
   obtain ⟨g, cs, e, h3, h4, _, _, h6⟩ := hrow hn
   refine ⟨g, 0, e, ⟨h3, ?_⟩, fun i x hx => by rw [Nat.zero_add]; exact h6 i x hx⟩
   have := up_to hmono t.items.length (Nat.le_refl _) 0 (by omega)
   omega
  ·
   obtain ⟨g, cs, e, h3, h4, hb, _, h6⟩ := hkey hn
   have := up_to hmono t.items.length (Nat.le_refl _) 0 (by omega)
   exact ⟨g, 0, e, ⟨by omega, h4⟩, fun i s hs => by rw [Nat.zero_add, hb.cell]; exact h6 i s hs⟩
  ·
   have hl := lt_of_get hx
   have a1 := up_to hmono i (by omega) 0 (by omega)
   have a2 := up_to hmono t.items.length (Nat.le_refl _) (i + 1) (by omega)
   exact (ih i x hx).wide fun b hb => ⟨by omega, by omega⟩
theorem Blk.keep {w w' : World} {g : Nat} {t : TypeId} {cs : Array Value} {S : Nat → Prop} (h : Blk w g t cs) (hk : Keeps S w w') (hs : S g) : Blk w' g t cs := (hk g hs).trans h
theorem Six.on_blk {w w' : World} {b o : Nat} {t : T} {A : Option Addr} {c : Nat} {A' : Option Addr} {c' : Nat} (h : Six w b o t A c A' c') (hk : w'.heap[b]? = w.heap[b]?) : Six w' b o t A c A' c' :=
 h.keep (S := (· = b)) rfl (fun x hx => by subst hx; exact hk)
theorem Own.keep {w w' : World} {lo hi : Nat} {t : T} {A : Option Addr} {c : Nat} {A' : Option Addr} {c' : Nat} (h : Own w lo hi t A c A' c') (hk : Keeps (fun b => lo ≤ b ∧ b < hi) w w') : Own w' lo hi t A c A' c' := by
 induction h with
 | mk lo hi t A c A' c' h hA hc hA' hc' h1 h2 hrow hlo hmono hhi hkey hin ih =>
  have a0 := up_to hmono t.items.length (Nat.le_refl _) 0 (by omega)
  refine .mk lo hi t A c A' c' h hA hc hA' hc' h1 h2 (fun hn => ?_) hlo hmono hhi (fun hn => ?_) (fun i x hx => ?_)
  ·
   obtain ⟨g, cs, e, h3, h4, hb, h5, h6⟩ := hrow hn
   exact ⟨g, cs, e, h3, h4, hb.keep hk ⟨h3, by omega⟩, h5, fun i x hx => (h6 i x hx).on_blk (hk g ⟨h3, by omega⟩)⟩
  ·
   obtain ⟨g, cs, e, h3, h4, hb, h5, h6⟩ := hkey hn
   exact ⟨g, cs, e, h3, h4, hb.keep hk ⟨by omega, h4⟩, h5, h6⟩
  ·
   have hl := lt_of_get hx
   have a1 := up_to hmono i (by omega) 0 (by omega)
   have a2 := up_to hmono t.items.length (Nat.le_refl _) (i + 1) (by omega)
   exact ih i x hx (hk.mono fun b hb => ⟨by omega, by omega⟩)
theorem Own.wide {w : World} {lo hi lo' hi' : Nat} {t : T} {A : Option Addr} {c : Nat} {A' : Option Addr} {c' : Nat} (h : Own w lo hi t A c A' c') (h1 : lo' ≤ lo) (h2 : hi ≤ hi') : Own w lo' hi' t A c A' c' := by
 cases h with
 | mk _ _ _ _ _ _ _ h hA hc hA' hc' k1 k2 hrow hlo hmono hhi hkey hin =>
  refine .mk lo' hi' t A c A' c' h hA hc hA' hc' k1 k2 (fun hn => ?_) (by omega) hmono (by omega) (fun hn => ?_) hin
  ·
   obtain ⟨g, cs, e, h3, h4, hb, h5, h6⟩ := hrow hn
   exact ⟨g, cs, e, by omega, h4, hb, h5, h6⟩
  ·
   obtain ⟨g, cs, e, h3, h4, hb, h5, h6⟩ := hkey hn
   exact ⟨g, cs, e, h3, by omega, hb, h5, h6⟩
def OwnRow (w : World) (lo hi : Nat) (l : List T) (A : Option Addr) : Prop :=
 ∃ h : Nat → Nat, (l ≠ [] → ∃ (g : Nat) (cs : Array Value), A = some ⟨g, 0, none⟩ ∧ lo ≤ g ∧ g < h 0 ∧ Blk w g 43 cs ∧ l.length * 6 ≤ cs.size ∧
  ∀ i x, l[i]? = some x → ∃ B d B' d', Six w g (i * 6) x B d B' d' ∧ Own w (h i) (h (i + 1)) x B d B' d') ∧
  lo ≤ h 0 ∧ (∀ i, i < l.length → h i ≤ h (i + 1)) ∧ h l.length ≤ hi
theorem OwnRow.nil (w : World) (lo : Nat) (A : Option Addr) : OwnRow w lo lo [] A := ⟨fun _ => lo, fun h => absurd rfl h, Nat.le_refl _, fun _ h => by simp at h, Nat.le_refl _⟩
theorem OwnRow.keep {w w' : World} {lo hi : Nat} {l : List T} {A : Option Addr} (h : OwnRow w lo hi l A) (hk : Keeps (fun b => lo ≤ b ∧ b < hi) w w') : OwnRow w' lo hi l A := by
 obtain ⟨h, hrow, hlo, hmono, hhi⟩ := h
 have a0 := up_to hmono l.length (Nat.le_refl _) 0 (by omega)
 refine ⟨h, fun hn => ?_, hlo, hmono, hhi⟩
 obtain ⟨g, cs, e, h3, h4, hb, h5, h6⟩ := hrow hn
 refine ⟨g, cs, e, h3, h4, hb.keep hk ⟨h3, by omega⟩, h5, fun i x hx => ?_⟩
 obtain ⟨B, d, B', d', k6, ko⟩ := h6 i x hx
 have hl := lt_of_get hx
 have a1 := up_to hmono i (by omega) 0 (by omega)
 have a2 := up_to hmono l.length (Nat.le_refl _) (i + 1) (by omega)
 exact ⟨B, d, B', d', k6.on_blk (hk g ⟨h3, by omega⟩), ko.keep (hk.mono fun b hb => ⟨by omega, by omega⟩)⟩
theorem OwnRow.vreads {w : World} {lo hi : Nat} {l : List T} {A : Option Addr} (h : OwnRow w lo hi l A) : VReads w (fun b => lo ≤ b ∧ b < hi) A l := by
 obtain ⟨h, hrow, hlo, hmono, hhi⟩ := h
 intro hn
 have a0 := up_to hmono l.length (Nat.le_refl _) 0 (by omega)
 obtain ⟨g, cs, e, h3, h4, hb, h5, h6⟩ := hrow hn
 refine ⟨g, 0, e, ⟨h3, by omega⟩, fun i x hx => ?_⟩
 obtain ⟨B, d, B', d', k6, ko⟩ := h6 i x hx
 have hl := lt_of_get hx
 have a1 := up_to hmono i (by omega) 0 (by omega)
 have a2 := up_to hmono l.length (Nat.le_refl _) (i + 1) (by omega)
 exact ⟨B, d, B', d', by rw [Nat.zero_add]; exact k6, ko.tv.wide fun b hb => ⟨by omega, by omega⟩⟩
def OwnKeys (w : World) (lo hi : Nat) (l : List ByteArray) (A : Option Addr) : Prop :=
 l ≠ [] → ∃ (g : Nat) (cs : Array Value), A = some ⟨g, 0, none⟩ ∧ lo ≤ g ∧ g < hi ∧ Blk w g 9 cs ∧ l.length ≤ cs.size ∧ ∀ (i : Nat) (s : ByteArray), l[i]? = some s → cs[i]? = some (Value.string s)
theorem Own.of {w : World} {lo mid hi : Nat} {t : T} {A : Option Addr} {c : Nat} {A' : Option Addr} {c' : Nat} (h1 : t.items.length ≤ c) (h2 : t.keys.length ≤ c') (hm : mid ≤ hi) (hr : OwnRow w lo mid t.items A) (hk : OwnKeys w mid hi t.keys A') : Own w lo hi t A c A' c' := by
 obtain ⟨h, hrow, hlo, hmono, hhi⟩ := hr
 have hkey : t.keys ≠ [] → ∃ (g : Nat) (cs : Array Value), A' = some ⟨g, 0, none⟩ ∧ h t.items.length ≤ g ∧ g < hi ∧ Blk w g 9 cs ∧ t.keys.length ≤ cs.size ∧ ∀ (i : Nat) (s : ByteArray), t.keys[i]? = some s → cs[i]? = some (Value.string s) := by
  intro hn
  obtain ⟨g, cs, e, h3, h4, hb, h5, h6⟩ := hk hn
  exact ⟨g, cs, e, by omega, h4, hb, h5, h6⟩
 by_cases hn : t.items = []
 · exact .mk lo hi t A c A' c' h (fun _ => none) (fun _ => 0) (fun _ => none) (fun _ => 0) h1 h2 (fun h => absurd hn h) hlo hmono (by omega) hkey (fun i x hx => by rw [hn] at hx; simp at hx)
 ·
  obtain ⟨g, cs, e, h3, h4, hb, h5, h6⟩ := hrow hn
  have : ∀ i, ∃ q : Option Addr × Nat × Option Addr × Nat, ∀ x, t.items[i]? = some x → Six w g (i * 6) x q.1 q.2.1 q.2.2.1 q.2.2.2 ∧ Own w (h i) (h (i + 1)) x q.1 q.2.1 q.2.2.1 q.2.2.2 := by
   intro i
   cases hx : t.items[i]? with
   | none => exact ⟨(none, 0, none, 0), fun x h => by cases h⟩
   | some x =>
    obtain ⟨B, d, B', d', h6⟩ := h6 i x hx
    exact ⟨(B, d, B', d'), fun y h => by injection h with h; subst h; exact h6⟩
  obtain ⟨q, hq⟩ := Classical.axiomOfChoice this
  exact .mk lo hi t A c A' c' h (fun i => (q i).1) (fun i => (q i).2.1) (fun i => (q i).2.2.1) (fun i => (q i).2.2.2) h1 h2
   (fun _ => ⟨g, cs, e, h3, h4, hb, h5, fun i x hx => (hq i x hx).1⟩) hlo hmono (by omega) hkey (fun i x hx => (hq i x hx).2)
def Copied (w : World) (g : Nat) (l : List T) (k : Nat) : Prop :=
 ∃ (h : Nat → Nat) (cs : Array Value), g < h 0 ∧ (∀ i, i < k → h i ≤ h (i + 1)) ∧ h k ≤ w.heap.size ∧ Blk w g 43 cs ∧ cs.size = l.length * 6 ∧
  ∀ i x, i < k → l[i]? = some x → ∃ B d B' d', Six w g (i * 6) x B d B' d' ∧ Own w (h i) (h (i + 1)) x B d B' d'
theorem Copied.row {w : World} {g : Nat} {l : List T} (h : Copied w g l l.length) : OwnRow w g w.heap.size l (some ⟨g, 0, none⟩) := by
 obtain ⟨h, cs, h0, hm, hk, hb, hz, hi⟩ := h
 exact ⟨h, fun _ => ⟨g, cs, rfl, Nat.le_refl _, h0, hb, by omega, fun i x hx => hi i x (lt_of_get hx) hx⟩, by omega, hm, hk⟩
theorem Copied.blk {w : World} {g : Nat} {l : List T} {k : Nat} (h : Copied w g l k) : ∃ cs, Blk w g 43 cs ∧ cs.size = l.length * 6 := by
 obtain ⟨h, cs, _, _, _, hb, hz, _⟩ := h
 exact ⟨cs, hb, hz⟩
theorem Copied.onto {w w' : World} {g : Nat} {l : List T} {k : Nat} (h : Copied w g l k) (hb : Below w.heap.size w w') : Copied w' g l k := by
 obtain ⟨h, cs, h0, hm, hk, hbk, hz, hi⟩ := h
 have hlt := hbk.lt
 refine ⟨h, cs, h0, hm, Nat.le_trans hk hb.size, hbk.onto hb, hz, fun i x hik hx => ?_⟩
 obtain ⟨B, d, B', d', h6, ho⟩ := hi i x hik hx
 have a2 := up_to hm k (Nat.le_refl _) (i + 1) (by omega)
 exact ⟨B, d, B', d', h6.on_blk (hb.block g hlt), ho.keep fun b hb' => hb.block b (by omega)⟩
theorem Copied.step {w : World} {g : Nat} {l : List T} {k q : Nat} {x : T} {B : Option Addr} {d : Nat} {B' : Option Addr} {d' : Nat} (h : Copied w g l k) (hx : l[k]? = some x) (hq : q ≤ w.heap.size)
 (hlow : ∃ w0 : World, Copied w0 g l k ∧ w0.heap.size ≤ q ∧ Below w0.heap.size w0 w) (ho : Own w q w.heap.size x B d B' d') :
 Copied ((((((w.setCell ⟨g, k * 6, none⟩ (.int .i64 x.kind)).setCell ⟨g, k * 6 + 1, none⟩ (.bool x.tr)).setCell ⟨g, k * 6 + 2, none⟩ (.int .i64 x.num)).setCell ⟨g, k * 6 + 3, none⟩ (.string x.str)).setCell ⟨g, k * 6 + 4, none⟩ (.slice B x.items.length d)).setCell ⟨g, k * 6 + 5, none⟩ (.slice B' x.keys.length d')) g l (k + 1) := by
 obtain ⟨w0, h, hsz, hb⟩ := hlow
 obtain ⟨h, cs, h0, hm, hk, hbk, hz, hi⟩ := h
 have hlt := hbk.lt
 have hkl := lt_of_get hx
 have hb2 : Blk w g 43 cs := hbk.onto hb
 obtain ⟨cs', hb', hz', h6', hfar⟩ := six_put hb2 (o := k * 6) (by omega) x B d B' d'
 have hkeep : ∀ b, b ≠ g → ((((((w.setCell ⟨g, k * 6, none⟩ (.int .i64 x.kind)).setCell ⟨g, k * 6 + 1, none⟩ (.bool x.tr)).setCell ⟨g, k * 6 + 2, none⟩ (.int .i64 x.num)).setCell ⟨g, k * 6 + 3, none⟩ (.string x.str)).setCell ⟨g, k * 6 + 4, none⟩ (.slice B x.items.length d)).setCell ⟨g, k * 6 + 5, none⟩ (.slice B' x.keys.length d')).heap[b]? = w.heap[b]? := by
  intro b hne
  rw [Below.heap_setCell _ _ _ _ hne, Below.heap_setCell _ _ _ _ hne, Below.heap_setCell _ _ _ _ hne, Below.heap_setCell _ _ _ _ hne, Below.heap_setCell _ _ _ _ hne, Below.heap_setCell _ _ _ _ hne]
 have hsize : ((((((w.setCell ⟨g, k * 6, none⟩ (.int .i64 x.kind)).setCell ⟨g, k * 6 + 1, none⟩ (.bool x.tr)).setCell ⟨g, k * 6 + 2, none⟩ (.int .i64 x.num)).setCell ⟨g, k * 6 + 3, none⟩ (.string x.str)).setCell ⟨g, k * 6 + 4, none⟩ (.slice B x.items.length d)).setCell ⟨g, k * 6 + 5, none⟩ (.slice B' x.keys.length d')).heap.size = w.heap.size := by simp [World.setCell]
 generalize ((((((w.setCell ⟨g, k * 6, none⟩ (.int .i64 x.kind)).setCell ⟨g, k * 6 + 1, none⟩ (.bool x.tr)).setCell ⟨g, k * 6 + 2, none⟩ (.int .i64 x.num)).setCell ⟨g, k * 6 + 3, none⟩ (.string x.str)).setCell ⟨g, k * 6 + 4, none⟩ (.slice B x.items.length d)).setCell ⟨g, k * 6 + 5, none⟩ (.slice B' x.keys.length d')) = W at *
 have hup := up_to hm k (Nat.le_refl _)
 refine ⟨fun i => if i ≤ k then h i else w.heap.size, cs', by show g < if 0 ≤ k then h 0 else w.heap.size; rw [if_pos (by omega)]; exact h0, fun i hik => ?_, ?_, hb', by omega, fun i y hik hy => ?_⟩
 ·
  show (if i ≤ k then h i else w.heap.size) ≤ if i + 1 ≤ k then h (i + 1) else w.heap.size
  by_cases h1 : i + 1 ≤ k
  · rw [if_pos (by omega), if_pos h1]; exact hm i (by omega)
  ·
   rw [if_pos (by omega), if_neg h1]
   have := hup i (by omega)
   omega
 · show (if k + 1 ≤ k then h (k + 1) else w.heap.size) ≤ W.heap.size; rw [if_neg (by omega)]; omega
 ·
  show ∃ B d B' d', Six W g (i * 6) y B d B' d' ∧ Own W (if i ≤ k then h i else w.heap.size) (if i + 1 ≤ k then h (i + 1) else w.heap.size) y B d B' d'
  rcases Nat.lt_or_ge i k with h1 | h1
  ·
   obtain ⟨C, e, C', e', k6, ko⟩ := hi i y h1 hy
   have a0 := hup 0 (by omega)
   have a1 := up_to hm i (by omega) 0 (by omega)
   have a2 := hup (i + 1) (by omega)
   rw [if_pos (by omega), if_pos (by omega)]
   refine ⟨C, e, C', e', ?_, ko.keep fun b hb1 => ?_⟩
   ·
    have hc : ∀ j, j < 6 → W.cell? ⟨g, i * 6 + j, none⟩ = w0.cell? ⟨g, i * 6 + j, none⟩ := fun j hj => by
     rw [hb'.cell, hbk.cell]; exact hfar _ (by omega)
    obtain ⟨e0, e1, e2, e3, e4, e5⟩ := k6
    exact ⟨(hc 0 (by omega)).trans e0, (hc 1 (by omega)).trans e1, (hc 2 (by omega)).trans e2, (hc 3 (by omega)).trans e3, (hc 4 (by omega)).trans e4, (hc 5 (by omega)).trans e5⟩
   · exact (hkeep b (by omega)).trans (hb.block b (by omega))
  ·
   obtain rfl : i = k := by omega
   rw [hx] at hy
   injection hy with hy
   subst hy
   rw [if_pos (by omega), if_neg (by omega)]
   exact ⟨B, d, B', d', h6', (ho.keep fun b hb1 => hkeep b (by omega)).wide (by omega) (Nat.le_refl _)⟩
open Go.RowKit
theorem own_keys {w : World} {base : Nat} {v : Value} {l : List ByteArray} (h : w.ownsRow base 9 1 v l.length (l.map Value.string)) :
 ∃ B d, v = .slice B l.length d ∧ l.length ≤ d ∧ OwnKeys w base w.heap.size l B := by
 rcases h.2 with ⟨rfl, h0⟩ | ⟨g, cap, cur, rfl, hb, hh, hle, hm, hs, ht⟩
 ·
  obtain rfl : l = [] := List.eq_nil_of_length_eq_zero h0
  exact ⟨none, 0, rfl, Nat.le_refl _, fun hn => absurd rfl hn⟩
 ·
  refine ⟨_, _, rfl, hle, fun _ => ⟨g, cur, rfl, hb, (Array.getElem?_eq_some_iff.1 hh).1, hh, by omega, fun i s hi => ?_⟩⟩
  have hl := lt_of_get hi
  have h1 : (cur.toList.take (l.length * 1))[i]? = (l.map Value.string)[i]? := by rw [ht]
  rw [List.getElem?_take_of_lt (by omega), Array.getElem?_toList, List.getElem?_map, hi] at h1
  exact h1
theorem OwnKeys.sreads {w : World} {lo hi : Nat} {l : List ByteArray} {A : Option Addr} (h : OwnKeys w lo hi l A) : SReads w (fun b => lo ≤ b ∧ b < hi) A l := by
 intro hn
 obtain ⟨g, cs, e, h1, h2, hb, _, hc⟩ := h hn
 exact ⟨g, 0, e, ⟨h1, h2⟩, fun i s hs => by rw [Nat.zero_add, hb.cell]; exact hc i s hs⟩
theorem clone_own (l : List ByteArray) (A : Option Addr) (c : Nat) (w : World) (hl : l.length ≤ 100000) (hr : SReads w (· < w.heap.size) A l) :
 Calls Tryz.prog 78 #[.slice A l.length c] w fun e w' => ∃ v, e = .returned v ∧ w'.ownsRow w.heap.size 9 1 v l.length (l.map Value.string) ∧ Below w.heap.size w w' := by
 by_cases hn : l = []
 ·
  subst hn
  cases A with
  | none => exact (Tryz.slices_Clone_string_nil _ c w).mono fun e w' ⟨he, hw⟩ => ⟨_, he, World.ownsRow_nil _ _ _ _, hw ▸ Below.refl _ _⟩
  | some a => exact (Tryz.slices_Clone_string_zero a c w).mono fun e w' ⟨v, he, ho, _, hb⟩ => ⟨v, he, ho, hb⟩
 ·
  obtain ⟨b, o, rfl, _, hc⟩ := hr hn
  refine (Tryz.slices_Clone_string b o l.length c l w (Nat.le_refl _) (by omega) (fun j hj => ?_)).mono fun e w' ⟨v, he, ho, _, hb⟩ => ⟨v, he, ?_, hb⟩
  · exact hc j _ (by rw [List.getElem?_eq_getElem hj, List.getD_eq_getElem?_getD, List.getElem?_eq_getElem hj]; rfl)
  · rw [List.take_length] at ho; exact ho
theorem clone_any (l : List ByteArray) (A : Option Addr) (c : Nat) (w : World) (hl : l.length ≤ 100000) (hr : SReads w (· < w.heap.size) A l) :
 Calls Tryz.prog 78 #[.slice A l.length c] w fun e w' => ∃ B d, e = .returned (.slice B l.length d) ∧ l.length ≤ d ∧ OwnKeys w' w.heap.size w'.heap.size l B ∧ Below w.heap.size w w' :=
 (clone_own l A c w hl hr).mono fun e w' ⟨v, he, ho, hb⟩ => by
  obtain ⟨B, d, rfl, hd, hk⟩ := own_keys ho
  exact ⟨B, d, he, hd, hk, hb⟩
theorem infoVal : (Tryz.prog.info? 43).map (fun i => (i.zero, i.size, i.bytes)) = some (some (.agg #[.int .i64 0, .bool false, .int .i64 0, .string ⟨#[]⟩, .slice none 0 0, .slice none 0 0]), 6, 88) := by kernel_rfl
def GivesOwn (t : T) (w : World) (e : Ending) (w' : World) : Prop := ∃ B d B' d', e = .returned (t.agg B d B' d') ∧ Own w' w.heap.size w'.heap.size t B d B' d' ∧ Below w.heap.size w w'
def GivesOwnRow (l : List T) (w : World) (e : Ending) (w' : World) : Prop := ∃ B d, e = .returned (.slice B l.length d) ∧ l.length ≤ d ∧ OwnRow w' w.heap.size w'.heap.size l B ∧ Below w.heap.size w w'
def CopyAt (n : Nat) : Prop := ∀ (t : T) (A : Option Addr) (c : Nat) (A' : Option Addr) (c' : Nat) (w : World), t.size ≤ n → n ≤ 100000 → t.Small → TV w (· < w.heap.size) t A c A' c' →
 Calls Tryz.prog 61 #[t.agg A c A' c'] w (GivesOwn t w)
theorem copies_of (n : Nat) (ih : CopyAt n) (l : List T) (A : Option Addr) (c : Nat) (w : World) (hl : T.sizes l ≤ n) (hn : n ≤ 100000) (hs : ∀ x ∈ l, x.Small) (hv : VReads w (· < w.heap.size) A l) :
 Calls Tryz.prog 39 #[.slice A l.length c] w (GivesOwnRow l w) := by
 have hll := T.len_sizes l
 obtain ⟨i0, hi, hz0, hz1, hz2⟩ := info_parts infoVal
 by_cases h0 : l.length = 0
 ·
  have t0 : ((l.length : Int) == 0) = true := by simp; exact List.eq_nil_of_length_eq_zero h0
  obtain rfl : l = [] := List.eq_nil_of_length_eq_zero h0
  go_enter Tryz.func39, Tryz.ntmps39
  go_wp2_with fail
  go_ret
  exact ⟨none, 0, rfl, Nat.le_refl _, OwnRow.nil _ _ _, Below.refl _ _⟩
 ·
  have t0 : ((l.length : Int) == 0) = false := by rw [beq_eq_false_iff_ne]; omega
  have hmk : ∀ W : World, (Instr.makeSlice 40 (.int .i64 l.length) (.int .i64 l.length)).run Tryz.prog W = .ok (.slice (some ⟨W.heap.size, 0, none⟩) l.length l.length) (W.alloc (.cells (madeCells #[.int .i64 0, .bool false, .int .i64 0, .string ⟨#[]⟩, .slice none 0 0, .slice none 0 0] (l.length * 6)) 43)) := by
   intro W
   have := run_make (P := Tryz.prog) W 40 43 i0 _ Tryz.underlying40 hi hz0 .i64 .i64 l.length l.length (by omega) (by omega) (by rw [hz2]; omega) (by omega)
   rw [hz1] at this
   exact this
  have IH := hid ih
  have HV := hid hv
  have HS := hid hs
  clear ih hv hs hz0 hz1 hz2 hi h0
  go_enter Tryz.func39, Tryz.ntmps39
  go_wp2_with fail
  go_loopw [14] (fun i wr => ∃ k : Nat, k ≤ l.length ∧ i = .int .i64 k ∧ Copied wr w.heap.size l k ∧ Below w.heap.size w wr) (fun i _ => l.length - (intOf i).toNat)
  case atStart =>
   refine ⟨0, Nat.zero_le _, rfl, ⟨fun _ => w.heap.size + 1, _, Nat.lt_succ_self _, fun i h => by omega, by simp, Blk.new _ _ _, by rw [size_madeCells], fun i x h => by omega⟩, (Below.refl _ _).alloc (Nat.le_refl _) _⟩
  case round =>
   clear hmk
   obtain ⟨k, hk, rfl, hcp, hbel⟩ := hrel
   have Hbel := hid hbel
   have Hcp := hid hcp
   clear hbel hcp
   by_cases hlt : k < l.length
   ·
    have u1 : decide (k < l.length) = true := decide_eq_true hlt
    obtain ⟨b, o, x, B, d, B', d', rfl, hb, hx, h6, hX⟩ := HV.out.at_ hlt
    have hxs := T.mem_size (List.mem_of_getElem? hx)
    have HXs := hid (HS.out x (List.mem_of_getElem? hx))
    have HX := hid hX
    have Hx := hid hx
    obtain ⟨e0, e1, e2, e3, e4, e5⟩ := h6.keep hb (.of_below Hbel.out)
    clear hX h6 hx
    go_wp2_with fail
    refine (IH.out x B d B' d' _ (by omega) (by omega) HXs.out (HX.out.on (Hbel.out.alloc Hbel.out.size _))).mono ?_
    rintro e w2 ⟨C, f, C', f', rfl, ho2, hb2⟩
    unfold T.agg
    have hq : wr.heap.size + 1 ≤ w2.heap.size := by have := hb2.size; simpa using this
    have hbw : Below wr.heap.size wr w2 := ((Below.refl _ wr).alloc (Nat.le_refl _) _).trans (hb2.mono (by simp))
    have hcp2 := Hcp.out.onto hbw
    obtain ⟨cs, hbk, hz⟩ := hcp2.blk
    obtain ⟨v0, v1, v2, v3, v4, v5, f0, f1, f2, f3, f4, f5⟩ := hbk.six (o := k * 6) (by omega)
    have z0 := hbk.free (k * 6)
    have z1 := hbk.free (k * 6 + 1)
    have z2 := hbk.free (k * 6 + 2)
    have z3 := hbk.free (k * 6 + 3)
    have z4 := hbk.free (k * 6 + 4)
    have z5 := hbk.free (k * 6 + 5)
    have ho3 : Own w2 (wr.heap.size + 1) w2.heap.size x C f C' f' := by have := ho2; simpa using this
    have HST := hid (hcp2.step Hx.out hq ⟨wr, Hcp.out, Nat.le_succ _, hbw⟩ ho3)
    have Hb2 := hid (Hbel.out.trans (hbw.mono Hbel.out.size))
    clear hbk hcp2 hb2 ho2 ho3 hbw hz
    go_wp2_with fail
    go_roundw
    case rel => exact ⟨k + 1, hlt, by go_num, HST.out, (((((Hb2.out.setCell (Nat.le_refl _) _).setCell (Nat.le_refl _) _).setCell (Nat.le_refl _) _).setCell (Nat.le_refl _) _).setCell (Nat.le_refl _) _).setCell (Nat.le_refl _) _⟩
    case measure => simp [intOf]; omega
   ·
    obtain rfl : l.length = k := by omega
    go_wp2_with fail
    go_ret
    exact ⟨_, _, rfl, Nat.le_refl _, Hcp.out.row, Hbel.out⟩
theorem copy_at (n : Nat) : CopyAt n := by
 induction n with
 | zero => intro t _ _ _ _ _ h; have := t.size_pos; omega
 | succ n ih =>
  intro t A c A' c' w ht hn hs hv
  have hse := t.size_eq
  have hkl := hs.here
  have IH := hid ih
  have HV := hid hv
  have HS := hid hs
  have hss : T.sizes t.items ≤ n := by omega
  clear ih hv hse hs
  unfold T.agg
  go_enter Tryz.func61, Tryz.ntmps61
  go_wp2_with fail
  have hbW : Below w.heap.size w ((w.alloc (Obj.cells (t.cs A c A' c') 43)).alloc (Obj.cells #[.int .i64 0, .bool false, .int .i64 0, .string ⟨#[]⟩, .slice none 0 0, .slice none 0 0] 43)) := ((Below.refl _ _).alloc (Nat.le_refl _) _).alloc (by simp) _
  have hB : Blk ((w.alloc (Obj.cells (t.cs A c A' c') 43)).alloc (Obj.cells #[.int .i64 0, .bool false, .int .i64 0, .string ⟨#[]⟩, .slice none 0 0, .slice none 0 0] 43)) w.heap.size 43 (t.cs A c A' c') := (Blk.new w _ _).alloc _
  have hR : Blk ((w.alloc (Obj.cells (t.cs A c A' c') 43)).alloc (Obj.cells #[.int .i64 0, .bool false, .int .i64 0, .string ⟨#[]⟩, .slice none 0 0, .slice none 0 0] 43)) (w.heap.size + 1) 43 #[.int .i64 0, .bool false, .int .i64 0, .string ⟨#[]⟩, .slice none 0 0, .slice none 0 0] := by
   have := Blk.new (w.alloc (Obj.cells (t.cs A c A' c') 43)) 43 #[.int .i64 0, .bool false, .int .i64 0, .string ⟨#[]⟩, .slice none 0 0, .slice none 0 0]
   simpa using this
  refine (copies_of n IH.out t.items A c _ hss (by omega) (fun x hx => HS.out.mem hx) (HV.out.vreads.on hbW)).mono ?_
  rintro e w2 ⟨C, f, rfl, hf, ho, hb2⟩
  have hB2 := hB.onto hb2
  have hR2 := hR.onto hb2
  have hbW2 := hbW.trans (hb2.mono hbW.size)
  have hlo : w.heap.size + 2 ≤ w2.heap.size := by have := hb2.size; simpa using this
  have ho2 : OwnRow w2 (w.heap.size + 2) w2.heap.size t.items C := by have := ho; simpa using this
  clear hbW hB hR hb2 ho
  have d4 : w2.cell? ⟨w.heap.size, 4, none⟩ = some (.slice A t.items.length c) := hB2.cell 4
  have z4 := hB2.free 4
  have HB3 := hid (hB2.set_ 4 (.slice C t.items.length f))
  have HR3 := hid (hR2.far (p := ⟨w.heap.size, 4, none⟩) (by simp) (.slice C t.items.length f))
  have Hb3 := hid (hbW2.setCell (p := ⟨w.heap.size, 4, none⟩) (Nat.le_refl _) (.slice C t.items.length f))
  have HO3 := hid (ho2.keep (w' := w2.setCell ⟨w.heap.size, 4, none⟩ (.slice C t.items.length f)) (fun b hb => Below.heap_setCell _ _ _ _ (by show b ≠ w.heap.size; omega)))
  have hsz3 : (w2.setCell ⟨w.heap.size, 4, none⟩ (.slice C t.items.length f)).heap.size = w2.heap.size := by simp [World.setCell]
  rw [← hsz3] at HO3 hlo
  have d5 : (w2.setCell ⟨w.heap.size, 4, none⟩ (.slice C t.items.length f)).cell? ⟨w.heap.size, 5, none⟩ = some (.slice A' t.keys.length c') := HB3.out.cell 5
  clear hB2 hR2 hbW2 ho2 hsz3
  go_wp2_with fail
  generalize w2.setCell ⟨w.heap.size, 4, none⟩ (.slice C t.items.length f) = W at *
  clear d4 z4 d5
  refine (clone_any t.keys A' c' _ hkl (HV.out.keys.on Hb3.out)).mono ?_
  rintro e w4 ⟨D, g, rfl, hg, hk, hb4⟩
  have hB4 := HB3.out.onto hb4
  have hR4 := HR3.out.onto hb4
  have hO4 := HO3.out.keep ((Keeps.of_below hb4).mono fun b hb => hb.2)
  have hb5 := Hb3.out.trans (hb4.mono Hb3.out.size)
  have hs4 := hb4.size
  clear hb4
  have d0 : w4.cell? ⟨w.heap.size, 0, none⟩ = some (.int .i64 t.kind) := hB4.cell 0
  have d1 : w4.cell? ⟨w.heap.size, 1, none⟩ = some (.bool t.tr) := hB4.cell 1
  have d2 : w4.cell? ⟨w.heap.size, 2, none⟩ = some (.int .i64 t.num) := hB4.cell 2
  have d3 : w4.cell? ⟨w.heap.size, 3, none⟩ = some (.string t.str) := hB4.cell 3
  have d4 : w4.cell? ⟨w.heap.size, 4, none⟩ = some (.slice C t.items.length f) := hB4.cell 4
  have d5 : w4.cell? ⟨w.heap.size, 5, none⟩ = some (.slice A' t.keys.length c') := hB4.cell 5
  have z5 := hB4.free 5
  have r0 : w4.cell? ⟨w.heap.size + 1, 0, none⟩ = some (.int .i64 0) := hR4.cell 0
  have r1 : w4.cell? ⟨w.heap.size + 1, 1, none⟩ = some (.bool false) := hR4.cell 1
  have r2 : w4.cell? ⟨w.heap.size + 1, 2, none⟩ = some (.int .i64 0) := hR4.cell 2
  have r3 : w4.cell? ⟨w.heap.size + 1, 3, none⟩ = some (.string ⟨#[]⟩) := hR4.cell 3
  have r4 : w4.cell? ⟨w.heap.size + 1, 4, none⟩ = some (.slice none 0 0) := hR4.cell 4
  have r5 : w4.cell? ⟨w.heap.size + 1, 5, none⟩ = some (.slice none 0 0) := hR4.cell 5
  have x0 := hR4.free 0
  have x1 := hR4.free 1
  have x2 := hR4.free 2
  have x3 := hR4.free 3
  have x4 := hR4.free 4
  have x5 := hR4.free 5
  have HB4 := hid hB4
  have HR4 := hid hR4
  have HO4 := hid hO4
  have Hk := hid hk
  have Hb5 := hid hb5
  clear hB4 hR4 hO4 hk hb5 HB3 HR3 HO3 Hb3
  go_wp2_with fail
  have hF := res_put (HR4.out.far (p := ⟨w.heap.size, 5, none⟩) (by simp) (.slice D t.keys.length g)) rfl t C f D g
  have hK : Keeps (fun b => w.heap.size + 2 ≤ b) w4 (((((((w4.setCell ⟨w.heap.size, 5, none⟩ (.slice D t.keys.length g)).setCell ⟨w.heap.size + 1, 0, none⟩ (.int .i64 t.kind)).setCell ⟨w.heap.size + 1, 1, none⟩ (.bool t.tr)).setCell ⟨w.heap.size + 1, 2, none⟩ (.int .i64 t.num)).setCell ⟨w.heap.size + 1, 3, none⟩ (.string t.str)).setCell ⟨w.heap.size + 1, 4, none⟩ (.slice C t.items.length f)).setCell ⟨w.heap.size + 1, 5, none⟩ (.slice D t.keys.length g)) := by
   intro b hb
   have h1 : b ≠ w.heap.size + 1 := by omega
   have h2 : b ≠ w.heap.size := by omega
   rw [Below.heap_setCell _ _ _ _ h1, Below.heap_setCell _ _ _ _ h1, Below.heap_setCell _ _ _ _ h1, Below.heap_setCell _ _ _ _ h1, Below.heap_setCell _ _ _ _ h1, Below.heap_setCell _ _ _ _ h1, Below.heap_setCell _ _ _ _ h2]
  have hL : Below w.heap.size w (((((((w4.setCell ⟨w.heap.size, 5, none⟩ (.slice D t.keys.length g)).setCell ⟨w.heap.size + 1, 0, none⟩ (.int .i64 t.kind)).setCell ⟨w.heap.size + 1, 1, none⟩ (.bool t.tr)).setCell ⟨w.heap.size + 1, 2, none⟩ (.int .i64 t.num)).setCell ⟨w.heap.size + 1, 3, none⟩ (.string t.str)).setCell ⟨w.heap.size + 1, 4, none⟩ (.slice C t.items.length f)).setCell ⟨w.heap.size + 1, 5, none⟩ (.slice D t.keys.length g)) :=
   ((((((Hb5.out.setCell (Nat.le_refl _) _).setCell (Nat.le_succ _) _).setCell (Nat.le_succ _) _).setCell (Nat.le_succ _) _).setCell (Nat.le_succ _) _).setCell (Nat.le_succ _) _).setCell (Nat.le_succ _) _
  have hZ : (((((((w4.setCell ⟨w.heap.size, 5, none⟩ (.slice D t.keys.length g)).setCell ⟨w.heap.size + 1, 0, none⟩ (.int .i64 t.kind)).setCell ⟨w.heap.size + 1, 1, none⟩ (.bool t.tr)).setCell ⟨w.heap.size + 1, 2, none⟩ (.int .i64 t.num)).setCell ⟨w.heap.size + 1, 3, none⟩ (.string t.str)).setCell ⟨w.heap.size + 1, 4, none⟩ (.slice C t.items.length f)).setCell ⟨w.heap.size + 1, 5, none⟩ (.slice D t.keys.length g)).heap.size = w4.heap.size := by simp [World.setCell]
  generalize (((((((w4.setCell ⟨w.heap.size, 5, none⟩ (.slice D t.keys.length g)).setCell ⟨w.heap.size + 1, 0, none⟩ (.int .i64 t.kind)).setCell ⟨w.heap.size + 1, 1, none⟩ (.bool t.tr)).setCell ⟨w.heap.size + 1, 2, none⟩ (.int .i64 t.num)).setCell ⟨w.heap.size + 1, 3, none⟩ (.string t.str)).setCell ⟨w.heap.size + 1, 4, none⟩ (.slice C t.items.length f)).setCell ⟨w.heap.size + 1, 5, none⟩ (.slice D t.keys.length g)) = W5 at *
  have m0 : W5.cell? ⟨w.heap.size + 1, 0, none⟩ = some (.int .i64 t.kind) := hF.cell 0
  have m1 : W5.cell? ⟨w.heap.size + 1, 1, none⟩ = some (.bool t.tr) := hF.cell 1
  have m2 : W5.cell? ⟨w.heap.size + 1, 2, none⟩ = some (.int .i64 t.num) := hF.cell 2
  have m3 : W5.cell? ⟨w.heap.size + 1, 3, none⟩ = some (.string t.str) := hF.cell 3
  have m4 : W5.cell? ⟨w.heap.size + 1, 4, none⟩ = some (.slice C t.items.length f) := hF.cell 4
  have m5 : W5.cell? ⟨w.heap.size + 1, 5, none⟩ = some (.slice D t.keys.length g) := hF.cell 5
  refine bodyPost_ret (v := .agg #[.int .i64 t.kind, .bool t.tr, .int .i64 t.num, .string t.str, .slice C t.items.length f, .slice D t.keys.length g]) (by simp [results, Tryz.results61, go_sem, m0, m1, m2, m3, m4, m5]) rfl ⟨C, f, D, g, rfl, ?_, hL⟩
  have hO5 : OwnRow W5 (w.heap.size + 2) W.heap.size t.items C := HO4.out.keep (hK.mono fun b hb => hb.1)
  have hk5 : OwnKeys W5 W.heap.size W5.heap.size t.keys D := by
   rw [hZ]
   intro hn
   obtain ⟨g1, cs, e, h1, h2, hb, h3, hc⟩ := Hk.out hn
   exact ⟨g1, cs, e, h1, h2, hb.keep hK (by show _ ≤ _; omega), h3, hc⟩
  exact (Own.of hf hg (by rw [hZ]; exact hs4) hO5 hk5).wide (by omega) (Nat.le_refl _)
theorem copies_any (l : List T) (A : Option Addr) (c : Nat) (w : World) (hl : T.sizes l ≤ 100000) (hs : ∀ x ∈ l, x.Small) (hv : VReads w (· < w.heap.size) A l) :
 Calls Tryz.prog 39 #[.slice A l.length c] w (GivesOwnRow l w) := copies_of 100000 (copy_at _) l A c w hl (Nat.le_refl _) hs hv
open Go.RowKit
open Pl
theorem getD_take_succ (l : List Int) (k : Nat) (h : k < l.length) : l.take (k + 1) = l.take k ++ [l.getD k 0] := by
 rw [List.take_succ_eq_append_getElem h]; simp [List.getElem?_eq_getElem h]
theorem Reads.below {w w' : World} {B B' : Nat} {A : Option Addr} {l : List Int} (h : Reads w B A l) (hb : Below B' w w') (hB : B ≤ B') : Reads w' B A l := by
 intro hn
 obtain ⟨b, o, e, hlt, hc⟩ := h hn
 exact ⟨b, o, e, hlt, fun i hi => (hb.cell (p := ⟨b, o + i, none⟩) (by show b < B'; omega)).trans (hc i hi)⟩
theorem Reads.more {w : World} {B B' : Nat} {A : Option Addr} {l : List Int} (h : Reads w B A l) (hB : B ≤ B') : Reads w B' A l := by
 intro hn
 obtain ⟨b, o, e, hlt, hc⟩ := h hn
 exact ⟨b, o, e, by omega, hc⟩
theorem own_reads {w : World} {base : Nat} {v : Value} {l : List Int} (h : w.ownsRow base 3 1 v l.length (l.map (Value.int .i64))) : ∃ A c, v = .slice A l.length c ∧ Reads w w.heap.size A l := by
 rcases h.2 with ⟨rfl, h0⟩ | ⟨g, cap, cur, rfl, hb, hh, _⟩
 ·
  obtain rfl : l = [] := List.eq_nil_of_length_eq_zero h0
  exact ⟨none, 0, rfl, fun hn => absurd rfl hn⟩
 ·
  refine ⟨_, _, rfl, fun _ => ⟨g, 0, rfl, (Array.getElem?_eq_some_iff.1 hh).1, fun i hi => ?_⟩⟩
  have := h.cells (g := g) rfl i (.int .i64 (l.getD i 0)) (by simp [List.getElem?_eq_getElem hi])
  have hadd : (⟨g, 0, none⟩ : Addr).add i = ⟨g, 0 + i, none⟩ := by unfold Addr.add; split <;> simp_all
  rwa [hadd] at this
def GivesRow (l : List Int) (x : Value) (w : World) (e : Ending) (w' : World) : Prop :=
 ∃ A c, e = .returned (.tuple #[.slice A l.length c, x]) ∧ Reads w' w'.heap.size A l ∧ Below w.heap.size w w'
open Go.RowKit
open Pl
def okText (s : ByteArray) : Prop := ∃ l, Split s.data.toList l []
theorem okText_nil : okText ByteArray.empty := ⟨[], rfl, rfl, fun x hx => by cases hx⟩
def AllText (l : List ByteArray) : Prop := ∀ s ∈ l, okText s
theorem SReads.at_ {w : World} {S : Nat → Prop} {A : Option Addr} {l : List ByteArray} (h : SReads w S A l) {k : Nat} (hk : k < l.length) :
 ∃ b o s, A = some ⟨b, o, none⟩ ∧ S b ∧ l[k]? = some s ∧ w.cell? ⟨b, o + k, none⟩ = some (.string s) := by
 obtain ⟨b, o, e, hs, hi⟩ := h (by intro hn; rw [hn] at hk; simp at hk)
 exact ⟨b, o, _, e, hs, List.getElem?_eq_getElem hk, hi k _ (List.getElem?_eq_getElem hk)⟩
def sl (a b : ByteArray) : Bool := Op.bytesLess a.toList b.toList
theorem sl_iff (a b : ByteArray) : sl a b = true ↔ a.data.toList < b.data.toList := by
 unfold sl
 rw [Go.Proofs.bytesLess_eq, ByteArray.toList_eq, ByteArray.toList_eq]
 exact decide_eq_true_iff
theorem ba_ext {a b : ByteArray} (h : a.data.toList = b.data.toList) : a = b := by
 cases a; cases b; simp at h; rw [h]
theorem sl_irrefl (a : ByteArray) : sl a a = false := by
 rw [Bool.eq_false_iff]; intro h; exact List.lt_irrefl _ ((sl_iff a a).1 h)
theorem sl_trans {a b c : ByteArray} (h : sl a b = true) (k : sl b c = true) : sl a c = true := (sl_iff _ _).2 (List.lt_trans ((sl_iff _ _).1 h) ((sl_iff _ _).1 k))
theorem sl_tri (a b : ByteArray) : sl a b = true ∨ a = b ∨ sl b a = true := by
 by_cases h : a.data.toList < b.data.toList
 · exact .inl ((sl_iff _ _).2 h)
 ·
  rcases List.le_iff_lt_or_eq.1 (List.not_lt.1 h) with h | h
  · exact .inr (.inr ((sl_iff _ _).2 h))
  · exact .inr (.inl (ba_ext h.symm))
theorem sl_asymm {a b : ByteArray} (h : sl a b = true) : sl b a = false := by
 rw [Bool.eq_false_iff]; intro k
 have := sl_trans h k
 rw [sl_irrefl] at this; cases this
def Rising (l : List ByteArray) : Prop := ∀ (i : Nat) (a b : ByteArray), l[i]? = some a → l[i + 1]? = some b → sl a b = true
open Go.RowKit Go.Sort
def srt (l : List ByteArray) : List ByteArray := ((l.map fun s => s.data.toList).mergeSort fun x y => decide (x ≤ y)).map fun b => ⟨b.toArray⟩
theorem map_back (l : List ByteArray) : (l.map fun s => s.data.toList).map (fun b => (⟨b.toArray⟩ : ByteArray)) = l := by
 rw [List.map_map]
 conv => rhs; rw [← List.map_id l]
 apply List.map_congr_left
 intro s _
 cases s; simp
theorem srt_perm (l : List ByteArray) : (srt l).Perm l := by
 have := (List.mergeSort_perm (l.map fun s => s.data.toList) fun x y => decide (x ≤ y)).map fun b => (⟨b.toArray⟩ : ByteArray)
 rw [map_back] at this
 exact this
theorem srt_len (l : List ByteArray) : (srt l).length = l.length := (srt_perm l).length_eq
theorem srt_pair (l : List ByteArray) : (srt l).Pairwise fun a b => sl b a = false := by
 unfold srt
 rw [List.pairwise_map]
 refine (List.pairwise_mergeSort (le := fun x y => decide (x ≤ y)) ?_ ?_ _).imp ?_
 ·
  intro a b c h1 h2
  simp only [decide_eq_true_eq] at *
  exact List.le_trans h1 h2
 ·
  intro a b
  simp only [Bool.or_eq_true, decide_eq_true_eq]
  exact List.le_total a b
 ·
  intro a b h
  rw [decide_eq_true_eq] at h
  rw [Bool.eq_false_iff]
  intro k
  exact h (by have := (sl_iff _ _).1 k; simpa using this)
theorem get_pair {α : Type} {R : α → α → Prop} {l : List α} (h : l.Pairwise R) {i j : Nat} {a b : α} (hi : l[i]? = some a) (hj : l[j]? = some b) (hij : i < j) : R a b := by
 have h1 := lt_of_get hi
 have h2 := lt_of_get hj
 have := List.pairwise_iff_getElem.1 h i j h1 h2 hij
 rw [List.getElem?_eq_getElem h1] at hi
 rw [List.getElem?_eq_getElem h2] at hj
 injection hi with hi
 injection hj with hj
 rw [hi, hj] at this
 exact this
theorem srt_rising {l : List ByteArray} (h : l.Nodup) : Rising (srt l) := by
 intro i a b ha hb
 have h1 := get_pair (srt_pair l) ha hb (by omega)
 have h2 : a ≠ b := get_pair ((srt_perm l).nodup_iff.2 h) ha hb (by omega)
 rcases sl_tri a b with k | k | k
 · exact k
 · exact absurd k h2
 · rw [h1] at k; cases k
theorem Rising.mono {l : List ByteArray} (h : Rising l) {i : Nat} {a : ByteArray} (hi : l[i]? = some a) : ∀ (j : Nat) (b : ByteArray), i < j → l[j]? = some b → sl a b = true := by
 intro j
 induction j with
 | zero => intro b h0; omega
 | succ j ih =>
  intro b hij hb
  rcases Nat.lt_or_ge i j with h1 | h1
  ·
   have hj : j < l.length := by have := lt_of_get hb; omega
   have h2 := ih _ h1 (List.getElem?_eq_getElem hj)
   exact sl_trans h2 (h j _ b (List.getElem?_eq_getElem hj) hb)
  ·
   obtain rfl : i = j := by omega
   exact h i a b hi hb
theorem Rising.nodup {l : List ByteArray} (h : Rising l) : l.Nodup := by
 rw [List.Nodup, List.pairwise_iff_getElem]
 intro i j h1 h2 hij heq
 have := h.mono (List.getElem?_eq_getElem h1) j _ hij (List.getElem?_eq_getElem h2)
 rw [heq, sl_irrefl] at this
 cases this
theorem srt_map (l : List ByteArray) : ((l.map fun s => s.data.toList).mergeSort fun x y => decide (x ≤ y)).map encStr = (srt l).map Value.string := by
 unfold srt
 rw [List.map_map]
 rfl
open Go.RowKit
def T.zero : T := .mk 0 false 0 ⟨#[]⟩ [] []
def look : List ByteArray → List T → ByteArray → T
 | k :: r, x :: s, q => if k.data = q.data then x else look r s q
 | _, _, _ => T.zero
theorem look_at {keys : List ByteArray} {items : List T} (hn : keys.Nodup) {i : Nat} {k : ByteArray} {x : T} (hk : keys[i]? = some k) (hx : items[i]? = some x) : look keys items k = x := by
 induction keys generalizing items i with
 | nil => simp at hk
 | cons a r ih =>
  cases items with
  | nil => simp at hx
  | cons y s =>
   cases i with
   | zero =>
    simp at hk hx
    subst hk hx
    simp [look]
   | succ i =>
    simp at hk hx
    have h1 : a.data ≠ k.data := by
     intro h
     have h2 : a = k := by cases a; cases k; simp at h; rw [h]
     subst h2
     exact (List.nodup_cons.1 hn).1 (List.mem_of_getElem? hk)
    rw [look, if_neg h1]
    exact ih (List.nodup_cons.1 hn).2 hk hx
def placed (keys : List ByteArray) (items : List T) : List T := (srt keys).map (look keys items)
def objT (keys : List ByteArray) (items : List T) : T := .mk 5 false 0 ⟨#[]⟩ (placed keys items) (srt keys)
def Placed (w : World) (R g : Nat) (keys : List ByteArray) (items : List T) (k : Nat) : Prop :=
 ∃ cs : Array Value, Blk w g 43 cs ∧ cs.size = keys.length * 6 ∧
  ∀ (i p : Nat) (s : ByteArray) (x : T), i < k → keys[i]? = some s → (srt keys)[p]? = some s → items[i]? = some x → ∃ B d B' d', Six w g (p * 6) x B d B' d' ∧ TV w (fun b => R < b ∧ b < w.heap.size ∧ b ≠ g) x B d B' d'
theorem Placed.blk {w : World} {R g : Nat} {keys : List ByteArray} {items : List T} {k : Nat} (h : Placed w R g keys items k) : ∃ cs, Blk w g 43 cs ∧ cs.size = keys.length * 6 := by
 obtain ⟨cs, hb, hz, _⟩ := h
 exact ⟨cs, hb, hz⟩
theorem Placed.onto {w w' : World} {R g : Nat} {keys : List ByteArray} {items : List T} {k : Nat} (h : Placed w R g keys items k) (hb : Below w.heap.size w w') : Placed w' R g keys items k := by
 obtain ⟨cs, hbk, hz, hi⟩ := h
 refine ⟨cs, hbk.onto hb, hz, fun i p s x hik hk hp hx => ?_⟩
 obtain ⟨B, d, B', d', h6, ht⟩ := hi i p s x hik hk hp hx
 refine ⟨B, d, B', d', h6.on_blk (hb.block g hbk.lt), ?_⟩
 exact (ht.keep fun b hb' => hb.block b hb'.2.1).wide fun b hb' => ⟨hb'.1, Nat.lt_of_lt_of_le hb'.2.1 hb.size, hb'.2.2⟩
theorem Placed.step {w : World} {R g : Nat} {keys : List ByteArray} {items : List T} {k p : Nat} {s : ByteArray} {x : T} {B : Option Addr} {d : Nat} {B' : Option Addr} {d' : Nat} (h : Placed w R g keys items k) (hn : keys.Nodup)
 (hk : keys[k]? = some s) (hp : (srt keys)[p]? = some s) (hx : items[k]? = some x) (ht : TV w (fun b => R < b ∧ b < w.heap.size ∧ b ≠ g) x B d B' d') :
 Placed ((((((w.setCell ⟨g, p * 6, none⟩ (.int .i64 x.kind)).setCell ⟨g, p * 6 + 1, none⟩ (.bool x.tr)).setCell ⟨g, p * 6 + 2, none⟩ (.int .i64 x.num)).setCell ⟨g, p * 6 + 3, none⟩ (.string x.str)).setCell ⟨g, p * 6 + 4, none⟩ (.slice B x.items.length d)).setCell ⟨g, p * 6 + 5, none⟩ (.slice B' x.keys.length d')) R g keys items (k + 1) := by
 obtain ⟨cs, hbk, hz, hi⟩ := h
 have hpl : p < keys.length := by have := lt_of_get hp; rw [srt_len] at this; exact this
 obtain ⟨cs', hb', hz', h6', hfar⟩ := six_put hbk (o := p * 6) (by omega) x B d B' d'
 have hkeep : ∀ b, b ≠ g → ((((((w.setCell ⟨g, p * 6, none⟩ (.int .i64 x.kind)).setCell ⟨g, p * 6 + 1, none⟩ (.bool x.tr)).setCell ⟨g, p * 6 + 2, none⟩ (.int .i64 x.num)).setCell ⟨g, p * 6 + 3, none⟩ (.string x.str)).setCell ⟨g, p * 6 + 4, none⟩ (.slice B x.items.length d)).setCell ⟨g, p * 6 + 5, none⟩ (.slice B' x.keys.length d')).heap[b]? = w.heap[b]? := by
  intro b hne
  rw [Below.heap_setCell _ _ _ _ hne, Below.heap_setCell _ _ _ _ hne, Below.heap_setCell _ _ _ _ hne, Below.heap_setCell _ _ _ _ hne, Below.heap_setCell _ _ _ _ hne, Below.heap_setCell _ _ _ _ hne]
 have hsize : ((((((w.setCell ⟨g, p * 6, none⟩ (.int .i64 x.kind)).setCell ⟨g, p * 6 + 1, none⟩ (.bool x.tr)).setCell ⟨g, p * 6 + 2, none⟩ (.int .i64 x.num)).setCell ⟨g, p * 6 + 3, none⟩ (.string x.str)).setCell ⟨g, p * 6 + 4, none⟩ (.slice B x.items.length d)).setCell ⟨g, p * 6 + 5, none⟩ (.slice B' x.keys.length d')).heap.size = w.heap.size := by simp [World.setCell]
 generalize ((((((w.setCell ⟨g, p * 6, none⟩ (.int .i64 x.kind)).setCell ⟨g, p * 6 + 1, none⟩ (.bool x.tr)).setCell ⟨g, p * 6 + 2, none⟩ (.int .i64 x.num)).setCell ⟨g, p * 6 + 3, none⟩ (.string x.str)).setCell ⟨g, p * 6 + 4, none⟩ (.slice B x.items.length d)).setCell ⟨g, p * 6 + 5, none⟩ (.slice B' x.keys.length d')) = W at *
 have hon : ∀ {y C e C' e'}, TV w (fun b => R < b ∧ b < w.heap.size ∧ b ≠ g) y C e C' e' → TV W (fun b => R < b ∧ b < W.heap.size ∧ b ≠ g) y C e C' e' := fun h =>
  (h.keep fun b hb => hkeep b hb.2.2).wide fun b hb => ⟨hb.1, by omega, hb.2.2⟩
 refine ⟨cs', hb', by omega, fun i q s' y hik hk' hq hy => ?_⟩
 rcases Nat.lt_or_ge i k with h1 | h1
 ·
  obtain ⟨C, e, C', e', k6, kt⟩ := hi i q s' y h1 hk' hq hy
  have hne : q ≠ p := by
   rintro rfl
   rw [hp] at hq
   injection hq with hq
   subst hq
   exact get_pair hn hk' hk h1 rfl
  refine ⟨C, e, C', e', ?_, hon kt⟩
  have hc : ∀ j, j < 6 → W.cell? ⟨g, q * 6 + j, none⟩ = w.cell? ⟨g, q * 6 + j, none⟩ := fun j hj => by
   rw [hb'.cell, hbk.cell]; exact hfar _ (by omega)
  obtain ⟨e0, e1, e2, e3, e4, e5⟩ := k6
  exact ⟨(hc 0 (by omega)).trans e0, (hc 1 (by omega)).trans e1, (hc 2 (by omega)).trans e2, (hc 3 (by omega)).trans e3, (hc 4 (by omega)).trans e4, (hc 5 (by omega)).trans e5⟩
 ·
  obtain rfl : i = k := by omega
  rw [hk] at hk'
  injection hk' with hk'
  subst hk'
  rw [hx] at hy
  injection hy with hy
  subst hy
  have hqp : q = p := by
   rcases Nat.lt_trichotomy q p with h2 | h2 | h2
   · exact absurd rfl (get_pair ((srt_perm keys).nodup_iff.2 hn) hq hp h2)
   · exact h2
   · exact absurd rfl (get_pair ((srt_perm keys).nodup_iff.2 hn) hp hq h2)
  subst hqp
  exact ⟨B, d, B', d', h6', hon ht⟩
theorem Placed.row {w : World} {R g : Nat} {keys : List ByteArray} {items : List T} (h : Placed w R g keys items keys.length) (hn : keys.Nodup) (hl : keys.length = items.length) :
 ∀ (p : Nat) (x : T), (placed keys items)[p]? = some x → ∃ B d B' d', Six w g (p * 6) x B d B' d' ∧ TV w (fun b => R < b ∧ b < w.heap.size ∧ b ≠ g) x B d B' d' := by
 intro p x hx
 obtain ⟨cs, _, _, hi⟩ := h
 unfold placed at hx
 rw [List.getElem?_map] at hx
 cases hs : (srt keys)[p]? with
 | none => rw [hs] at hx; cases hx
 | some s =>
  rw [hs] at hx
  injection hx with hx
  have hm : s ∈ keys := (srt_perm keys).mem_iff.1 (List.mem_of_getElem? hs)
  obtain ⟨i, hi'⟩ := List.mem_iff_getElem?.1 hm
  have hil := lt_of_get hi'
  have hy : items[i]? = some (items[i]'(by omega)) := List.getElem?_eq_getElem (by omega)
  have := look_at hn hi' hy
  rw [this] at hx
  exact hi i p s x hil hi' hs (by rw [hy, hx])
def zeros : Array Value := #[.int .i64 0, .bool false, .int .i64 0, .string ⟨#[]⟩, .slice none 0 0, .slice none 0 0]
end Go.Proofs.YtgblenoaeanogaaGreatDoor
