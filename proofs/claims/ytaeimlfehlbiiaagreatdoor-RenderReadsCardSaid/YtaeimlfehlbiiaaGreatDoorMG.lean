/- Values in memory: words for the contracts. Rows of values, and values whose rows are their own. Copies: contracts of slices.Clone at texts, copies and Copy. Contracts of glyph.Points, and of the reference's Points and Valid. Texts, and rows of them: contracts of both validity tests, areTexts and areRising. Sorted texts: contracts of slices.Sort and slices.BinarySearch at texts. Object: contract. -/
import Derived.Test.YtaeimlfehlbiiaaGreatDoorMA
import Derived.Test.YtaeimlfehlbiiaaGreatDoorMB
import Derived.WalkKit
import Derived.WalkSpells
import Derived.Deep.QuietTactic
import Derived.BigQuiet
import Derived.Below
import Derived.OwnWalk
import Derived.Laws.AppendOwn
import Derived.Laws.MakeOwn
import Derived.OneCell
import Derived.LoopTactic
import Derived.Deep.RegionHeld3
import Derived.RegionTactic
import Derived.Lib.Hide
import Derived.Test.YtaeimlfehlbiiaaGreatDoorShelf3
import Derived.Test.YtaeimlfehlbiiaaGreatDoorME
import Derived.WalkLawsBesides
import Derived.Sort.Walk0
namespace Go.Proofs.YtaeimlfehlbiiaaGreatDoor
open Go.RowKit
def SReads (w : World) (S : Nat → Prop) (A : Option Addr) (l : List ByteArray) : Prop :=
 l ≠ [] → ∃ b o, A = some ⟨b, o, none⟩ ∧ S b ∧ ∀ i s, l[i]? = some s → w.cell? ⟨b, o + i, none⟩ = some (.string s)
theorem SReads.keep {w w' : World} {S : Nat → Prop} {A : Option Addr} {l : List ByteArray} (h : SReads w S A l) (hk : Keeps S w w') : SReads w' S A l := by
 intro hn
 obtain ⟨b, o, e, hs, hc⟩ := h hn
 exact ⟨b, o, e, hs, fun i s hi => (hk.cell hs _).trans (hc i s hi)⟩
theorem SReads.wide {w : World} {S S' : Nat → Prop} {A : Option Addr} {l : List ByteArray} (h : SReads w S A l) (hs : ∀ b, S b → S' b) : SReads w S' A l := by
 intro hn
 obtain ⟨b, o, e, h1, hc⟩ := h hn
 exact ⟨b, o, e, hs b h1, hc⟩
theorem SReads.none_ (w : World) (S : Nat → Prop) (A : Option Addr) : SReads w S A [] := fun h => absurd rfl h
def T.agg (t : T) (A : Option Addr) (c : Nat) (A' : Option Addr) (c' : Nat) : Value :=
 .agg #[.int .i64 t.kind, .bool t.tr, .int .i64 t.num, .string t.str, .slice A t.items.length c, .slice A' t.keys.length c']
def Six (w : World) (b o : Nat) (t : T) (A : Option Addr) (c : Nat) (A' : Option Addr) (c' : Nat) : Prop :=
 w.cell? ⟨b, o, none⟩ = some (.int .i64 t.kind) ∧ w.cell? ⟨b, o + 1, none⟩ = some (.bool t.tr) ∧ w.cell? ⟨b, o + 2, none⟩ = some (.int .i64 t.num) ∧
 w.cell? ⟨b, o + 3, none⟩ = some (.string t.str) ∧ w.cell? ⟨b, o + 4, none⟩ = some (.slice A t.items.length c) ∧ w.cell? ⟨b, o + 5, none⟩ = some (.slice A' t.keys.length c')
inductive TV (w : World) (S : Nat → Prop) : T → Option Addr → Nat → Option Addr → Nat → Prop
 | mk (t : T) (A : Option Addr) (c : Nat) (A' : Option Addr) (c' : Nat) (hA : Nat → Option Addr) (hc : Nat → Nat) (hA' : Nat → Option Addr) (hc' : Nat → Nat)
  (h1 : t.items.length ≤ c) (h2 : t.keys.length ≤ c')
  (hrow : t.items ≠ [] → ∃ b o, A = some ⟨b, o, none⟩ ∧ S b ∧ ∀ i x, t.items[i]? = some x → Six w b (o + i * 6) x (hA i) (hc i) (hA' i) (hc' i))
  (hkey : SReads w S A' t.keys)
  (hin : ∀ i x, t.items[i]? = some x → TV w S x (hA i) (hc i) (hA' i) (hc' i)) : TV w S t A c A' c'
theorem TV.lens {w : World} {S : Nat → Prop} {t : T} {A : Option Addr} {c : Nat} {A' : Option Addr} {c' : Nat} (h : TV w S t A c A' c') : t.items.length ≤ c ∧ t.keys.length ≤ c' := by
 cases h with | mk _ _ _ _ _ _ _ _ _ h1 h2 => exact ⟨h1, h2⟩
theorem TV.keys {w : World} {S : Nat → Prop} {t : T} {A : Option Addr} {c : Nat} {A' : Option Addr} {c' : Nat} (h : TV w S t A c A' c') : SReads w S A' t.keys := by
 cases h with | mk _ _ _ _ _ _ _ _ _ _ _ _ hk => exact hk
theorem TV.row {w : World} {S : Nat → Prop} {t : T} {A : Option Addr} {c : Nat} {A' : Option Addr} {c' : Nat} (h : TV w S t A c A' c') (hn : t.items ≠ []) :
 ∃ b o, A = some ⟨b, o, none⟩ ∧ S b ∧ ∀ i x, t.items[i]? = some x → ∃ B d B' d', Six w b (o + i * 6) x B d B' d' ∧ TV w S x B d B' d' := by
 cases h with
 | mk _ _ _ _ _ hA hc hA' hc' _ _ hrow _ hin =>
  obtain ⟨b, o, e, hs, h6⟩ := hrow hn
  exact ⟨b, o, e, hs, fun i x hx => ⟨_, _, _, _, h6 i x hx, hin i x hx⟩⟩
theorem TV.at_ {w : World} {S : Nat → Prop} {t : T} {A : Option Addr} {c : Nat} {A' : Option Addr} {c' : Nat} (h : TV w S t A c A' c') {k : Nat} (hk : k < t.items.length) :
 ∃ b o x B d B' d', A = some ⟨b, o, none⟩ ∧ S b ∧ t.items[k]? = some x ∧ Six w b (o + k * 6) x B d B' d' ∧ TV w S x B d B' d' := by
 obtain ⟨b, o, e, hs, hi⟩ := h.row (by intro hn; rw [hn] at hk; simp at hk)
 obtain ⟨B, d, B', d', h6, ht⟩ := hi k _ (List.getElem?_eq_getElem hk)
 exact ⟨b, o, _, B, d, B', d', e, hs, List.getElem?_eq_getElem hk, h6, ht⟩
theorem TV.of {w : World} {S : Nat → Prop} {t : T} {A : Option Addr} {c : Nat} {A' : Option Addr} {c' : Nat} (h1 : t.items.length ≤ c) (h2 : t.keys.length ≤ c')
 (hrow : t.items ≠ [] → ∃ b o, A = some ⟨b, o, none⟩ ∧ S b ∧ ∀ i x, t.items[i]? = some x → ∃ B d B' d', Six w b (o + i * 6) x B d B' d' ∧ TV w S x B d B' d')
 (hkey : SReads w S A' t.keys) : TV w S t A c A' c' := by
 by_cases hn : t.items = []
 · exact .mk t A c A' c' (fun _ => none) (fun _ => 0) (fun _ => none) (fun _ => 0) h1 h2 (fun h => absurd hn h) hkey (fun i x hx => by rw [hn] at hx; simp at hx)
 ·
  obtain ⟨b, o, e, hs, hi⟩ := hrow hn
  have : ∀ i, ∃ q : Option Addr × Nat × Option Addr × Nat, ∀ x, t.items[i]? = some x → Six w b (o + i * 6) x q.1 q.2.1 q.2.2.1 q.2.2.2 ∧ TV w S x q.1 q.2.1 q.2.2.1 q.2.2.2 := by
   intro i
   cases hx : t.items[i]? with
   | none => exact ⟨(none, 0, none, 0), fun x h => by cases h⟩
   | some x =>
    obtain ⟨B, d, B', d', h6⟩ := hi i x hx
    exact ⟨(B, d, B', d'), fun y h => by injection h with h; subst h; exact h6⟩
  obtain ⟨q, hq⟩ := Classical.axiomOfChoice this
  exact .mk t A c A' c' (fun i => (q i).1) (fun i => (q i).2.1) (fun i => (q i).2.2.1) (fun i => (q i).2.2.2) h1 h2
   (fun _ => ⟨b, o, e, hs, fun i x hx => (hq i x hx).1⟩) hkey (fun i x hx => (hq i x hx).2)
theorem Six.keep {w w' : World} {S : Nat → Prop} {b o : Nat} {t : T} {A : Option Addr} {c : Nat} {A' : Option Addr} {c' : Nat} (h : Six w b o t A c A' c') (hs : S b) (hk : Keeps S w w') : Six w' b o t A c A' c' := by
 obtain ⟨a0, a1, a2, a3, a4, a5⟩ := h
 exact ⟨(hk.cell hs _).trans a0, (hk.cell hs _).trans a1, (hk.cell hs _).trans a2, (hk.cell hs _).trans a3, (hk.cell hs _).trans a4, (hk.cell hs _).trans a5⟩
theorem TV.keep {w w' : World} {S : Nat → Prop} {t : T} {A : Option Addr} {c : Nat} {A' : Option Addr} {c' : Nat} (h : TV w S t A c A' c') (hk : Keeps S w w') : TV w' S t A c A' c' := by
 induction h with
 | mk t A c A' c' hA hc hA' hc' h1 h2 hrow hkey hin ih =>
  refine .mk t A c A' c' hA hc hA' hc' h1 h2 (fun hn => ?_) (hkey.keep hk) ih
  obtain ⟨b, o, e, hs, h6⟩ := hrow hn
  exact ⟨b, o, e, hs, fun i x hx => (h6 i x hx).keep hs hk⟩
theorem TV.wide {w : World} {S S' : Nat → Prop} {t : T} {A : Option Addr} {c : Nat} {A' : Option Addr} {c' : Nat} (h : TV w S t A c A' c') (hs : ∀ b, S b → S' b) : TV w S' t A c A' c' := by
 induction h with
 | mk t A c A' c' hA hc hA' hc' h1 h2 hrow hkey hin ih =>
  refine .mk t A c A' c' hA hc hA' hc' h1 h2 (fun hn => ?_) (hkey.wide hs) ih
  obtain ⟨b, o, e, h0, h6⟩ := hrow hn
  exact ⟨b, o, e, hs b h0, h6⟩
theorem TV.under {B : Nat} {w w' : World} {t : T} {A : Option Addr} {c : Nat} {A' : Option Addr} {c' : Nat} (h : TV w (· < B) t A c A' c') (hb : Below B w w') : TV w' (· < B) t A c A' c' := h.keep (.of_below hb)
theorem TV.on {w w' : World} {t : T} {A : Option Addr} {c : Nat} {A' : Option Addr} {c' : Nat} (h : TV w (· < w.heap.size) t A c A' c') (hb : Below w.heap.size w w') : TV w' (· < w'.heap.size) t A c A' c' :=
 (h.under hb).wide fun _ hx => Nat.lt_of_lt_of_le hx hb.size
theorem SReads.below {B : Nat} {w w' : World} {A : Option Addr} {l : List ByteArray} (h : SReads w (· < B) A l) (hb : Below B w w') : SReads w' (· < B) A l := h.keep (.of_below hb)
theorem SReads.on {w w' : World} {A : Option Addr} {l : List ByteArray} (h : SReads w (· < w.heap.size) A l) (hb : Below w.heap.size w w') : SReads w' (· < w'.heap.size) A l :=
 (h.below hb).wide fun _ hx => Nat.lt_of_lt_of_le hx hb.size
def T.cs (t : T) (A : Option Addr) (c : Nat) (A' : Option Addr) (c' : Nat) : Array Value :=
 #[.int .i64 t.kind, .bool t.tr, .int .i64 t.num, .string t.str, .slice A t.items.length c, .slice A' t.keys.length c']
theorem six_put {w : World} {g : Nat} {ty : TypeId} {cs : Array Value} (h : Blk w g ty cs) {o : Nat} (ho : o + 6 ≤ cs.size) (t : T) (A : Option Addr) (c : Nat) (A' : Option Addr) (c' : Nat) :
 ∃ cs', Blk ((((((w.setCell ⟨g, o, none⟩ (.int .i64 t.kind)).setCell ⟨g, o + 1, none⟩ (.bool t.tr)).setCell ⟨g, o + 2, none⟩ (.int .i64 t.num)).setCell ⟨g, o + 3, none⟩ (.string t.str)).setCell ⟨g, o + 4, none⟩ (.slice A t.items.length c)).setCell ⟨g, o + 5, none⟩ (.slice A' t.keys.length c')) g ty cs' ∧ cs'.size = cs.size ∧
  Six ((((((w.setCell ⟨g, o, none⟩ (.int .i64 t.kind)).setCell ⟨g, o + 1, none⟩ (.bool t.tr)).setCell ⟨g, o + 2, none⟩ (.int .i64 t.num)).setCell ⟨g, o + 3, none⟩ (.string t.str)).setCell ⟨g, o + 4, none⟩ (.slice A t.items.length c)).setCell ⟨g, o + 5, none⟩ (.slice A' t.keys.length c')) g o t A c A' c' ∧
  ∀ j, j < o ∨ o + 6 ≤ j → cs'[j]? = cs[j]? := by
 have hb := ((((((h.set_ o (.int .i64 t.kind)).set_ (o + 1) (.bool t.tr)).set_ (o + 2) (.int .i64 t.num)).set_ (o + 3) (.string t.str)).set_ (o + 4) (.slice A t.items.length c)).set_ (o + 5) (.slice A' t.keys.length c'))
 refine ⟨_, hb, by simp, ⟨?_, ?_, ?_, ?_, ?_, ?_⟩, fun j hj => ?_⟩
 all_goals first
  | (rw [hb.cell]; simp (disch := ((try simp only [Array.size_setIfInBounds]); omega)) only [Array.getElem?_setIfInBounds_ne, Array.getElem?_setIfInBounds_self_of_lt]; done)
  | (simp (disch := ((try simp only [Array.size_setIfInBounds]); omega)) only [Array.getElem?_setIfInBounds_ne])
theorem set_six {cs : Array Value} (h : cs.size = 6) {v0 v1 v2 v3 v4 v5 : Value} : (((((cs.setIfInBounds 0 v0).setIfInBounds 1 v1).setIfInBounds 2 v2).setIfInBounds 3 v3).setIfInBounds 4 v4).setIfInBounds 5 v5 = #[v0, v1, v2, v3, v4, v5] := by
 apply Array.ext_getElem?
 intro i
 rcases Nat.lt_or_ge i 6 with h3 | h3
 · rcases (by omega : i = 0 ∨ i = 1 ∨ i = 2 ∨ i = 3 ∨ i = 4 ∨ i = 5) with rfl | rfl | rfl | rfl | rfl | rfl <;>
  (simp (disch := ((try simp only [Array.size_setIfInBounds]); omega)) only [Array.getElem?_setIfInBounds_ne, Array.getElem?_setIfInBounds_self_of_lt]; rfl)
 · rw [Array.getElem?_eq_none (by simpa [h] using h3), Array.getElem?_eq_none (by simpa using h3)]
theorem res_put {w : World} {g : Nat} {ty : TypeId} {cs : Array Value} (h : Blk w g ty cs) (ho : cs.size = 6) (t : T) (A : Option Addr) (c : Nat) (A' : Option Addr) (c' : Nat) :
 Blk ((((((w.setCell ⟨g, 0, none⟩ (.int .i64 t.kind)).setCell ⟨g, 1, none⟩ (.bool t.tr)).setCell ⟨g, 2, none⟩ (.int .i64 t.num)).setCell ⟨g, 3, none⟩ (.string t.str)).setCell ⟨g, 4, none⟩ (.slice A t.items.length c)).setCell ⟨g, 5, none⟩ (.slice A' t.keys.length c')) g ty (t.cs A c A' c') := by
 have hb := ((((((h.set_ 0 (.int .i64 t.kind)).set_ 1 (.bool t.tr)).set_ 2 (.int .i64 t.num)).set_ 3 (.string t.str)).set_ 4 (.slice A t.items.length c)).set_ 5 (.slice A' t.keys.length c'))
 rw [set_six ho] at hb
 exact hb
theorem Blk.six {w : World} {g : Nat} {ty : TypeId} {cs : Array Value} (h : Blk w g ty cs) {o : Nat} (ho : o + 6 ≤ cs.size) :
 ∃ u0 u1 u2 u3 u4 u5, w.cell? ⟨g, o, none⟩ = some u0 ∧ w.cell? ⟨g, o + 1, none⟩ = some u1 ∧ w.cell? ⟨g, o + 2, none⟩ = some u2 ∧ w.cell? ⟨g, o + 3, none⟩ = some u3 ∧ w.cell? ⟨g, o + 4, none⟩ = some u4 ∧ w.cell? ⟨g, o + 5, none⟩ = some u5 :=
 ⟨cs[o]'(by omega), cs[o + 1]'(by omega), cs[o + 2]'(by omega), cs[o + 3]'(by omega), cs[o + 4]'(by omega), cs[o + 5]'(by omega), by rw [h.cell]; simp, by rw [h.cell]; simp, by rw [h.cell]; simp, by rw [h.cell]; simp, by rw [h.cell]; simp, by rw [h.cell]; simp⟩
end Go.Proofs.YtaeimlfehlbiiaaGreatDoor
namespace Go.Proofs.YtaeimlfehlbiiaaGreatDoor
open Go.RowKit
def VReads (w : World) (S : Nat → Prop) (A : Option Addr) (l : List T) : Prop :=
 l ≠ [] → ∃ b o, A = some ⟨b, o, none⟩ ∧ S b ∧ ∀ i x, l[i]? = some x → ∃ B d B' d', Six w b (o + i * 6) x B d B' d' ∧ TV w S x B d B' d'
theorem TV.vreads {w : World} {S : Nat → Prop} {t : T} {A : Option Addr} {c : Nat} {A' : Option Addr} {c' : Nat} (h : TV w S t A c A' c') : VReads w S A t.items := fun hn => h.row hn
theorem VReads.none_ (w : World) (S : Nat → Prop) (A : Option Addr) : VReads w S A [] := fun h => absurd rfl h
theorem VReads.keep {w w' : World} {S : Nat → Prop} {A : Option Addr} {l : List T} (h : VReads w S A l) (hk : Keeps S w w') : VReads w' S A l := by
 intro hn
 obtain ⟨b, o, e, hs, hi⟩ := h hn
 refine ⟨b, o, e, hs, fun i x hx => ?_⟩
 obtain ⟨B, d, B', d', h6, ht⟩ := hi i x hx
 exact ⟨B, d, B', d', h6.keep hs hk, ht.keep hk⟩
theorem VReads.wide {w : World} {S S' : Nat → Prop} {A : Option Addr} {l : List T} (h : VReads w S A l) (hs : ∀ b, S b → S' b) : VReads w S' A l := by
 intro hn
 obtain ⟨b, o, e, h0, hi⟩ := h hn
 refine ⟨b, o, e, hs b h0, fun i x hx => ?_⟩
 obtain ⟨B, d, B', d', h6, ht⟩ := hi i x hx
 exact ⟨B, d, B', d', h6, ht.wide hs⟩
theorem VReads.under {B : Nat} {w w' : World} {A : Option Addr} {l : List T} (h : VReads w (· < B) A l) (hb : Below B w w') : VReads w' (· < B) A l := h.keep (.of_below hb)
theorem VReads.on {w w' : World} {A : Option Addr} {l : List T} (h : VReads w (· < w.heap.size) A l) (hb : Below w.heap.size w w') : VReads w' (· < w'.heap.size) A l :=
 (h.under hb).wide fun _ hx => Nat.lt_of_lt_of_le hx hb.size
theorem VReads.at_ {w : World} {S : Nat → Prop} {A : Option Addr} {l : List T} (h : VReads w S A l) {k : Nat} (hk : k < l.length) :
 ∃ b o x B d B' d', A = some ⟨b, o, none⟩ ∧ S b ∧ l[k]? = some x ∧ Six w b (o + k * 6) x B d B' d' ∧ TV w S x B d B' d' := by
 obtain ⟨b, o, e, hs, hi⟩ := h (by intro hn; rw [hn] at hk; simp at hk)
 obtain ⟨B, d, B', d', h6, ht⟩ := hi k _ (List.getElem?_eq_getElem hk)
 exact ⟨b, o, _, B, d, B', d', e, hs, List.getElem?_eq_getElem hk, h6, ht⟩
inductive Own (w : World) : Nat → Nat → T → Option Addr → Nat → Option Addr → Nat → Prop
 | mk (lo hi : Nat) (t : T) (A : Option Addr) (c : Nat) (A' : Option Addr) (c' : Nat) (h : Nat → Nat) (hA : Nat → Option Addr) (hc : Nat → Nat) (hA' : Nat → Option Addr) (hc' : Nat → Nat)
  (h1 : t.items.length ≤ c) (h2 : t.keys.length ≤ c')
  (hrow : t.items ≠ [] → ∃ (g : Nat) (cs : Array Value), A = some ⟨g, 0, none⟩ ∧ lo ≤ g ∧ g < h 0 ∧ Blk w g 32 cs ∧ t.items.length * 6 ≤ cs.size ∧ ∀ i x, t.items[i]? = some x → Six w g (i * 6) x (hA i) (hc i) (hA' i) (hc' i))
  (hlo : lo ≤ h 0) (hmono : ∀ i, i < t.items.length → h i ≤ h (i + 1)) (hhi : h t.items.length ≤ hi)
  (hkey : t.keys ≠ [] → ∃ (g : Nat) (cs : Array Value), A' = some ⟨g, 0, none⟩ ∧ h t.items.length ≤ g ∧ g < hi ∧ Blk w g 9 cs ∧ t.keys.length ≤ cs.size ∧ ∀ (i : Nat) (s : ByteArray), t.keys[i]? = some s → cs[i]? = some (Value.string s))
  (hin : ∀ i x, t.items[i]? = some x → Own w (h i) (h (i + 1)) x (hA i) (hc i) (hA' i) (hc' i)) : Own w lo hi t A c A' c'
theorem up_to {h : Nat → Nat} {n : Nat} (hm : ∀ i, i < n → h i ≤ h (i + 1)) : ∀ j, j ≤ n → ∀ i, i ≤ j → h i ≤ h j := by
 intro j
 induction j with
 | zero =>
  intro _ i hi; obtain rfl : i = 0 := by omega
  exact Nat.le_refl _
 | succ j ih =>
  intro hj i hi
  rcases Nat.lt_or_ge i (j + 1) with h1 | h1
  · exact Nat.le_trans (ih (by omega) i (by omega)) (hm j (by omega))
  ·
   obtain rfl : i = j + 1 := by omega
   exact Nat.le_refl _
theorem lt_of_get {α : Type} {l : List α} {i : Nat} {x : α} (h : l[i]? = some x) : i < l.length := (List.getElem?_eq_some_iff.1 h).1
theorem Own.tv {w : World} {lo hi : Nat} {t : T} {A : Option Addr} {c : Nat} {A' : Option Addr} {c' : Nat} (h : Own w lo hi t A c A' c') : TV w (fun b => lo ≤ b ∧ b < hi) t A c A' c' := by
 induction h with
 | mk lo hi t A c A' c' h hA hc hA' hc' h1 h2 hrow hlo hmono hhi hkey hin ih =>
  refine .mk t A c A' c' hA hc hA' hc' h1 h2 (fun hn => ?_) (fun hn => ?_) (fun i x hx => ?_)
  ·
   obtain ⟨g, cs, e, h3, h4, _, _, h6⟩ := hrow hn
   refine ⟨g, 0, e, ⟨h3, ?_⟩, fun i x hx => by rw [Nat.zero_add]; exact h6 i x hx⟩
   have := up_to hmono t.items.length (Nat.le_refl _) 0 (by omega)
   omega
  ·
   obtain ⟨g, cs, e, h3, h4, hb, _, h6⟩ := hkey hn
   have := up_to hmono t.items.length (Nat.le_refl _) 0 (by omega)
   exact ⟨g, 0, e, ⟨by omega, h4⟩, fun i s hs => by rw [Nat.zero_add, hb.cell]; exact h6 i s hs⟩
  ·
   have hl := lt_of_get hx
   have a1 := up_to hmono i (by omega) 0 (by omega)
   have a2 := up_to hmono t.items.length (Nat.le_refl _) (i + 1) (by omega)
   exact (ih i x hx).wide fun b hb => ⟨by omega, by omega⟩
theorem Blk.keep {w w' : World} {g : Nat} {t : TypeId} {cs : Array Value} {S : Nat → Prop} (h : Blk w g t cs) (hk : Keeps S w w') (hs : S g) : Blk w' g t cs := (hk g hs).trans h
theorem Six.on_blk {w w' : World} {b o : Nat} {t : T} {A : Option Addr} {c : Nat} {A' : Option Addr} {c' : Nat} (h : Six w b o t A c A' c') (hk : w'.heap[b]? = w.heap[b]?) : Six w' b o t A c A' c' :=
 h.keep (S := (· = b)) rfl (fun x hx => by subst hx; exact hk)
theorem Own.keep {w w' : World} {lo hi : Nat} {t : T} {A : Option Addr} {c : Nat} {A' : Option Addr} {c' : Nat} (h : Own w lo hi t A c A' c') (hk : Keeps (fun b => lo ≤ b ∧ b < hi) w w') : Own w' lo hi t A c A' c' := by
 induction h with
 | mk lo hi t A c A' c' h hA hc hA' hc' h1 h2 hrow hlo hmono hhi hkey hin ih =>
  have a0 := up_to hmono t.items.length (Nat.le_refl _) 0 (by omega)
  refine .mk lo hi t A c A' c' h hA hc hA' hc' h1 h2 (fun hn => ?_) hlo hmono hhi (fun hn => ?_) (fun i x hx => ?_)
  ·
   obtain ⟨g, cs, e, h3, h4, hb, h5, h6⟩ := hrow hn
   exact ⟨g, cs, e, h3, h4, hb.keep hk ⟨h3, by omega⟩, h5, fun i x hx => (h6 i x hx).on_blk (hk g ⟨h3, by omega⟩)⟩
  ·
   obtain ⟨g, cs, e, h3, h4, hb, h5, h6⟩ := hkey hn
   exact ⟨g, cs, e, h3, h4, hb.keep hk ⟨by omega, h4⟩, h5, h6⟩
  ·
   have hl := lt_of_get hx
   have a1 := up_to hmono i (by omega) 0 (by omega)
   have a2 := up_to hmono t.items.length (Nat.le_refl _) (i + 1) (by omega)
   exact ih i x hx (hk.mono fun b hb => ⟨by omega, by omega⟩)
theorem Own.wide {w : World} {lo hi lo' hi' : Nat} {t : T} {A : Option Addr} {c : Nat} {A' : Option Addr} {c' : Nat} (h : Own w lo hi t A c A' c') (h1 : lo' ≤ lo) (h2 : hi ≤ hi') : Own w lo' hi' t A c A' c' := by
 cases h with
 | mk _ _ _ _ _ _ _ h hA hc hA' hc' k1 k2 hrow hlo hmono hhi hkey hin =>
  refine .mk lo' hi' t A c A' c' h hA hc hA' hc' k1 k2 (fun hn => ?_) (by omega) hmono (by omega) (fun hn => ?_) hin
  ·
   obtain ⟨g, cs, e, h3, h4, hb, h5, h6⟩ := hrow hn
   exact ⟨g, cs, e, by omega, h4, hb, h5, h6⟩
  ·
   obtain ⟨g, cs, e, h3, h4, hb, h5, h6⟩ := hkey hn
   exact ⟨g, cs, e, h3, by omega, hb, h5, h6⟩
def OwnRow (w : World) (lo hi : Nat) (l : List T) (A : Option Addr) : Prop :=
 ∃ h : Nat → Nat, (l ≠ [] → ∃ (g : Nat) (cs : Array Value), A = some ⟨g, 0, none⟩ ∧ lo ≤ g ∧ g < h 0 ∧ Blk w g 32 cs ∧ l.length * 6 ≤ cs.size ∧
  ∀ i x, l[i]? = some x → ∃ B d B' d', Six w g (i * 6) x B d B' d' ∧ Own w (h i) (h (i + 1)) x B d B' d') ∧
  lo ≤ h 0 ∧ (∀ i, i < l.length → h i ≤ h (i + 1)) ∧ h l.length ≤ hi
theorem OwnRow.nil (w : World) (lo : Nat) (A : Option Addr) : OwnRow w lo lo [] A := ⟨fun _ => lo, fun h => absurd rfl h, Nat.le_refl _, fun _ h => by simp at h, Nat.le_refl _⟩
theorem OwnRow.keep {w w' : World} {lo hi : Nat} {l : List T} {A : Option Addr} (h : OwnRow w lo hi l A) (hk : Keeps (fun b => lo ≤ b ∧ b < hi) w w') : OwnRow w' lo hi l A := by
 obtain ⟨h, hrow, hlo, hmono, hhi⟩ := h
 have a0 := up_to hmono l.length (Nat.le_refl _) 0 (by omega)
 refine ⟨h, fun hn => ?_, hlo, hmono, hhi⟩
 obtain ⟨g, cs, e, h3, h4, hb, h5, h6⟩ := hrow hn
 refine ⟨g, cs, e, h3, h4, hb.keep hk ⟨h3, by omega⟩, h5, fun i x hx => ?_⟩
 obtain ⟨B, d, B', d', k6, ko⟩ := h6 i x hx
 have hl := lt_of_get hx
 have a1 := up_to hmono i (by omega) 0 (by omega)
 have a2 := up_to hmono l.length (Nat.le_refl _) (i + 1) (by omega)
 exact ⟨B, d, B', d', k6.on_blk (hk g ⟨h3, by omega⟩), ko.keep (hk.mono fun b hb => ⟨by omega, by omega⟩)⟩
theorem OwnRow.vreads {w : World} {lo hi : Nat} {l : List T} {A : Option Addr} (h : OwnRow w lo hi l A) : VReads w (fun b => lo ≤ b ∧ b < hi) A l := by
 obtain ⟨h, hrow, hlo, hmono, hhi⟩ := h
 intro hn
 have a0 := up_to hmono l.length (Nat.le_refl _) 0 (by omega)
 obtain ⟨g, cs, e, h3, h4, hb, h5, h6⟩ := hrow hn
 refine ⟨g, 0, e, ⟨h3, by omega⟩, fun i x hx => ?_⟩
 obtain ⟨B, d, B', d', k6, ko⟩ := h6 i x hx
 have hl := lt_of_get hx
 have a1 := up_to hmono i (by omega) 0 (by omega)
 have a2 := up_to hmono l.length (Nat.le_refl _) (i + 1) (by omega)
 exact ⟨B, d, B', d', by rw [Nat.zero_add]; exact k6, ko.tv.wide fun b hb => ⟨by omega, by omega⟩⟩
def OwnKeys (w : World) (lo hi : Nat) (l : List ByteArray) (A : Option Addr) : Prop :=
 l ≠ [] → ∃ (g : Nat) (cs : Array Value), A = some ⟨g, 0, none⟩ ∧ lo ≤ g ∧ g < hi ∧ Blk w g 9 cs ∧ l.length ≤ cs.size ∧ ∀ (i : Nat) (s : ByteArray), l[i]? = some s → cs[i]? = some (Value.string s)
theorem Own.of {w : World} {lo mid hi : Nat} {t : T} {A : Option Addr} {c : Nat} {A' : Option Addr} {c' : Nat} (h1 : t.items.length ≤ c) (h2 : t.keys.length ≤ c') (hm : mid ≤ hi) (hr : OwnRow w lo mid t.items A) (hk : OwnKeys w mid hi t.keys A') : Own w lo hi t A c A' c' := by
 obtain ⟨h, hrow, hlo, hmono, hhi⟩ := hr
 have hkey : t.keys ≠ [] → ∃ (g : Nat) (cs : Array Value), A' = some ⟨g, 0, none⟩ ∧ h t.items.length ≤ g ∧ g < hi ∧ Blk w g 9 cs ∧ t.keys.length ≤ cs.size ∧ ∀ (i : Nat) (s : ByteArray), t.keys[i]? = some s → cs[i]? = some (Value.string s) := by
  intro hn
  obtain ⟨g, cs, e, h3, h4, hb, h5, h6⟩ := hk hn
  exact ⟨g, cs, e, by omega, h4, hb, h5, h6⟩
 by_cases hn : t.items = []
 · exact .mk lo hi t A c A' c' h (fun _ => none) (fun _ => 0) (fun _ => none) (fun _ => 0) h1 h2 (fun h => absurd hn h) hlo hmono (by omega) hkey (fun i x hx => by rw [hn] at hx; simp at hx)
 ·
  obtain ⟨g, cs, e, h3, h4, hb, h5, h6⟩ := hrow hn
  have : ∀ i, ∃ q : Option Addr × Nat × Option Addr × Nat, ∀ x, t.items[i]? = some x → Six w g (i * 6) x q.1 q.2.1 q.2.2.1 q.2.2.2 ∧ Own w (h i) (h (i + 1)) x q.1 q.2.1 q.2.2.1 q.2.2.2 := by
   intro i
   cases hx : t.items[i]? with
   | none => exact ⟨(none, 0, none, 0), fun x h => by cases h⟩
   | some x =>
    obtain ⟨B, d, B', d', h6⟩ := h6 i x hx
    exact ⟨(B, d, B', d'), fun y h => by injection h with h; subst h; exact h6⟩
  obtain ⟨q, hq⟩ := Classical.axiomOfChoice this
  exact .mk lo hi t A c A' c' h (fun i => (q i).1) (fun i => (q i).2.1) (fun i => (q i).2.2.1) (fun i => (q i).2.2.2) h1 h2
   (fun _ => ⟨g, cs, e, h3, h4, hb, h5, fun i x hx => (hq i x hx).1⟩) hlo hmono (by omega) hkey (fun i x hx => (hq i x hx).2)
def Copied (w : World) (g : Nat) (l : List T) (k : Nat) : Prop :=
 ∃ (h : Nat → Nat) (cs : Array Value), g < h 0 ∧ (∀ i, i < k → h i ≤ h (i + 1)) ∧ h k ≤ w.heap.size ∧ Blk w g 32 cs ∧ cs.size = l.length * 6 ∧
  ∀ i x, i < k → l[i]? = some x → ∃ B d B' d', Six w g (i * 6) x B d B' d' ∧ Own w (h i) (h (i + 1)) x B d B' d'
theorem Copied.row {w : World} {g : Nat} {l : List T} (h : Copied w g l l.length) : OwnRow w g w.heap.size l (some ⟨g, 0, none⟩) := by
 obtain ⟨h, cs, h0, hm, hk, hb, hz, hi⟩ := h
 exact ⟨h, fun _ => ⟨g, cs, rfl, Nat.le_refl _, h0, hb, by omega, fun i x hx => hi i x (lt_of_get hx) hx⟩, by omega, hm, hk⟩
theorem Copied.blk {w : World} {g : Nat} {l : List T} {k : Nat} (h : Copied w g l k) : ∃ cs, Blk w g 32 cs ∧ cs.size = l.length * 6 := by
 obtain ⟨h, cs, _, _, _, hb, hz, _⟩ := h
 exact ⟨cs, hb, hz⟩
theorem Copied.onto {w w' : World} {g : Nat} {l : List T} {k : Nat} (h : Copied w g l k) (hb : Below w.heap.size w w') : Copied w' g l k := by
 obtain ⟨h, cs, h0, hm, hk, hbk, hz, hi⟩ := h
 have hlt := hbk.lt
 refine ⟨h, cs, h0, hm, Nat.le_trans hk hb.size, hbk.onto hb, hz, fun i x hik hx => ?_⟩
 obtain ⟨B, d, B', d', h6, ho⟩ := hi i x hik hx
 have a2 := up_to hm k (Nat.le_refl _) (i + 1) (by omega)
 exact ⟨B, d, B', d', h6.on_blk (hb.block g hlt), ho.keep fun b hb' => hb.block b (by omega)⟩
theorem Copied.step {w : World} {g : Nat} {l : List T} {k q : Nat} {x : T} {B : Option Addr} {d : Nat} {B' : Option Addr} {d' : Nat} (h : Copied w g l k) (hx : l[k]? = some x) (hq : q ≤ w.heap.size)
 (hlow : ∃ w0 : World, Copied w0 g l k ∧ w0.heap.size ≤ q ∧ Below w0.heap.size w0 w) (ho : Own w q w.heap.size x B d B' d') :
 Copied ((((((w.setCell ⟨g, k * 6, none⟩ (.int .i64 x.kind)).setCell ⟨g, k * 6 + 1, none⟩ (.bool x.tr)).setCell ⟨g, k * 6 + 2, none⟩ (.int .i64 x.num)).setCell ⟨g, k * 6 + 3, none⟩ (.string x.str)).setCell ⟨g, k * 6 + 4, none⟩ (.slice B x.items.length d)).setCell ⟨g, k * 6 + 5, none⟩ (.slice B' x.keys.length d')) g l (k + 1) := by
 obtain ⟨w0, h, hsz, hb⟩ := hlow
 obtain ⟨h, cs, h0, hm, hk, hbk, hz, hi⟩ := h
 have hlt := hbk.lt
 have hkl := lt_of_get hx
 have hb2 : Blk w g 32 cs := hbk.onto hb
 obtain ⟨cs', hb', hz', h6', hfar⟩ := six_put hb2 (o := k * 6) (by omega) x B d B' d'
 have hkeep : ∀ b, b ≠ g → ((((((w.setCell ⟨g, k * 6, none⟩ (.int .i64 x.kind)).setCell ⟨g, k * 6 + 1, none⟩ (.bool x.tr)).setCell ⟨g, k * 6 + 2, none⟩ (.int .i64 x.num)).setCell ⟨g, k * 6 + 3, none⟩ (.string x.str)).setCell ⟨g, k * 6 + 4, none⟩ (.slice B x.items.length d)).setCell ⟨g, k * 6 + 5, none⟩ (.slice B' x.keys.length d')).heap[b]? = w.heap[b]? := by
  intro b hne
  rw [Below.heap_setCell _ _ _ _ hne, Below.heap_setCell _ _ _ _ hne, Below.heap_setCell _ _ _ _ hne, Below.heap_setCell _ _ _ _ hne, Below.heap_setCell _ _ _ _ hne, Below.heap_setCell _ _ _ _ hne]
 have hsize : ((((((w.setCell ⟨g, k * 6, none⟩ (.int .i64 x.kind)).setCell ⟨g, k * 6 + 1, none⟩ (.bool x.tr)).setCell ⟨g, k * 6 + 2, none⟩ (.int .i64 x.num)).setCell ⟨g, k * 6 + 3, none⟩ (.string x.str)).setCell ⟨g, k * 6 + 4, none⟩ (.slice B x.items.length d)).setCell ⟨g, k * 6 + 5, none⟩ (.slice B' x.keys.length d')).heap.size = w.heap.size := by simp [World.setCell]
 generalize ((((((w.setCell ⟨g, k * 6, none⟩ (.int .i64 x.kind)).setCell ⟨g, k * 6 + 1, none⟩ (.bool x.tr)).setCell ⟨g, k * 6 + 2, none⟩ (.int .i64 x.num)).setCell ⟨g, k * 6 + 3, none⟩ (.string x.str)).setCell ⟨g, k * 6 + 4, none⟩ (.slice B x.items.length d)).setCell ⟨g, k * 6 + 5, none⟩ (.slice B' x.keys.length d')) = W at *
 have hup := up_to hm k (Nat.le_refl _)
 refine ⟨fun i => if i ≤ k then h i else w.heap.size, cs', by show g < if 0 ≤ k then h 0 else w.heap.size; rw [if_pos (by omega)]; exact h0, fun i hik => ?_, ?_, hb', by omega, fun i y hik hy => ?_⟩
 ·
  show (if i ≤ k then h i else w.heap.size) ≤ if i + 1 ≤ k then h (i + 1) else w.heap.size
  by_cases h1 : i + 1 ≤ k
  · rw [if_pos (by omega), if_pos h1]; exact hm i (by omega)
  ·
   rw [if_pos (by omega), if_neg h1]
   have := hup i (by omega)
   omega
 · show (if k + 1 ≤ k then h (k + 1) else w.heap.size) ≤ W.heap.size; rw [if_neg (by omega)]; omega
 ·
  show ∃ B d B' d', Six W g (i * 6) y B d B' d' ∧ Own W (if i ≤ k then h i else w.heap.size) (if i + 1 ≤ k then h (i + 1) else w.heap.size) y B d B' d'
  rcases Nat.lt_or_ge i k with h1 | h1
  ·
   obtain ⟨C, e, C', e', k6, ko⟩ := hi i y h1 hy
   have a0 := hup 0 (by omega)
   have a1 := up_to hm i (by omega) 0 (by omega)
   have a2 := hup (i + 1) (by omega)
   rw [if_pos (by omega), if_pos (by omega)]
   refine ⟨C, e, C', e', ?_, ko.keep fun b hb1 => ?_⟩
   ·
    have hc : ∀ j, j < 6 → W.cell? ⟨g, i * 6 + j, none⟩ = w0.cell? ⟨g, i * 6 + j, none⟩ := fun j hj => by
     rw [hb'.cell, hbk.cell]; exact hfar _ (by omega)
    obtain ⟨e0, e1, e2, e3, e4, e5⟩ := k6
    exact ⟨(hc 0 (by omega)).trans e0, (hc 1 (by omega)).trans e1, (hc 2 (by omega)).trans e2, (hc 3 (by omega)).trans e3, (hc 4 (by omega)).trans e4, (hc 5 (by omega)).trans e5⟩
   · exact (hkeep b (by omega)).trans (hb.block b (by omega))
  ·
   obtain rfl : i = k := by omega
   rw [hx] at hy
   injection hy with hy
   subst hy
   rw [if_pos (by omega), if_neg (by omega)]
   exact ⟨B, d, B', d', h6', (ho.keep fun b hb1 => hkeep b (by omega)).wide (by omega) (Nat.le_refl _)⟩
end Go.Proofs.YtaeimlfehlbiiaaGreatDoor
namespace Go.Proofs.YtaeimlfehlbiiaaGreatDoor
open Go.RowKit
theorem own_keys {w : World} {base : Nat} {v : Value} {l : List ByteArray} (h : w.ownsRow base 9 1 v l.length (l.map Value.string)) :
 ∃ B d, v = .slice B l.length d ∧ l.length ≤ d ∧ OwnKeys w base w.heap.size l B := by
 rcases h.2 with ⟨rfl, h0⟩ | ⟨g, cap, cur, rfl, hb, hh, hle, hm, hs, ht⟩
 ·
  obtain rfl : l = [] := List.eq_nil_of_length_eq_zero h0
  exact ⟨none, 0, rfl, Nat.le_refl _, fun hn => absurd rfl hn⟩
 ·
  refine ⟨_, _, rfl, hle, fun _ => ⟨g, cur, rfl, hb, (Array.getElem?_eq_some_iff.1 hh).1, hh, by omega, fun i s hi => ?_⟩⟩
  have hl := lt_of_get hi
  have h1 : (cur.toList.take (l.length * 1))[i]? = (l.map Value.string)[i]? := by rw [ht]
  rw [List.getElem?_take_of_lt (by omega), Array.getElem?_toList, List.getElem?_map, hi] at h1
  exact h1
theorem OwnKeys.sreads {w : World} {lo hi : Nat} {l : List ByteArray} {A : Option Addr} (h : OwnKeys w lo hi l A) : SReads w (fun b => lo ≤ b ∧ b < hi) A l := by
 intro hn
 obtain ⟨g, cs, e, h1, h2, hb, _, hc⟩ := h hn
 exact ⟨g, 0, e, ⟨h1, h2⟩, fun i s hs => by rw [Nat.zero_add, hb.cell]; exact hc i s hs⟩
theorem clone_own (l : List ByteArray) (A : Option Addr) (c : Nat) (w : World) (hl : l.length ≤ 100000) (hr : SReads w (· < w.heap.size) A l) :
 Calls Tryz.prog 37 #[.slice A l.length c] w fun e w' => ∃ v, e = .returned v ∧ w'.ownsRow w.heap.size 9 1 v l.length (l.map Value.string) ∧ Below w.heap.size w w' := by
 by_cases hn : l = []
 ·
  subst hn
  cases A with
  | none => exact (Tryz.slices_Clone_string_nil _ c w).mono fun e w' ⟨he, hw⟩ => ⟨_, he, World.ownsRow_nil _ _ _ _, hw ▸ Below.refl _ _⟩
  | some a => exact (Tryz.slices_Clone_string_zero a c w).mono fun e w' ⟨v, he, ho, _, hb⟩ => ⟨v, he, ho, hb⟩
 ·
  obtain ⟨b, o, rfl, _, hc⟩ := hr hn
  refine (Tryz.slices_Clone_string b o l.length c l w (Nat.le_refl _) (by omega) (fun j hj => ?_)).mono fun e w' ⟨v, he, ho, _, hb⟩ => ⟨v, he, ?_, hb⟩
  · exact hc j _ (by rw [List.getElem?_eq_getElem hj, List.getD_eq_getElem?_getD, List.getElem?_eq_getElem hj]; rfl)
  · rw [List.take_length] at ho; exact ho
theorem clone_any (l : List ByteArray) (A : Option Addr) (c : Nat) (w : World) (hl : l.length ≤ 100000) (hr : SReads w (· < w.heap.size) A l) :
 Calls Tryz.prog 37 #[.slice A l.length c] w fun e w' => ∃ B d, e = .returned (.slice B l.length d) ∧ l.length ≤ d ∧ OwnKeys w' w.heap.size w'.heap.size l B ∧ Below w.heap.size w w' :=
 (clone_own l A c w hl hr).mono fun e w' ⟨v, he, ho, hb⟩ => by
  obtain ⟨B, d, rfl, hd, hk⟩ := own_keys ho
  exact ⟨B, d, he, hd, hk, hb⟩
theorem infoVal : (Tryz.prog.info? 32).map (fun i => (i.zero, i.size, i.bytes)) = some (some (.agg #[.int .i64 0, .bool false, .int .i64 0, .string ⟨#[]⟩, .slice none 0 0, .slice none 0 0]), 6, 88) := by kernel_rfl
def GivesOwn (t : T) (w : World) (e : Ending) (w' : World) : Prop := ∃ B d B' d', e = .returned (t.agg B d B' d') ∧ Own w' w.heap.size w'.heap.size t B d B' d' ∧ Below w.heap.size w w'
def GivesOwnRow (l : List T) (w : World) (e : Ending) (w' : World) : Prop := ∃ B d, e = .returned (.slice B l.length d) ∧ l.length ≤ d ∧ OwnRow w' w.heap.size w'.heap.size l B ∧ Below w.heap.size w w'
def CopyAt (n : Nat) : Prop := ∀ (t : T) (A : Option Addr) (c : Nat) (A' : Option Addr) (c' : Nat) (w : World), t.size ≤ n → n ≤ 100000 → t.Small → TV w (· < w.heap.size) t A c A' c' →
 Calls Tryz.prog 41 #[t.agg A c A' c'] w (GivesOwn t w)
set_option maxRecDepth 100000 in
set_option maxHeartbeats 2000000 in
theorem copies_of (n : Nat) (ih : CopyAt n) (l : List T) (A : Option Addr) (c : Nat) (w : World) (hl : T.sizes l ≤ n) (hn : n ≤ 100000) (hs : ∀ x ∈ l, x.Small) (hv : VReads w (· < w.heap.size) A l) :
 Calls Tryz.prog 42 #[.slice A l.length c] w (GivesOwnRow l w) := by
 have hll := T.len_sizes l
 obtain ⟨i0, hi, hz0, hz1, hz2⟩ := info_parts infoVal
 by_cases h0 : l.length = 0
 ·
  have t0 : ((l.length : Int) == 0) = true := by simp; exact List.eq_nil_of_length_eq_zero h0
  obtain rfl : l = [] := List.eq_nil_of_length_eq_zero h0
  go_enter Tryz.func42, Tryz.ntmps42
  go_wp2_with fail
  go_ret
  exact ⟨none, 0, rfl, Nat.le_refl _, OwnRow.nil _ _ _, Below.refl _ _⟩
 ·
  have t0 : ((l.length : Int) == 0) = false := by rw [beq_eq_false_iff_ne]; omega
  have hmk : ∀ W : World, (Instr.makeSlice 30 (.int .i64 l.length) (.int .i64 l.length)).run Tryz.prog W = .ok (.slice (some ⟨W.heap.size, 0, none⟩) l.length l.length) (W.alloc (.cells (madeCells #[.int .i64 0, .bool false, .int .i64 0, .string ⟨#[]⟩, .slice none 0 0, .slice none 0 0] (l.length * 6)) 32)) := by
   intro W
   have := run_make (P := Tryz.prog) W 30 32 i0 _ Tryz.underlying30 hi hz0 .i64 .i64 l.length l.length (by omega) (by omega) (by rw [hz2]; omega) (by omega)
   rw [hz1] at this
   exact this
  have IH := Lib.hid ih
  have HV := Lib.hid hv
  have HS := Lib.hid hs
  clear ih hv hs hz0 hz1 hz2 hi h0
  go_enter Tryz.func42, Tryz.ntmps42
  go_wp2_with fail
  go_loopw [14] (fun i wr => ∃ k : Nat, k ≤ l.length ∧ i = .int .i64 k ∧ Copied wr w.heap.size l k ∧ Below w.heap.size w wr) (fun i _ => l.length - (intOf i).toNat)
  case atStart =>
   refine ⟨0, Nat.zero_le _, rfl, ⟨fun _ => w.heap.size + 1, _, Nat.lt_succ_self _, fun i h => by omega, by simp, Blk.new _ _ _, by rw [size_madeCells], fun i x h => by omega⟩, (Below.refl _ _).alloc (Nat.le_refl _) _⟩
  case round =>
   clear hmk
   obtain ⟨k, hk, rfl, hcp, hbel⟩ := hrel
   have Hbel := Lib.hid hbel
   have Hcp := Lib.hid hcp
   clear hbel hcp
   by_cases hlt : k < l.length
   ·
    have u1 : decide (k < l.length) = true := decide_eq_true hlt
    obtain ⟨b, o, x, B, d, B', d', rfl, hb, hx, h6, hX⟩ := HV.out.at_ hlt
    have hxs := T.mem_size (List.mem_of_getElem? hx)
    have HXs := Lib.hid (HS.out x (List.mem_of_getElem? hx))
    have HX := Lib.hid hX
    have Hx := Lib.hid hx
    obtain ⟨e0, e1, e2, e3, e4, e5⟩ := h6.keep hb (.of_below Hbel.out)
    clear hX h6 hx
    go_wp2_with fail
    refine (IH.out x B d B' d' _ (by omega) (by omega) HXs.out (HX.out.on (Hbel.out.alloc Hbel.out.size _))).mono ?_
    rintro e w2 ⟨C, f, C', f', rfl, ho2, hb2⟩
    unfold T.agg
    have hq : wr.heap.size + 1 ≤ w2.heap.size := by have := hb2.size; simpa using this
    have hbw : Below wr.heap.size wr w2 := ((Below.refl _ wr).alloc (Nat.le_refl _) _).trans (hb2.mono (by simp))
    have hcp2 := Hcp.out.onto hbw
    obtain ⟨cs, hbk, hz⟩ := hcp2.blk
    obtain ⟨v0, v1, v2, v3, v4, v5, f0, f1, f2, f3, f4, f5⟩ := hbk.six (o := k * 6) (by omega)
    have z0 := hbk.free (k * 6)
    have z1 := hbk.free (k * 6 + 1)
    have z2 := hbk.free (k * 6 + 2)
    have z3 := hbk.free (k * 6 + 3)
    have z4 := hbk.free (k * 6 + 4)
    have z5 := hbk.free (k * 6 + 5)
    have ho3 : Own w2 (wr.heap.size + 1) w2.heap.size x C f C' f' := by have := ho2; simpa using this
    have HST := Lib.hid (hcp2.step Hx.out hq ⟨wr, Hcp.out, Nat.le_succ _, hbw⟩ ho3)
    have Hb2 := Lib.hid (Hbel.out.trans (hbw.mono Hbel.out.size))
    clear hbk hcp2 hb2 ho2 ho3 hbw hz
    go_wp2_with fail
    go_roundw
    case rel => exact ⟨k + 1, hlt, by go_num, HST.out, (((((Hb2.out.setCell (Nat.le_refl _) _).setCell (Nat.le_refl _) _).setCell (Nat.le_refl _) _).setCell (Nat.le_refl _) _).setCell (Nat.le_refl _) _).setCell (Nat.le_refl _) _⟩
    case measure => simp [intOf]; omega
   ·
    obtain rfl : l.length = k := by omega
    go_wp2_with fail
    go_ret
    exact ⟨_, _, rfl, Nat.le_refl _, Hcp.out.row, Hbel.out⟩
set_option maxRecDepth 100000 in
set_option maxHeartbeats 2000000 in
theorem copy_at (n : Nat) : CopyAt n := by
 induction n with
 | zero => intro t _ _ _ _ _ h; have := t.size_pos; omega
 | succ n ih =>
  intro t A c A' c' w ht hn hs hv
  have hse := t.size_eq
  have hkl := hs.here
  have IH := Lib.hid ih
  have HV := Lib.hid hv
  have HS := Lib.hid hs
  have hss : T.sizes t.items ≤ n := by omega
  clear ih hv hse hs
  unfold T.agg
  go_enter Tryz.func41, Tryz.ntmps41
  go_wp2_with fail
  have hbW : Below w.heap.size w ((w.alloc (Obj.cells (t.cs A c A' c') 32)).alloc (Obj.cells #[.int .i64 0, .bool false, .int .i64 0, .string ⟨#[]⟩, .slice none 0 0, .slice none 0 0] 32)) := ((Below.refl _ _).alloc (Nat.le_refl _) _).alloc (by simp) _
  have hB : Blk ((w.alloc (Obj.cells (t.cs A c A' c') 32)).alloc (Obj.cells #[.int .i64 0, .bool false, .int .i64 0, .string ⟨#[]⟩, .slice none 0 0, .slice none 0 0] 32)) w.heap.size 32 (t.cs A c A' c') := (Blk.new w _ _).alloc _
  have hR : Blk ((w.alloc (Obj.cells (t.cs A c A' c') 32)).alloc (Obj.cells #[.int .i64 0, .bool false, .int .i64 0, .string ⟨#[]⟩, .slice none 0 0, .slice none 0 0] 32)) (w.heap.size + 1) 32 #[.int .i64 0, .bool false, .int .i64 0, .string ⟨#[]⟩, .slice none 0 0, .slice none 0 0] := by
   have := Blk.new (w.alloc (Obj.cells (t.cs A c A' c') 32)) 32 #[.int .i64 0, .bool false, .int .i64 0, .string ⟨#[]⟩, .slice none 0 0, .slice none 0 0]
   simpa using this
  refine (copies_of n IH.out t.items A c _ hss (by omega) (fun x hx => HS.out.mem hx) (HV.out.vreads.on hbW)).mono ?_
  rintro e w2 ⟨C, f, rfl, hf, ho, hb2⟩
  have hB2 := hB.onto hb2
  have hR2 := hR.onto hb2
  have hbW2 := hbW.trans (hb2.mono hbW.size)
  have hlo : w.heap.size + 2 ≤ w2.heap.size := by have := hb2.size; simpa using this
  have ho2 : OwnRow w2 (w.heap.size + 2) w2.heap.size t.items C := by have := ho; simpa using this
  clear hbW hB hR hb2 ho
  have d4 : w2.cell? ⟨w.heap.size, 4, none⟩ = some (.slice A t.items.length c) := hB2.cell 4
  have z4 := hB2.free 4
  have HB3 := Lib.hid (hB2.set_ 4 (.slice C t.items.length f))
  have HR3 := Lib.hid (hR2.far (p := ⟨w.heap.size, 4, none⟩) (by simp) (.slice C t.items.length f))
  have Hb3 := Lib.hid (hbW2.setCell (p := ⟨w.heap.size, 4, none⟩) (Nat.le_refl _) (.slice C t.items.length f))
  have HO3 := Lib.hid (ho2.keep (w' := w2.setCell ⟨w.heap.size, 4, none⟩ (.slice C t.items.length f)) (fun b hb => Below.heap_setCell _ _ _ _ (by show b ≠ w.heap.size; omega)))
  have hsz3 : (w2.setCell ⟨w.heap.size, 4, none⟩ (.slice C t.items.length f)).heap.size = w2.heap.size := by simp [World.setCell]
  rw [← hsz3] at HO3 hlo
  have d5 : (w2.setCell ⟨w.heap.size, 4, none⟩ (.slice C t.items.length f)).cell? ⟨w.heap.size, 5, none⟩ = some (.slice A' t.keys.length c') := HB3.out.cell 5
  clear hB2 hR2 hbW2 ho2 hsz3
  go_wp2_with fail
  generalize w2.setCell ⟨w.heap.size, 4, none⟩ (.slice C t.items.length f) = W at *
  clear d4 z4 d5
  refine (clone_any t.keys A' c' _ hkl (HV.out.keys.on Hb3.out)).mono ?_
  rintro e w4 ⟨D, g, rfl, hg, hk, hb4⟩
  have hB4 := HB3.out.onto hb4
  have hR4 := HR3.out.onto hb4
  have hO4 := HO3.out.keep ((Keeps.of_below hb4).mono fun b hb => hb.2)
  have hb5 := Hb3.out.trans (hb4.mono Hb3.out.size)
  have hs4 := hb4.size
  clear hb4
  have d0 : w4.cell? ⟨w.heap.size, 0, none⟩ = some (.int .i64 t.kind) := hB4.cell 0
  have d1 : w4.cell? ⟨w.heap.size, 1, none⟩ = some (.bool t.tr) := hB4.cell 1
  have d2 : w4.cell? ⟨w.heap.size, 2, none⟩ = some (.int .i64 t.num) := hB4.cell 2
  have d3 : w4.cell? ⟨w.heap.size, 3, none⟩ = some (.string t.str) := hB4.cell 3
  have d4 : w4.cell? ⟨w.heap.size, 4, none⟩ = some (.slice C t.items.length f) := hB4.cell 4
  have d5 : w4.cell? ⟨w.heap.size, 5, none⟩ = some (.slice A' t.keys.length c') := hB4.cell 5
  have z5 := hB4.free 5
  have r0 : w4.cell? ⟨w.heap.size + 1, 0, none⟩ = some (.int .i64 0) := hR4.cell 0
  have r1 : w4.cell? ⟨w.heap.size + 1, 1, none⟩ = some (.bool false) := hR4.cell 1
  have r2 : w4.cell? ⟨w.heap.size + 1, 2, none⟩ = some (.int .i64 0) := hR4.cell 2
  have r3 : w4.cell? ⟨w.heap.size + 1, 3, none⟩ = some (.string ⟨#[]⟩) := hR4.cell 3
  have r4 : w4.cell? ⟨w.heap.size + 1, 4, none⟩ = some (.slice none 0 0) := hR4.cell 4
  have r5 : w4.cell? ⟨w.heap.size + 1, 5, none⟩ = some (.slice none 0 0) := hR4.cell 5
  have x0 := hR4.free 0
  have x1 := hR4.free 1
  have x2 := hR4.free 2
  have x3 := hR4.free 3
  have x4 := hR4.free 4
  have x5 := hR4.free 5
  have HB4 := Lib.hid hB4
  have HR4 := Lib.hid hR4
  have HO4 := Lib.hid hO4
  have Hk := Lib.hid hk
  have Hb5 := Lib.hid hb5
  clear hB4 hR4 hO4 hk hb5 HB3 HR3 HO3 Hb3
  go_wp2_with fail
  have hF := res_put (HR4.out.far (p := ⟨w.heap.size, 5, none⟩) (by simp) (.slice D t.keys.length g)) rfl t C f D g
  have hK : Keeps (fun b => w.heap.size + 2 ≤ b) w4 (((((((w4.setCell ⟨w.heap.size, 5, none⟩ (.slice D t.keys.length g)).setCell ⟨w.heap.size + 1, 0, none⟩ (.int .i64 t.kind)).setCell ⟨w.heap.size + 1, 1, none⟩ (.bool t.tr)).setCell ⟨w.heap.size + 1, 2, none⟩ (.int .i64 t.num)).setCell ⟨w.heap.size + 1, 3, none⟩ (.string t.str)).setCell ⟨w.heap.size + 1, 4, none⟩ (.slice C t.items.length f)).setCell ⟨w.heap.size + 1, 5, none⟩ (.slice D t.keys.length g)) := by
   intro b hb
   have h1 : b ≠ w.heap.size + 1 := by omega
   have h2 : b ≠ w.heap.size := by omega
   rw [Below.heap_setCell _ _ _ _ h1, Below.heap_setCell _ _ _ _ h1, Below.heap_setCell _ _ _ _ h1, Below.heap_setCell _ _ _ _ h1, Below.heap_setCell _ _ _ _ h1, Below.heap_setCell _ _ _ _ h1, Below.heap_setCell _ _ _ _ h2]
  have hL : Below w.heap.size w (((((((w4.setCell ⟨w.heap.size, 5, none⟩ (.slice D t.keys.length g)).setCell ⟨w.heap.size + 1, 0, none⟩ (.int .i64 t.kind)).setCell ⟨w.heap.size + 1, 1, none⟩ (.bool t.tr)).setCell ⟨w.heap.size + 1, 2, none⟩ (.int .i64 t.num)).setCell ⟨w.heap.size + 1, 3, none⟩ (.string t.str)).setCell ⟨w.heap.size + 1, 4, none⟩ (.slice C t.items.length f)).setCell ⟨w.heap.size + 1, 5, none⟩ (.slice D t.keys.length g)) :=
   ((((((Hb5.out.setCell (Nat.le_refl _) _).setCell (Nat.le_succ _) _).setCell (Nat.le_succ _) _).setCell (Nat.le_succ _) _).setCell (Nat.le_succ _) _).setCell (Nat.le_succ _) _).setCell (Nat.le_succ _) _
  have hZ : (((((((w4.setCell ⟨w.heap.size, 5, none⟩ (.slice D t.keys.length g)).setCell ⟨w.heap.size + 1, 0, none⟩ (.int .i64 t.kind)).setCell ⟨w.heap.size + 1, 1, none⟩ (.bool t.tr)).setCell ⟨w.heap.size + 1, 2, none⟩ (.int .i64 t.num)).setCell ⟨w.heap.size + 1, 3, none⟩ (.string t.str)).setCell ⟨w.heap.size + 1, 4, none⟩ (.slice C t.items.length f)).setCell ⟨w.heap.size + 1, 5, none⟩ (.slice D t.keys.length g)).heap.size = w4.heap.size := by simp [World.setCell]
  generalize (((((((w4.setCell ⟨w.heap.size, 5, none⟩ (.slice D t.keys.length g)).setCell ⟨w.heap.size + 1, 0, none⟩ (.int .i64 t.kind)).setCell ⟨w.heap.size + 1, 1, none⟩ (.bool t.tr)).setCell ⟨w.heap.size + 1, 2, none⟩ (.int .i64 t.num)).setCell ⟨w.heap.size + 1, 3, none⟩ (.string t.str)).setCell ⟨w.heap.size + 1, 4, none⟩ (.slice C t.items.length f)).setCell ⟨w.heap.size + 1, 5, none⟩ (.slice D t.keys.length g)) = W5 at *
  have m0 : W5.cell? ⟨w.heap.size + 1, 0, none⟩ = some (.int .i64 t.kind) := hF.cell 0
  have m1 : W5.cell? ⟨w.heap.size + 1, 1, none⟩ = some (.bool t.tr) := hF.cell 1
  have m2 : W5.cell? ⟨w.heap.size + 1, 2, none⟩ = some (.int .i64 t.num) := hF.cell 2
  have m3 : W5.cell? ⟨w.heap.size + 1, 3, none⟩ = some (.string t.str) := hF.cell 3
  have m4 : W5.cell? ⟨w.heap.size + 1, 4, none⟩ = some (.slice C t.items.length f) := hF.cell 4
  have m5 : W5.cell? ⟨w.heap.size + 1, 5, none⟩ = some (.slice D t.keys.length g) := hF.cell 5
  refine bodyPost_ret (v := .agg #[.int .i64 t.kind, .bool t.tr, .int .i64 t.num, .string t.str, .slice C t.items.length f, .slice D t.keys.length g]) (by simp [results, Tryz.results41, go_sem, m0, m1, m2, m3, m4, m5]) rfl ⟨C, f, D, g, rfl, ?_, hL⟩
  have hO5 : OwnRow W5 (w.heap.size + 2) W.heap.size t.items C := HO4.out.keep (hK.mono fun b hb => hb.1)
  have hk5 : OwnKeys W5 W.heap.size W5.heap.size t.keys D := by
   rw [hZ]
   intro hn
   obtain ⟨g1, cs, e, h1, h2, hb, h3, hc⟩ := Hk.out hn
   exact ⟨g1, cs, e, h1, h2, hb.keep hK (by show _ ≤ _; omega), h3, hc⟩
  exact (Own.of hf hg (by rw [hZ]; exact hs4) hO5 hk5).wide (by omega) (Nat.le_refl _)
theorem copy_any (t : T) (A : Option Addr) (c : Nat) (A' : Option Addr) (c' : Nat) (w : World) (ht : t.size ≤ 100000) (hs : t.Small) (hv : TV w (· < w.heap.size) t A c A' c') :
 Calls Tryz.prog 41 #[t.agg A c A' c'] w (GivesOwn t w) := copy_at 100000 t A c A' c' w ht (Nat.le_refl _) hs hv
theorem copies_any (l : List T) (A : Option Addr) (c : Nat) (w : World) (hl : T.sizes l ≤ 100000) (hs : ∀ x ∈ l, x.Small) (hv : VReads w (· < w.heap.size) A l) :
 Calls Tryz.prog 42 #[.slice A l.length c] w (GivesOwnRow l w) := copies_of 100000 (copy_at _) l A c w hl (Nat.le_refl _) hs hv
end Go.Proofs.YtaeimlfehlbiiaaGreatDoor
namespace Go.Proofs.YtaeimlfehlbiiaaGreatDoor
open Go.RowKit
open Pl
theorem getD_take_succ (l : List Int) (k : Nat) (h : k < l.length) : l.take (k + 1) = l.take k ++ [l.getD k 0] := by
 rw [List.take_succ_eq_append_getElem h]; simp [List.getElem?_eq_getElem h]
theorem Reads.below {w w' : World} {B B' : Nat} {A : Option Addr} {l : List Int} (h : Reads w B A l) (hb : Below B' w w') (hB : B ≤ B') : Reads w' B A l := by
 intro hn
 obtain ⟨b, o, e, hlt, hc⟩ := h hn
 exact ⟨b, o, e, hlt, fun i hi => (hb.cell (p := ⟨b, o + i, none⟩) (by show b < B'; omega)).trans (hc i hi)⟩
theorem Reads.more {w : World} {B B' : Nat} {A : Option Addr} {l : List Int} (h : Reads w B A l) (hB : B ≤ B') : Reads w B' A l := by
 intro hn
 obtain ⟨b, o, e, hlt, hc⟩ := h hn
 exact ⟨b, o, e, by omega, hc⟩
theorem own_reads {w : World} {base : Nat} {v : Value} {l : List Int} (h : w.ownsRow base 3 1 v l.length (l.map (Value.int .i64))) : ∃ A c, v = .slice A l.length c ∧ Reads w w.heap.size A l := by
 rcases h.2 with ⟨rfl, h0⟩ | ⟨g, cap, cur, rfl, hb, hh, _⟩
 ·
  obtain rfl : l = [] := List.eq_nil_of_length_eq_zero h0
  exact ⟨none, 0, rfl, fun hn => absurd rfl hn⟩
 ·
  refine ⟨_, _, rfl, fun _ => ⟨g, 0, rfl, (Array.getElem?_eq_some_iff.1 hh).1, fun i hi => ?_⟩⟩
  have := h.cells (g := g) rfl i (.int .i64 (l.getD i 0)) (by simp [List.getElem?_eq_getElem hi])
  have hadd : (⟨g, 0, none⟩ : Addr).add i = ⟨g, 0 + i, none⟩ := by unfold Addr.add; split <;> simp_all
  rwa [hadd] at this
def GivesRow (l : List Int) (x : Value) (w : World) (e : Ending) (w' : World) : Prop :=
 ∃ A c, e = .returned (.tuple #[.slice A l.length c, x]) ∧ Reads w' w'.heap.size A l ∧ Below w.heap.size w w'
set_option maxRecDepth 100000 in
set_option maxHeartbeats 2000000 in
theorem rpoints_any (s : ByteArray) (l : List Int) (R : List UInt8) (h : Split s.data.toList l R) (hs : s.size ≤ 100000) (w : World) :
 Calls Tryz.prog 54 #[.string s] w (GivesRow l (.int .i64 (flat l).length) w) := by
 obtain ⟨i0, hi, hz0, hz1, hz2⟩ := info_parts info3
 have hsz := Lib.hid h.size
 have hge : (flat l).length ≤ s.size := by have := h.size; omega
 have hll : l.length ≤ 100000 := by have := len_le l; omega
 go_enter Tryz.func54, Tryz.ntmps54
 go_wp2_with fail
 go_loopw [4, 5] (fun v i wr => ∃ k : Nat, k ≤ l.length ∧ i = .int .i64 (off l k) ∧ wr.ownsRow w.heap.size 3 1 v k ((l.take k).map (Value.int .i64)) ∧ Below w.heap.size w wr) (fun _ i _ => s.size - (intOf i).toNat)
 case atStart => exact ⟨0, Nat.zero_le _, rfl, World.ownsRow_nil _ _ _ _, Below.refl _ _⟩
 case round =>
  obtain ⟨k, hk, rfl, hown, hbel⟩ := hrel
  have Hown := Lib.hid hown
  have Hbel := Lib.hid hbel
  clear hown hbel
  by_cases hlt : k < l.length
  ·
   obtain ⟨e1, e2, hpos, h3, h4, hb, e3, hf⟩ := h.step hlt
   have ho := (h.dec hlt).2
   have hN : decN (s.data.toList.drop (off l k)) = l.getD k 0 := by
    rw [decN_yes ho, ← decode_eq, e1, e3]
   have hM : decM (s.data.toList.drop (off l k)) = (off l (k + 1) : Int) - (off l k : Int) := by
    rw [decM_yes ho, ← decode_eq]; omega
   have t1 : decide ((off l k : Int) < (s.size : Int)) = true := decide_eq_true (by omega)
   have HN := Lib.hid hN
   have HM := Lib.hid hM
   have Hts := Lib.hid (getD_take_succ l k hlt)
   clear e1 e2 e3 hf ho hN hM hb
   go_wp2_with fail
   refine (first_any s (off l k) _ hpos (by omega)).mono ?_
   rintro e w2 ⟨rfl, hb2⟩
   rw [HN.out, HM.out]
   have Hown2 := Lib.hid (World.ownsRow.kept Hown.out (w' := w2) (row := none) ⟨hb2.os, hb2.tape, hb2.output, hb2.size, fun a ha _ => hb2.block a ha⟩ (by cases u4 <;> simp [Value.ownBlock] <;> split <;> simp))
   have Hbel2 := Lib.hid (Hbel.out.trans (hb2.mono Hbel.out.size))
   have t3 : ((off l (k + 1) : Int) - (off l k : Int) == 0) = false := by simp; omega
   clear hb2 Hown Hbel
   generalize l.getD k 0 = x at *
   go_wp2_with (at_builtin; refine wpList_append_own _ rfl _ _ 75 rfl w.heap.size 3 i0 (.int .i64 0) 1 8 Tryz.underlying75 hi hz0 hz1 hz2 rfl (by decide) _ _ _ rfl (Hown2.out.alloc _) ⟨w2.heap.size, 0, none⟩ 1 1 [.int .i64 x] rfl rfl ?c1 ?c2 ?c3 ?c4 ?c5 ?_)
   case c1 =>
    intro a u hu
    match a, hu with
    | 0, hu => simp at hu; subst hu; simp [Addr.add]
   case c2 => intro u hu; simp at hu; subst hu; rfl
   case c3 => unfold maxLen; omega
   case c4 => omega
   case c5 => have := Hbel2.out.size; simp; omega
   ·
    intro v' w3 hown3 hgrow _
    have Hbel3 := Lib.hid ((Hbel2.out.alloc Hbel2.out.size _).grown hgrow (by have := Hbel2.out.size; simp; omega) (fun a ha => (Hown2.out.lt a ha).1))
    have Hown3 := Lib.hid hown3
    clear hown3 hgrow
    go_wp2_with fail
    go_roundw
    case rel =>
     refine ⟨k + 1, hlt, ?_, ?_, Hbel3.out⟩
     · congr 1; omega
     · rw [Hts.out, List.map_append, List.map_take]; exact Hown3.out
    case measure => simp [intOf]; omega
  ·
   obtain rfl : l.length = k := by omega
   have Hlast : Hid (∀ W : World, Below w.heap.size w W → W.ownsRow w.heap.size 3 1 u4 l.length (l.map (Value.int .i64)) → GivesRow l (.int .i64 (flat l).length) w (.returned (.tuple #[u4, .int .i64 (off l l.length)])) W) := by
    intro W hW ho
    obtain ⟨A, c, hv, hr⟩ := own_reads ho
    exact ⟨A, c, by rw [hv, off_all], hr, hW⟩
   by_cases hR : R = []
   ·
    have t1 : decide (off l l.length < s.size) = false := decide_eq_false (by rw [off_all, hsz.out, hR]; simp)
    have hfin := Hlast.out _ Hbel.out (by have := Hown.out; rwa [List.take_length] at this)
    have Hfin := Lib.hid hfin
    clear hfin Hlast Hown Hbel hR hk hlt
    go_wp2_with fail
    go_ret2
    exact Hfin.out
   ·
    have hpos : off l l.length < s.size := by
     have : 0 < R.length := List.length_pos_iff.2 hR
     rw [off_all, hsz.out]; omega
    have t1 : decide (off l l.length < s.size) = true := decide_eq_true (by omega)
    have ho : ok (s.data.toList.drop (off l l.length)) = false := by
     rw [off_all, h.1, drop_all]; exact h.2.1
    have HN := Lib.hid (decN_no ho)
    have HM := Lib.hid (decM_no ho)
    clear ho hR hk hlt
    go_wp2_with fail
    refine (first_any s (off l l.length) _ hpos (by omega)).mono ?_
    rintro e w2 ⟨rfl, hb2⟩
    rw [HN.out, HM.out]
    have hown2 := World.ownsRow.kept Hown.out (w' := w2) (row := none) ⟨hb2.os, hb2.tape, hb2.output, hb2.size, fun a ha _ => hb2.block a ha⟩ (by cases u4 <;> simp [Value.ownBlock] <;> split <;> simp)
    rw [List.take_length] at hown2
    have hfin := Hlast.out _ (Hbel.out.trans (hb2.mono Hbel.out.size)) hown2
    have Hfin := Lib.hid hfin
    clear hfin Hlast Hown Hbel hown2 hb2
    go_wp2_with fail
    go_ret2
    exact Hfin.out
theorem rvalid_yes (s : ByteArray) (l : List Int) (h : Split s.data.toList l []) (hs : s.size ≤ 100000) (w : World) :
 Calls Tryz.prog 43 #[.string s] w fun e w' => e = .returned (.bool true) ∧ Below w.heap.size w w' := by
 have hsz := h.size
 have He : Hid (((flat l).length : Int) = (s.size : Int)) := by simp at hsz; exact congrArg Int.ofNat hsz.symm
 clear hsz
 go_enter Tryz.func43, Tryz.ntmps43
 go_wp2_with fail
 refine (rpoints_any s l [] h hs _).mono ?_
 rintro e w1 ⟨A, c, rfl, hr, hb⟩
 rw [He.out]
 have Hb := Lib.hid hb
 clear hr hb
 go_wp2_with fail
 go_ret
 exact ⟨ret_bool (by simp), Hb.out⟩
theorem rvalid_no (s : ByteArray) (l : List Int) (R : List UInt8) (h : Split s.data.toList l R) (hR : R ≠ []) (hs : s.size ≤ 100000) (w : World) :
 Calls Tryz.prog 43 #[.string s] w fun e w' => e = .returned (.bool false) ∧ Below w.heap.size w w' := by
 have hsz := h.size
 have hp : 0 < R.length := List.length_pos_iff.2 hR
 have hlt : ((flat l).length : Int) < (s.size : Int) := by omega
 clear hsz hp
 go_enter Tryz.func43, Tryz.ntmps43
 go_wp2_with fail
 refine (rpoints_any s l R h hs _).mono ?_
 rintro e w1 ⟨A, c, rfl, hr, hb⟩
 have Hb := Lib.hid hb
 clear hr hb
 go_wp2_with fail
 go_ret
 exact ⟨ret_bool (by simp; omega), Hb.out⟩
end Go.Proofs.YtaeimlfehlbiiaaGreatDoor
namespace Go.Proofs.YtaeimlfehlbiiaaGreatDoor
open Go.RowKit
open Pl
def okText (s : ByteArray) : Prop := ∃ l, Split s.data.toList l []
theorem not_text {s : ByteArray} (h : ¬ okText s) : ∃ l R, Split s.data.toList l R ∧ R ≠ [] := by
 obtain ⟨l, R, hs⟩ := split_ex _ s.data.toList (Nat.le_refl _)
 exact ⟨l, R, hs, fun hr => h ⟨l, hr ▸ hs⟩⟩
theorem okText_one (b : UInt8) (h : b.toNat < 128) : okText ⟨#[b]⟩ := by
 refine ⟨[(b.toNat : Int)], ?_, rfl, ?_⟩
 ·
  have h1 : (b.toNat : Int) ≤ 127 := by omega
  simp [flat, Lib.encodeRune, Lib.encodeRuneZ, h1]
 ·
  intro x hx
  obtain rfl : x = (b.toNat : Int) := by simpa using hx
  rw [pt_iff]; left; omega
theorem okText_nil : okText ByteArray.empty := ⟨[], rfl, rfl, fun x hx => by cases hx⟩
theorem rval_yes (s : ByteArray) (w : World) (h : okText s) (hs : s.size ≤ 100000) :
 Calls Tryz.prog 43 #[.string s] w fun e w' => e = .returned (.bool true) ∧ Below w.heap.size w w' := by
 obtain ⟨l, h⟩ := h
 exact rvalid_yes s l h hs w
theorem rval_no (s : ByteArray) (w : World) (h : ¬ okText s) (hs : s.size ≤ 100000) :
 Calls Tryz.prog 43 #[.string s] w fun e w' => e = .returned (.bool false) ∧ Below w.heap.size w w' := by
 obtain ⟨l, R, h, hR⟩ := not_text h
 exact rvalid_no s l R h hR hs w
theorem gval_yes (s : ByteArray) (w : World) (h : okText s) :
 Calls Tryz.prog 62 #[.string s] w fun e w' => (∃ n, e = .returned (.tuple #[.int .i64 n, .bool true])) ∧ Below w.heap.size w w' := by
 obtain ⟨l, h⟩ := h
 exact (valid_any s l [] h w).mono fun e w' ⟨he, hb⟩ => ⟨⟨_, he⟩, hb⟩
def AllText (l : List ByteArray) : Prop := ∀ s ∈ l, okText s
theorem SReads.at_ {w : World} {S : Nat → Prop} {A : Option Addr} {l : List ByteArray} (h : SReads w S A l) {k : Nat} (hk : k < l.length) :
 ∃ b o s, A = some ⟨b, o, none⟩ ∧ S b ∧ l[k]? = some s ∧ w.cell? ⟨b, o + k, none⟩ = some (.string s) := by
 obtain ⟨b, o, e, hs, hi⟩ := h (by intro hn; rw [hn] at hk; simp at hk)
 exact ⟨b, o, _, e, hs, List.getElem?_eq_getElem hk, hi k _ (List.getElem?_eq_getElem hk)⟩
set_option maxRecDepth 100000 in
set_option maxHeartbeats 2000000 in
theorem texts_yes (l : List ByteArray) (A : Option Addr) (c : Nat) (w : World) (hl : l.length ≤ 100000) (h : AllText l) (hr : SReads w (· < w.heap.size) A l) :
 Calls Tryz.prog 36 #[.slice A l.length c] w fun e w' => e = .returned (.bool true) ∧ Below w.heap.size w w' := by
 have HR := Lib.hid hr
 have HA := Lib.hid h
 clear hr h
 go_enter Tryz.func36, Tryz.ntmps36
 go_wp2_with fail
 go_loopw [9] (fun i wr => ∃ k : Nat, k ≤ l.length ∧ i = .int .i64 k ∧ Below w.heap.size w wr) (fun i _ => l.length - (intOf i).toNat)
 case atStart => exact ⟨0, Nat.zero_le _, rfl, Below.refl _ _⟩
 case round =>
  obtain ⟨k, hk, rfl, hbel⟩ := hrel
  have Hbel := Lib.hid hbel
  clear hbel
  by_cases hlt : k < l.length
  ·
   have u1 : decide (k < l.length) = true := decide_eq_true hlt
   obtain ⟨b, o, s, rfl, hb, hx, hc⟩ := HR.out.at_ hlt
   have Hok := Lib.hid (HA.out s (List.mem_of_getElem? hx))
   have e0 := ((Keeps.of_below Hbel.out).cell hb (o + k)).trans hc
   clear hx hc
   go_wp2_with fail
   refine (gval_yes s _ Hok.out).mono ?_
   rintro e w2 ⟨⟨n, rfl⟩, hb2⟩
   have Hb2 := Lib.hid (Hbel.out.trans (hb2.mono Hbel.out.size))
   clear hb2
   go_wp2_with fail
   go_roundw
   case rel => exact ⟨k + 1, hlt, by go_num, Hb2.out⟩
   case measure => simp [intOf]; omega
  ·
   obtain rfl : l.length = k := by omega
   go_wp2_with fail
   go_ret
   exact ⟨rfl, Hbel.out⟩
def sl (a b : ByteArray) : Bool := Op.bytesLess a.toList b.toList
theorem sl_iff (a b : ByteArray) : sl a b = true ↔ a.data.toList < b.data.toList := by
 unfold sl
 rw [Go.Proofs.bytesLess_eq, ByteArray.toList_eq, ByteArray.toList_eq]
 exact decide_eq_true_iff
theorem ba_ext {a b : ByteArray} (h : a.data.toList = b.data.toList) : a = b := by
 cases a; cases b; simp at h; rw [h]
theorem sl_irrefl (a : ByteArray) : sl a a = false := by
 rw [Bool.eq_false_iff]; intro h; exact List.lt_irrefl _ ((sl_iff a a).1 h)
theorem sl_trans {a b c : ByteArray} (h : sl a b = true) (k : sl b c = true) : sl a c = true := (sl_iff _ _).2 (List.lt_trans ((sl_iff _ _).1 h) ((sl_iff _ _).1 k))
theorem sl_tri (a b : ByteArray) : sl a b = true ∨ a = b ∨ sl b a = true := by
 by_cases h : a.data.toList < b.data.toList
 · exact .inl ((sl_iff _ _).2 h)
 ·
  rcases List.le_iff_lt_or_eq.1 (List.not_lt.1 h) with h | h
  · exact .inr (.inr ((sl_iff _ _).2 h))
  · exact .inr (.inl (ba_ext h.symm))
theorem sl_asymm {a b : ByteArray} (h : sl a b = true) : sl b a = false := by
 rw [Bool.eq_false_iff]; intro k
 have := sl_trans h k
 rw [sl_irrefl] at this; cases this
def Rising (l : List ByteArray) : Prop := ∀ (i : Nat) (a b : ByteArray), l[i]? = some a → l[i + 1]? = some b → sl a b = true
set_option maxRecDepth 100000 in
set_option maxHeartbeats 2000000 in
theorem rising_yes (l : List ByteArray) (A : Option Addr) (c : Nat) (w : World) (hl : l.length ≤ 100000) (h : Rising l) (hr : SReads w (· < w.heap.size) A l) :
 Calls Tryz.prog 39 #[.slice A l.length c] w fun e w' => e = .returned (.bool true) ∧ Below w.heap.size w w' := by
 have HR := Lib.hid hr
 have HA := Lib.hid h
 clear hr h
 go_enter Tryz.func39, Tryz.ntmps39
 go_wp2_with fail
 go_loopw [3] (fun i wr => ∃ k : Nat, (k ≤ l.length ∨ k = 1) ∧ 1 ≤ k ∧ i = .int .i64 k ∧ Below w.heap.size w wr) (fun i _ => l.length - (intOf i).toNat)
 case atStart => exact ⟨1, .inr rfl, Nat.le_refl _, rfl, Below.refl _ _⟩
 case round =>
  obtain ⟨k, hk, hk1, rfl, hbel⟩ := hrel
  have Hbel := Lib.hid hbel
  clear hbel
  by_cases hlt : k < l.length
  ·
   have u1 : decide ((k : Int) < (l.length : Int)) = true := decide_eq_true (by omega)
   obtain ⟨b, o, s, rfl, hb, hx, hc⟩ := HR.out.at_ hlt
   obtain ⟨j, rfl⟩ : ∃ j, k = j + 1 := ⟨k - 1, by omega⟩
   obtain ⟨_, _, s', e', _, hx', hc'⟩ := HR.out.at_ (show j < l.length by omega)
   injection e' with e'; injection e' with e1 e2 _; subst e1 e2
   have e0 := ((Keeps.of_below Hbel.out).cell hb (o + (j + 1))).trans hc
   have e1 := ((Keeps.of_below Hbel.out).cell hb (o + j)).trans hc'
   have hs := HA.out j s' s hx' hx
   unfold sl at hs
   have w1 : IntKind.i64.wrap (j : Int) = j := IntWalk.i64_in _ (by omega)
   have i1 : (j : Int) < l.length := by omega
   have i2 : (0 : Int) ≤ j := by omega
   have i3 : (j : Int) + 1 < l.length := by omega
   have i4 : (0 : Int) ≤ (j : Int) + 1 := by omega
   have i5 : ((j : Int) + 1).toNat = j + 1 := by omega
   clear hx hc hx' hc'
   go_wp2_with fail
   go_quiet (fail)
   go_wp2_with fail
   go_roundw
   case rel => exact ⟨j + 1 + 1, .inl hlt, by omega, by go_num, below_drewN Hbel.out _⟩
   case measure => simp [intOf]; omega
  ·
   have u1 : decide ((k : Int) < (l.length : Int)) = false := decide_eq_false (by omega)
   go_wp2_with fail
   go_ret
   exact ⟨rfl, Hbel.out⟩
end Go.Proofs.YtaeimlfehlbiiaaGreatDoor
namespace Go.Proofs.YtaeimlfehlbiiaaGreatDoor
open Go.RowKit Go.Sort
def srt (l : List ByteArray) : List ByteArray := ((l.map fun s => s.data.toList).mergeSort fun x y => decide (x ≤ y)).map fun b => ⟨b.toArray⟩
theorem map_back (l : List ByteArray) : (l.map fun s => s.data.toList).map (fun b => (⟨b.toArray⟩ : ByteArray)) = l := by
 rw [List.map_map]
 conv => rhs; rw [← List.map_id l]
 apply List.map_congr_left
 intro s _
 cases s; simp
theorem srt_perm (l : List ByteArray) : (srt l).Perm l := by
 have := (List.mergeSort_perm (l.map fun s => s.data.toList) fun x y => decide (x ≤ y)).map fun b => (⟨b.toArray⟩ : ByteArray)
 rw [map_back] at this
 exact this
theorem srt_len (l : List ByteArray) : (srt l).length = l.length := (srt_perm l).length_eq
theorem srt_pair (l : List ByteArray) : (srt l).Pairwise fun a b => sl b a = false := by
 unfold srt
 rw [List.pairwise_map]
 refine (List.pairwise_mergeSort (le := fun x y => decide (x ≤ y)) ?_ ?_ _).imp ?_
 ·
  intro a b c h1 h2
  simp only [decide_eq_true_eq] at *
  exact List.le_trans h1 h2
 ·
  intro a b
  simp only [Bool.or_eq_true, decide_eq_true_eq]
  exact List.le_total a b
 ·
  intro a b h
  rw [decide_eq_true_eq] at h
  rw [Bool.eq_false_iff]
  intro k
  exact h (by have := (sl_iff _ _).1 k; simpa using this)
theorem get_pair {α : Type} {R : α → α → Prop} {l : List α} (h : l.Pairwise R) {i j : Nat} {a b : α} (hi : l[i]? = some a) (hj : l[j]? = some b) (hij : i < j) : R a b := by
 have h1 := lt_of_get hi
 have h2 := lt_of_get hj
 have := List.pairwise_iff_getElem.1 h i j h1 h2 hij
 rw [List.getElem?_eq_getElem h1] at hi
 rw [List.getElem?_eq_getElem h2] at hj
 injection hi with hi
 injection hj with hj
 rw [hi, hj] at this
 exact this
theorem srt_rising {l : List ByteArray} (h : l.Nodup) : Rising (srt l) := by
 intro i a b ha hb
 have h1 := get_pair (srt_pair l) ha hb (by omega)
 have h2 : a ≠ b := get_pair ((srt_perm l).nodup_iff.2 h) ha hb (by omega)
 rcases sl_tri a b with k | k | k
 · exact k
 · exact absurd k h2
 · rw [h1] at k; cases k
theorem Rising.mono {l : List ByteArray} (h : Rising l) {i : Nat} {a : ByteArray} (hi : l[i]? = some a) : ∀ (j : Nat) (b : ByteArray), i < j → l[j]? = some b → sl a b = true := by
 intro j
 induction j with
 | zero => intro b h0; omega
 | succ j ih =>
  intro b hij hb
  rcases Nat.lt_or_ge i j with h1 | h1
  ·
   have hj : j < l.length := by have := lt_of_get hb; omega
   have h2 := ih _ h1 (List.getElem?_eq_getElem hj)
   exact sl_trans h2 (h j _ b (List.getElem?_eq_getElem hj) hb)
  ·
   obtain rfl : i = j := by omega
   exact h i a b hi hb
theorem Rising.nodup {l : List ByteArray} (h : Rising l) : l.Nodup := by
 rw [List.Nodup, List.pairwise_iff_getElem]
 intro i j h1 h2 hij heq
 have := h.mono (List.getElem?_eq_getElem h1) j _ hij (List.getElem?_eq_getElem h2)
 rw [heq, sl_irrefl] at this
 cases this
theorem enc_map (l : List ByteArray) : (l.map fun s => s.data.toList).map encStr = l.map Value.string := by
 rw [List.map_map]
 apply List.map_congr_left
 intro s _
 cases s; simp [encStr]
theorem srt_map (l : List ByteArray) : ((l.map fun s => s.data.toList).mergeSort fun x y => decide (x ≤ y)).map encStr = (srt l).map Value.string := by
 unfold srt
 rw [List.map_map]
 rfl
theorem sort_any (l : List ByteArray) (v : Value) (base : Nat) (w : World) (hl : l.length ≤ 100000) (hb : base ≤ w.heap.size) (ho : w.ownsRow base 9 1 v l.length (l.map Value.string)) :
 Calls Tryz.prog 38 #[v] w fun e w' => e = .returned (.tuple #[]) ∧ w'.ownsRow base 9 1 v l.length ((srt l).map Value.string) ∧ Below base w w' := by
 rcases ho.2 with ⟨rfl, h0⟩ | ⟨g, cap, cur, rfl, hbase, hh, h1, h2, h3, h4⟩
 ·
  obtain rfl : l = [] := List.eq_nil_of_length_eq_zero h0
  have e : srt [] = [] := by simp [srt]
  rw [e]
  exact (Tryz.slices_Sort_string_none none 0 w).mono fun e w' ⟨he, hw⟩ => ⟨he, hw ▸ ho, hw ▸ Below.refl _ _⟩
 ·
  have hH := holds_of_block (ss := l.map fun s => s.data.toList) hh (by rw [List.length_map, enc_map, ← h4, Nat.mul_one])
  have hc := Tryz.slices_Sort_string g 0 cap (l.map fun s => s.data.toList) w hH (Array.getElem?_eq_some_iff.1 hh).1 (by rw [List.length_map]; omega)
  rw [List.length_map] at hc
  refine hc.mono ?_
  rintro e w' ⟨rfl, n, os, rfl⟩
  refine ⟨rfl, ?_, (Below.refl _ _).grown (grownBy_sorted _) hb (fun k hk => by injection hk with hk; omega)⟩
  have := ownsRow_sorted (n := n) (os := os) (cap := cap) (base := base) (e := 9) (ss := l.map fun s => s.data.toList) (ts := (l.map fun s => s.data.toList).mergeSort fun x y => decide (x ≤ y)) (by simp) hbase hh (by simpa using h1) h2 h3
  rw [srt_map, List.length_map] at this
  exact this
theorem search_any (l : List ByteArray) (g o c p : Nat) (s : ByteArray) (w : World) (hl : l.length ≤ 100000) (hr : Rising l) (hp : l[p]? = some s) (hc : ∀ (i : Nat) (x : ByteArray), l[i]? = some x → w.cell? ⟨g, o + i, none⟩ = some (.string x)) :
 Calls Tryz.prog 40 #[.slice (some ⟨g, o, none⟩) l.length c, .string s] w fun e w' => e = .returned (.tuple #[.int .i64 p, .bool true]) ∧ ∃ q, w' = w.drewN q := by
 have hpl := lt_of_get hp
 have hget : ∀ (i : Nat) (x : ByteArray), l[i]? = some x → l.getD i s = x := fun i x hi => by rw [List.getD_eq_getElem?_getD, hi]; rfl
 have key : Lib.bsGo (fun t => Op.bytesLess (l.getD t s).toList s.toList) l.length 0 l.length = p := by
  refine Lib.bsGo_spec _ p (fun t ht => ?_) (fun t ht => ?_) _ _ _ (by omega) (by omega) (by omega)
  ·
   have htl : t < l.length := by omega
   rw [hget t _ (List.getElem?_eq_getElem htl)]
   exact hr.mono (List.getElem?_eq_getElem htl) p s ht hp
  ·
   rcases Nat.lt_or_ge t l.length with h1 | h1
   ·
    rw [hget t _ (List.getElem?_eq_getElem h1)]
    rcases Nat.lt_or_ge p t with h2 | h2
    · exact sl_asymm (hr.mono hp t _ h2 (List.getElem?_eq_getElem h1))
    ·
     obtain rfl : t = p := by omega
     rw [List.getElem?_eq_getElem h1] at hp
     injection hp with hp
     rw [hp]
     exact sl_irrefl s
   ·
    rw [List.getD_eq_getElem?_getD, List.getElem?_eq_none h1]
    exact sl_irrefl s
 have := Tryz.slices_BinarySearch_string g o l.length c (fun t => l.getD t s) s w (by omega) (fun j hj => by rw [hget j _ (List.getElem?_eq_getElem hj)]; exact hc j _ (List.getElem?_eq_getElem hj))
 simp only [key] at this
 refine this.mono fun e w' ⟨he, hw⟩ => ⟨?_, hw⟩
 rw [he, hget p s hp]
 simp [hpl]
end Go.Proofs.YtaeimlfehlbiiaaGreatDoor
namespace Go.Proofs.YtaeimlfehlbiiaaGreatDoor
open Go.RowKit
def T.zero : T := .mk 0 false 0 ⟨#[]⟩ [] []
def look : List ByteArray → List T → ByteArray → T
 | k :: r, x :: s, q => if k.data = q.data then x else look r s q
 | _, _, _ => T.zero
theorem look_at {keys : List ByteArray} {items : List T} (hn : keys.Nodup) {i : Nat} {k : ByteArray} {x : T} (hk : keys[i]? = some k) (hx : items[i]? = some x) : look keys items k = x := by
 induction keys generalizing items i with
 | nil => simp at hk
 | cons a r ih =>
  cases items with
  | nil => simp at hx
  | cons y s =>
   cases i with
   | zero =>
    simp at hk hx
    subst hk hx
    simp [look]
   | succ i =>
    simp at hk hx
    have h1 : a.data ≠ k.data := by
     intro h
     have h2 : a = k := by cases a; cases k; simp at h; rw [h]
     subst h2
     exact (List.nodup_cons.1 hn).1 (List.mem_of_getElem? hk)
    rw [look, if_neg h1]
    exact ih (List.nodup_cons.1 hn).2 hk hx
def placed (keys : List ByteArray) (items : List T) : List T := (srt keys).map (look keys items)
def objT (keys : List ByteArray) (items : List T) : T := .mk 5 false 0 ⟨#[]⟩ (placed keys items) (srt keys)
theorem placed_len (keys : List ByteArray) (items : List T) : (placed keys items).length = keys.length := by unfold placed; rw [List.length_map, srt_len]
def Placed (w : World) (R g : Nat) (keys : List ByteArray) (items : List T) (k : Nat) : Prop :=
 ∃ cs : Array Value, Blk w g 32 cs ∧ cs.size = keys.length * 6 ∧
  ∀ (i p : Nat) (s : ByteArray) (x : T), i < k → keys[i]? = some s → (srt keys)[p]? = some s → items[i]? = some x → ∃ B d B' d', Six w g (p * 6) x B d B' d' ∧ TV w (fun b => R < b ∧ b < w.heap.size ∧ b ≠ g) x B d B' d'
theorem Placed.blk {w : World} {R g : Nat} {keys : List ByteArray} {items : List T} {k : Nat} (h : Placed w R g keys items k) : ∃ cs, Blk w g 32 cs ∧ cs.size = keys.length * 6 := by
 obtain ⟨cs, hb, hz, _⟩ := h
 exact ⟨cs, hb, hz⟩
theorem Placed.onto {w w' : World} {R g : Nat} {keys : List ByteArray} {items : List T} {k : Nat} (h : Placed w R g keys items k) (hb : Below w.heap.size w w') : Placed w' R g keys items k := by
 obtain ⟨cs, hbk, hz, hi⟩ := h
 refine ⟨cs, hbk.onto hb, hz, fun i p s x hik hk hp hx => ?_⟩
 obtain ⟨B, d, B', d', h6, ht⟩ := hi i p s x hik hk hp hx
 refine ⟨B, d, B', d', h6.on_blk (hb.block g hbk.lt), ?_⟩
 exact (ht.keep fun b hb' => hb.block b hb'.2.1).wide fun b hb' => ⟨hb'.1, Nat.lt_of_lt_of_le hb'.2.1 hb.size, hb'.2.2⟩
theorem Placed.step {w : World} {R g : Nat} {keys : List ByteArray} {items : List T} {k p : Nat} {s : ByteArray} {x : T} {B : Option Addr} {d : Nat} {B' : Option Addr} {d' : Nat} (h : Placed w R g keys items k) (hn : keys.Nodup)
 (hk : keys[k]? = some s) (hp : (srt keys)[p]? = some s) (hx : items[k]? = some x) (ht : TV w (fun b => R < b ∧ b < w.heap.size ∧ b ≠ g) x B d B' d') :
 Placed ((((((w.setCell ⟨g, p * 6, none⟩ (.int .i64 x.kind)).setCell ⟨g, p * 6 + 1, none⟩ (.bool x.tr)).setCell ⟨g, p * 6 + 2, none⟩ (.int .i64 x.num)).setCell ⟨g, p * 6 + 3, none⟩ (.string x.str)).setCell ⟨g, p * 6 + 4, none⟩ (.slice B x.items.length d)).setCell ⟨g, p * 6 + 5, none⟩ (.slice B' x.keys.length d')) R g keys items (k + 1) := by
 obtain ⟨cs, hbk, hz, hi⟩ := h
 have hpl : p < keys.length := by have := lt_of_get hp; rw [srt_len] at this; exact this
 obtain ⟨cs', hb', hz', h6', hfar⟩ := six_put hbk (o := p * 6) (by omega) x B d B' d'
 have hkeep : ∀ b, b ≠ g → ((((((w.setCell ⟨g, p * 6, none⟩ (.int .i64 x.kind)).setCell ⟨g, p * 6 + 1, none⟩ (.bool x.tr)).setCell ⟨g, p * 6 + 2, none⟩ (.int .i64 x.num)).setCell ⟨g, p * 6 + 3, none⟩ (.string x.str)).setCell ⟨g, p * 6 + 4, none⟩ (.slice B x.items.length d)).setCell ⟨g, p * 6 + 5, none⟩ (.slice B' x.keys.length d')).heap[b]? = w.heap[b]? := by
  intro b hne
  rw [Below.heap_setCell _ _ _ _ hne, Below.heap_setCell _ _ _ _ hne, Below.heap_setCell _ _ _ _ hne, Below.heap_setCell _ _ _ _ hne, Below.heap_setCell _ _ _ _ hne, Below.heap_setCell _ _ _ _ hne]
 have hsize : ((((((w.setCell ⟨g, p * 6, none⟩ (.int .i64 x.kind)).setCell ⟨g, p * 6 + 1, none⟩ (.bool x.tr)).setCell ⟨g, p * 6 + 2, none⟩ (.int .i64 x.num)).setCell ⟨g, p * 6 + 3, none⟩ (.string x.str)).setCell ⟨g, p * 6 + 4, none⟩ (.slice B x.items.length d)).setCell ⟨g, p * 6 + 5, none⟩ (.slice B' x.keys.length d')).heap.size = w.heap.size := by simp [World.setCell]
 generalize ((((((w.setCell ⟨g, p * 6, none⟩ (.int .i64 x.kind)).setCell ⟨g, p * 6 + 1, none⟩ (.bool x.tr)).setCell ⟨g, p * 6 + 2, none⟩ (.int .i64 x.num)).setCell ⟨g, p * 6 + 3, none⟩ (.string x.str)).setCell ⟨g, p * 6 + 4, none⟩ (.slice B x.items.length d)).setCell ⟨g, p * 6 + 5, none⟩ (.slice B' x.keys.length d')) = W at *
 have hon : ∀ {y C e C' e'}, TV w (fun b => R < b ∧ b < w.heap.size ∧ b ≠ g) y C e C' e' → TV W (fun b => R < b ∧ b < W.heap.size ∧ b ≠ g) y C e C' e' := fun h =>
  (h.keep fun b hb => hkeep b hb.2.2).wide fun b hb => ⟨hb.1, by omega, hb.2.2⟩
 refine ⟨cs', hb', by omega, fun i q s' y hik hk' hq hy => ?_⟩
 rcases Nat.lt_or_ge i k with h1 | h1
 ·
  obtain ⟨C, e, C', e', k6, kt⟩ := hi i q s' y h1 hk' hq hy
  have hne : q ≠ p := by
   rintro rfl
   rw [hp] at hq
   injection hq with hq
   subst hq
   exact get_pair hn hk' hk h1 rfl
  refine ⟨C, e, C', e', ?_, hon kt⟩
  have hc : ∀ j, j < 6 → W.cell? ⟨g, q * 6 + j, none⟩ = w.cell? ⟨g, q * 6 + j, none⟩ := fun j hj => by
   rw [hb'.cell, hbk.cell]; exact hfar _ (by omega)
  obtain ⟨e0, e1, e2, e3, e4, e5⟩ := k6
  exact ⟨(hc 0 (by omega)).trans e0, (hc 1 (by omega)).trans e1, (hc 2 (by omega)).trans e2, (hc 3 (by omega)).trans e3, (hc 4 (by omega)).trans e4, (hc 5 (by omega)).trans e5⟩
 ·
  obtain rfl : i = k := by omega
  rw [hk] at hk'
  injection hk' with hk'
  subst hk'
  rw [hx] at hy
  injection hy with hy
  subst hy
  have hqp : q = p := by
   rcases Nat.lt_trichotomy q p with h2 | h2 | h2
   · exact absurd rfl (get_pair ((srt_perm keys).nodup_iff.2 hn) hq hp h2)
   · exact h2
   · exact absurd rfl (get_pair ((srt_perm keys).nodup_iff.2 hn) hp hq h2)
  subst hqp
  exact ⟨B, d, B', d', h6', hon ht⟩
theorem Placed.row {w : World} {R g : Nat} {keys : List ByteArray} {items : List T} (h : Placed w R g keys items keys.length) (hn : keys.Nodup) (hl : keys.length = items.length) :
 ∀ (p : Nat) (x : T), (placed keys items)[p]? = some x → ∃ B d B' d', Six w g (p * 6) x B d B' d' ∧ TV w (fun b => R < b ∧ b < w.heap.size ∧ b ≠ g) x B d B' d' := by
 intro p x hx
 obtain ⟨cs, _, _, hi⟩ := h
 unfold placed at hx
 rw [List.getElem?_map] at hx
 cases hs : (srt keys)[p]? with
 | none => rw [hs] at hx; cases hx
 | some s =>
  rw [hs] at hx
  injection hx with hx
  have hm : s ∈ keys := (srt_perm keys).mem_iff.1 (List.mem_of_getElem? hs)
  obtain ⟨i, hi'⟩ := List.mem_iff_getElem?.1 hm
  have hil := lt_of_get hi'
  have hy : items[i]? = some (items[i]'(by omega)) := List.getElem?_eq_getElem (by omega)
  have := look_at hn hi' hy
  rw [this] at hx
  exact hi i p s x hil hi' hs (by rw [hy, hx])
def zeros : Array Value := #[.int .i64 0, .bool false, .int .i64 0, .string ⟨#[]⟩, .slice none 0 0, .slice none 0 0]
set_option maxRecDepth 100000 in
set_option maxHeartbeats 4000000 in
theorem object_ok (keys : List ByteArray) (items : List T) (A : Option Addr) (c : Nat) (A' : Option Addr) (c' : Nat) (w : World) (hl : keys.length ≤ 100000) (he : keys.length = items.length) (hr : SReads w (· < w.heap.size) A keys) (ht : AllText keys) (hd : keys.Nodup)
 (hz : T.sizes items ≤ 100000) (hs : ∀ x ∈ items, x.Small) (hi : VReads w (· < w.heap.size) A' items) :
 Calls Tryz.prog 18 #[.slice A keys.length c, .slice A' items.length c'] w fun e w' => (∃ B d B' d', e = .returned (.tuple #[(objT keys items).agg B d B' d', .int .i64 0]) ∧ TV w' (· < w'.heap.size) (objT keys items) B d B' d') ∧ Below w.heap.size w w' := by
 have t0 : (((keys.length : Int)) != (items.length : Int)) = false := by simp; omega
 have HR := Lib.hid hr
 have HT := Lib.hid ht
 have HN := Lib.hid hd
 have HI := Lib.hid hi
 have HS := Lib.hid hs
 have HE := Lib.hid he
 have hle : items.length ≤ 100000 := by omega
 have hli : items.length ≤ T.sizes items := T.len_sizes items
 obtain ⟨i0, hii, hz0, hz1, hz2⟩ := info_parts infoVal
 have hmk : ∀ W : World, (Instr.makeSlice 30 (.int .i64 items.length) (.int .i64 items.length)).run Tryz.prog W = .ok (.slice (some ⟨W.heap.size, 0, none⟩) items.length items.length) (W.alloc (.cells (madeCells #[.int .i64 0, .bool false, .int .i64 0, .string ⟨#[]⟩, .slice none 0 0, .slice none 0 0] (items.length * 6)) 32)) := by
  intro W
  have := run_make (P := Tryz.prog) W 30 32 i0 _ Tryz.underlying30 hii hz0 .i64 .i64 items.length items.length (by omega) (by omega) (by rw [hz2]; omega) (by omega)
  rw [hz1] at this
  exact this
 clear hr ht he hd hi hs hz0 hz1 hz2 hii
 go_enter Tryz.func18, Tryz.ntmps18
 go_wp2_with fail
 have h0 : Below w.heap.size w (w.alloc (.cells zeros 32)) := (Below.refl _ _).alloc (Nat.le_refl _) _
 refine (texts_yes keys A c _ hl HT.out (HR.out.on h0)).mono ?_
 rintro e w2 ⟨rfl, hb2⟩
 have hB2 : Blk w2 w.heap.size 32 zeros := (Blk.new w 32 zeros).onto hb2
 have hR2 : w.heap.size < w2.heap.size := hB2.lt
 have H2 := Lib.hid (h0.trans (hb2.mono h0.size))
 have HB2 := Lib.hid hB2
 clear hb2 hB2 h0
 go_wp2_with fail
 refine (clone_own keys A c _ hl (HR.out.on H2.out)).mono ?_
 rintro e w3 ⟨v, rfl, ho, hb3⟩
 obtain ⟨B, d, rfl, hdl, _⟩ := own_keys ho
 have HO := Lib.hid ho
 have Hb3 := Lib.hid hb3
 clear ho hb3
 go_wp2_with fail
 refine (sort_any keys _ w2.heap.size _ hl Hb3.out.size HO.out).mono ?_
 rintro e w4 ⟨rfl, ho4, hb4⟩
 have hb24 := Hb3.out.trans hb4
 have ho5 := ho4
 rw [← srt_len keys] at ho5
 obtain ⟨B1, d1, e1, _, hk4⟩ := own_keys ho5
 rw [srt_len] at e1
 injection e1 with e1 _ e2
 subst e1 e2
 have hcon := rising_yes (srt keys) B d w4 (by rw [srt_len]; exact hl) (srt_rising HN.out) (hk4.sreads.wide fun b hb => hb.2)
 rw [srt_len] at hcon
 have H4 := Lib.hid (H2.out.trans (hb24.mono H2.out.size))
 have HB4 := Lib.hid (HB2.out.onto hb24)
 have HC := Lib.hid hcon
 have HK4 := Lib.hid hk4
 clear ho4 ho5 hb4 hb24 hk4 hcon HO Hb3 H2 HB2
 go_wp2_with fail
 refine HC.out.mono ?_
 rintro e w5 ⟨rfl, hb5⟩
 have HB5 := Lib.hid (HB4.out.onto hb5)
 have H5 := Lib.hid (H4.out.trans (hb5.mono H4.out.size))
 have HK5 : OwnKeys w5 w2.heap.size w5.heap.size (srt keys) B := by
  intro hn
  obtain ⟨g, cs, e, h1, h2, hb, h3, h4⟩ := HK4.out hn
  exact ⟨g, cs, e, h1, Nat.lt_of_lt_of_le h2 hb5.size, hb.onto hb5, h3, h4⟩
 have hR5 : w.heap.size < w5.heap.size := HB5.out.lt
 clear hb5 HC HB4 H4 HK4
 go_wp2_with fail
 have hnl := HE.out
 have h6 := H5.out.alloc H5.out.size (.cells (madeCells #[.int .i64 0, .bool false, .int .i64 0, .string ⟨#[]⟩, .slice none 0 0, .slice none 0 0] (items.length * 6)) 32)
 have hB6 := HB5.out.alloc (.cells (madeCells #[.int .i64 0, .bool false, .int .i64 0, .string ⟨#[]⟩, .slice none 0 0, .slice none 0 0] (items.length * 6)) 32)
 have hP6 := Blk.new w5 32 (madeCells #[.int .i64 0, .bool false, .int .i64 0, .string ⟨#[]⟩, .slice none 0 0, .slice none 0 0] (items.length * 6))
 have hZ6 : (w5.alloc (.cells (madeCells #[.int .i64 0, .bool false, .int .i64 0, .string ⟨#[]⟩, .slice none 0 0, .slice none 0 0] (items.length * 6)) 32)).heap.size = w5.heap.size + 1 := by simp
 have hK6 : SReads (w5.alloc (.cells (madeCells #[.int .i64 0, .bool false, .int .i64 0, .string ⟨#[]⟩, .slice none 0 0, .slice none 0 0] (items.length * 6)) 32)) (fun b => w.heap.size < b ∧ b < w5.heap.size + 1 ∧ b ≠ w5.heap.size) B (srt keys) :=
  ((HK5.sreads).keep fun b hb => Below.heap_alloc _ _ _ hb.2).wide fun b hb => ⟨by omega, by omega, by omega⟩
 generalize (w5.alloc (.cells (madeCells #[.int .i64 0, .bool false, .int .i64 0, .string ⟨#[]⟩, .slice none 0 0, .slice none 0 0] (items.length * 6)) 32)) = w6 at *
 have HNL := Lib.hid hnl
 have H6 := Lib.hid h6
 have HB6 := Lib.hid hB6
 have HP6 := Lib.hid hP6
 have HK6 := Lib.hid hK6
 have HZ6 := Lib.hid hZ6
 clear hnl h6 hB6 hP6 hK6 hZ6 HK5 HB5 H5 hmk
 go_loopw [35] (fun i wr => ∃ k : Nat, k ≤ keys.length ∧ i = .int .i64 k ∧ Placed wr w.heap.size w5.heap.size keys items k ∧ Blk wr w.heap.size 32 zeros ∧ SReads wr (fun b => w.heap.size < b ∧ b < wr.heap.size ∧ b ≠ w5.heap.size) B (srt keys) ∧ Below w.heap.size w wr) (fun i _ => keys.length - (intOf i).toNat)
 case atStart =>
  refine ⟨0, Nat.zero_le _, rfl, ⟨_, HP6.out, by rw [size_madeCells, HNL.out], fun i p s x h => absurd h (by omega)⟩, HB6.out, ?_, H6.out⟩
  rw [HZ6.out]
  exact HK6.out
 case round =>
  obtain ⟨k, hk, rfl, hpl, hbx, hsk, hbel⟩ := hrel
  have HPL := Lib.hid hpl
  have HBX := Lib.hid hbx
  have HSK := Lib.hid hsk
  have Hbel := Lib.hid hbel
  clear hpl hbx hsk hbel
  by_cases hlt : k < keys.length
  ·
   have u1 : decide (k < keys.length) = true := decide_eq_true hlt
   obtain ⟨b, o, s, rfl, hb, hx, hc⟩ := HR.out.at_ hlt
   have e0 := ((Keeps.of_below Hbel.out).cell hb (o + k)).trans hc
   have Hx := Lib.hid hx
   have hms : s ∈ srt keys := (srt_perm keys).mem_iff.2 (List.mem_of_getElem? hx)
   obtain ⟨p, hp⟩ := List.mem_iff_getElem?.1 hms
   have hpl := lt_of_get hp
   have hpk : p < keys.length := by rw [srt_len] at hpl; exact hpl
   have hpi : p < items.length := by have := HNL.out; omega
   obtain ⟨gs, os, rfl, hgs, hcs⟩ := HSK.out (by intro h; rw [h] at hpl; simp at hpl)
   have hcon := fun W (hW : ∀ o, W.cell? ⟨gs, o, none⟩ = wr.cell? ⟨gs, o, none⟩) => search_any (srt keys) gs os d p s W (by rw [srt_len]; exact hl) (srt_rising HN.out) hp (fun i x hi => (hW _).trans (hcs i x hi))
   rw [srt_len] at hcon
   have HC := Lib.hid hcon
   have Hp := Lib.hid hp
   obtain ⟨bi, oi, x, D, dd, D', dd', rfl, hbi, hxi, h6i, hXi⟩ := HI.out.at_ (show k < items.length by have := HNL.out; omega)
   obtain ⟨y0, y1, y2, y3, y4, y5⟩ := h6i.keep hbi (.of_below Hbel.out)
   have hkl2 : k < items.length := lt_of_get hxi
   have hxs := T.mem_size (List.mem_of_getElem? hxi)
   have HXs := Lib.hid (HS.out x (List.mem_of_getElem? hxi))
   have HX := Lib.hid hXi
   have Hxi := Lib.hid hxi
   clear hc hx hms hp hpl hcs hcon hXi h6i hxi
   go_wp2_with fail
   refine (HC.out _ (fun _ => rfl)).mono ?_
   rintro e w7 ⟨rfl, q, rfl⟩
   clear HC
   go_wp2_with fail
   have hd7 : Below wr.heap.size wr (wr.drewN q) := below_drewN (Below.refl _ _) q
   refine (copy_any x D dd D' dd' _ (by omega) HXs.out (HX.out.on (Hbel.out.trans (hd7.mono Hbel.out.size)))).mono ?_
   rintro e w8 ⟨C, f, C', f', rfl, ho8, hb8⟩
   unfold T.agg
   have hb78 : Below wr.heap.size wr w8 := hd7.trans hb8
   have hP8 := HPL.out.onto hb78
   obtain ⟨cs, hbk, hzk⟩ := hP8.blk
   obtain ⟨v0, v1, v2, v3, v4, v5, f0, f1, f2, f3, f4, f5⟩ := hbk.six (o := p * 6) (by omega)
   have z0 := hbk.free (p * 6)
   have z1 := hbk.free (p * 6 + 1)
   have z2 := hbk.free (p * 6 + 2)
   have z3 := hbk.free (p * 6 + 3)
   have z4 := hbk.free (p * 6 + 4)
   have z5 := hbk.free (p * 6 + 5)
   have hg5 : w5.heap.size < wr.heap.size := by
    obtain ⟨_, hq, _⟩ := HPL.out.blk
    exact hq.lt
   have hR5' : w.heap.size < wr.heap.size := HBX.out.lt
   have ht8 : TV w8 (fun b => w.heap.size < b ∧ b < w8.heap.size ∧ b ≠ w5.heap.size) x C f C' f' := ho8.tv.wide fun b hb => by
    have h1 : wr.heap.size ≤ b := hb.1
    exact ⟨by omega, hb.2, by omega⟩
   have HST := Lib.hid (hP8.step HN.out Hx.out Hp.out Hxi.out ht8)
   have HB8 := Lib.hid (HBX.out.onto hb78)
   have HS8 := Lib.hid ((HSK.out.keep (w' := w8) (fun b hb => hb78.block b hb.2.1)).wide (S' := fun b => w.heap.size < b ∧ b < w8.heap.size ∧ b ≠ w5.heap.size) fun b hb => ⟨hb.1, Nat.lt_of_lt_of_le hb.2.1 hb78.size, hb.2.2⟩)
   have Hb8 := Lib.hid (Hbel.out.trans (hb78.mono Hbel.out.size))
   clear hd7 hb8 ho8 hb78 hP8 hbk hzk ht8
   go_wp2_with fail
   go_roundw
   case rel =>
    refine ⟨k + 1, hlt, by go_num, HST.out, ((((((HB8.out.far ?_ _).far ?_ _).far ?_ _).far ?_ _).far ?_ _).far ?_ _), (HS8.out.keep fun b hb => ?_).wide fun b hb => ⟨hb.1, by simpa [World.setCell] using hb.2.1, hb.2.2⟩, (((((Hb8.out.setCell ?_ _).setCell ?_ _).setCell ?_ _).setCell ?_ _).setCell ?_ _).setCell ?_ _⟩
    all_goals first
     | (show w.heap.size ≠ w5.heap.size; omega)
     | (show w.heap.size ≤ w5.heap.size; omega)
     | (rw [Below.heap_setCell _ _ _ _ hb.2.2, Below.heap_setCell _ _ _ _ hb.2.2, Below.heap_setCell _ _ _ _ hb.2.2, Below.heap_setCell _ _ _ _ hb.2.2, Below.heap_setCell _ _ _ _ hb.2.2, Below.heap_setCell _ _ _ _ hb.2.2])
   case measure => simp [intOf]; omega
  ·
   obtain rfl : keys.length = k := by omega
   have r0 : wr.cell? ⟨w.heap.size, 0, none⟩ = some (.int .i64 0) := HBX.out.cell 0
   have r1 : wr.cell? ⟨w.heap.size, 1, none⟩ = some (.bool false) := HBX.out.cell 1
   have r2 : wr.cell? ⟨w.heap.size, 2, none⟩ = some (.int .i64 0) := HBX.out.cell 2
   have r3 : wr.cell? ⟨w.heap.size, 3, none⟩ = some (.string ⟨#[]⟩) := HBX.out.cell 3
   have r4 : wr.cell? ⟨w.heap.size, 4, none⟩ = some (.slice none 0 0) := HBX.out.cell 4
   have r5 : wr.cell? ⟨w.heap.size, 5, none⟩ = some (.slice none 0 0) := HBX.out.cell 5
   have x0 := HBX.out.free 0
   have x1 := HBX.out.free 1
   have x2 := HBX.out.free 2
   have x3 := HBX.out.free 3
   have x4 := HBX.out.free 4
   have x5 := HBX.out.free 5
   have hg5 : w5.heap.size < wr.heap.size := by
    obtain ⟨_, hq, _⟩ := HPL.out.blk
    exact hq.lt
   go_wp2_with fail
   have hL1 : (objT keys items).items.length = items.length := (placed_len keys items).trans HNL.out
   have hL2 : (objT keys items).keys.length = keys.length := srt_len keys
   have hF := res_put HBX.out rfl (objT keys items) (some ⟨w5.heap.size, 0, none⟩) items.length B d
   rw [hL1, hL2] at hF
   have hK : Keeps (fun b => b ≠ w.heap.size) wr (((((((wr.setCell ⟨w.heap.size, 0, none⟩ (.int .i64 5)).setCell ⟨w.heap.size, 1, none⟩ (.bool false)).setCell ⟨w.heap.size, 2, none⟩ (.int .i64 0)).setCell ⟨w.heap.size, 3, none⟩ (.string ⟨#[]⟩)).setCell ⟨w.heap.size, 4, none⟩ (.slice (some ⟨w5.heap.size, 0, none⟩) items.length items.length)).setCell ⟨w.heap.size, 5, none⟩ (.slice B keys.length d))) := by
    intro b hb
    rw [Below.heap_setCell _ _ _ _ hb, Below.heap_setCell _ _ _ _ hb, Below.heap_setCell _ _ _ _ hb, Below.heap_setCell _ _ _ _ hb, Below.heap_setCell _ _ _ _ hb, Below.heap_setCell _ _ _ _ hb]
   have hZ : (((((((wr.setCell ⟨w.heap.size, 0, none⟩ (.int .i64 5)).setCell ⟨w.heap.size, 1, none⟩ (.bool false)).setCell ⟨w.heap.size, 2, none⟩ (.int .i64 0)).setCell ⟨w.heap.size, 3, none⟩ (.string ⟨#[]⟩)).setCell ⟨w.heap.size, 4, none⟩ (.slice (some ⟨w5.heap.size, 0, none⟩) items.length items.length)).setCell ⟨w.heap.size, 5, none⟩ (.slice B keys.length d))).heap.size = wr.heap.size := by simp [World.setCell]
   have hE : Below w.heap.size w (((((((wr.setCell ⟨w.heap.size, 0, none⟩ (.int .i64 5)).setCell ⟨w.heap.size, 1, none⟩ (.bool false)).setCell ⟨w.heap.size, 2, none⟩ (.int .i64 0)).setCell ⟨w.heap.size, 3, none⟩ (.string ⟨#[]⟩)).setCell ⟨w.heap.size, 4, none⟩ (.slice (some ⟨w5.heap.size, 0, none⟩) items.length items.length)).setCell ⟨w.heap.size, 5, none⟩ (.slice B keys.length d))) := (((((Hbel.out.setCell (Nat.le_refl _) _).setCell (Nat.le_refl _) _).setCell (Nat.le_refl _) _).setCell (Nat.le_refl _) _).setCell (Nat.le_refl _) _).setCell (Nat.le_refl _) _
   change Blk (((((((wr.setCell ⟨w.heap.size, 0, none⟩ (.int .i64 5)).setCell ⟨w.heap.size, 1, none⟩ (.bool false)).setCell ⟨w.heap.size, 2, none⟩ (.int .i64 0)).setCell ⟨w.heap.size, 3, none⟩ (.string ⟨#[]⟩)).setCell ⟨w.heap.size, 4, none⟩ (.slice (some ⟨w5.heap.size, 0, none⟩) items.length items.length)).setCell ⟨w.heap.size, 5, none⟩ (.slice B keys.length d))) _ _ _ at hF
   generalize (((((((wr.setCell ⟨w.heap.size, 0, none⟩ (.int .i64 5)).setCell ⟨w.heap.size, 1, none⟩ (.bool false)).setCell ⟨w.heap.size, 2, none⟩ (.int .i64 0)).setCell ⟨w.heap.size, 3, none⟩ (.string ⟨#[]⟩)).setCell ⟨w.heap.size, 4, none⟩ (.slice (some ⟨w5.heap.size, 0, none⟩) items.length items.length)).setCell ⟨w.heap.size, 5, none⟩ (.slice B keys.length d))) = W at *
   have m0 : W.cell? ⟨w.heap.size, 0, none⟩ = some (.int .i64 5) := hF.cell 0
   have m1 : W.cell? ⟨w.heap.size, 1, none⟩ = some (.bool false) := hF.cell 1
   have m2 : W.cell? ⟨w.heap.size, 2, none⟩ = some (.int .i64 0) := hF.cell 2
   have m3 : W.cell? ⟨w.heap.size, 3, none⟩ = some (.string ⟨#[]⟩) := hF.cell 3
   have m4 : W.cell? ⟨w.heap.size, 4, none⟩ = some (.slice (some ⟨w5.heap.size, 0, none⟩) items.length items.length) := by
    have := hF.cell 4
    simp only [T.cs, hL1] at this
    exact this
   have m5 : W.cell? ⟨w.heap.size, 5, none⟩ = some (.slice B keys.length d) := by
    have := hF.cell 5
    simp only [T.cs, hL2] at this
    exact this
   refine bodyPost_ret (v := .tuple #[.agg #[.int .i64 5, .bool false, .int .i64 0, .string ⟨#[]⟩, .slice (some ⟨w5.heap.size, 0, none⟩) items.length items.length, .slice B keys.length d], .int .i64 0]) (by simp [results, Tryz.results18, go_sem, m0, m1, m2, m3, m4, m5]) rfl ⟨⟨some ⟨w5.heap.size, 0, none⟩, items.length, B, d, ?_, ?_⟩, hE⟩
   ·
    unfold T.agg
    rw [hL1, hL2]
    rfl
   ·
    have hrow := HPL.out.row HN.out HNL.out
    refine TV.of (by rw [hL1]; exact Nat.le_refl _) (by rw [hL2]; exact hdl) (fun _ => ⟨w5.heap.size, 0, rfl, by show _ < _; omega, fun i x hx => ?_⟩) ((HSK.out.keep (hK.mono fun b hb => by omega)).wide fun b hb => by show _ < _; omega)
    obtain ⟨C, e, C', e', k6, kt⟩ := hrow i x hx
    exact ⟨C, e, C', e', by rw [Nat.zero_add]; exact k6.on_blk (hK _ (by omega)), (kt.keep (hK.mono fun b hb => by omega)).wide fun b hb => by show _ < _; omega⟩
end Go.Proofs.YtaeimlfehlbiiaaGreatDoor
