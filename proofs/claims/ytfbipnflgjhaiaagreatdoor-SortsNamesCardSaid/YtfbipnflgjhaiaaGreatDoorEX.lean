/- Values in memory: words for the contracts. Trees in memory: words for the contracts. -/
import Derived.Test.YtfbipnflgjhaiaaGreatDoorMB
import Derived.WalkKit
import Derived.WalkSpells
import Derived.Deep.QuietTactic
import Derived.BigQuiet
import Derived.Below
import Derived.OwnWalk
import Derived.Laws.AppendOwn
import Derived.Laws.MakeOwn
import Derived.OneCell
import Derived.LoopTactic
import Derived.Deep.RegionHeld3
import Derived.RegionTactic
import Derived.Lib.Hide
import Derived.Test.YtfbipnflgjhaiaaGreatDoorEA
set_option linter.unusedVariables false
set_option maxRecDepth 100000
set_option maxHeartbeats 8000000
open Go.Lib (hid)
namespace Go.Proofs.YtfbipnflgjhaiaaGreatDoor
open Go.RowKit
def SReads (w : World) (S : Nat → Prop) (A : Option Addr) (l : List ByteArray) : Prop :=
 l ≠ [] → ∃ b o, A = some ⟨b, o, none⟩ ∧ S b ∧ ∀ i s, l[i]? = some s → w.cell? ⟨b, o + i, none⟩ = some (.string s)
theorem SReads.keep {w w' : World} {S : Nat → Prop} {A : Option Addr} {l : List ByteArray} (h : SReads w S A l) (hk : Keeps S w w') : SReads w' S A l := by
 intro hn
 obtain ⟨b, o, e, hs, hc⟩ := h hn
 exact ⟨b, o, e, hs, fun i s hi => (hk.cell hs _).trans (hc i s hi)⟩
theorem SReads.wide {w : World} {S S' : Nat → Prop} {A : Option Addr} {l : List ByteArray} (h : SReads w S A l) (hs : ∀ b, S b → S' b) : SReads w S' A l := by
 intro hn
 obtain ⟨b, o, e, h1, hc⟩ := h hn
 exact ⟨b, o, e, hs b h1, hc⟩
theorem SReads.none_ (w : World) (S : Nat → Prop) (A : Option Addr) : SReads w S A [] := fun h => absurd rfl h
def T.agg (t : T) (A : Option Addr) (c : Nat) (A' : Option Addr) (c' : Nat) : Value :=
 .agg #[.int .i64 t.kind, .bool t.tr, .int .i64 t.num, .string t.str, .slice A t.items.length c, .slice A' t.keys.length c']
def Six (w : World) (b o : Nat) (t : T) (A : Option Addr) (c : Nat) (A' : Option Addr) (c' : Nat) : Prop :=
 w.cell? ⟨b, o, none⟩ = some (.int .i64 t.kind) ∧ w.cell? ⟨b, o + 1, none⟩ = some (.bool t.tr) ∧ w.cell? ⟨b, o + 2, none⟩ = some (.int .i64 t.num) ∧
 w.cell? ⟨b, o + 3, none⟩ = some (.string t.str) ∧ w.cell? ⟨b, o + 4, none⟩ = some (.slice A t.items.length c) ∧ w.cell? ⟨b, o + 5, none⟩ = some (.slice A' t.keys.length c')
inductive TV (w : World) (S : Nat → Prop) : T → Option Addr → Nat → Option Addr → Nat → Prop
 | mk (t : T) (A : Option Addr) (c : Nat) (A' : Option Addr) (c' : Nat) (hA : Nat → Option Addr) (hc : Nat → Nat) (hA' : Nat → Option Addr) (hc' : Nat → Nat)
  (h1 : t.items.length ≤ c) (h2 : t.keys.length ≤ c')
  (hrow : t.items ≠ [] → ∃ b o, A = some ⟨b, o, none⟩ ∧ S b ∧ ∀ i x, t.items[i]? = some x → Six w b (o + i * 6) x (hA i) (hc i) (hA' i) (hc' i))
  (hkey : SReads w S A' t.keys)
  (hin : ∀ i x, t.items[i]? = some x → TV w S x (hA i) (hc i) (hA' i) (hc' i)) : TV w S t A c A' c'
theorem TV.keys {w : World} {S : Nat → Prop} {t : T} {A : Option Addr} {c : Nat} {A' : Option Addr} {c' : Nat} (h : TV w S t A c A' c') : SReads w S A' t.keys := by
 cases h with | mk _ _ _ _ _ _ _ _ _ _ _ _ hk => exact hk
theorem TV.row {w : World} {S : Nat → Prop} {t : T} {A : Option Addr} {c : Nat} {A' : Option Addr} {c' : Nat} (h : TV w S t A c A' c') (hn : t.items ≠ []) :
 ∃ b o, A = some ⟨b, o, none⟩ ∧ S b ∧ ∀ i x, t.items[i]? = some x → ∃ B d B' d', Six w b (o + i * 6) x B d B' d' ∧ TV w S x B d B' d' := by
 cases h with
 | mk _ _ _ _ _ hA hc hA' hc' _ _ hrow _ hin =>
  obtain ⟨b, o, e, hs, h6⟩ := hrow hn
  exact ⟨b, o, e, hs, fun i x hx => ⟨_, _, _, _, h6 i x hx, hin i x hx⟩⟩
theorem TV.at_ {w : World} {S : Nat → Prop} {t : T} {A : Option Addr} {c : Nat} {A' : Option Addr} {c' : Nat} (h : TV w S t A c A' c') {k : Nat} (hk : k < t.items.length) :
 ∃ b o x B d B' d', A = some ⟨b, o, none⟩ ∧ S b ∧ t.items[k]? = some x ∧ Six w b (o + k * 6) x B d B' d' ∧ TV w S x B d B' d' := by
 obtain ⟨b, o, e, hs, hi⟩ := h.row (by intro hn; rw [hn] at hk; simp at hk)
 obtain ⟨B, d, B', d', h6, ht⟩ := hi k _ (List.getElem?_eq_getElem hk)
 exact ⟨b, o, _, B, d, B', d', e, hs, List.getElem?_eq_getElem hk, h6, ht⟩
theorem TV.of {w : World} {S : Nat → Prop} {t : T} {A : Option Addr} {c : Nat} {A' : Option Addr} {c' : Nat} (h1 : t.items.length ≤ c) (h2 : t.keys.length ≤ c')
 (hrow : t.items ≠ [] → ∃ b o, A = some ⟨b, o, none⟩ ∧ S b ∧ ∀ i x, t.items[i]? = some x → ∃ B d B' d', Six w b (o + i * 6) x B d B' d' ∧ TV w S x B d B' d')
 (hkey : SReads w S A' t.keys) : TV w S t A c A' c' := by
 by_cases hn : t.items = []
 · exact .mk t A c A' c' (fun _ => none) (fun _ => 0) (fun _ => none) (fun _ => 0) h1 h2 (fun h => absurd hn h) hkey (fun i x hx => by rw [hn] at hx; simp at hx)
 ·
  obtain ⟨b, o, e, hs, hi⟩ := hrow hn
  have : ∀ i, ∃ q : Option Addr × Nat × Option Addr × Nat, ∀ x, t.items[i]? = some x → Six w b (o + i * 6) x q.1 q.2.1 q.2.2.1 q.2.2.2 ∧ TV w S x q.1 q.2.1 q.2.2.1 q.2.2.2 := by
   intro i
   cases hx : t.items[i]? with
   | none => exact ⟨(none, 0, none, 0), fun x h => by cases h⟩
   | some x =>
    obtain ⟨B, d, B', d', h6⟩ := hi i x hx
    exact ⟨(B, d, B', d'), fun y h => by injection h with h; subst h; exact h6⟩
  obtain ⟨q, hq⟩ := Classical.axiomOfChoice this
  exact .mk t A c A' c' (fun i => (q i).1) (fun i => (q i).2.1) (fun i => (q i).2.2.1) (fun i => (q i).2.2.2) h1 h2
   (fun _ => ⟨b, o, e, hs, fun i x hx => (hq i x hx).1⟩) hkey (fun i x hx => (hq i x hx).2)
theorem Six.keep {w w' : World} {S : Nat → Prop} {b o : Nat} {t : T} {A : Option Addr} {c : Nat} {A' : Option Addr} {c' : Nat} (h : Six w b o t A c A' c') (hs : S b) (hk : Keeps S w w') : Six w' b o t A c A' c' := by
 obtain ⟨a0, a1, a2, a3, a4, a5⟩ := h
 exact ⟨(hk.cell hs _).trans a0, (hk.cell hs _).trans a1, (hk.cell hs _).trans a2, (hk.cell hs _).trans a3, (hk.cell hs _).trans a4, (hk.cell hs _).trans a5⟩
theorem TV.keep {w w' : World} {S : Nat → Prop} {t : T} {A : Option Addr} {c : Nat} {A' : Option Addr} {c' : Nat} (h : TV w S t A c A' c') (hk : Keeps S w w') : TV w' S t A c A' c' := by
 induction h with
 | mk t A c A' c' hA hc hA' hc' h1 h2 hrow hkey hin ih =>
  refine .mk t A c A' c' hA hc hA' hc' h1 h2 (fun hn => ?_) (hkey.keep hk) ih
  obtain ⟨b, o, e, hs, h6⟩ := hrow hn
  exact ⟨b, o, e, hs, fun i x hx => (h6 i x hx).keep hs hk⟩
theorem TV.wide {w : World} {S S' : Nat → Prop} {t : T} {A : Option Addr} {c : Nat} {A' : Option Addr} {c' : Nat} (h : TV w S t A c A' c') (hs : ∀ b, S b → S' b) : TV w S' t A c A' c' := by
 induction h with
 | mk t A c A' c' hA hc hA' hc' h1 h2 hrow hkey hin ih =>
  refine .mk t A c A' c' hA hc hA' hc' h1 h2 (fun hn => ?_) (hkey.wide hs) ih
  obtain ⟨b, o, e, h0, h6⟩ := hrow hn
  exact ⟨b, o, e, hs b h0, h6⟩
theorem TV.under {B : Nat} {w w' : World} {t : T} {A : Option Addr} {c : Nat} {A' : Option Addr} {c' : Nat} (h : TV w (· < B) t A c A' c') (hb : Below B w w') : TV w' (· < B) t A c A' c' := h.keep (.of_below hb)
theorem TV.on {w w' : World} {t : T} {A : Option Addr} {c : Nat} {A' : Option Addr} {c' : Nat} (h : TV w (· < w.heap.size) t A c A' c') (hb : Below w.heap.size w w') : TV w' (· < w'.heap.size) t A c A' c' :=
 (h.under hb).wide fun _ hx => Nat.lt_of_lt_of_le hx hb.size
theorem SReads.below {B : Nat} {w w' : World} {A : Option Addr} {l : List ByteArray} (h : SReads w (· < B) A l) (hb : Below B w w') : SReads w' (· < B) A l := h.keep (.of_below hb)
theorem SReads.on {w w' : World} {A : Option Addr} {l : List ByteArray} (h : SReads w (· < w.heap.size) A l) (hb : Below w.heap.size w w') : SReads w' (· < w'.heap.size) A l :=
 (h.below hb).wide fun _ hx => Nat.lt_of_lt_of_le hx hb.size
def T.cs (t : T) (A : Option Addr) (c : Nat) (A' : Option Addr) (c' : Nat) : Array Value :=
 #[.int .i64 t.kind, .bool t.tr, .int .i64 t.num, .string t.str, .slice A t.items.length c, .slice A' t.keys.length c']
open Go.RowKit
open Ex
structure Hd where
 L : Option Addr
 l : Nat
 L' : Option Addr
 l' : Nat
 A : Option Addr
 c : Nat
def hd0 : Hd := ⟨none, 0, none, 0, none, 0⟩
def ecs (e : E) (h : Hd) : Array Value :=
 #[.string e.op, .string e.name, .int .i64 e.lit.kind, .bool e.lit.tr, .int .i64 e.lit.num, .string e.lit.str, .slice h.L e.lit.items.length h.l, .slice h.L' e.lit.keys.length h.l', .slice h.A e.args.length h.c]
def Nine (w : World) (b o : Nat) (e : E) (h : Hd) : Prop :=
 w.cell? ⟨b, o, none⟩ = some (.string e.op) ∧ w.cell? ⟨b, o + 1, none⟩ = some (.string e.name) ∧ Six w b (o + 2) e.lit h.L h.l h.L' h.l' ∧ w.cell? ⟨b, o + 8, none⟩ = some (.slice h.A e.args.length h.c)
theorem Nine.keep {w w' : World} {S : Nat → Prop} {b o : Nat} {e : E} {h : Hd} (k : Nine w b o e h) (hs : S b) (hk : Keeps S w w') : Nine w' b o e h := by
 obtain ⟨a0, a1, a2, a3⟩ := k
 exact ⟨(hk.cell hs _).trans a0, (hk.cell hs _).trans a1, a2.keep hs hk, (hk.cell hs _).trans a3⟩
inductive EV (w : World) (S : Nat → Prop) : E → Hd → Prop
 | mk (e : E) (h : Hd) (k : Nat → Hd) (hlit : TV w S e.lit h.L h.l h.L' h.l') (h1 : e.args.length ≤ h.c)
  (hrow : e.args ≠ [] → ∃ b o, h.A = some ⟨b, o, none⟩ ∧ S b ∧ ∀ i x, e.args[i]? = some x → Nine w b (o + i * 9) x (k i))
  (hin : ∀ i x, e.args[i]? = some x → EV w S x (k i)) : EV w S e h
theorem EV.lit {w : World} {S : Nat → Prop} {e : E} {h : Hd} (k : EV w S e h) : TV w S e.lit h.L h.l h.L' h.l' := by
 cases k with | mk _ _ _ hl => exact hl
theorem EV.len {w : World} {S : Nat → Prop} {e : E} {h : Hd} (k : EV w S e h) : e.args.length ≤ h.c := by
 cases k with | mk _ _ _ _ h1 => exact h1
theorem EV.row {w : World} {S : Nat → Prop} {e : E} {h : Hd} (k : EV w S e h) (hn : e.args ≠ []) :
 ∃ b o, h.A = some ⟨b, o, none⟩ ∧ S b ∧ ∀ i x, e.args[i]? = some x → ∃ q, Nine w b (o + i * 9) x q ∧ EV w S x q := by
 cases k with
 | mk _ _ k _ _ hrow hin =>
  obtain ⟨b, o, e1, hs, h9⟩ := hrow hn
  exact ⟨b, o, e1, hs, fun i x hx => ⟨_, h9 i x hx, hin i x hx⟩⟩
theorem EV.at_ {w : World} {S : Nat → Prop} {e : E} {h : Hd} (k : EV w S e h) {i : Nat} (hk : i < e.args.length) :
 ∃ b o x q, h.A = some ⟨b, o, none⟩ ∧ S b ∧ e.args[i]? = some x ∧ Nine w b (o + i * 9) x q ∧ EV w S x q := by
 obtain ⟨b, o, e1, hs, hi⟩ := k.row (by intro hn; rw [hn] at hk; simp at hk)
 obtain ⟨q, h9, ht⟩ := hi i _ (List.getElem?_eq_getElem hk)
 exact ⟨b, o, _, q, e1, hs, List.getElem?_eq_getElem hk, h9, ht⟩
theorem EV.of {w : World} {S : Nat → Prop} {e : E} {h : Hd} (hlit : TV w S e.lit h.L h.l h.L' h.l') (h1 : e.args.length ≤ h.c)
 (hrow : e.args ≠ [] → ∃ b o, h.A = some ⟨b, o, none⟩ ∧ S b ∧ ∀ i x, e.args[i]? = some x → ∃ q, Nine w b (o + i * 9) x q ∧ EV w S x q) : EV w S e h := by
 by_cases hn : e.args = []
 · exact .mk e h (fun _ => hd0) hlit h1 (fun h => absurd hn h) (fun i x hx => by rw [hn] at hx; simp at hx)
 ·
  obtain ⟨b, o, e1, hs, hi⟩ := hrow hn
  have : ∀ i, ∃ q : Hd, ∀ x, e.args[i]? = some x → Nine w b (o + i * 9) x q ∧ EV w S x q := by
   intro i
   cases hx : e.args[i]? with
   | none => exact ⟨hd0, fun x h => by cases h⟩
   | some x =>
    obtain ⟨q, h6⟩ := hi i x hx
    exact ⟨q, fun y h => by injection h with h; subst h; exact h6⟩
  obtain ⟨q, hq⟩ := Classical.axiomOfChoice this
  exact .mk e h q hlit h1 (fun _ => ⟨b, o, e1, hs, fun i x hx => (hq i x hx).1⟩) (fun i x hx => (hq i x hx).2)
theorem EV.keep {w w' : World} {S : Nat → Prop} {e : E} {h : Hd} (k : EV w S e h) (hk : Keeps S w w') : EV w' S e h := by
 induction k with
 | mk e h k hlit h1 hrow hin ih =>
  refine .mk e h k (hlit.keep hk) h1 (fun hn => ?_) ih
  obtain ⟨b, o, e1, hs, h9⟩ := hrow hn
  exact ⟨b, o, e1, hs, fun i x hx => (h9 i x hx).keep hs hk⟩
theorem EV.wide {w : World} {S S' : Nat → Prop} {e : E} {h : Hd} (k : EV w S e h) (hs : ∀ b, S b → S' b) : EV w S' e h := by
 induction k with
 | mk e h k hlit h1 hrow hin ih =>
  refine .mk e h k (hlit.wide hs) h1 (fun hn => ?_) ih
  obtain ⟨b, o, e1, h0, h9⟩ := hrow hn
  exact ⟨b, o, e1, hs b h0, h9⟩
theorem EV.under {B : Nat} {w w' : World} {e : E} {h : Hd} (k : EV w (· < B) e h) (hb : Below B w w') : EV w' (· < B) e h := k.keep (.of_below hb)
theorem EV.on {w w' : World} {e : E} {h : Hd} (k : EV w (· < w.heap.size) e h) (hb : Below w.heap.size w w') : EV w' (· < w'.heap.size) e h :=
 (k.under hb).wide fun _ hx => Nat.lt_of_lt_of_le hx hb.size
theorem EV.leaf {w : World} {S : Nat → Prop} {o n : ByteArray} {v : T} (h1 : v.items = []) (h2 : v.keys = []) : EV w S (.mk o n v []) hd0 :=
 EV.of (TV.of (by rw [show (E.mk o n v []).lit = v from rfl, h1]; exact Nat.zero_le _) (by rw [show (E.mk o n v []).lit = v from rfl, h2]; exact Nat.zero_le _) (fun h => absurd h1 h) (by rw [show (E.mk o n v []).lit = v from rfl, h2]; exact SReads.none_ _ _ _)) (Nat.zero_le _) (fun h => absurd rfl h)
end Go.Proofs.YtfbipnflgjhaiaaGreatDoor
