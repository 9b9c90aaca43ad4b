/- (*strings.Builder).WriteString: laid by hand at this seat (a callee of it has no body in the dump). Values in memory: words for the contracts. A row of the call's own stays one. A builder within a struct: contracts. A builder within a struct: a text written, and read at last: contracts. A text in quotation marks, a value's text: plain mathematics. A byte of a text in quotation marks: contract. A text in quotation marks: contracts. -/
import Derived.Shelf.Strings.BuilderK
import Derived.Test.YtfiahpeajccinaaGreatDoorShelf3
import Derived.Test.YtfiahpeajccinaaGreatDoorPA
import Derived.Test.YtfiahpeajccinaaGreatDoorPB
import Derived.WalkKit
import Derived.WalkSpells
import Derived.Deep.QuietTactic
import Derived.BigQuiet
import Derived.Below
import Derived.OwnWalk
import Derived.Laws.AppendOwn
import Derived.Laws.MakeOwn
import Derived.OneCell
import Derived.LoopTactic
import Derived.Deep.RegionHeld3
import Derived.RegionTactic
import Derived.Lib.Hide
import Derived.Test.YtfiahpeajccinaaGreatDoorPE
import Derived.Lib.OthersKept
import Derived.Lib.AppendStr
import Derived.Shelf.Strings.Builder1
import Derived.Outline
import Derived.Lib.UnsafeStr
import Derived.Lib.ItoaNum
import Derived.Lib.Bytealg
import Derived.Test.YtfiahpeajccinaaGreatDoorShelfP
import Derived.Deep.DeepCutAuto
namespace Go.Proofs
open Go.Shelf
def Tryz.lays166_ren : Go.Shelf.Ren := ⟨fun | 166 => 28 | 240 => 68 | 276 => 114 | n => n, fun | 0 => 0 | 3 => 3 | 4 => 4 | 5 => 5 | 9 => 9 | 20 => 20 | 37 => 72 | 70 => 71 | 72 => 74 | 75 => 76 | 80 => 81 | 164 => 156 | n => n, fun  | n => n⟩
theorem Tryz.lays166 : Go.Proofs.Lays.n166 Tryz.prog Tryz.lays166_ren := {
  mixed := by kernel_rfl
  f166 := Tryz.func28.trans (congrArg some (by kernel_rfl))
  f240 := Tryz.func68.trans (congrArg some (by kernel_rfl))
  f276 := Tryz.func114.trans (congrArg some (by kernel_rfl))
  t0 := Tryz.underlying0
  a0 := Tryz.isAgg0
  z0 := Tryz.sizeOf0
  v0 := Tryz.zeroValue0
  t3 := Tryz.underlying3
  a3 := Tryz.isAgg3
  z3 := Tryz.sizeOf3
  v3 := Tryz.zeroValue3
  t4 := Tryz.underlying4
  a4 := Tryz.isAgg4
  z4 := Tryz.sizeOf4
  v4 := Tryz.zeroValue4
  t9 := Tryz.underlying9
  a9 := Tryz.isAgg9
  z9 := Tryz.sizeOf9
  v9 := Tryz.zeroValue9
  t20 := Tryz.underlying20
  a20 := Tryz.isAgg20
  z20 := Tryz.sizeOf20
  v20 := Tryz.zeroValue20
  t37 := Tryz.underlying72
  a37 := Tryz.isAgg72
  z37 := Tryz.sizeOf72
  v37 := Tryz.zeroValue72
  t70 := Tryz.underlying71
  a70 := Tryz.isAgg71
  z70 := Tryz.sizeOf71
  v70 := Tryz.zeroValue71
  t72 := Tryz.underlying74
  a72 := Tryz.isAgg74
  z72 := Tryz.sizeOf74
  v72 := Tryz.zeroValue74
  t75 := Tryz.underlying76
  a75 := Tryz.isAgg76
  z75 := Tryz.sizeOf76
  v75 := Tryz.zeroValue76
  t164 := Tryz.underlying156
  a164 := Tryz.isAgg156
  z164 := Tryz.sizeOf156
  v164 := Tryz.zeroValue156 }
theorem Tryz.Builder_Extra_166 : Builder.Extra Tryz.prog Tryz.lays166_ren := {
  sizeBuilder := by kernel_rfl
  liesBuilder := by kernel_rfl
  t5 := Tryz.underlying5
  a5 := Tryz.isAgg5
  z5 := Tryz.sizeOf5
  v5 := Tryz.zeroValue5
  infoByte := by kernel_rfl
  cellsByte := by kernel_rfl
  sizeByte := by kernel_rfl
  neB5 := by decide }
open Go.RowKit in
theorem Tryz.Builder_WriteString_k (B b : Nat) (bs : List Value) (s : ByteArray) (w : World) (h : Lib.IsBuilderF 74 5 B b bs w) (hlen : bs.length + s.size ≤ 140737488355328) (hBw : B ≤ w.heap.size) :
    Calls Tryz.prog 28 #[.pointer (some ⟨b, 0, none⟩), .string s] w fun e w' => e = .returned (.tuple #[.int .i64 s.size, .nilIface]) ∧ (Lib.BuilderAtF 74 5 B b (.pointer (some ⟨b, 0, none⟩)) (bs ++ Lib.strCells s) w' ∧ Below B w w' ∧ Lib.OthersKept 5 (some b) w w') := Any.Builder_WriteString_k Tryz.lays166 Tryz.Builder_Extra_166 B b bs s w h hlen hBw
end Go.Proofs
namespace Go.Proofs.YtfiahpeajccinaaGreatDoor
open Go.RowKit

/-- a slice value whose elements are the texts l, in blocks of S -/
def SReads (w : World) (S : Nat → Prop) (A : Option Addr) (l : List ByteArray) : Prop :=
  l ≠ [] → ∃ b o, A = some ⟨b, o, none⟩ ∧ S b ∧ ∀ i s, l[i]? = some s → w.cell? ⟨b, o + i, none⟩ = some (.string s)
theorem SReads.keep {w w' : World} {S : Nat → Prop} {A : Option Addr} {l : List ByteArray} (h : SReads w S A l) (hk : Keeps S w w') : SReads w' S A l := by
  intro hn
  obtain ⟨b, o, e, hs, hc⟩ := h hn
  exact ⟨b, o, e, hs, fun i s hi => (hk.cell hs _).trans (hc i s hi)⟩
theorem SReads.wide {w : World} {S S' : Nat → Prop} {A : Option Addr} {l : List ByteArray} (h : SReads w S A l) (hs : ∀ b, S b → S' b) : SReads w S' A l := by
  intro hn
  obtain ⟨b, o, e, h1, hc⟩ := h hn
  exact ⟨b, o, e, hs b h1, hc⟩
theorem SReads.none_ (w : World) (S : Nat → Prop) (A : Option Addr) : SReads w S A [] := fun h => absurd rfl h

/-- a value's six cells, its slices' heads given -/
def T.agg (t : T) (A : Option Addr) (c : Nat) (A' : Option Addr) (c' : Nat) : Value :=
  .agg #[.int .i64 t.kind, .bool t.tr, .int .i64 t.num, .string t.str, .slice A t.items.length c, .slice A' t.keys.length c']
/-- six cells of memory are those of t -/
def Six (w : World) (b o : Nat) (t : T) (A : Option Addr) (c : Nat) (A' : Option Addr) (c' : Nat) : Prop :=
  w.cell? ⟨b, o, none⟩ = some (.int .i64 t.kind) ∧ w.cell? ⟨b, o + 1, none⟩ = some (.bool t.tr) ∧ w.cell? ⟨b, o + 2, none⟩ = some (.int .i64 t.num) ∧
  w.cell? ⟨b, o + 3, none⟩ = some (.string t.str) ∧ w.cell? ⟨b, o + 4, none⟩ = some (.slice A t.items.length c) ∧ w.cell? ⟨b, o + 5, none⟩ = some (.slice A' t.keys.length c')
/-- the slices' heads A, A' lead to the items and the keys of t, in blocks of S -/
inductive TV (w : World) (S : Nat → Prop) : T → Option Addr → Nat → Option Addr → Nat → Prop
  | mk (t : T) (A : Option Addr) (c : Nat) (A' : Option Addr) (c' : Nat) (hA : Nat → Option Addr) (hc : Nat → Nat) (hA' : Nat → Option Addr) (hc' : Nat → Nat)
      (h1 : t.items.length ≤ c) (h2 : t.keys.length ≤ c')
      (hrow : t.items ≠ [] → ∃ b o, A = some ⟨b, o, none⟩ ∧ S b ∧ ∀ i x, t.items[i]? = some x → Six w b (o + i * 6) x (hA i) (hc i) (hA' i) (hc' i))
      (hkey : SReads w S A' t.keys)
      (hin : ∀ i x, t.items[i]? = some x → TV w S x (hA i) (hc i) (hA' i) (hc' i)) : TV w S t A c A' c'
theorem TV.lens {w : World} {S : Nat → Prop} {t : T} {A : Option Addr} {c : Nat} {A' : Option Addr} {c' : Nat} (h : TV w S t A c A' c') : t.items.length ≤ c ∧ t.keys.length ≤ c' := by
  cases h with | mk _ _ _ _ _ _ _ _ _ h1 h2 => exact ⟨h1, h2⟩
theorem TV.keys {w : World} {S : Nat → Prop} {t : T} {A : Option Addr} {c : Nat} {A' : Option Addr} {c' : Nat} (h : TV w S t A c A' c') : SReads w S A' t.keys := by
  cases h with | mk _ _ _ _ _ _ _ _ _ _ _ _ hk => exact hk
theorem TV.row {w : World} {S : Nat → Prop} {t : T} {A : Option Addr} {c : Nat} {A' : Option Addr} {c' : Nat} (h : TV w S t A c A' c') (hn : t.items ≠ []) :
    ∃ b o, A = some ⟨b, o, none⟩ ∧ S b ∧ ∀ i x, t.items[i]? = some x → ∃ B d B' d', Six w b (o + i * 6) x B d B' d' ∧ TV w S x B d B' d' := by
  cases h with
  | mk _ _ _ _ _ hA hc hA' hc' _ _ hrow _ hin =>
    obtain ⟨b, o, e, hs, h6⟩ := hrow hn
    exact ⟨b, o, e, hs, fun i x hx => ⟨_, _, _, _, h6 i x hx, hin i x hx⟩⟩
theorem TV.at_ {w : World} {S : Nat → Prop} {t : T} {A : Option Addr} {c : Nat} {A' : Option Addr} {c' : Nat} (h : TV w S t A c A' c') {k : Nat} (hk : k < t.items.length) :
    ∃ b o x B d B' d', A = some ⟨b, o, none⟩ ∧ S b ∧ t.items[k]? = some x ∧ Six w b (o + k * 6) x B d B' d' ∧ TV w S x B d B' d' := by
  obtain ⟨b, o, e, hs, hi⟩ := h.row (by intro hn; rw [hn] at hk; simp at hk)
  obtain ⟨B, d, B', d', h6, ht⟩ := hi k _ (List.getElem?_eq_getElem hk)
  exact ⟨b, o, _, B, d, B', d', e, hs, List.getElem?_eq_getElem hk, h6, ht⟩
/-- a value out of its parts -/
theorem TV.of {w : World} {S : Nat → Prop} {t : T} {A : Option Addr} {c : Nat} {A' : Option Addr} {c' : Nat} (h1 : t.items.length ≤ c) (h2 : t.keys.length ≤ c')
    (hrow : t.items ≠ [] → ∃ b o, A = some ⟨b, o, none⟩ ∧ S b ∧ ∀ i x, t.items[i]? = some x → ∃ B d B' d', Six w b (o + i * 6) x B d B' d' ∧ TV w S x B d B' d')
    (hkey : SReads w S A' t.keys) : TV w S t A c A' c' := by
  by_cases hn : t.items = []
  · exact .mk t A c A' c' (fun _ => none) (fun _ => 0) (fun _ => none) (fun _ => 0) h1 h2 (fun h => absurd hn h) hkey (fun i x hx => by rw [hn] at hx; simp at hx)
  · obtain ⟨b, o, e, hs, hi⟩ := hrow hn
    have : ∀ i, ∃ q : Option Addr × Nat × Option Addr × Nat, ∀ x, t.items[i]? = some x → Six w b (o + i * 6) x q.1 q.2.1 q.2.2.1 q.2.2.2 ∧ TV w S x q.1 q.2.1 q.2.2.1 q.2.2.2 := by
      intro i
      cases hx : t.items[i]? with
      | none => exact ⟨(none, 0, none, 0), fun x h => by cases h⟩
      | some x =>
        obtain ⟨B, d, B', d', h6⟩ := hi i x hx
        exact ⟨(B, d, B', d'), fun y h => by injection h with h; subst h; exact h6⟩
    obtain ⟨q, hq⟩ := Classical.axiomOfChoice this
    exact .mk t A c A' c' (fun i => (q i).1) (fun i => (q i).2.1) (fun i => (q i).2.2.1) (fun i => (q i).2.2.2) h1 h2
      (fun _ => ⟨b, o, e, hs, fun i x hx => (hq i x hx).1⟩) hkey (fun i x hx => (hq i x hx).2)
theorem Six.keep {w w' : World} {S : Nat → Prop} {b o : Nat} {t : T} {A : Option Addr} {c : Nat} {A' : Option Addr} {c' : Nat} (h : Six w b o t A c A' c') (hs : S b) (hk : Keeps S w w') : Six w' b o t A c A' c' := by
  obtain ⟨a0, a1, a2, a3, a4, a5⟩ := h
  exact ⟨(hk.cell hs _).trans a0, (hk.cell hs _).trans a1, (hk.cell hs _).trans a2, (hk.cell hs _).trans a3, (hk.cell hs _).trans a4, (hk.cell hs _).trans a5⟩
theorem TV.keep {w w' : World} {S : Nat → Prop} {t : T} {A : Option Addr} {c : Nat} {A' : Option Addr} {c' : Nat} (h : TV w S t A c A' c') (hk : Keeps S w w') : TV w' S t A c A' c' := by
  induction h with
  | mk t A c A' c' hA hc hA' hc' h1 h2 hrow hkey hin ih =>
    refine .mk t A c A' c' hA hc hA' hc' h1 h2 (fun hn => ?_) (hkey.keep hk) ih
    obtain ⟨b, o, e, hs, h6⟩ := hrow hn
    exact ⟨b, o, e, hs, fun i x hx => (h6 i x hx).keep hs hk⟩
theorem TV.wide {w : World} {S S' : Nat → Prop} {t : T} {A : Option Addr} {c : Nat} {A' : Option Addr} {c' : Nat} (h : TV w S t A c A' c') (hs : ∀ b, S b → S' b) : TV w S' t A c A' c' := by
  induction h with
  | mk t A c A' c' hA hc hA' hc' h1 h2 hrow hkey hin ih =>
    refine .mk t A c A' c' hA hc hA' hc' h1 h2 (fun hn => ?_) (hkey.wide hs) ih
    obtain ⟨b, o, e, h0, h6⟩ := hrow hn
    exact ⟨b, o, e, hs b h0, h6⟩
/-- from call to call -/
theorem TV.under {B : Nat} {w w' : World} {t : T} {A : Option Addr} {c : Nat} {A' : Option Addr} {c' : Nat} (h : TV w (· < B) t A c A' c') (hb : Below B w w') : TV w' (· < B) t A c A' c' := h.keep (.of_below hb)
theorem TV.on {w w' : World} {t : T} {A : Option Addr} {c : Nat} {A' : Option Addr} {c' : Nat} (h : TV w (· < w.heap.size) t A c A' c') (hb : Below w.heap.size w w') : TV w' (· < w'.heap.size) t A c A' c' :=
  (h.under hb).wide fun _ hx => Nat.lt_of_lt_of_le hx hb.size
theorem SReads.below {B : Nat} {w w' : World} {A : Option Addr} {l : List ByteArray} (h : SReads w (· < B) A l) (hb : Below B w w') : SReads w' (· < B) A l := h.keep (.of_below hb)
theorem SReads.on {w w' : World} {A : Option Addr} {l : List ByteArray} (h : SReads w (· < w.heap.size) A l) (hb : Below w.heap.size w w') : SReads w' (· < w'.heap.size) A l :=
  (h.below hb).wide fun _ hx => Nat.lt_of_lt_of_le hx hb.size

/-- the cells of a value's box -/
def T.cs (t : T) (A : Option Addr) (c : Nat) (A' : Option Addr) (c' : Nat) : Array Value :=
  #[.int .i64 t.kind, .bool t.tr, .int .i64 t.num, .string t.str, .slice A t.items.length c, .slice A' t.keys.length c']
/-- behind a store of a value into six cells of a row -/
theorem six_put {w : World} {g : Nat} {ty : TypeId} {cs : Array Value} (h : Blk w g ty cs) {o : Nat} (ho : o + 6 ≤ cs.size) (t : T) (A : Option Addr) (c : Nat) (A' : Option Addr) (c' : Nat) :
    ∃ cs', Blk ((((((w.setCell ⟨g, o, none⟩ (.int .i64 t.kind)).setCell ⟨g, o + 1, none⟩ (.bool t.tr)).setCell ⟨g, o + 2, none⟩ (.int .i64 t.num)).setCell ⟨g, o + 3, none⟩ (.string t.str)).setCell ⟨g, o + 4, none⟩ (.slice A t.items.length c)).setCell ⟨g, o + 5, none⟩ (.slice A' t.keys.length c')) g ty cs' ∧ cs'.size = cs.size ∧
      Six ((((((w.setCell ⟨g, o, none⟩ (.int .i64 t.kind)).setCell ⟨g, o + 1, none⟩ (.bool t.tr)).setCell ⟨g, o + 2, none⟩ (.int .i64 t.num)).setCell ⟨g, o + 3, none⟩ (.string t.str)).setCell ⟨g, o + 4, none⟩ (.slice A t.items.length c)).setCell ⟨g, o + 5, none⟩ (.slice A' t.keys.length c')) g o t A c A' c' ∧
      ∀ j, j < o ∨ o + 6 ≤ j → cs'[j]? = cs[j]? := by
  have hb := ((((((h.set_ o (.int .i64 t.kind)).set_ (o + 1) (.bool t.tr)).set_ (o + 2) (.int .i64 t.num)).set_ (o + 3) (.string t.str)).set_ (o + 4) (.slice A t.items.length c)).set_ (o + 5) (.slice A' t.keys.length c'))
  refine ⟨_, hb, by simp, ⟨?_, ?_, ?_, ?_, ?_, ?_⟩, fun j hj => ?_⟩
  all_goals first
    | (rw [hb.cell]; simp (disch := ((try simp only [Array.size_setIfInBounds]); omega)) only [Array.getElem?_setIfInBounds_ne, Array.getElem?_setIfInBounds_self_of_lt]; done)
    | (simp (disch := ((try simp only [Array.size_setIfInBounds]); omega)) only [Array.getElem?_setIfInBounds_ne])
theorem set_six {cs : Array Value} (h : cs.size = 6) {v0 v1 v2 v3 v4 v5 : Value} : (((((cs.setIfInBounds 0 v0).setIfInBounds 1 v1).setIfInBounds 2 v2).setIfInBounds 3 v3).setIfInBounds 4 v4).setIfInBounds 5 v5 = #[v0, v1, v2, v3, v4, v5] := by
  apply Array.ext_getElem?
  intro i
  rcases Nat.lt_or_ge i 6 with h3 | h3
  · rcases (by omega : i = 0 ∨ i = 1 ∨ i = 2 ∨ i = 3 ∨ i = 4 ∨ i = 5) with rfl | rfl | rfl | rfl | rfl | rfl <;>
      (simp (disch := ((try simp only [Array.size_setIfInBounds]); omega)) only [Array.getElem?_setIfInBounds_ne, Array.getElem?_setIfInBounds_self_of_lt]; rfl)
  · rw [Array.getElem?_eq_none (by simpa [h] using h3), Array.getElem?_eq_none (by simpa using h3)]
/-- behind a store of a value into a box of its own -/
theorem res_put {w : World} {g : Nat} {ty : TypeId} {cs : Array Value} (h : Blk w g ty cs) (ho : cs.size = 6) (t : T) (A : Option Addr) (c : Nat) (A' : Option Addr) (c' : Nat) :
    Blk ((((((w.setCell ⟨g, 0, none⟩ (.int .i64 t.kind)).setCell ⟨g, 1, none⟩ (.bool t.tr)).setCell ⟨g, 2, none⟩ (.int .i64 t.num)).setCell ⟨g, 3, none⟩ (.string t.str)).setCell ⟨g, 4, none⟩ (.slice A t.items.length c)).setCell ⟨g, 5, none⟩ (.slice A' t.keys.length c')) g ty (t.cs A c A' c') := by
  have hb := ((((((h.set_ 0 (.int .i64 t.kind)).set_ 1 (.bool t.tr)).set_ 2 (.int .i64 t.num)).set_ 3 (.string t.str)).set_ 4 (.slice A t.items.length c)).set_ 5 (.slice A' t.keys.length c'))
  rw [set_six ho] at hb
  exact hb
/-- what a store of a value into six cells asks -/
theorem Blk.six {w : World} {g : Nat} {ty : TypeId} {cs : Array Value} (h : Blk w g ty cs) {o : Nat} (ho : o + 6 ≤ cs.size) :
    ∃ u0 u1 u2 u3 u4 u5, w.cell? ⟨g, o, none⟩ = some u0 ∧ w.cell? ⟨g, o + 1, none⟩ = some u1 ∧ w.cell? ⟨g, o + 2, none⟩ = some u2 ∧ w.cell? ⟨g, o + 3, none⟩ = some u3 ∧ w.cell? ⟨g, o + 4, none⟩ = some u4 ∧ w.cell? ⟨g, o + 5, none⟩ = some u5 :=
  ⟨cs[o]'(by omega), cs[o + 1]'(by omega), cs[o + 2]'(by omega), cs[o + 3]'(by omega), cs[o + 4]'(by omega), cs[o + 5]'(by omega), by rw [h.cell]; simp, by rw [h.cell]; simp, by rw [h.cell]; simp, by rw [h.cell]; simp, by rw [h.cell]; simp, by rw [h.cell]; simp⟩
end Go.Proofs.YtfiahpeajccinaaGreatDoor
namespace Go.Proofs.YtfiahpeajccinaaGreatDoor
open Go.RowKit
set_option linter.unusedVariables false

theorem own_keptS {w w' : World} {base : Nat} {e : TypeId} {size n : Nat} {v : Value} {xs : List Value} (h : w.ownsRow base e size v n xs) (hb : Below w.heap.size w w') : w'.ownsRow base e size v n xs :=
  World.ownsRow.kept h (row := none) ⟨hb.os, hb.tape, hb.output, hb.size, fun a ha _ => hb.block a ha⟩ (by cases v <;> simp [Value.ownBlock] <;> split <;> simp)
end Go.Proofs.YtfiahpeajccinaaGreatDoor
namespace Go.Proofs.YtfiahpeajccinaaGreatDoor
open Go.RowKit
set_option linter.unusedVariables false

/-- a writer at block b, whose buffer holds l; whatever it makes lies from B on -/
def Wr (B b : Nat) (l : List UInt8) (c2 c3 c4 c5 : Value) (w : World) : Prop :=
  B ≤ b ∧ ∃ p v, (p = .pointer none ∨ p = .pointer (some ⟨b, 0, none⟩)) ∧ Blk w b 115 #[p, v, c2, c3, c4, c5] ∧ w.ownsRow B 5 1 v l.length (Lib.byteCells l)
/-- all is kept but the writer and its buffer -/
def KeptW (B b : Nat) (w w' : World) : Prop := Below B w w' ∧ Lib.OthersKept 5 (some b) w w'
theorem KeptW.refl (B b : Nat) (w : World) : KeptW B b w w := ⟨Below.refl _ _, Lib.OthersKept.refl _ _ _⟩
theorem KeptW.trans {B b : Nat} {u v w : World} (h : KeptW B b u v) (k : KeptW B b v w) : KeptW B b u w := ⟨h.1.trans k.1, h.2.trans k.2⟩
theorem KeptW.size {B b : Nat} {u v : World} (h : KeptW B b u v) : u.heap.size ≤ v.heap.size := h.1.size
theorem KeptW.blk {B b g : Nat} {t : TypeId} {cs : Array Value} {u v : World} (h : KeptW B b u v) (hb : Blk u g t cs) (hg : g ≠ b) (ht : t ≠ 5) : Blk v g t cs :=
  h.2 g _ hb (by simpa using hg) (fun c fz e => by injection e with _ e _; exact ht e)
theorem KeptW.of {B b : Nat} {u v : World} (h : Below u.heap.size u v) (hB : B ≤ u.heap.size) : KeptW B b u v :=
  ⟨h.mono hB, fun k o hk _ _ => (h.block k (Array.getElem?_eq_some_iff.1 hk).1).trans hk⟩
theorem Wr.lt {B b : Nat} {l : List UInt8} {c2 c3 c4 c5 : Value} {w : World} (h : Wr B b l c2 c3 c4 c5 w) : b < w.heap.size := by
  obtain ⟨_, p, v, _, hb, _⟩ := h
  exact hb.lt
theorem Wr.on {B b : Nat} {l : List UInt8} {c2 c3 c4 c5 : Value} {w w' : World} (h : Wr B b l c2 c3 c4 c5 w) (hb : Below w.heap.size w w') : Wr B b l c2 c3 c4 c5 w' := by
  obtain ⟨h1, p, v, h2, h3, h4⟩ := h
  exact ⟨h1, p, v, h2, h3.onto hb, own_keptS h4 hb⟩
theorem app_u8g {ops : Array Oper} {rest : List Oper} {o : Oper} {a : Act} {Q : Exit → Act → World → Prop} {w : World} (hgd : o.guard = none) (s x : Operand)
    (ho : o.op = .call { callee := .builtin .append, args := #[s, x], argTypes := #[72, 72] })
    (base : Nat) (v : Value) (l : List UInt8) (y : UInt8) (z : Int) (hz : z = (y.toNat : Int)) (hs : a.eval s = v) (hx : a.eval x = .slice (some ⟨w.heap.size, 0, none⟩) 1 1)
    (hown : w.ownsRow base 5 1 v l.length (Lib.byteCells l)) (hn : l.length ≤ 1000000) (hbase : base ≤ w.heap.size)
    (h : ∀ (g cap : Nat) (w' : World), w'.ownsRow base 5 1 (.slice (some ⟨g, 0, none⟩) (l.length + 1) cap) (l ++ [y]).length (Lib.byteCells (l ++ [y])) → (w.alloc (.cells #[.int .u8 z] 5)).grownBy w' v.ownBlock → wpList Tryz.prog ops Q rest (a.put o.dst (.slice (some ⟨g, 0, none⟩) (l.length + 1) cap)) w') :
    wpList Tryz.prog ops Q (o :: rest) a (w.alloc (.cells #[.int .u8 z] 5)) := by
  subst hz
  obtain ⟨i0, hi, hz0, hz1, hz2⟩ := info_parts info5
  refine wpList_append_own _ hgd s x 72 ho base 5 i0 (.int .u8 0) 1 1 Tryz.underlying72 hi hz0 hz1 hz2 rfl (by decide) v _ _ hs (hown.alloc _) ⟨w.heap.size, 0, none⟩ 1 1 [.int .u8 y.toNat] hx rfl ?_ ?_ ?_ ?_ ?_ ?_
  · intro j u hu
    match j, hu with
    | 0, hu => simp at hu; subst hu; simp [Addr.add]
  · intro u hu; simp at hu; subst hu; rfl
  · unfold maxLen; omega
  · omega
  · simp; omega
  · intro v' w' h1 h2 _
    obtain ⟨g, cap, rfl⟩ : ∃ g cap, v' = .slice (some ⟨g, 0, none⟩) (l.length + 1) cap := by
      rcases h1.2 with ⟨_, h0⟩ | ⟨g, cap, cur, hv, _⟩
      · omega
      · exact ⟨g, cap, hv⟩
    refine h g cap w' ?_ h2
    rw [List.length_append, Lib.byteCells_append]
    exact h1
theorem own_kind {w : World} {B : Nat} {v : Value} {l : List UInt8} (h : w.ownsRow B 5 1 v l.length (Lib.byteCells l)) : ∀ g, v.ownBlock = some g → ∃ c fz, w.heap[g]? = some (.cells c 5 fz) := by
  intro g hg
  rcases h.2 with ⟨rfl, _⟩ | ⟨g', cap, cur, rfl, _, hh, _⟩
  · simp [Value.ownBlock] at hg
  · simp [Value.ownBlock] at hg
    subst hg
    exact ⟨cur, _, hh⟩
theorem own_far8 {w : World} {B b : Nat} {v : Value} {l : List UInt8} {t : TypeId} {cs : Array Value} (h : w.ownsRow B 5 1 v l.length (Lib.byteCells l)) (hb : Blk w b t cs) (ht : t ≠ 5) : v.ownBlock ≠ some b := by
  intro e
  obtain ⟨c, fz, hh⟩ := own_kind h b e
  have := hb.symm.trans hh
  injection this with this
  injection this with _ this _
  exact ht this
/-- a new buffer laid into the writer -/
theorem wr_put {B b : Nat} {l : List UInt8} {p v v' c2 c3 c4 c5 : Value} {w : World} (hB : B ≤ b) (hp : p = .pointer none ∨ p = .pointer (some ⟨b, 0, none⟩)) (hb : Blk w b 115 #[p, v, c2, c3, c4, c5]) (hown : w.ownsRow B 5 1 v' l.length (Lib.byteCells l)) : Wr B b l c2 c3 c4 c5 (w.setCell ⟨b, 1, none⟩ v') := by
  refine ⟨hB, p, v', hp, hb.set_ 1 v', ?_⟩
  exact hown.kept (row := some b) ⟨rfl, rfl, rfl, by simp [World.setCell], fun k _ hk => Below.heap_setCell _ _ _ _ (fun e => hk (by simp [e]))⟩ (Or.inr (own_far8 hown hb (by decide)))
set_option maxHeartbeats 1000000 in
set_option maxRecDepth 100000 in
theorem copy_w (B b : Nat) (l : List UInt8) (c2 c3 c4 c5 : Value) (w : World) (h : Wr B b l c2 c3 c4 c5 w) :
    Calls Tryz.prog 68 #[.pointer (some ⟨b, 0, none⟩)] w fun e w' => e = .returned (.tuple #[]) ∧ (∃ v, Blk w' b 115 #[.pointer (some ⟨b, 0, none⟩), v, c2, c3, c4, c5] ∧ w'.ownsRow B 5 1 v l.length (Lib.byteCells l)) ∧ KeptW B b w w' := by
  obtain ⟨hB, p, v, hp, hb, hown⟩ := h
  have hinfo : (Tryz.prog.info? 74).map (fun i => i.size) = some 2 := by kernel_rfl
  obtain ⟨j, hj, hjs⟩ := Option.map_eq_some_iff.1 hinfo
  have h0 : w.cell? ⟨b, 0, none⟩ = some p := hb.cell 0
  rcases hp with rfl | rfl
  · have hf := hb.free 0
    have hsh : w.shape? b = some (115, 6) := by
      have hb' : w.heap[b]? = some (Obj.cells #[.pointer none, v, c2, c3, c4, c5] 115 (0, 0)) := hb
      simp [World.shape?, hb']
    have HF := Lib.hid (show (∃ v, Blk (w.setCell ⟨b, 0, none⟩ (.pointer (some ⟨b, 0, none⟩))) b 115 #[.pointer (some ⟨b, 0, none⟩), v, c2, c3, c4, c5] ∧ (w.setCell ⟨b, 0, none⟩ (.pointer (some ⟨b, 0, none⟩))).ownsRow B 5 1 v l.length (Lib.byteCells l)) ∧ KeptW B b w (w.setCell ⟨b, 0, none⟩ (.pointer (some ⟨b, 0, none⟩))) from
      ⟨⟨v, hb.set_ 0 _, hown.kept (row := some b) ⟨rfl, rfl, rfl, by simp [World.setCell], fun k _ hk => Below.heap_setCell _ _ _ _ (fun e => hk (by simp [e]))⟩ (Or.inr (own_far8 hown hb (by decide)))⟩, (Below.refl _ _).setCell (p := ⟨b, 0, none⟩) hB _, (Lib.OthersKept.refl _ _ _).setCell ⟨b, 0, none⟩ rfl _⟩)
    clear hb hown hB
    go_enter Tryz.func68, Tryz.ntmps68
    go_wp2
    rw [Lib.run_to_unsafe w ⟨b, 0, none⟩ Tryz.underlying71 Tryz.underlying156 hj (by rw [hjs]; decide) hsh (Nat.zero_lt_succ 5)]
    simp only [Result.andThen]
    rw [Oper.upon_value]
    go_wp2
    rw [run_callFunc_extern Tryz.func114 (by kernel_rfl) (by kernel_rfl) (by kernel_rfl) (e := Extern.AbiNoEscape.same) (by kernel_rfl)]
    rw [Lib.run_noEscape]
    simp only [Result.andThen]
    rw [Oper.upon_value]
    go_wp2
    rw [Lib.run_from_unsafe w ⟨b, 0, none⟩ Tryz.underlying156 Tryz.underlying71 hj hsh (by kernel_rfl)]
    simp only [Result.andThen]
    rw [Oper.upon_value]
    go_wp2
    go_end0
    exact ⟨rfl, HF.out⟩
  · have HF := Lib.hid (show (∃ v, Blk w b 115 #[.pointer (some ⟨b, 0, none⟩), v, c2, c3, c4, c5] ∧ w.ownsRow B 5 1 v l.length (Lib.byteCells l)) ∧ KeptW B b w w from ⟨⟨v, hb, hown⟩, KeptW.refl _ _ _⟩)
    clear hb hown hB
    go_enter Tryz.func68, Tryz.ntmps68
    go_wp2
    rw [Lib.run_neq_ptr_same w _ Tryz.underlying71 hj]
    go_wp2
    go_end0
    exact ⟨rfl, HF.out⟩
set_option maxHeartbeats 2000000 in
set_option maxRecDepth 100000 in
theorem wbyte_any (B b : Nat) (l : List UInt8) (c2 c3 c4 c5 : Value) (c : UInt8) (z : Int) (hz : z = (c.toNat : Int)) (w : World) (h : Wr B b l c2 c3 c4 c5 w) (hlen : l.length ≤ 900000) (hBw : B ≤ w.heap.size) :
    Calls Tryz.prog 140 #[.pointer (some ⟨b, 0, none⟩), .int .u8 z] w fun e w' => e = .returned .nilIface ∧ Wr B b (l ++ [c]) c2 c3 c4 c5 w' ∧ KeptW B b w w' := by
  subst hz
  have HC := Lib.hid (copy_w B b l c2 c3 c4 c5 w h)
  have hB := h.1
  clear h
  go_enter Tryz.func140, Tryz.ntmps140
  go_wp2_with fail
  refine HC.out.mono ?_
  rintro e w1 ⟨rfl, ⟨v, hbk, hown⟩, hk1⟩
  have x0 : w1.cell? ⟨b, 0, none⟩ = some (.pointer (some ⟨b, 0, none⟩)) := hbk.cell 0
  have x1 : w1.cell? ⟨b, 1, none⟩ = some v := hbk.cell 1
  have HBk := Lib.hid hbk
  have HO := Lib.hid hown
  have HK := Lib.hid hk1
  have y1 : ∀ o : Obj, (w1.alloc o).cell? ⟨b, 1, none⟩ = some v := fun o => (hbk.alloc o).cell 1
  clear hbk hown hk1
  go_wp2_with (
    at_builtin
    go_loud (refine app_u8g rfl (.tmp _) (.tmp _) rfl B v l c _ rfl rfl rfl HO.out (by omega) (by have := HK.out.size; omega) ?_)
    intro g cap w2 hown2 hgrow
    have hbk2 : Blk w2 b 115 #[.pointer (some ⟨b, 0, none⟩), v, c2, c3, c4, c5] := (hgrow.block b (by have := HBk.out.lt; simp; omega) (fun e => own_far8 HO.out HBk.out (by decide) e.symm)).trans (HBk.out.alloc _)
    have z1 : w2.cell? ⟨b, 1, none⟩ = some v := hbk2.cell 1
    have g1 := hbk2.free 1
    have HW := Lib.hid (wr_put hB (.inr rfl) hbk2 hown2)
    have HK2 := Lib.hid (show KeptW B b w (w2.setCell ⟨b, 1, none⟩ (.slice (some ⟨g, 0, none⟩) (l.length + 1) cap)) from HK.out.trans ⟨((((Below.refl _ _).alloc (by have := HK.out.size; omega) _).grown hgrow (by have := HK.out.size; simp; omega) (fun k hk => (HO.out.lt k hk).1))).setCell (p := ⟨b, 1, none⟩) hB _, (((Lib.OthersKept.refl _ _ _).alloc _).grown hgrow (own_kind (HO.out.alloc _))).setCell ⟨b, 1, none⟩ rfl _⟩)
    clear hown2 hgrow hbk2 x0 x1 y1)
  go_ret
  exact ⟨rfl, HW.out, HK2.out⟩
end Go.Proofs.YtfiahpeajccinaaGreatDoor
namespace Go.Proofs.YtfiahpeajccinaaGreatDoor
open Go.RowKit
set_option linter.unusedVariables false

set_option maxHeartbeats 2000000 in
set_option maxRecDepth 100000 in
theorem wstr_any (B b : Nat) (l : List UInt8) (c2 c3 c4 c5 : Value) (s : ByteArray) (w : World) (h : Wr B b l c2 c3 c4 c5 w) (hlen : l.length + s.size ≤ 900000) (hBw : B ≤ w.heap.size) :
    Calls Tryz.prog 28 #[.pointer (some ⟨b, 0, none⟩), .string s] w fun e w' => e = .returned (.tuple #[.int .i64 s.size, .nilIface]) ∧ Wr B b (l ++ s.data.toList) c2 c3 c4 c5 w' ∧ KeptW B b w w' := by
  obtain ⟨i0, hi, hz0, hz1, hz2⟩ := info_parts info5
  have HC := Lib.hid (copy_w B b l c2 c3 c4 c5 w h)
  have hB := h.1
  clear h
  go_enter Tryz.func28, Tryz.ntmps28
  go_wp2_with fail
  refine HC.out.mono ?_
  rintro e w1 ⟨rfl, ⟨v, hbk, hown⟩, hk1⟩
  have x0 : w1.cell? ⟨b, 0, none⟩ = some (.pointer (some ⟨b, 0, none⟩)) := hbk.cell 0
  have x1 : w1.cell? ⟨b, 1, none⟩ = some v := hbk.cell 1
  have HBk := Lib.hid hbk
  have HO := Lib.hid hown
  have HK := Lib.hid hk1
  clear hbk hown hk1
  go_wp2_with (
    at_builtin
    go_loud (refine Lib.wpList_append_own_string _ rfl (.tmp _) (.tmp _) 72 9 rfl B 5 i0 Tryz.underlying72 Tryz.underlying9 hi hz0 hz1 hz2 v l.length (Lib.byteCells l) rfl HO.out s rfl (by unfold maxLen; omega) (by omega) (by have := HK.out.size; omega) ?_)
    intro v' w2 hown2 hgrow _
    have hown3 : w2.ownsRow B 5 1 v' (l ++ s.data.toList).length (Lib.byteCells (l ++ s.data.toList)) := by
      rw [Lib.byteCells_append, ← Lib.strCells_eq, List.length_append]
      exact hown2
    have hbk2 : Blk w2 b 115 #[.pointer (some ⟨b, 0, none⟩), v, c2, c3, c4, c5] := (hgrow.block b HBk.out.lt (fun e => own_far8 HO.out HBk.out (by decide) e.symm)).trans HBk.out
    have z1 : w2.cell? ⟨b, 1, none⟩ = some v := hbk2.cell 1
    have g1 := hbk2.free 1
    have HW := Lib.hid (wr_put hB (.inr rfl) hbk2 hown3)
    have HK2 := Lib.hid (show KeptW B b w (w2.setCell ⟨b, 1, none⟩ v') from HK.out.trans ⟨((Below.refl _ _).grown hgrow (by have := HK.out.size; omega) (fun k hk => (HO.out.lt k hk).1)).setCell (p := ⟨b, 1, none⟩) hB _, ((Lib.OthersKept.refl _ _ _).grown hgrow (own_kind HO.out)).setCell ⟨b, 1, none⟩ rfl _⟩)
    obtain ⟨ao, n', cap, rfl⟩ : ∃ ao n' cap, v' = .slice ao n' cap := by
      rcases hown2.2 with ⟨hv, _⟩ | ⟨g, cap, cur, hv, _⟩
      · exact ⟨_, _, _, hv⟩
      · exact ⟨_, _, _, hv⟩
    clear hown2 hown3 hgrow hbk2 x0 x1)
  go_ret2
  exact ⟨rfl, HW.out, HK2.out⟩
set_option maxHeartbeats 1000000 in
set_option maxRecDepth 100000 in
theorem string_any (B b : Nat) (l : List UInt8) (c2 c3 c4 c5 : Value) (w : World) (h : Wr B b l c2 c3 c4 c5 w) (h0 : l ≠ []) :
    Calls Tryz.prog 31 #[.pointer (some ⟨b, 0, none⟩)] w fun e w' => e = .returned (.string ⟨l.toArray⟩) ∧ Below B w w' := by
  obtain ⟨hB, p, v, hp, hbk, hown⟩ := h
  have hl0 : l.length ≠ 0 := by simpa using h0
  obtain ⟨g, cap, cur, rfl, hbg, hg, hnc, hcm, hcs, htake⟩ : ∃ g cap cur, v = .slice (some ⟨g, 0, none⟩) l.length cap ∧ B ≤ g ∧ w.heap[g]? = some (.cells cur 5 (0, 0)) ∧ l.length ≤ cap ∧ cap ≤ maxLen ∧ cur.size = cap * 1 ∧ cur.toList.take (l.length * 1) = Lib.byteCells l := by
    rcases hown.2 with ⟨_, hz⟩ | ⟨g, cap, cur, hv, r⟩
    · exact absurd hz hl0
    · exact ⟨g, cap, cur, hv, r⟩
  have c1 : w.drew.cell? ⟨b, 1, none⟩ = some (.slice (some ⟨g, 0, none⟩) l.length cap) := hbk.cell 1
  have hSD : (Builtin.unsafeSliceData_ #[72] 117 #[.slice (some ⟨g, 0, none⟩) l.length cap]).run Tryz.prog w.drew = .ok (.pointer (some ⟨g, 0, none⟩)) w.drew :=
    Lib.run_unsafeSliceData_row _ _ _ _ _ _ (by omega)
  have hUS : (Builtin.unsafeString_ #[117, 3] 9 #[.pointer (some ⟨g, 0, none⟩), .int .i64 l.length]).run Tryz.prog w.drew = .ok (.string ⟨l.toArray⟩) (w.drew.freeze ⟨g, 0, none⟩ l.length) := by
    refine Lib.run_unsafeString_row w.drew 117 3 9 5 Tryz.underlying117 (by kernel_rfl) g cur.size (by have hg' : w.drew.heap[g]? = some (.cells cur 5 (0, 0)) := hg; simp [World.shape?, hg']) l h0 (by omega) (by unfold maxLen at hcm; omega) ?_
    intro j x hx
    have := hown.cells (g := g) rfl j (.int .u8 x.toNat) (by simp [Lib.byteCells, hx])
    exact this
  have HB := Lib.hid (show Below B w (w.drew.freeze ⟨g, 0, none⟩ l.length) from Lib.below_freeze (Below.drew (Below.refl B w)) (p := ⟨g, 0, none⟩) hbg _)
  have mixed : Tryz.prog.follows Departure.mixedOrders = true := by kernel_rfl
  clear hbk hown hg htake hcs
  go_enter Tryz.func31, Tryz.ntmps31
  go_wp2
  go_region_o
  all_goals (go_wp2; go_ret; exact ⟨rfl, HB.out⟩)
end Go.Proofs.YtfiahpeajccinaaGreatDoor
namespace Go.Proofs.YtfiahpeajccinaaGreatDoor
set_option linter.unusedVariables false
namespace Q

/-- a digit of base sixteen -/
def hex (d : UInt8) : UInt8 := if d < 10 then 48 + d else 87 + d
/-- how a byte stands in quotation marks -/
def esc (c : UInt8) : List UInt8 :=
  if c = 34 then [92, 34] else if c = 92 then [92, 92] else if c = 8 then [92, 98] else if c = 12 then [92, 102] else if c = 10 then [92, 110] else if c = 13 then [92, 114] else if c = 9 then [92, 116]
  else if c < 32 then [92, 117, 48, 48, hex (c / 16), hex (c % 16)] else [c]
/-- a text in quotation marks -/
def quo (l : List UInt8) : List UInt8 := 34 :: (l.flatMap esc ++ [34])
def unhex (d : UInt8) : UInt8 := if d < 58 then d - 48 else d - 87
/-- what an escape stands for -/
def unesc : List UInt8 → UInt8
  | [a] => a
  | [_, b] => if b = 98 then 8 else if b = 102 then 12 else if b = 110 then 10 else if b = 114 then 13 else if b = 116 then 9 else b
  | [_, _, _, _, p, q] => unhex p * 16 + unhex q
  | _ => 0
theorem unesc_all : ∀ n : Fin 256, unesc (esc (UInt8.ofNat n.val)) = UInt8.ofNat n.val := by decide +kernel
theorem unesc_esc (c : UInt8) : unesc (esc c) = c := by
  have := unesc_all ⟨c.toNat, c.toNat_lt⟩
  simpa using this
theorem esc_inj {c d : UInt8} (h : esc c = esc d) : c = d := by rw [← unesc_esc c, h, unesc_esc]
theorem esc_shape (c : UInt8) : (∃ a, esc c = [a] ∧ a ≠ 92 ∧ a ≠ 34) ∨ (∃ b, esc c = [92, b] ∧ b ≠ 117) ∨ ∃ p q, esc c = [92, 117, 48, 48, p, q] := by
  unfold esc
  split
  · exact .inr (.inl ⟨34, rfl, by decide⟩)
  split
  · exact .inr (.inl ⟨92, rfl, by decide⟩)
  split
  · exact .inr (.inl ⟨98, rfl, by decide⟩)
  split
  · exact .inr (.inl ⟨102, rfl, by decide⟩)
  split
  · exact .inr (.inl ⟨110, rfl, by decide⟩)
  split
  · exact .inr (.inl ⟨114, rfl, by decide⟩)
  split
  · exact .inr (.inl ⟨116, rfl, by decide⟩)
  split
  · exact .inr (.inr ⟨_, _, rfl⟩)
  · rename_i h1 h2 _ _ _ _ _ _
    exact .inl ⟨c, rfl, h2, h1⟩
theorem esc_len (c : UInt8) : (esc c).length ≤ 6 := by
  rcases esc_shape c with ⟨a, h, _⟩ | ⟨b, h, _⟩ | ⟨p, q, h⟩ <;> rw [h] <;> simp
theorem esc_split {c d : UInt8} {x y : List UInt8} (h : esc c ++ x = esc d ++ y) : c = d ∧ x = y := by
  have hl : (esc c).length = (esc d).length := by
    rcases esc_shape c with ⟨a, h1, a1, a2⟩ | ⟨b, h1, a1⟩ | ⟨p, q, h1⟩ <;> rcases esc_shape d with ⟨a', k1, b1, b2⟩ | ⟨b', k1, b1⟩ | ⟨p', q', k1⟩ <;> rw [h1, k1] at h ⊢ <;> simp at h ⊢
    · exact absurd h.1 a1
    · exact absurd h.1 a1
    · exact absurd h.1.symm b1
    · exact absurd h.1 a1
    · exact absurd h.1.symm b1
    · exact absurd h.1.symm b1
  obtain ⟨h1, h2⟩ := List.append_inj h hl
  exact ⟨esc_inj h1, h2⟩
theorem flat_inj : ∀ {a b : List UInt8}, a.flatMap esc ++ [34] = b.flatMap esc ++ [34] → a = b
  | [], [], _ => rfl
  | [], d :: b, h => by
    exfalso
    rcases esc_shape d with ⟨x, k, k1, k2⟩ | ⟨x, k, k1⟩ | ⟨p, q, k⟩ <;> simp [k] at h
  | c :: a, [], h => by
    exfalso
    rcases esc_shape c with ⟨x, k, k1, k2⟩ | ⟨x, k, k1⟩ | ⟨p, q, k⟩ <;> simp [k] at h
  | c :: a, d :: b, h => by
    simp only [List.flatMap_cons, List.append_assoc] at h
    obtain ⟨h1, h2⟩ := esc_split h
    rw [h1, flat_inj h2]
theorem quo_inj {a b : List UInt8} : quo a = quo b ↔ a = b := by
  constructor
  · intro h
    unfold quo at h
    injection h with _ h
    exact flat_inj h
  · intro h; rw [h]
theorem flat_len (l : List UInt8) : (l.flatMap esc).length ≤ 6 * l.length := by
  induction l with
  | nil => simp
  | cons c l ih => have := esc_len c; simp only [List.flatMap_cons, List.length_append, List.length_cons]; omega
theorem quo_len (l : List UInt8) : (quo l).length ≤ 6 * l.length + 2 := by
  have := flat_len l
  unfold quo
  simp only [List.length_cons, List.length_append, List.length_nil]; omega
end Q
namespace T
mutual
/-- a value's text -/
def txt : T → List UInt8
  | .mk k tr n s l ks => if k = 1 then (if tr then [116, 114, 117, 101] else [102, 97, 108, 115, 101]) else if k = 2 then Lib.itoa n else if k = 3 then Q.quo s.toList
      else if k = 4 then 91 :: (txts ks l 0 ++ [93]) else if k = 5 then 123 :: (txts ks l 0 ++ [125]) else [110, 117, 108, 108]
def txts : List ByteArray → List T → Nat → List UInt8
  | _, [], _ => []
  | ks, x :: r, i => (if i = 0 then [] else [44]) ++ ((match ks[i]? with | some q => Q.quo q.toList ++ [58] | none => []) ++ (x.txt ++ txts ks r (i + 1)))
end
theorem txt_eq (t : T) : t.txt = if t.kind = 1 then (if t.tr then [116, 114, 117, 101] else [102, 97, 108, 115, 101]) else if t.kind = 2 then Lib.itoa t.num else if t.kind = 3 then Q.quo t.str.toList
      else if t.kind = 4 then 91 :: (txts t.keys t.items 0 ++ [93]) else if t.kind = 5 then 123 :: (txts t.keys t.items 0 ++ [125]) else [110, 117, 108, 108] := by cases t; rfl
end T
end Go.Proofs.YtfiahpeajccinaaGreatDoor
namespace Go.Proofs.YtfiahpeajccinaaGreatDoor
namespace Q
/-- the points that have an escape of their own, and its letters -/
def P7 : List (UInt8 × UInt8) := [(34, 34), (92, 92), (8, 98), (12, 102), (10, 110), (13, 114), (9, 116)]
def escK (c : UInt8) (k : Nat) : List UInt8 := (P7.take k).flatMap fun pq => if pq.1 = c then [92, pq.2] else []
theorem escK_succ (c : UInt8) {k : Nat} {p : UInt8 × UInt8} (h : P7[k]? = some p) : escK c (k + 1) = escK c k ++ (if p.1 = c then [92, p.2] else []) := by
  unfold escK
  rw [List.take_add_one, h, List.flatMap_append]
  simp
theorem escK_all : ∀ n : Fin 256, esc (UInt8.ofNat n.val) = if escK (UInt8.ofNat n.val) 7 = [] then (if UInt8.ofNat n.val < 32 then [92, 117, 48, 48, hex (UInt8.ofNat n.val / 16), hex (UInt8.ofNat n.val % 16)] else [UInt8.ofNat n.val]) else escK (UInt8.ofNat n.val) 7 := by decide +kernel
theorem esc_K (c : UInt8) : esc c = if escK c 7 = [] then (if c < 32 then [92, 117, 48, 48, hex (c / 16), hex (c % 16)] else [c]) else escK c 7 := by
  have := escK_all ⟨c.toNat, c.toNat_lt⟩
  simpa using this
theorem hex_all : ∀ n : Fin 16, (hex (UInt8.ofNat n.val)).toNat = [48, 49, 50, 51, 52, 53, 54, 55, 56, 57, 97, 98, 99, 100, 101, 102][n.val]! := by decide +kernel
theorem idx_all : ∀ n : Fin 256, Lib.indexByte [34, 92, 8, 12, 10, 13, 9] (UInt8.ofNat n.val) = (if n.val = 34 then 0 else if n.val = 92 then 1 else if n.val = 8 then 2 else if n.val = 12 then 3 else if n.val = 10 then 4 else if n.val = 13 then 5 else if n.val = 9 then 6 else -1) := by decide +kernel
theorem idx_of (c : UInt8) : Lib.indexByte [34, 92, 8, 12, 10, 13, 9] c = (if c.toNat = 34 then 0 else if c.toNat = 92 then 1 else if c.toNat = 8 then 2 else if c.toNat = 12 then 3 else if c.toNat = 10 then 4 else if c.toNat = 13 then 5 else if c.toNat = 9 then 6 else -1) := by
  have := idx_all ⟨c.toNat, c.toNat_lt⟩
  simpa using this
end Q
end Go.Proofs.YtfiahpeajccinaaGreatDoor
namespace Go.Proofs.YtfiahpeajccinaaGreatDoor
open Go.RowKit
set_option linter.unusedVariables false

def CharPost (B b : Nat) (l : List UInt8) (c : UInt8) (c2 c3 c4 c5 : Value) (w : World) (e : Ending) (w' : World) : Prop := e = .returned (.tuple #[]) ∧ Wr B b (l ++ Q.esc c) c2 c3 c4 c5 w' ∧ KeptW B b w w'
theorem Wr.drewW {B b : Nat} {l : List UInt8} {c2 c3 c4 c5 : Value} {w : World} (h : Wr B b l c2 c3 c4 c5 w) : Wr B b l c2 c3 c4 c5 w.drew := h.on (Below.refl w.heap.size w).drew
theorem KeptW.drewK {B b : Nat} {u v : World} (h : KeptW B b u.drew v) : KeptW B b u v := KeptW.trans ⟨(Below.refl _ _).drew, fun k o hk _ _ => hk⟩ h
theorem idx7 (z r : Int) (w : World) (hr : Lib.indexByte [34, 92, 8, 12, 10, 13, 9] z.toNat.toUInt8 = r) :
    Calls Tryz.prog 139 #[.string ⟨#[34, 92, 8, 12, 10, 13, 9]⟩, .int .u8 z] w fun e w' => e = .returned (.int .i64 r) ∧ w = w' := by
  have h := Tryz.strings_IndexByte ⟨#[34, 92, 8, 12, 10, 13, 9]⟩ z w
  refine h.mono ?_
  rintro e w' ⟨rfl, rfl⟩
  exact ⟨by rw [← hr], rfl⟩
theorem dig_lt {n : Nat} (h : n < 16) : n < (⟨#[48, 49, 50, 51, 52, 53, 54, 55, 56, 57, 97, 98, 99, 100, 101, 102]⟩ : ByteArray).size := h
theorem esc_hex : ∀ n : Fin 32, n.val ≠ 8 → n.val ≠ 9 → n.val ≠ 10 → n.val ≠ 12 → n.val ≠ 13 → Q.esc n.val.toUInt8 = [92, 117, 48, 48, (⟨#[48, 49, 50, 51, 52, 53, 54, 55, 56, 57, 97, 98, 99, 100, 101, 102]⟩ : ByteArray).data.toList.getD (n.val / 16) 0, (⟨#[48, 49, 50, 51, 52, 53, 54, 55, 56, 57, 97, 98, 99, 100, 101, 102]⟩ : ByteArray).data.toList.getD (n.val % 16) 0] := by decide +kernel
theorem dig_at {n : Nat} (h : n < (⟨#[48, 49, 50, 51, 52, 53, 54, 55, 56, 57, 97, 98, 99, 100, 101, 102]⟩ : ByteArray).size) : (⟨#[48, 49, 50, 51, 52, 53, 54, 55, 56, 57, 97, 98, 99, 100, 101, 102]⟩ : ByteArray)[n]'h = (⟨#[48, 49, 50, 51, 52, 53, 54, 55, 56, 57, 97, 98, 99, 100, 101, 102]⟩ : ByteArray).data.toList.getD n 0 := by
  rw [List.getD_eq_getElem?_getD, List.getElem?_eq_getElem (by exact h)]
  rfl
set_option maxHeartbeats 4000000 in
set_option maxRecDepth 100000 in
theorem char_hex (c : UInt8) (h32 : c.toNat < 32) (n8 : c.toNat ≠ 8) (n9 : c.toNat ≠ 9) (n10 : c.toNat ≠ 10) (n12 : c.toNat ≠ 12) (n13 : c.toNat ≠ 13) (B b : Nat) (l : List UInt8) (c2 c3 c4 c5 : Value) (w : World) (h : Wr B b l c2 c3 c4 c5 w) (hlen : l.length ≤ 800000) (hBw : B ≤ w.heap.size) :
    Calls Tryz.prog 116 #[.pointer (some ⟨b, 0, none⟩), .int .u8 c.toNat] w (CharPost B b l c c2 c3 c4 c5 w) := by
  have hs0 := hBw
  have hidx : Lib.indexByte [34, 92, 8, 12, 10, 13, 9] (c.toNat : Int).toNat.toUInt8 = -1 := by
    rw [show ((c.toNat : Int)).toNat.toUInt8 = c by simp, Q.idx_of, if_neg (by omega), if_neg (by omega), if_neg (by omega), if_neg (by omega), if_neg (by omega), if_neg (by omega), if_neg (by omega)]
  have u1 : decide ((c.toNat : Int) < 32) = true := decide_eq_true (by omega)
  have u2 : decide (c.toNat < 32) = true := decide_eq_true (by omega)
  have HI := Lib.hid (idx7 (c.toNat : Int) (-1) w hidx)
  obtain ⟨hi, hhi⟩ : ∃ hi : Nat, hi = c.toNat / 16 := ⟨_, rfl⟩
  obtain ⟨lo, hlo⟩ : ∃ lo : Nat, lo = c.toNat % 16 := ⟨_, rfl⟩
  have hi16 : hi < 16 := by omega
  have lo16 : lo < 16 := by omega
  have hesc : Q.esc c = [92, 117, 48, 48, (⟨#[48, 49, 50, 51, 52, 53, 54, 55, 56, 57, 97, 98, 99, 100, 101, 102]⟩ : ByteArray)[hi]'(dig_lt hi16), (⟨#[48, 49, 50, 51, 52, 53, 54, 55, 56, 57, 97, 98, 99, 100, 101, 102]⟩ : ByteArray)[lo]'(dig_lt lo16)] := by
    have := esc_hex ⟨c.toNat, h32⟩ n8 n9 n10 n12 n13
    rw [dig_at, dig_at, hhi, hlo]
    rw [show c.toNat.toUInt8 = c by simp] at this
    exact this
  have HES := Lib.hid hesc
  have e1 : (c.toNat : Int).tdiv 16 = (hi : Int) := by rw [Int.tdiv_eq_ediv_of_nonneg (by omega)]; omega
  have e2 : (c.toNat : Int).tmod 16 = (lo : Int) := by rw [Int.tmod_eq_emod_of_nonneg (by omega)]; omega
  have e1' : (c.toNat : Int) / 16 = (hi : Int) := by omega
  have e2' : (c.toNat : Int) % 16 = (lo : Int) := by omega
  have q1 : IntKind.u8.wrap (hi : Int) = (hi : Int) := IntWalk.u8_in _ (by omega)
  have q2 : IntKind.u8.wrap (lo : Int) = (lo : Int) := IntWalk.u8_in _ (by omega)
  have b1 : (hi : Int) < 16 := by omega
  have b2 : (lo : Int) < 16 := by omega
  have b3 : (0 : Int) ≤ (hi : Int) := by omega
  have b4 : (0 : Int) ≤ (lo : Int) := by omega
  have H := Lib.hid h
  clear h hidx hesc h32 n8 n9 n10 n12 n13 hhi hlo
  go_enter Tryz.func116, Tryz.ntmps116
  go_wp2_with fail
  refine HI.out.mono ?_
  rintro e w1 ⟨rfl, rfl⟩
  go_wp2_with fail
  refine (wstr_any B b l c2 c3 c4 c5 ⟨#[92, 117, 48, 48]⟩ _ H.out (by show l.length + 4 ≤ 900000; omega) hs0).mono ?_
  rintro e w1 ⟨rfl, h1, k1⟩
  have H1 := Lib.hid (show Wr B b (l ++ [92, 117, 48, 48]) c2 c3 c4 c5 w1 from h1)
  have K1 := Lib.hid k1
  have hs1 := Nat.le_trans hs0 (KeptW.size k1)
  clear h1 k1
  go_wp2_with fail
  refine wp_region_held_drew (S := fun _ => True) (by kernel_rfl) ?_ (fun hHeld => ?_)
  · trivial
  refine wpAnyH_take (i := 0) (v := ?_) rfl (by kernel_rfl) (by kernel_rfl) (by kernel_rfl) (fun _ _ _ h => h) (Or.inl ⟨by rfl, ?_⟩) (by assumption) ?_
  rotate_left
  · intro wq hSw
    try dsimp only at hSw
    go_simp
    try (with_reducible rfl)
  try simp only [Act.put, List.getElem_toArray, List.getElem_cons_zero, List.setIfInBounds_toArray, List.set_cons_zero, List.set_cons_succ]
  refine wpAnyH_take (i := 1) (v := ?_) rfl (by kernel_rfl) (by kernel_rfl) (by kernel_rfl) (fun _ _ _ h => h) (Or.inl ⟨by rfl, ?_⟩) (by assumption) ?_
  rotate_left
  · intro wq hSw
    try dsimp only at hSw
    go_simp
    try (with_reducible rfl)
  try simp only [Act.put, List.getElem_toArray, List.getElem_cons_succ, List.getElem_cons_zero, List.setIfInBounds_toArray, List.set_cons_zero, List.set_cons_succ]
  refine wpAnyH_take (i := 2) (v := ?_) rfl (by kernel_rfl) (by kernel_rfl) (by kernel_rfl) (fun _ _ _ h => h) (Or.inl ⟨by rfl, ?_⟩) (by assumption) ?_
  rotate_left
  · intro wq hSw
    try dsimp only at hSw
    go_simp
    try (with_reducible rfl)
  try simp only [Act.put, List.getElem_toArray, List.getElem_cons_succ, List.getElem_cons_zero, List.setIfInBounds_toArray, List.set_cons_zero, List.set_cons_succ]
  refine wpAnyH_take (i := 3) (v := ?_) rfl (by kernel_rfl) (by kernel_rfl) (by kernel_rfl) (fun _ _ _ h => h) (Or.inl ⟨by rfl, ?_⟩) (by assumption) ?_
  rotate_left
  · intro wq hSw
    try dsimp only at hSw
    go_simp
    try (with_reducible rfl)
  try simp only [Act.put, List.getElem_toArray, List.getElem_cons_succ, List.getElem_cons_zero, List.setIfInBounds_toArray, List.set_cons_zero, List.set_cons_succ]
  refine wpAnyH_take (i := 4) (v := ?_) rfl (by kernel_rfl) (by kernel_rfl) (by kernel_rfl) (fun _ _ _ h => h) (Or.inl ⟨by rfl, ?_⟩) (by assumption) ?_
  rotate_left
  · intro wq hSw
    try dsimp only at hSw
    go_simp
    try (with_reducible rfl)
  try simp only [Act.put, List.getElem_toArray, List.getElem_cons_succ, List.getElem_cons_zero, List.setIfInBounds_toArray, List.set_cons_zero, List.set_cons_succ]
  refine wpAnyH_take (i := 5) (v := ?_) rfl (by kernel_rfl) (by kernel_rfl) (by kernel_rfl) (fun _ _ _ h => h) (Or.inl ⟨by rfl, ?_⟩) (by assumption) ?_
  rotate_left
  · intro wq hSw
    try dsimp only at hSw
    go_simp
    try (with_reducible rfl)
  try simp only [Act.put, List.getElem_toArray, List.getElem_cons_succ, List.getElem_cons_zero, List.setIfInBounds_toArray, List.set_cons_zero, List.set_cons_succ]
  refine wpAnyH_ready (rs := [6]) (by kernel_rfl) (by simp) ?_
  refine AllReadyH.cons rfl (fun K0 hK => ?_) ?_
  rotate_left
  · exact AllReadyH.nil
  go_simp
  refine (wbyte_any B b (l ++ [92, 117, 48, 48]) c2 c3 c4 c5 ((⟨#[48, 49, 50, 51, 52, 53, 54, 55, 56, 57, 97, 98, 99, 100, 101, 102]⟩ : ByteArray)[hi]'(dig_lt hi16)) _ rfl _ H1.out.drewW (by first | omega | (simp; omega)) hs1).mono ?_
  rintro e w2 ⟨rfl, h2, k2⟩
  have H2 := Lib.hid h2
  have K2 := Lib.hid (K1.out.trans (KeptW.drewK k2))
  have hs2 := Nat.le_trans hs1 (KeptW.size (KeptW.drewK k2))
  clear h2 k2
  go_wp2_with fail
  refine hK.out _ _ ?_ (fun hHeld => ?_)
  · trivial
  clear hK K0
  try simp only [Act.put, List.getElem_toArray, List.getElem_cons_succ, List.getElem_cons_zero, List.setIfInBounds_toArray, List.set_cons_zero, List.set_cons_succ]
  refine wpAnyH_done (by kernel_rfl) ?_ _
  go_wp2_with fail
  refine wp_region_held_drew (S := fun _ => True) (by kernel_rfl) ?_ (fun hHeld => ?_)
  · trivial
  refine wpAnyH_take (i := 0) (v := ?_) rfl (by kernel_rfl) (by kernel_rfl) (by kernel_rfl) (fun _ _ _ h => h) (Or.inl ⟨by rfl, ?_⟩) (by assumption) ?_
  rotate_left
  · intro wq hSw
    try dsimp only at hSw
    go_simp
    try (with_reducible rfl)
  try simp only [Act.put, List.getElem_toArray, List.getElem_cons_zero, List.setIfInBounds_toArray, List.set_cons_zero, List.set_cons_succ]
  refine wpAnyH_take (i := 1) (v := ?_) rfl (by kernel_rfl) (by kernel_rfl) (by kernel_rfl) (fun _ _ _ h => h) (Or.inl ⟨by rfl, ?_⟩) (by assumption) ?_
  rotate_left
  · intro wq hSw
    try dsimp only at hSw
    go_simp
    try (with_reducible rfl)
  try simp only [Act.put, List.getElem_toArray, List.getElem_cons_succ, List.getElem_cons_zero, List.setIfInBounds_toArray, List.set_cons_zero, List.set_cons_succ]
  refine wpAnyH_take (i := 2) (v := ?_) rfl (by kernel_rfl) (by kernel_rfl) (by kernel_rfl) (fun _ _ _ h => h) (Or.inl ⟨by rfl, ?_⟩) (by assumption) ?_
  rotate_left
  · intro wq hSw
    try dsimp only at hSw
    go_simp
    try (with_reducible rfl)
  try simp only [Act.put, List.getElem_toArray, List.getElem_cons_succ, List.getElem_cons_zero, List.setIfInBounds_toArray, List.set_cons_zero, List.set_cons_succ]
  refine wpAnyH_take (i := 3) (v := ?_) rfl (by kernel_rfl) (by kernel_rfl) (by kernel_rfl) (fun _ _ _ h => h) (Or.inl ⟨by rfl, ?_⟩) (by assumption) ?_
  rotate_left
  · intro wq hSw
    try dsimp only at hSw
    go_simp
    try (with_reducible rfl)
  try simp only [Act.put, List.getElem_toArray, List.getElem_cons_succ, List.getElem_cons_zero, List.setIfInBounds_toArray, List.set_cons_zero, List.set_cons_succ]
  refine wpAnyH_take (i := 4) (v := ?_) rfl (by kernel_rfl) (by kernel_rfl) (by kernel_rfl) (fun _ _ _ h => h) (Or.inl ⟨by rfl, ?_⟩) (by assumption) ?_
  rotate_left
  · intro wq hSw
    try dsimp only at hSw
    go_simp
    try (with_reducible rfl)
  try simp only [Act.put, List.getElem_toArray, List.getElem_cons_succ, List.getElem_cons_zero, List.setIfInBounds_toArray, List.set_cons_zero, List.set_cons_succ]
  refine wpAnyH_take (i := 5) (v := ?_) rfl (by kernel_rfl) (by kernel_rfl) (by kernel_rfl) (fun _ _ _ h => h) (Or.inl ⟨by rfl, ?_⟩) (by assumption) ?_
  rotate_left
  · intro wq hSw
    try dsimp only at hSw
    go_simp
    try (with_reducible rfl)
  try simp only [Act.put, List.getElem_toArray, List.getElem_cons_succ, List.getElem_cons_zero, List.setIfInBounds_toArray, List.set_cons_zero, List.set_cons_succ]
  refine wpAnyH_ready (rs := [6]) (by kernel_rfl) (by simp) ?_
  refine AllReadyH.cons rfl (fun K0 hK => ?_) ?_
  rotate_left
  · exact AllReadyH.nil
  go_simp
  refine (wbyte_any B b (l ++ [92, 117, 48, 48] ++ [(⟨#[48, 49, 50, 51, 52, 53, 54, 55, 56, 57, 97, 98, 99, 100, 101, 102]⟩ : ByteArray)[hi]'(dig_lt hi16)]) c2 c3 c4 c5 ((⟨#[48, 49, 50, 51, 52, 53, 54, 55, 56, 57, 97, 98, 99, 100, 101, 102]⟩ : ByteArray)[lo]'(dig_lt lo16)) _ rfl _ H2.out.drewW (by first | omega | (simp; omega)) hs2).mono ?_
  rintro e w3 ⟨rfl, h3, k3⟩
  have H3 := Lib.hid h3
  have K3 := Lib.hid (K2.out.trans (KeptW.drewK k3))
  have hs3 := Nat.le_trans hs2 (KeptW.size (KeptW.drewK k3))
  clear h3 k3
  go_wp2_with fail
  refine hK.out _ _ ?_ (fun hHeld => ?_)
  · trivial
  clear hK K0
  try simp only [Act.put, List.getElem_toArray, List.getElem_cons_succ, List.getElem_cons_zero, List.setIfInBounds_toArray, List.set_cons_zero, List.set_cons_succ]
  refine wpAnyH_done (by kernel_rfl) ?_ _
  go_wp2_with fail
  go_end0
  exact ⟨rfl, by rw [HES.out]; have := H3.out; rwa [List.append_assoc, List.append_assoc] at this, K3.out⟩
set_option maxHeartbeats 2000000 in
set_option maxRecDepth 100000 in
theorem char_plain (c : UInt8) (h32 : 32 ≤ c.toNat) (h34 : c.toNat ≠ 34) (h92 : c.toNat ≠ 92) (B b : Nat) (l : List UInt8) (c2 c3 c4 c5 : Value) (w : World) (h : Wr B b l c2 c3 c4 c5 w) (hlen : l.length ≤ 800000) (hBw : B ≤ w.heap.size) :
    Calls Tryz.prog 116 #[.pointer (some ⟨b, 0, none⟩), .int .u8 c.toNat] w (CharPost B b l c c2 c3 c4 c5 w) := by
  have hidx : Lib.indexByte [34, 92, 8, 12, 10, 13, 9] (c.toNat : Int).toNat.toUInt8 = -1 := by
    rw [show ((c.toNat : Int)).toNat.toUInt8 = c by simp, Q.idx_of, if_neg h34, if_neg h92, if_neg (by omega), if_neg (by omega), if_neg (by omega), if_neg (by omega), if_neg (by omega)]
  have hesc : Q.esc c = [c] := by
    unfold Q.esc
    have ne : ∀ d : UInt8, c.toNat ≠ d.toNat → c ≠ d := fun d h e => h (by rw [e])
    rw [if_neg (ne 34 h34), if_neg (ne 92 h92), if_neg (ne 8 (by show c.toNat ≠ 8; omega)), if_neg (ne 12 (by show c.toNat ≠ 12; omega)), if_neg (ne 10 (by show c.toNat ≠ 10; omega)), if_neg (ne 13 (by show c.toNat ≠ 13; omega)), if_neg (ne 9 (by show c.toNat ≠ 9; omega)), if_neg (fun (e : c < 32) => by have : c.toNat < 32 := e; omega)]
  have u1 : decide ((c.toNat : Int) < 32) = false := decide_eq_false (by omega)
  have u2 : decide (c.toNat < 32) = false := decide_eq_false (by omega)
  have HI := Lib.hid (idx7 (c.toNat : Int) (-1) w hidx)
  have H := Lib.hid h
  clear h hidx h34 h92 h32
  go_enter Tryz.func116, Tryz.ntmps116
  go_wp2_with fail
  refine HI.out.mono ?_
  rintro e w1 ⟨rfl, rfl⟩
  go_wp2_with fail
  refine (wbyte_any B b l c2 c3 c4 c5 c _ rfl _ H.out (by omega) hBw).mono ?_
  rintro e w1 ⟨rfl, h1, k1⟩
  have H1 := Lib.hid h1
  have K1 := Lib.hid k1
  clear h1 k1
  go_wp2_with fail
  go_end0
  exact ⟨rfl, by rw [hesc]; exact H1.out, K1.out⟩
set_option maxHeartbeats 2000000 in
set_option maxRecDepth 100000 in
theorem char_34 (B b : Nat) (l : List UInt8) (c2 c3 c4 c5 : Value) (w : World) (h : Wr B b l c2 c3 c4 c5 w) (hlen : l.length ≤ 800000) (hBw : B ≤ w.heap.size) :
    Calls Tryz.prog 116 #[.pointer (some ⟨b, 0, none⟩), .int .u8 34] w (CharPost B b l 34 c2 c3 c4 c5 w) := by
  have hs0 := hBw
  have H := Lib.hid h
  clear h
  go_enter Tryz.func116, Tryz.ntmps116
  go_wp2_with fail
  refine (idx7 34 (0) w (by decide)).mono ?_
  rintro e w1 ⟨rfl, rfl⟩
  go_wp2_with fail
  refine (wbyte_any B b (l) c2 c3 c4 c5 92 _ rfl _ H.out (by first | omega | (simp; omega)) hs0).mono ?_
  rintro e w1 ⟨rfl, h1, k1⟩
  have H1 := Lib.hid h1
  have K1 := Lib.hid (k1)
  have hs1 := Nat.le_trans hs0 (KeptW.size k1)
  clear h1 k1
  go_wp2_with fail
  refine wp_region_held_drew (S := fun _ => True) (by kernel_rfl) ?_ (fun hHeld => ?_)
  · trivial
  refine wpAnyH_take (i := 0) (v := ?_) rfl (by kernel_rfl) (by kernel_rfl) (by kernel_rfl) (fun _ _ _ h => h) (Or.inl ⟨by rfl, ?_⟩) (by assumption) ?_
  rotate_left
  · intro wq hSw
    try dsimp only at hSw
    go_simp
    try (with_reducible rfl)
  try simp only [Act.put, List.getElem_toArray, List.getElem_cons_zero, List.setIfInBounds_toArray, List.set_cons_zero, List.set_cons_succ]
  refine wpAnyH_take (i := 1) (v := ?_) rfl (by kernel_rfl) (by kernel_rfl) (by kernel_rfl) (fun _ _ _ h => h) (Or.inl ⟨by rfl, ?_⟩) (by assumption) ?_
  rotate_left
  · intro wq hSw
    try dsimp only at hSw
    go_simp
    try (with_reducible rfl)
  try simp only [Act.put, List.getElem_toArray, List.getElem_cons_succ, List.getElem_cons_zero, List.setIfInBounds_toArray, List.set_cons_zero, List.set_cons_succ]
  refine wpAnyH_take (i := 2) (v := ?_) rfl (by kernel_rfl) (by kernel_rfl) (by kernel_rfl) (fun _ _ _ h => h) (Or.inl ⟨by rfl, ?_⟩) (by assumption) ?_
  rotate_left
  · intro wq hSw
    try dsimp only at hSw
    go_simp
    try (with_reducible rfl)
  try simp only [Act.put, List.getElem_toArray, List.getElem_cons_succ, List.getElem_cons_zero, List.setIfInBounds_toArray, List.set_cons_zero, List.set_cons_succ]
  refine wpAnyH_take (i := 3) (v := ?_) rfl (by kernel_rfl) (by kernel_rfl) (by kernel_rfl) (fun _ _ _ h => h) (Or.inl ⟨by rfl, ?_⟩) (by assumption) ?_
  rotate_left
  · intro wq hSw
    try dsimp only at hSw
    go_simp
    try (with_reducible rfl)
  try simp only [Act.put, List.getElem_toArray, List.getElem_cons_succ, List.getElem_cons_zero, List.setIfInBounds_toArray, List.set_cons_zero, List.set_cons_succ]
  refine wpAnyH_take (i := 4) (v := ?_) rfl (by kernel_rfl) (by kernel_rfl) (by kernel_rfl) (fun _ _ _ h => h) (Or.inl ⟨by rfl, ?_⟩) (by assumption) ?_
  rotate_left
  · intro wq hSw
    try dsimp only at hSw
    go_simp
    try (with_reducible rfl)
  try simp only [Act.put, List.getElem_toArray, List.getElem_cons_succ, List.getElem_cons_zero, List.setIfInBounds_toArray, List.set_cons_zero, List.set_cons_succ]
  refine wpAnyH_ready (rs := [5]) (by kernel_rfl) (by simp) ?_
  refine AllReadyH.cons rfl (fun K0 hK => ?_) ?_
  rotate_left
  · exact AllReadyH.nil
  go_simp
  refine (wbyte_any B b (l ++ [92]) c2 c3 c4 c5 34 _ rfl _ H1.out.drewW (by first | omega | (simp; omega)) hs1).mono ?_
  rintro e w2 ⟨rfl, h2, k2⟩
  have H2 := Lib.hid h2
  have K2 := Lib.hid (K1.out.trans (KeptW.drewK k2))
  have hs2 := Nat.le_trans hs1 (KeptW.size (KeptW.drewK k2))
  clear h2 k2
  go_wp2_with fail
  refine hK.out _ _ ?_ (fun hHeld => ?_)
  · trivial
  clear hK K0
  try simp only [Act.put, List.getElem_toArray, List.getElem_cons_succ, List.getElem_cons_zero, List.setIfInBounds_toArray, List.set_cons_zero, List.set_cons_succ]
  refine wpAnyH_done (by kernel_rfl) ?_ _
  go_wp2_with fail
  go_end0
  exact ⟨rfl, by have := H2.out; rwa [List.append_assoc] at this, K2.out⟩
set_option maxHeartbeats 2000000 in
set_option maxRecDepth 100000 in
theorem char_92 (B b : Nat) (l : List UInt8) (c2 c3 c4 c5 : Value) (w : World) (h : Wr B b l c2 c3 c4 c5 w) (hlen : l.length ≤ 800000) (hBw : B ≤ w.heap.size) :
    Calls Tryz.prog 116 #[.pointer (some ⟨b, 0, none⟩), .int .u8 92] w (CharPost B b l 92 c2 c3 c4 c5 w) := by
  have hs0 := hBw
  have H := Lib.hid h
  clear h
  go_enter Tryz.func116, Tryz.ntmps116
  go_wp2_with fail
  refine (idx7 92 (1) w (by decide)).mono ?_
  rintro e w1 ⟨rfl, rfl⟩
  go_wp2_with fail
  refine (wbyte_any B b (l) c2 c3 c4 c5 92 _ rfl _ H.out (by first | omega | (simp; omega)) hs0).mono ?_
  rintro e w1 ⟨rfl, h1, k1⟩
  have H1 := Lib.hid h1
  have K1 := Lib.hid (k1)
  have hs1 := Nat.le_trans hs0 (KeptW.size k1)
  clear h1 k1
  go_wp2_with fail
  refine wp_region_held_drew (S := fun _ => True) (by kernel_rfl) ?_ (fun hHeld => ?_)
  · trivial
  refine wpAnyH_take (i := 0) (v := ?_) rfl (by kernel_rfl) (by kernel_rfl) (by kernel_rfl) (fun _ _ _ h => h) (Or.inl ⟨by rfl, ?_⟩) (by assumption) ?_
  rotate_left
  · intro wq hSw
    try dsimp only at hSw
    go_simp
    try (with_reducible rfl)
  try simp only [Act.put, List.getElem_toArray, List.getElem_cons_zero, List.setIfInBounds_toArray, List.set_cons_zero, List.set_cons_succ]
  refine wpAnyH_take (i := 1) (v := ?_) rfl (by kernel_rfl) (by kernel_rfl) (by kernel_rfl) (fun _ _ _ h => h) (Or.inl ⟨by rfl, ?_⟩) (by assumption) ?_
  rotate_left
  · intro wq hSw
    try dsimp only at hSw
    go_simp
    try (with_reducible rfl)
  try simp only [Act.put, List.getElem_toArray, List.getElem_cons_succ, List.getElem_cons_zero, List.setIfInBounds_toArray, List.set_cons_zero, List.set_cons_succ]
  refine wpAnyH_take (i := 2) (v := ?_) rfl (by kernel_rfl) (by kernel_rfl) (by kernel_rfl) (fun _ _ _ h => h) (Or.inl ⟨by rfl, ?_⟩) (by assumption) ?_
  rotate_left
  · intro wq hSw
    try dsimp only at hSw
    go_simp
    try (with_reducible rfl)
  try simp only [Act.put, List.getElem_toArray, List.getElem_cons_succ, List.getElem_cons_zero, List.setIfInBounds_toArray, List.set_cons_zero, List.set_cons_succ]
  refine wpAnyH_take (i := 3) (v := ?_) rfl (by kernel_rfl) (by kernel_rfl) (by kernel_rfl) (fun _ _ _ h => h) (Or.inl ⟨by rfl, ?_⟩) (by assumption) ?_
  rotate_left
  · intro wq hSw
    try dsimp only at hSw
    go_simp
    try (with_reducible rfl)
  try simp only [Act.put, List.getElem_toArray, List.getElem_cons_succ, List.getElem_cons_zero, List.setIfInBounds_toArray, List.set_cons_zero, List.set_cons_succ]
  refine wpAnyH_take (i := 4) (v := ?_) rfl (by kernel_rfl) (by kernel_rfl) (by kernel_rfl) (fun _ _ _ h => h) (Or.inl ⟨by rfl, ?_⟩) (by assumption) ?_
  rotate_left
  · intro wq hSw
    try dsimp only at hSw
    go_simp
    try (with_reducible rfl)
  try simp only [Act.put, List.getElem_toArray, List.getElem_cons_succ, List.getElem_cons_zero, List.setIfInBounds_toArray, List.set_cons_zero, List.set_cons_succ]
  refine wpAnyH_ready (rs := [5]) (by kernel_rfl) (by simp) ?_
  refine AllReadyH.cons rfl (fun K0 hK => ?_) ?_
  rotate_left
  · exact AllReadyH.nil
  go_simp
  refine (wbyte_any B b (l ++ [92]) c2 c3 c4 c5 92 _ rfl _ H1.out.drewW (by first | omega | (simp; omega)) hs1).mono ?_
  rintro e w2 ⟨rfl, h2, k2⟩
  have H2 := Lib.hid h2
  have K2 := Lib.hid (K1.out.trans (KeptW.drewK k2))
  have hs2 := Nat.le_trans hs1 (KeptW.size (KeptW.drewK k2))
  clear h2 k2
  go_wp2_with fail
  refine hK.out _ _ ?_ (fun hHeld => ?_)
  · trivial
  clear hK K0
  try simp only [Act.put, List.getElem_toArray, List.getElem_cons_succ, List.getElem_cons_zero, List.setIfInBounds_toArray, List.set_cons_zero, List.set_cons_succ]
  refine wpAnyH_done (by kernel_rfl) ?_ _
  go_wp2_with fail
  go_end0
  exact ⟨rfl, by have := H2.out; rwa [List.append_assoc] at this, K2.out⟩
set_option maxHeartbeats 2000000 in
set_option maxRecDepth 100000 in
theorem char_8 (B b : Nat) (l : List UInt8) (c2 c3 c4 c5 : Value) (w : World) (h : Wr B b l c2 c3 c4 c5 w) (hlen : l.length ≤ 800000) (hBw : B ≤ w.heap.size) :
    Calls Tryz.prog 116 #[.pointer (some ⟨b, 0, none⟩), .int .u8 8] w (CharPost B b l 8 c2 c3 c4 c5 w) := by
  have hs0 := hBw
  have H := Lib.hid h
  clear h
  go_enter Tryz.func116, Tryz.ntmps116
  go_wp2_with fail
  refine (idx7 8 (2) w (by decide)).mono ?_
  rintro e w1 ⟨rfl, rfl⟩
  go_wp2_with fail
  refine (wbyte_any B b (l) c2 c3 c4 c5 92 _ rfl _ H.out (by first | omega | (simp; omega)) hs0).mono ?_
  rintro e w1 ⟨rfl, h1, k1⟩
  have H1 := Lib.hid h1
  have K1 := Lib.hid (k1)
  have hs1 := Nat.le_trans hs0 (KeptW.size k1)
  clear h1 k1
  go_wp2_with fail
  refine wp_region_held_drew (S := fun _ => True) (by kernel_rfl) ?_ (fun hHeld => ?_)
  · trivial
  refine wpAnyH_take (i := 0) (v := ?_) rfl (by kernel_rfl) (by kernel_rfl) (by kernel_rfl) (fun _ _ _ h => h) (Or.inl ⟨by rfl, ?_⟩) (by assumption) ?_
  rotate_left
  · intro wq hSw
    try dsimp only at hSw
    go_simp
    try (with_reducible rfl)
  try simp only [Act.put, List.getElem_toArray, List.getElem_cons_zero, List.setIfInBounds_toArray, List.set_cons_zero, List.set_cons_succ]
  refine wpAnyH_take (i := 1) (v := ?_) rfl (by kernel_rfl) (by kernel_rfl) (by kernel_rfl) (fun _ _ _ h => h) (Or.inl ⟨by rfl, ?_⟩) (by assumption) ?_
  rotate_left
  · intro wq hSw
    try dsimp only at hSw
    go_simp
    try (with_reducible rfl)
  try simp only [Act.put, List.getElem_toArray, List.getElem_cons_succ, List.getElem_cons_zero, List.setIfInBounds_toArray, List.set_cons_zero, List.set_cons_succ]
  refine wpAnyH_take (i := 2) (v := ?_) rfl (by kernel_rfl) (by kernel_rfl) (by kernel_rfl) (fun _ _ _ h => h) (Or.inl ⟨by rfl, ?_⟩) (by assumption) ?_
  rotate_left
  · intro wq hSw
    try dsimp only at hSw
    go_simp
    try (with_reducible rfl)
  try simp only [Act.put, List.getElem_toArray, List.getElem_cons_succ, List.getElem_cons_zero, List.setIfInBounds_toArray, List.set_cons_zero, List.set_cons_succ]
  refine wpAnyH_take (i := 3) (v := ?_) rfl (by kernel_rfl) (by kernel_rfl) (by kernel_rfl) (fun _ _ _ h => h) (Or.inl ⟨by rfl, ?_⟩) (by assumption) ?_
  rotate_left
  · intro wq hSw
    try dsimp only at hSw
    go_simp
    try (with_reducible rfl)
  try simp only [Act.put, List.getElem_toArray, List.getElem_cons_succ, List.getElem_cons_zero, List.setIfInBounds_toArray, List.set_cons_zero, List.set_cons_succ]
  refine wpAnyH_take (i := 4) (v := ?_) rfl (by kernel_rfl) (by kernel_rfl) (by kernel_rfl) (fun _ _ _ h => h) (Or.inl ⟨by rfl, ?_⟩) (by assumption) ?_
  rotate_left
  · intro wq hSw
    try dsimp only at hSw
    go_simp
    try (with_reducible rfl)
  try simp only [Act.put, List.getElem_toArray, List.getElem_cons_succ, List.getElem_cons_zero, List.setIfInBounds_toArray, List.set_cons_zero, List.set_cons_succ]
  refine wpAnyH_ready (rs := [5]) (by kernel_rfl) (by simp) ?_
  refine AllReadyH.cons rfl (fun K0 hK => ?_) ?_
  rotate_left
  · exact AllReadyH.nil
  go_simp
  refine (wbyte_any B b (l ++ [92]) c2 c3 c4 c5 98 _ rfl _ H1.out.drewW (by first | omega | (simp; omega)) hs1).mono ?_
  rintro e w2 ⟨rfl, h2, k2⟩
  have H2 := Lib.hid h2
  have K2 := Lib.hid (K1.out.trans (KeptW.drewK k2))
  have hs2 := Nat.le_trans hs1 (KeptW.size (KeptW.drewK k2))
  clear h2 k2
  go_wp2_with fail
  refine hK.out _ _ ?_ (fun hHeld => ?_)
  · trivial
  clear hK K0
  try simp only [Act.put, List.getElem_toArray, List.getElem_cons_succ, List.getElem_cons_zero, List.setIfInBounds_toArray, List.set_cons_zero, List.set_cons_succ]
  refine wpAnyH_done (by kernel_rfl) ?_ _
  go_wp2_with fail
  go_end0
  exact ⟨rfl, by have := H2.out; rwa [List.append_assoc] at this, K2.out⟩
set_option maxHeartbeats 2000000 in
set_option maxRecDepth 100000 in
theorem char_12 (B b : Nat) (l : List UInt8) (c2 c3 c4 c5 : Value) (w : World) (h : Wr B b l c2 c3 c4 c5 w) (hlen : l.length ≤ 800000) (hBw : B ≤ w.heap.size) :
    Calls Tryz.prog 116 #[.pointer (some ⟨b, 0, none⟩), .int .u8 12] w (CharPost B b l 12 c2 c3 c4 c5 w) := by
  have hs0 := hBw
  have H := Lib.hid h
  clear h
  go_enter Tryz.func116, Tryz.ntmps116
  go_wp2_with fail
  refine (idx7 12 (3) w (by decide)).mono ?_
  rintro e w1 ⟨rfl, rfl⟩
  go_wp2_with fail
  refine (wbyte_any B b (l) c2 c3 c4 c5 92 _ rfl _ H.out (by first | omega | (simp; omega)) hs0).mono ?_
  rintro e w1 ⟨rfl, h1, k1⟩
  have H1 := Lib.hid h1
  have K1 := Lib.hid (k1)
  have hs1 := Nat.le_trans hs0 (KeptW.size k1)
  clear h1 k1
  go_wp2_with fail
  refine wp_region_held_drew (S := fun _ => True) (by kernel_rfl) ?_ (fun hHeld => ?_)
  · trivial
  refine wpAnyH_take (i := 0) (v := ?_) rfl (by kernel_rfl) (by kernel_rfl) (by kernel_rfl) (fun _ _ _ h => h) (Or.inl ⟨by rfl, ?_⟩) (by assumption) ?_
  rotate_left
  · intro wq hSw
    try dsimp only at hSw
    go_simp
    try (with_reducible rfl)
  try simp only [Act.put, List.getElem_toArray, List.getElem_cons_zero, List.setIfInBounds_toArray, List.set_cons_zero, List.set_cons_succ]
  refine wpAnyH_take (i := 1) (v := ?_) rfl (by kernel_rfl) (by kernel_rfl) (by kernel_rfl) (fun _ _ _ h => h) (Or.inl ⟨by rfl, ?_⟩) (by assumption) ?_
  rotate_left
  · intro wq hSw
    try dsimp only at hSw
    go_simp
    try (with_reducible rfl)
  try simp only [Act.put, List.getElem_toArray, List.getElem_cons_succ, List.getElem_cons_zero, List.setIfInBounds_toArray, List.set_cons_zero, List.set_cons_succ]
  refine wpAnyH_take (i := 2) (v := ?_) rfl (by kernel_rfl) (by kernel_rfl) (by kernel_rfl) (fun _ _ _ h => h) (Or.inl ⟨by rfl, ?_⟩) (by assumption) ?_
  rotate_left
  · intro wq hSw
    try dsimp only at hSw
    go_simp
    try (with_reducible rfl)
  try simp only [Act.put, List.getElem_toArray, List.getElem_cons_succ, List.getElem_cons_zero, List.setIfInBounds_toArray, List.set_cons_zero, List.set_cons_succ]
  refine wpAnyH_take (i := 3) (v := ?_) rfl (by kernel_rfl) (by kernel_rfl) (by kernel_rfl) (fun _ _ _ h => h) (Or.inl ⟨by rfl, ?_⟩) (by assumption) ?_
  rotate_left
  · intro wq hSw
    try dsimp only at hSw
    go_simp
    try (with_reducible rfl)
  try simp only [Act.put, List.getElem_toArray, List.getElem_cons_succ, List.getElem_cons_zero, List.setIfInBounds_toArray, List.set_cons_zero, List.set_cons_succ]
  refine wpAnyH_take (i := 4) (v := ?_) rfl (by kernel_rfl) (by kernel_rfl) (by kernel_rfl) (fun _ _ _ h => h) (Or.inl ⟨by rfl, ?_⟩) (by assumption) ?_
  rotate_left
  · intro wq hSw
    try dsimp only at hSw
    go_simp
    try (with_reducible rfl)
  try simp only [Act.put, List.getElem_toArray, List.getElem_cons_succ, List.getElem_cons_zero, List.setIfInBounds_toArray, List.set_cons_zero, List.set_cons_succ]
  refine wpAnyH_ready (rs := [5]) (by kernel_rfl) (by simp) ?_
  refine AllReadyH.cons rfl (fun K0 hK => ?_) ?_
  rotate_left
  · exact AllReadyH.nil
  go_simp
  refine (wbyte_any B b (l ++ [92]) c2 c3 c4 c5 102 _ rfl _ H1.out.drewW (by first | omega | (simp; omega)) hs1).mono ?_
  rintro e w2 ⟨rfl, h2, k2⟩
  have H2 := Lib.hid h2
  have K2 := Lib.hid (K1.out.trans (KeptW.drewK k2))
  have hs2 := Nat.le_trans hs1 (KeptW.size (KeptW.drewK k2))
  clear h2 k2
  go_wp2_with fail
  refine hK.out _ _ ?_ (fun hHeld => ?_)
  · trivial
  clear hK K0
  try simp only [Act.put, List.getElem_toArray, List.getElem_cons_succ, List.getElem_cons_zero, List.setIfInBounds_toArray, List.set_cons_zero, List.set_cons_succ]
  refine wpAnyH_done (by kernel_rfl) ?_ _
  go_wp2_with fail
  go_end0
  exact ⟨rfl, by have := H2.out; rwa [List.append_assoc] at this, K2.out⟩
set_option maxHeartbeats 2000000 in
set_option maxRecDepth 100000 in
theorem char_10 (B b : Nat) (l : List UInt8) (c2 c3 c4 c5 : Value) (w : World) (h : Wr B b l c2 c3 c4 c5 w) (hlen : l.length ≤ 800000) (hBw : B ≤ w.heap.size) :
    Calls Tryz.prog 116 #[.pointer (some ⟨b, 0, none⟩), .int .u8 10] w (CharPost B b l 10 c2 c3 c4 c5 w) := by
  have hs0 := hBw
  have H := Lib.hid h
  clear h
  go_enter Tryz.func116, Tryz.ntmps116
  go_wp2_with fail
  refine (idx7 10 (4) w (by decide)).mono ?_
  rintro e w1 ⟨rfl, rfl⟩
  go_wp2_with fail
  refine (wbyte_any B b (l) c2 c3 c4 c5 92 _ rfl _ H.out (by first | omega | (simp; omega)) hs0).mono ?_
  rintro e w1 ⟨rfl, h1, k1⟩
  have H1 := Lib.hid h1
  have K1 := Lib.hid (k1)
  have hs1 := Nat.le_trans hs0 (KeptW.size k1)
  clear h1 k1
  go_wp2_with fail
  refine wp_region_held_drew (S := fun _ => True) (by kernel_rfl) ?_ (fun hHeld => ?_)
  · trivial
  refine wpAnyH_take (i := 0) (v := ?_) rfl (by kernel_rfl) (by kernel_rfl) (by kernel_rfl) (fun _ _ _ h => h) (Or.inl ⟨by rfl, ?_⟩) (by assumption) ?_
  rotate_left
  · intro wq hSw
    try dsimp only at hSw
    go_simp
    try (with_reducible rfl)
  try simp only [Act.put, List.getElem_toArray, List.getElem_cons_zero, List.setIfInBounds_toArray, List.set_cons_zero, List.set_cons_succ]
  refine wpAnyH_take (i := 1) (v := ?_) rfl (by kernel_rfl) (by kernel_rfl) (by kernel_rfl) (fun _ _ _ h => h) (Or.inl ⟨by rfl, ?_⟩) (by assumption) ?_
  rotate_left
  · intro wq hSw
    try dsimp only at hSw
    go_simp
    try (with_reducible rfl)
  try simp only [Act.put, List.getElem_toArray, List.getElem_cons_succ, List.getElem_cons_zero, List.setIfInBounds_toArray, List.set_cons_zero, List.set_cons_succ]
  refine wpAnyH_take (i := 2) (v := ?_) rfl (by kernel_rfl) (by kernel_rfl) (by kernel_rfl) (fun _ _ _ h => h) (Or.inl ⟨by rfl, ?_⟩) (by assumption) ?_
  rotate_left
  · intro wq hSw
    try dsimp only at hSw
    go_simp
    try (with_reducible rfl)
  try simp only [Act.put, List.getElem_toArray, List.getElem_cons_succ, List.getElem_cons_zero, List.setIfInBounds_toArray, List.set_cons_zero, List.set_cons_succ]
  refine wpAnyH_take (i := 3) (v := ?_) rfl (by kernel_rfl) (by kernel_rfl) (by kernel_rfl) (fun _ _ _ h => h) (Or.inl ⟨by rfl, ?_⟩) (by assumption) ?_
  rotate_left
  · intro wq hSw
    try dsimp only at hSw
    go_simp
    try (with_reducible rfl)
  try simp only [Act.put, List.getElem_toArray, List.getElem_cons_succ, List.getElem_cons_zero, List.setIfInBounds_toArray, List.set_cons_zero, List.set_cons_succ]
  refine wpAnyH_take (i := 4) (v := ?_) rfl (by kernel_rfl) (by kernel_rfl) (by kernel_rfl) (fun _ _ _ h => h) (Or.inl ⟨by rfl, ?_⟩) (by assumption) ?_
  rotate_left
  · intro wq hSw
    try dsimp only at hSw
    go_simp
    try (with_reducible rfl)
  try simp only [Act.put, List.getElem_toArray, List.getElem_cons_succ, List.getElem_cons_zero, List.setIfInBounds_toArray, List.set_cons_zero, List.set_cons_succ]
  refine wpAnyH_ready (rs := [5]) (by kernel_rfl) (by simp) ?_
  refine AllReadyH.cons rfl (fun K0 hK => ?_) ?_
  rotate_left
  · exact AllReadyH.nil
  go_simp
  refine (wbyte_any B b (l ++ [92]) c2 c3 c4 c5 110 _ rfl _ H1.out.drewW (by first | omega | (simp; omega)) hs1).mono ?_
  rintro e w2 ⟨rfl, h2, k2⟩
  have H2 := Lib.hid h2
  have K2 := Lib.hid (K1.out.trans (KeptW.drewK k2))
  have hs2 := Nat.le_trans hs1 (KeptW.size (KeptW.drewK k2))
  clear h2 k2
  go_wp2_with fail
  refine hK.out _ _ ?_ (fun hHeld => ?_)
  · trivial
  clear hK K0
  try simp only [Act.put, List.getElem_toArray, List.getElem_cons_succ, List.getElem_cons_zero, List.setIfInBounds_toArray, List.set_cons_zero, List.set_cons_succ]
  refine wpAnyH_done (by kernel_rfl) ?_ _
  go_wp2_with fail
  go_end0
  exact ⟨rfl, by have := H2.out; rwa [List.append_assoc] at this, K2.out⟩
set_option maxHeartbeats 2000000 in
set_option maxRecDepth 100000 in
theorem char_13 (B b : Nat) (l : List UInt8) (c2 c3 c4 c5 : Value) (w : World) (h : Wr B b l c2 c3 c4 c5 w) (hlen : l.length ≤ 800000) (hBw : B ≤ w.heap.size) :
    Calls Tryz.prog 116 #[.pointer (some ⟨b, 0, none⟩), .int .u8 13] w (CharPost B b l 13 c2 c3 c4 c5 w) := by
  have hs0 := hBw
  have H := Lib.hid h
  clear h
  go_enter Tryz.func116, Tryz.ntmps116
  go_wp2_with fail
  refine (idx7 13 (5) w (by decide)).mono ?_
  rintro e w1 ⟨rfl, rfl⟩
  go_wp2_with fail
  refine (wbyte_any B b (l) c2 c3 c4 c5 92 _ rfl _ H.out (by first | omega | (simp; omega)) hs0).mono ?_
  rintro e w1 ⟨rfl, h1, k1⟩
  have H1 := Lib.hid h1
  have K1 := Lib.hid (k1)
  have hs1 := Nat.le_trans hs0 (KeptW.size k1)
  clear h1 k1
  go_wp2_with fail
  refine wp_region_held_drew (S := fun _ => True) (by kernel_rfl) ?_ (fun hHeld => ?_)
  · trivial
  refine wpAnyH_take (i := 0) (v := ?_) rfl (by kernel_rfl) (by kernel_rfl) (by kernel_rfl) (fun _ _ _ h => h) (Or.inl ⟨by rfl, ?_⟩) (by assumption) ?_
  rotate_left
  · intro wq hSw
    try dsimp only at hSw
    go_simp
    try (with_reducible rfl)
  try simp only [Act.put, List.getElem_toArray, List.getElem_cons_zero, List.setIfInBounds_toArray, List.set_cons_zero, List.set_cons_succ]
  refine wpAnyH_take (i := 1) (v := ?_) rfl (by kernel_rfl) (by kernel_rfl) (by kernel_rfl) (fun _ _ _ h => h) (Or.inl ⟨by rfl, ?_⟩) (by assumption) ?_
  rotate_left
  · intro wq hSw
    try dsimp only at hSw
    go_simp
    try (with_reducible rfl)
  try simp only [Act.put, List.getElem_toArray, List.getElem_cons_succ, List.getElem_cons_zero, List.setIfInBounds_toArray, List.set_cons_zero, List.set_cons_succ]
  refine wpAnyH_take (i := 2) (v := ?_) rfl (by kernel_rfl) (by kernel_rfl) (by kernel_rfl) (fun _ _ _ h => h) (Or.inl ⟨by rfl, ?_⟩) (by assumption) ?_
  rotate_left
  · intro wq hSw
    try dsimp only at hSw
    go_simp
    try (with_reducible rfl)
  try simp only [Act.put, List.getElem_toArray, List.getElem_cons_succ, List.getElem_cons_zero, List.setIfInBounds_toArray, List.set_cons_zero, List.set_cons_succ]
  refine wpAnyH_take (i := 3) (v := ?_) rfl (by kernel_rfl) (by kernel_rfl) (by kernel_rfl) (fun _ _ _ h => h) (Or.inl ⟨by rfl, ?_⟩) (by assumption) ?_
  rotate_left
  · intro wq hSw
    try dsimp only at hSw
    go_simp
    try (with_reducible rfl)
  try simp only [Act.put, List.getElem_toArray, List.getElem_cons_succ, List.getElem_cons_zero, List.setIfInBounds_toArray, List.set_cons_zero, List.set_cons_succ]
  refine wpAnyH_take (i := 4) (v := ?_) rfl (by kernel_rfl) (by kernel_rfl) (by kernel_rfl) (fun _ _ _ h => h) (Or.inl ⟨by rfl, ?_⟩) (by assumption) ?_
  rotate_left
  · intro wq hSw
    try dsimp only at hSw
    go_simp
    try (with_reducible rfl)
  try simp only [Act.put, List.getElem_toArray, List.getElem_cons_succ, List.getElem_cons_zero, List.setIfInBounds_toArray, List.set_cons_zero, List.set_cons_succ]
  refine wpAnyH_ready (rs := [5]) (by kernel_rfl) (by simp) ?_
  refine AllReadyH.cons rfl (fun K0 hK => ?_) ?_
  rotate_left
  · exact AllReadyH.nil
  go_simp
  refine (wbyte_any B b (l ++ [92]) c2 c3 c4 c5 114 _ rfl _ H1.out.drewW (by first | omega | (simp; omega)) hs1).mono ?_
  rintro e w2 ⟨rfl, h2, k2⟩
  have H2 := Lib.hid h2
  have K2 := Lib.hid (K1.out.trans (KeptW.drewK k2))
  have hs2 := Nat.le_trans hs1 (KeptW.size (KeptW.drewK k2))
  clear h2 k2
  go_wp2_with fail
  refine hK.out _ _ ?_ (fun hHeld => ?_)
  · trivial
  clear hK K0
  try simp only [Act.put, List.getElem_toArray, List.getElem_cons_succ, List.getElem_cons_zero, List.setIfInBounds_toArray, List.set_cons_zero, List.set_cons_succ]
  refine wpAnyH_done (by kernel_rfl) ?_ _
  go_wp2_with fail
  go_end0
  exact ⟨rfl, by have := H2.out; rwa [List.append_assoc] at this, K2.out⟩
set_option maxHeartbeats 2000000 in
set_option maxRecDepth 100000 in
theorem char_9 (B b : Nat) (l : List UInt8) (c2 c3 c4 c5 : Value) (w : World) (h : Wr B b l c2 c3 c4 c5 w) (hlen : l.length ≤ 800000) (hBw : B ≤ w.heap.size) :
    Calls Tryz.prog 116 #[.pointer (some ⟨b, 0, none⟩), .int .u8 9] w (CharPost B b l 9 c2 c3 c4 c5 w) := by
  have hs0 := hBw
  have H := Lib.hid h
  clear h
  go_enter Tryz.func116, Tryz.ntmps116
  go_wp2_with fail
  refine (idx7 9 (6) w (by decide)).mono ?_
  rintro e w1 ⟨rfl, rfl⟩
  go_wp2_with fail
  refine (wbyte_any B b (l) c2 c3 c4 c5 92 _ rfl _ H.out (by first | omega | (simp; omega)) hs0).mono ?_
  rintro e w1 ⟨rfl, h1, k1⟩
  have H1 := Lib.hid h1
  have K1 := Lib.hid (k1)
  have hs1 := Nat.le_trans hs0 (KeptW.size k1)
  clear h1 k1
  go_wp2_with fail
  refine wp_region_held_drew (S := fun _ => True) (by kernel_rfl) ?_ (fun hHeld => ?_)
  · trivial
  refine wpAnyH_take (i := 0) (v := ?_) rfl (by kernel_rfl) (by kernel_rfl) (by kernel_rfl) (fun _ _ _ h => h) (Or.inl ⟨by rfl, ?_⟩) (by assumption) ?_
  rotate_left
  · intro wq hSw
    try dsimp only at hSw
    go_simp
    try (with_reducible rfl)
  try simp only [Act.put, List.getElem_toArray, List.getElem_cons_zero, List.setIfInBounds_toArray, List.set_cons_zero, List.set_cons_succ]
  refine wpAnyH_take (i := 1) (v := ?_) rfl (by kernel_rfl) (by kernel_rfl) (by kernel_rfl) (fun _ _ _ h => h) (Or.inl ⟨by rfl, ?_⟩) (by assumption) ?_
  rotate_left
  · intro wq hSw
    try dsimp only at hSw
    go_simp
    try (with_reducible rfl)
  try simp only [Act.put, List.getElem_toArray, List.getElem_cons_succ, List.getElem_cons_zero, List.setIfInBounds_toArray, List.set_cons_zero, List.set_cons_succ]
  refine wpAnyH_take (i := 2) (v := ?_) rfl (by kernel_rfl) (by kernel_rfl) (by kernel_rfl) (fun _ _ _ h => h) (Or.inl ⟨by rfl, ?_⟩) (by assumption) ?_
  rotate_left
  · intro wq hSw
    try dsimp only at hSw
    go_simp
    try (with_reducible rfl)
  try simp only [Act.put, List.getElem_toArray, List.getElem_cons_succ, List.getElem_cons_zero, List.setIfInBounds_toArray, List.set_cons_zero, List.set_cons_succ]
  refine wpAnyH_take (i := 3) (v := ?_) rfl (by kernel_rfl) (by kernel_rfl) (by kernel_rfl) (fun _ _ _ h => h) (Or.inl ⟨by rfl, ?_⟩) (by assumption) ?_
  rotate_left
  · intro wq hSw
    try dsimp only at hSw
    go_simp
    try (with_reducible rfl)
  try simp only [Act.put, List.getElem_toArray, List.getElem_cons_succ, List.getElem_cons_zero, List.setIfInBounds_toArray, List.set_cons_zero, List.set_cons_succ]
  refine wpAnyH_take (i := 4) (v := ?_) rfl (by kernel_rfl) (by kernel_rfl) (by kernel_rfl) (fun _ _ _ h => h) (Or.inl ⟨by rfl, ?_⟩) (by assumption) ?_
  rotate_left
  · intro wq hSw
    try dsimp only at hSw
    go_simp
    try (with_reducible rfl)
  try simp only [Act.put, List.getElem_toArray, List.getElem_cons_succ, List.getElem_cons_zero, List.setIfInBounds_toArray, List.set_cons_zero, List.set_cons_succ]
  refine wpAnyH_ready (rs := [5]) (by kernel_rfl) (by simp) ?_
  refine AllReadyH.cons rfl (fun K0 hK => ?_) ?_
  rotate_left
  · exact AllReadyH.nil
  go_simp
  refine (wbyte_any B b (l ++ [92]) c2 c3 c4 c5 116 _ rfl _ H1.out.drewW (by first | omega | (simp; omega)) hs1).mono ?_
  rintro e w2 ⟨rfl, h2, k2⟩
  have H2 := Lib.hid h2
  have K2 := Lib.hid (K1.out.trans (KeptW.drewK k2))
  have hs2 := Nat.le_trans hs1 (KeptW.size (KeptW.drewK k2))
  clear h2 k2
  go_wp2_with fail
  refine hK.out _ _ ?_ (fun hHeld => ?_)
  · trivial
  clear hK K0
  try simp only [Act.put, List.getElem_toArray, List.getElem_cons_succ, List.getElem_cons_zero, List.setIfInBounds_toArray, List.set_cons_zero, List.set_cons_succ]
  refine wpAnyH_done (by kernel_rfl) ?_ _
  go_wp2_with fail
  go_end0
  exact ⟨rfl, by have := H2.out; rwa [List.append_assoc] at this, K2.out⟩
theorem char_any7 (c : UInt8) (B b : Nat) (l : List UInt8) (c2 c3 c4 c5 : Value) (w : World) (h : Wr B b l c2 c3 c4 c5 w) (hlen : l.length ≤ 800000) (hBw : B ≤ w.heap.size) :
    Calls Tryz.prog 116 #[.pointer (some ⟨b, 0, none⟩), .int .u8 c.toNat] w (CharPost B b l c c2 c3 c4 c5 w) := by
  by_cases hp : 32 ≤ c.toNat ∧ c.toNat ≠ 34 ∧ c.toNat ≠ 92
  · exact char_plain c hp.1 hp.2.1 hp.2.2 B b l c2 c3 c4 c5 w h hlen hBw
  · by_cases hx : c.toNat < 32 ∧ c.toNat ≠ 8 ∧ c.toNat ≠ 9 ∧ c.toNat ≠ 10 ∧ c.toNat ≠ 12 ∧ c.toNat ≠ 13
    · exact char_hex c hx.1 hx.2.1 hx.2.2.1 hx.2.2.2.1 hx.2.2.2.2.1 hx.2.2.2.2.2 B b l c2 c3 c4 c5 w h hlen hBw
    have he : ∀ d : UInt8, c.toNat = d.toNat → c = d := fun d h => UInt8.toNat_inj.1 h
    have hc : c.toNat = 8 ∨ c.toNat = 9 ∨ c.toNat = 10 ∨ c.toNat = 12 ∨ c.toNat = 13 ∨ c.toNat = 34 ∨ c.toNat = 92 := by omega
    rcases hc with hc | hc | hc | hc | hc | hc | hc
    · cases he 8 hc; exact char_8 B b l c2 c3 c4 c5 w h hlen hBw
    · cases he 9 hc; exact char_9 B b l c2 c3 c4 c5 w h hlen hBw
    · cases he 10 hc; exact char_10 B b l c2 c3 c4 c5 w h hlen hBw
    · cases he 12 hc; exact char_12 B b l c2 c3 c4 c5 w h hlen hBw
    · cases he 13 hc; exact char_13 B b l c2 c3 c4 c5 w h hlen hBw
    · cases he 34 hc; exact char_34 B b l c2 c3 c4 c5 w h hlen hBw
    · cases he 92 hc; exact char_92 B b l c2 c3 c4 c5 w h hlen hBw
end Go.Proofs.YtfiahpeajccinaaGreatDoor
namespace Go.Proofs.YtfiahpeajccinaaGreatDoor
open Go.RowKit
set_option linter.unusedVariables false

def mkB (l : List UInt8) : ByteArray := ⟨l.toArray⟩
def QuotePost (B b : Nat) (l : List UInt8) (s : ByteArray) (c2 c3 c4 c5 : Value) (w : World) (e : Ending) (w' : World) : Prop := e = .returned (.tuple #[]) ∧ Wr B b (l ++ Q.quo s.data.toList) c2 c3 c4 c5 w' ∧ KeptW B b w w'
theorem take_flat {s : ByteArray} {j : Nat} (hj : j < s.size) : (s.data.toList.take (j + 1)).flatMap Q.esc = (s.data.toList.take j).flatMap Q.esc ++ Q.esc s[j] := by
  have h : s.data.toList[j]? = some s[j] := by
    rw [Array.getElem?_toList]
    exact Array.getElem?_eq_getElem (by simpa using hj)
  rw [List.take_add_one, h, List.flatMap_append]
  simp
theorem flat_take_len (l : List UInt8) (j : Nat) (n : Nat) (h : l.length ≤ n) : ((l.take j).flatMap Q.esc).length ≤ 6 * n := by
  have := Q.flat_len (l.take j)
  have h2 : (l.take j).length ≤ l.length := by rw [List.length_take]; omega
  omega
set_option maxHeartbeats 4000000 in
set_option maxRecDepth 100000 in
theorem quote_any7 (B b : Nat) (l : List UInt8) (c2 c3 c4 c5 : Value) (s : ByteArray) (w : World) (h : Wr B b l c2 c3 c4 c5 w) (hlen : l.length ≤ 700000) (hs : s.size ≤ 2400) (hBw : B ≤ w.heap.size) :
    Calls Tryz.prog 70 #[.pointer (some ⟨b, 0, none⟩), .string s] w (QuotePost B b l s c2 c3 c4 c5 w) := by
  have H := Lib.hid h
  clear h
  go_enter Tryz.func70, Tryz.ntmps70
  go_wp2_with fail
  refine (wstr_any B b l c2 c3 c4 c5 ⟨#[34]⟩ _ H.out (by show l.length + 1 ≤ 900000; omega) hBw).mono ?_
  rintro e w1 ⟨rfl, h1, k1⟩
  have H1 := Lib.hid (show Wr B b (l ++ [34]) c2 c3 c4 c5 w1 from h1)
  have K1 := Lib.hid k1
  clear h1 k1
  go_wp2_with fail
  go_loopw [11] (fun x wr => ∃ j : Nat, j ≤ s.size ∧ x = .int .i64 j ∧ Wr B b (l ++ ([34] ++ (s.data.toList.take j).flatMap Q.esc)) c2 c3 c4 c5 wr ∧ KeptW B b w wr) (fun x _ => s.size - (intOf x).toNat)
  case atStart => exact ⟨0, Nat.zero_le _, rfl, by simpa using H1.out, K1.out⟩
  case round =>
    obtain ⟨j, hj, rfl, hwr, hk⟩ := hrel
    have HR := Lib.hid hwr
    have HK := Lib.hid hk
    have hsr := Nat.le_trans hBw (KeptW.size hk)
    have hfl := flat_take_len s.data.toList j s.size (by simp)
    clear hwr hk
    by_cases hlt : j < s.size
    · have u1 : decide (j < s.size) = true := decide_eq_true hlt
      have u2 : decide ((j : Int) < (s.size : Int)) = true := decide_eq_true (by omega)
      have i1 : (j : Int) < (s.size : Int) := by omega
      have i2 : (0 : Int) ≤ (j : Int) := by omega
      go_wp2_with fail
      refine (char_any7 s[j] B b _ c2 c3 c4 c5 _ HR.out (by simp only [List.length_append, List.length_singleton]; omega) hsr).mono ?_
      rintro e w2 ⟨rfl, h2, k2⟩
      have H2 := Lib.hid h2
      have K2 := Lib.hid (HK.out.trans k2)
      clear h2 k2
      go_wp2_with fail
      go_roundw
      case rel => exact ⟨j + 1, hlt, by go_num, by rw [take_flat hlt]; have := H2.out; simpa only [List.append_assoc] using this, K2.out⟩
      case measure => simp [intOf]; omega
    · have u1 : decide (j < s.size) = false := decide_eq_false hlt
      have u2 : decide ((j : Int) < (s.size : Int)) = false := decide_eq_false (by omega)
      have hfull : s.data.toList.take j = s.data.toList := List.take_of_length_le (by simp; omega)
      have HF := Lib.hid (show Wr B b (l ++ ([34] ++ s.data.toList.flatMap Q.esc)) c2 c3 c4 c5 wr from hfull ▸ HR.out)
      rw [hfull] at hfl
      clear hfull HR
      go_wp2_with fail
      refine (wstr_any B b _ c2 c3 c4 c5 ⟨#[34]⟩ _ HF.out (by show (l ++ ([34] ++ s.data.toList.flatMap Q.esc)).length + 1 ≤ 900000; simp only [List.length_append, List.length_singleton]; omega) hsr).mono ?_
      rintro e w3 ⟨rfl, h3, k3⟩
      have H3 := Lib.hid h3
      have K3 := Lib.hid (HK.out.trans k3)
      clear h3 k3
      go_wp2_with fail
      go_end0
      refine ⟨rfl, ?_, K3.out⟩
      have := H3.out
      unfold Q.quo
      simpa only [List.append_assoc, List.singleton_append, List.cons_append, List.nil_append] using this
theorem wr_new (c2 c3 c4 c5 : Value) (w : World) : Wr w.heap.size w.heap.size [] c2 c3 c4 c5 (w.alloc (.cells #[.pointer none, .slice none 0 0, c2, c3, c4, c5] 115)) :=
  ⟨Nat.le_refl _, .pointer none, .slice none 0 0, .inl rfl, Blk.new w _ _, rfl, .inl ⟨rfl, rfl⟩⟩
set_option maxHeartbeats 4000000 in
set_option maxRecDepth 100000 in
theorem rnquote_any (s : ByteArray) (w : World) (hs : s.size ≤ 2400) :
    Calls Tryz.prog 30 #[.string s] w fun e w' => e = .returned (.string (mkB (Q.quo s.data.toList))) ∧ Below w.heap.size w w' := by
  go_enter Tryz.func30, Tryz.ntmps30
  go_upto_region 2 with fail
  have hW := Lib.hid (wr_new (.string ⟨#[]⟩) .nilFunc (.int .i64 0) (.int .i64 0) w)
  have hb := Lib.hid (show Below w.heap.size w (w.alloc (.cells #[.pointer none, .slice none 0 0, .string ⟨#[]⟩, .nilFunc, .int .i64 0, .int .i64 0] 115)) from (Below.refl _ _).alloc (Nat.le_refl _) _)
  change Code.wp _ _ _ _ (w.alloc (.cells #[.pointer none, .slice none 0 0, .string ⟨#[]⟩, .nilFunc, .int .i64 0, .int .i64 0] 115))
  generalize (w.alloc (.cells #[.pointer none, .slice none 0 0, .string ⟨#[]⟩, .nilFunc, .int .i64 0, .int .i64 0] 115)) = W at *
  go_wp2_with fail
  refine (quote_any7 w.heap.size w.heap.size [] _ _ _ _ s _ hW.out (by simp) hs hb.out.size).mono ?_
  rintro e w2 ⟨rfl, h2, k2⟩
  have H2 := Lib.hid h2
  have K2 := Lib.hid k2
  clear h2 k2
  go_wp2_with fail
  refine (string_any w.heap.size w.heap.size (Q.quo s.data.toList) _ _ _ _ _ H2.out (by unfold Q.quo; simp)).mono ?_
  rintro e w3 ⟨rfl, hb3⟩
  have H3 := Lib.hid (hb.out.trans (K2.out.1.trans hb3))
  clear hb3
  go_wp2_with fail
  go_ret
  exact ⟨rfl, H3.out⟩
end Go.Proofs.YtfiahpeajccinaaGreatDoor
