/- Appending to a row of the call's own, whatever the source: nil, empty or not. A row of values that is being collected. An item of an array that is being read: contract. Real: the document's value as the program's. An item of an array that is being read: contract of the program's item. -/
import Derived.Maps.AppendAt
import Derived.Deep.AppendLies
import Derived.Laws.OwnMore
import Derived.Test.YtgblenoaeanogaaGreatDoorMI
import Derived.Deep.RegionLaw
import Derived.Deep.DeepCutAuto
import Derived.Outline
set_option linter.unusedVariables false
set_option maxRecDepth 100000
set_option maxHeartbeats 8000000
open Go.Lib (hid)
namespace Go.Proofs.YtgblenoaeanogaaGreatDoor
open Go.RowKit
def Src (w : World) (A : Option Addr) (m size : Nat) (news : List Value) : Prop :=
 news.length = m * size ∧ (0 < m → ∃ ad, A = some ad ∧ ∀ j u, news[j]? = some u → w.cell? (ad.add j) = some u)
section
variable {P : Program} {w : World}
theorem app_nil {base : Nat} {t ty e : TypeId} {i : TypeInfo} {size : Nat} (ht : P.underlying t = some (.slice e)) (hi : P.info? e = some i)
 {v : Value} {n : Nat} {xs : List Value} (hown : w.ownsRow base e size v n xs) (c : Nat) : (Builtin.append_ #[t, t] ty #[v, .slice none 0 c]).run P w = .ok v w := by
 rcases hown.2 with ⟨rfl, rfl⟩ | ⟨g, cap, cur, rfl, _, _, hnc, _⟩ <;>
  simp [Builtin.append_, run_underlying ht, sizeOf, typeInfo, Builtin.lenOf, Builtin.firstCells, storeCells, *]
theorem app_run {base : Nat} {t ty e : TypeId} {i : TypeInfo} {z : Value} {size bytes : Nat} (ht : P.underlying t = some (.slice e)) (hi : P.info? e = some i) (hz : i.zero = some z)
 (hsize : i.size = size) (hby : i.bytes = bytes) (hzs : z.cells.size = size) (hsz : 0 < size)
 {v : Value} {n : Nat} {xs : List Value} (hown : w.ownsRow base e size v n xs)
 {A : Option Addr} {m c : Nat} {news : List Value} (hs : Src w A m size news) (h1 : ∀ u ∈ news, u.oneCell' = true)
 (h63 : n + m ≤ maxLen) (hbytes : (n + m) * bytes ≤ 140737488355328) (hbase : base ≤ w.heap.size) :
 ∃ v' w', (Builtin.append_ #[t, t] ty #[v, .slice A m c]).run P w = .ok v' w' ∧ w'.ownsRow base e size v' (n + m) (xs ++ news) ∧ w.grownBy w' v.ownBlock ∧
  (v'.ownBlock = v.ownBlock ∨ v'.ownBlock = some w.heap.size) := by
 obtain ⟨hl, hc⟩ := hs
 rcases Nat.eq_zero_or_pos m with rfl | hm
 ·
  obtain rfl : news = [] := List.eq_nil_of_length_eq_zero (by simpa using hl)
  cases A with
  | none => exact ⟨v, w, app_nil ht hi hown c, by simpa using hown, World.grownBy.refl w _, .inl rfl⟩
  | some ad =>
   obtain ⟨v', w', hr, h2, h3, _, h5⟩ := run_append_own_at (P := P) w base t ty e i z size bytes ht hi hz hsize hby hzs hsz v n xs hown ad 0 c [] hl (fun j u h => by simp at h) h1 h63 hbytes hbase
   exact ⟨v', w', hr, h2, h3, h5⟩
 ·
  obtain ⟨ad, rfl, hcell⟩ := hc hm
  obtain ⟨v', w', hr, h2, h3, _, h5⟩ := run_append_own_at (P := P) w base t ty e i z size bytes ht hi hz hsize hby hzs hsz v n xs hown ad m c news hl hcell h1 h63 hbytes hbase
  exact ⟨v', w', hr, h2, h3, h5⟩
theorem own_slice {base : Nat} {e : TypeId} {size n : Nat} {v : Value} {xs : List Value} (h : w.ownsRow base e size v n xs) : ∃ B d, v = .slice B n d := by
 rcases h.2 with ⟨rfl, rfl⟩ | ⟨g, cap, cur, rfl, _⟩
 · exact ⟨_, _, rfl⟩
 · exact ⟨_, _, rfl⟩
theorem app_wp {o : Oper} {a : Act} {K : Act → World → Prop} {Q : Exit → Act → World → Prop} (s x : Operand) (t : TypeId)
 (ho : o.op = .call { callee := .builtin .append, args := #[s, x], argTypes := #[t, t] })
 (base : Nat) (e : TypeId) (i : TypeInfo) (z : Value) (size bytes : Nat) (ht : P.underlying t = some (.slice e)) (hi : P.info? e = some i) (hz : i.zero = some z)
 (hsize : i.size = size) (hby : i.bytes = bytes) (hzs : z.cells.size = size) (hsz : 0 < size)
 (v : Value) (n : Nat) (xs : List Value) (hv : a.eval s = v) (hown : w.ownsRow base e size v n xs)
 (A : Option Addr) (m c : Nat) (news : List Value) (hx : a.eval x = .slice A m c) (hs : Src w A m size news) (h1 : ∀ u ∈ news, u.oneCell' = true)
 (h63 : n + m ≤ maxLen) (hbytes : (n + m) * bytes ≤ 140737488355328) (hbase : base ≤ w.heap.size)
 (N : Nat) (hN : n + m = N)
 (h : ∀ B d w', w'.ownsRow base e size (.slice B N d) N (xs ++ news) → w.grownBy w' v.ownBlock → ((Value.slice B N d).ownBlock = v.ownBlock ∨ (Value.slice B N d).ownBlock = some w.heap.size) → K (a.put o.dst (.slice B N d)) w') : o.wp P a w K Q := by
 obtain ⟨v', w', hr, h2, h3, h5⟩ := app_run (P := P) (ty := o.type) ht hi hz hsize hby hzs hsz hown (c := c) hs h1 h63 hbytes hbase
 unfold Oper.wp execOp
 simp only [ho, resolve, invoke, builtin, Sem.run_bind, Sem.run_pure, Result.andThen_ok, List.map_toArray, List.map_cons, List.map_nil, hv, hx, hr]
 subst hN
 obtain ⟨B, d, rfl⟩ := own_slice h2
 exact h B d w' h2 h3 h5
theorem app_list {ops : Array Oper} {rest : List Oper} {o : Oper} {a : Act} {Q : Exit → Act → World → Prop} (hgd : o.guard = none) (s x : Operand) (t : TypeId)
 (ho : o.op = .call { callee := .builtin .append, args := #[s, x], argTypes := #[t, t] })
 (base : Nat) (e : TypeId) (i : TypeInfo) (z : Value) (size bytes : Nat) (ht : P.underlying t = some (.slice e)) (hi : P.info? e = some i) (hz : i.zero = some z)
 (hsize : i.size = size) (hby : i.bytes = bytes) (hzs : z.cells.size = size) (hsz : 0 < size)
 (v : Value) (n : Nat) (xs : List Value) (hv : a.eval s = v) (hown : w.ownsRow base e size v n xs)
 (A : Option Addr) (m c : Nat) (news : List Value) (hx : a.eval x = .slice A m c) (hs : Src w A m size news) (h1 : ∀ u ∈ news, u.oneCell' = true)
 (h63 : n + m ≤ maxLen) (hbytes : (n + m) * bytes ≤ 140737488355328) (hbase : base ≤ w.heap.size)
 (N : Nat) (hN : n + m = N)
 (h : ∀ B d w', w'.ownsRow base e size (.slice B N d) N (xs ++ news) → w.grownBy w' v.ownBlock → ((Value.slice B N d).ownBlock = v.ownBlock ∨ (Value.slice B N d).ownBlock = some w.heap.size) → wpList P ops Q rest (a.put o.dst (.slice B N d)) w') : wpList P ops Q (o :: rest) a w :=
 wpList_plain hgd fun _ hK => app_wp s x t ho base e i z size bytes ht hi hz hsize hby hzs hsz v n xs hv hown A m c news hx hs h1 h63 hbytes hbase N hN fun B d w' h2 h3 h4 => hK _ _ (h B d w' h2 h3 h4)
theorem app_step {ops : Array Oper} {o : Oper} {a : Act} {K : Act → World → Prop} {Q : Exit → Act → World → Prop} {E : Prop} (hgd : o.guard = none) (s x : Operand) (t : TypeId)
 (ho : o.op = .call { callee := .builtin .append, args := #[s, x], argTypes := #[t, t] })
 (base : Nat) (e : TypeId) (i : TypeInfo) (z : Value) (size bytes : Nat) (ht : P.underlying t = some (.slice e)) (hi : P.info? e = some i) (hz : i.zero = some z)
 (hsize : i.size = size) (hby : i.bytes = bytes) (hzs : z.cells.size = size) (hsz : 0 < size)
 (v : Value) (n : Nat) (xs : List Value) (hv : a.eval s = v) (hown : w.ownsRow base e size v n xs)
 (A : Option Addr) (m c : Nat) (news : List Value) (hx : a.eval x = .slice A m c) (hs : Src w A m size news) (h1 : ∀ u ∈ news, u.oneCell' = true)
 (h63 : n + m ≤ maxLen) (hbytes : (n + m) * bytes ≤ 140737488355328) (hbase : base ≤ w.heap.size)
 (N : Nat) (hN : n + m = N)
 (h : ∀ B d w', w'.ownsRow base e size (.slice B N d) N (xs ++ news) → w.grownBy w' v.ownBlock → ((Value.slice B N d).ownBlock = v.ownBlock ∨ (Value.slice B N d).ownBlock = some w.heap.size) → K (a.put o.dst (.slice B N d)) w') :
 if Region.wanted o (yielded ops a.tmps) = true then Oper.wp P o a w K Q else E := by
 have hw : Region.wanted o (yielded ops a.tmps) = true := by simp [Region.wanted, hgd]
 rw [if_pos hw]
 exact app_wp s x t ho base e i z size bytes ht hi hz hsize hby hzs hsz v n xs hv hown A m c news hx hs h1 h63 hbytes hbase N hN h
end
theorem infoV : (Tryz.prog.info? 50).map (fun i => (i.zero, i.size, i.bytes)) = some (some (.agg #[.int .i64 0, .bool false, .int .i64 0, .string ⟨#[]⟩, .slice none 0 0, .slice none 0 0]), 6, 88) := by kernel_rfl
theorem infoStr : (Tryz.prog.info? 9).map (fun i => (i.zero, i.size, i.bytes)) = some (some (.string ⟨#[]⟩), 1, 16) := by kernel_rfl
theorem add_lit (b o i : Nat) : (⟨b, o, none⟩ : Addr).add i = ⟨b, o + i, none⟩ := by unfold Addr.add; split <;> simp_all
open Go.RowKit
def Coll (ty : TypeId) (w : World) (lo : Nat) (X : Nat → Prop) (l : List T) (v : Value) (xs : List Value) : Prop :=
 (∀ b, v.ownBlock = some b → ¬ X b) ∧ w.ownsRow lo ty 6 v l.length xs ∧
  ∀ i x, l[i]? = some x → ∃ B e B' e', (∀ j, j < 6 → xs[i * 6 + j]? = (x.cs B e B' e')[j]?) ∧ TV w (fun b => b < w.heap.size ∧ ¬ X b ∧ some b ≠ v.ownBlock) x B e B' e'
theorem Coll.nil (ty : TypeId) (w : World) (lo : Nat) (X : Nat → Prop) : Coll ty w lo X [] (.slice none 0 0) [] :=
 ⟨fun b h => by simp [Value.ownBlock] at h, World.ownsRow_nil _ _ _ _, fun i x h => by simp at h⟩
theorem Coll.step_ {ty : TypeId} {w w' : World} {lo : Nat} {X : Nat → Prop} {l : List T} {v : Value} {xs : List Value} (h : Coll ty w lo X l v xs) (hg : ∀ b, b < w.heap.size → ¬ X b → w'.heap[b]? = w.heap[b]?) (hs : w.heap.size ≤ w'.heap.size) : Coll ty w' lo X l v xs := by
 obtain ⟨hX, ho, hi⟩ := h
 refine ⟨hX, ⟨ho.1, ?_⟩, fun i x hx => ?_⟩
 ·
  rcases ho.2 with h0 | ⟨g, cap, cur, rfl, hb, hgg, rest⟩
  · exact .inl h0
  · exact .inr ⟨g, cap, cur, rfl, hb, (hg g (Array.getElem?_eq_some_iff.1 hgg).1 (hX g rfl)).trans hgg, rest⟩
 ·
  obtain ⟨B, e, B', e', hc, ht⟩ := hi i x hx
  exact ⟨B, e, B', e', hc, (ht.keep fun b hb => hg b hb.1 hb.2.1).wide fun b hb => ⟨Nat.lt_of_lt_of_le hb.1 hs, hb.2⟩⟩
theorem Coll.onto {ty : TypeId} {w w' : World} {lo : Nat} {X : Nat → Prop} {l : List T} {v : Value} {xs : List Value} (h : Coll ty w lo X l v xs) (hb : Below w.heap.size w w') : Coll ty w' lo X l v xs :=
 h.step_ (fun b hb' _ => hb.block b hb') hb.size
theorem Coll.set {ty : TypeId} {w : World} {lo : Nat} {X : Nat → Prop} {l : List T} {v : Value} {xs : List Value} (h : Coll ty w lo X l v xs) {p : Addr} (hp : X p.block) (u : Value) : Coll ty (w.setCell p u) lo X l v xs :=
 h.step_ (fun b _ hx => Below.heap_setCell _ _ _ _ (fun e => hx (e ▸ hp))) (by simp [World.setCell])
theorem Coll.alloc {ty : TypeId} {w : World} {lo : Nat} {X : Nat → Prop} {l : List T} {v : Value} {xs : List Value} (h : Coll ty w lo X l v xs) (o : Obj) : Coll ty (w.alloc o) lo X l v xs :=
 h.step_ (fun b hb _ => Below.heap_alloc _ _ _ hb) (by simp)
theorem Coll.app {ty : TypeId} {w w' : World} {lo : Nat} {X : Nat → Prop} {l : List T} {v v' : Value} {xs : List Value} (h : Coll ty w lo X l v xs) {x : T} {B : Option Addr} {e : Nat} {B' : Option Addr} {e' : Nat}
 (ht : TV w (fun b => b < w.heap.size ∧ ¬ X b ∧ some b ≠ v.ownBlock) x B e B' e') (hn : ¬ X w.heap.size)
 (ho : w'.ownsRow lo ty 6 v' (l.length + 1) (xs ++ (x.cs B e B' e').toList)) (hg : w.grownBy w' v.ownBlock) (hv : v'.ownBlock = v.ownBlock ∨ v'.ownBlock = some w.heap.size) :
 Coll ty w' lo X (l ++ [x]) v' (xs ++ (x.cs B e B' e').toList) := by
 obtain ⟨hX, ho0, hi⟩ := h
 have hl := ho0.1
 have hon : ∀ {y C f C' f'}, TV w (fun b => b < w.heap.size ∧ ¬ X b ∧ some b ≠ v.ownBlock) y C f C' f' → TV w' (fun b => b < w'.heap.size ∧ ¬ X b ∧ some b ≠ v'.ownBlock) y C f C' f' := fun h =>
  (h.keep fun b hb => hg.block b hb.1 hb.2.2).wide fun b hb => ⟨Nat.lt_of_lt_of_le hb.1 hg.size, hb.2.1, by
   rcases hv with hv | hv <;> rw [hv]
   · exact hb.2.2
   · intro he; injection he with he; omega⟩
 refine ⟨fun b hb => ?_, by rw [List.length_append]; exact ho, fun i y hy => ?_⟩
 ·
  rcases hv with hv | hv <;> rw [hv] at hb
  · exact hX b hb
  · injection hb with hb; exact hb ▸ hn
 ·
  rcases Nat.lt_or_ge i l.length with h1 | h1
  ·
   rw [List.getElem?_append_left h1] at hy
   obtain ⟨C, f, C', f', hc, hty⟩ := hi i y hy
   exact ⟨C, f, C', f', fun j hj => by rw [List.getElem?_append_left (by omega)]; exact hc j hj, hon hty⟩
  ·
   rw [List.getElem?_append_right h1] at hy
   have h2 : i - l.length = 0 := by
    rcases Nat.eq_zero_or_pos (i - l.length) with h2 | h2
    · exact h2
    · rw [List.getElem?_eq_none (by simp; omega)] at hy; cases hy
   rw [h2] at hy
   injection hy with hy
   subst hy
   refine ⟨B, e, B', e', fun j hj => ?_, hon ht⟩
   rw [List.getElem?_append_right (by omega), show i * 6 + j - xs.length = j by omega, Array.getElem?_toList]
theorem Coll.app_new {ty : TypeId} {w w' : World} {lo : Nat} {X : Nat → Prop} {l : List T} {v v' : Value} {xs : List Value} (h : Coll ty w lo X l v xs) {x : T} {B : Option Addr} {e : Nat} {B' : Option Addr} {e' : Nat}
 (ht : TV w (fun b => b < w.heap.size ∧ ¬ X b ∧ some b ≠ v.ownBlock) x B e B' e') (hn : ¬ X (w.heap.size + 1)) {o : Obj} {n : Nat} (hl : l.length + 1 = n)
 (ho : w'.ownsRow lo ty 6 v' n (xs ++ (x.cs B e B' e').toList)) (hg : (w.alloc o).grownBy w' v.ownBlock) (hv : v'.ownBlock = v.ownBlock ∨ v'.ownBlock = some (w.alloc o).heap.size) :
 Coll ty w' lo X (l ++ [x]) v' (xs ++ (x.cs B e B' e').toList) := by
 subst hl
 refine (h.alloc o).app ?_ (by simpa using hn) ho hg hv
 exact (ht.keep fun b hb => Below.heap_alloc _ _ _ hb.1).wide fun b hb => ⟨by simp; omega, hb.2⟩
theorem Coll.blk {ty : TypeId} {w w' : World} {lo : Nat} {X : Nat → Prop} {l : List T} {v : Value} {xs : List Value} (h : Coll ty w lo X l v xs) {o : Obj} (hg : (w.alloc o).grownBy w' v.ownBlock) {q : Nat} {t' : TypeId} {cs : Array Value} (hq : Blk w q t' cs) (hX : X q) : Blk w' q t' cs :=
 (hg.block q (by have := hq.lt; simp; omega) (fun e => h.1 q e.symm hX)).trans (hq.alloc o)
theorem Coll.vreads {ty : TypeId} {w : World} {lo : Nat} {X : Nat → Prop} {l : List T} {A : Option Addr} {n c : Nat} {xs : List Value} (h : Coll ty w lo X l (.slice A n c) xs) : n = l.length ∧ n ≤ c ∧ VReads w (fun b => b < w.heap.size ∧ ¬ X b) A l := by
 obtain ⟨hX, ho, hi⟩ := h
 rcases ho.2 with ⟨h0, h1⟩ | ⟨g, cap, cur, e, hb, hgg, h2, h3, h4, h5⟩
 ·
  injection h0 with _ hn _
  have : l = [] := List.eq_nil_of_length_eq_zero h1
  subst this
  exact ⟨hn, by rw [hn]; exact Nat.zero_le _, VReads.none_ _ _ _⟩
 ·
  injection e with e1 e2 e3
  subst e1 e2 e3
  refine ⟨rfl, h2, fun _ => ⟨g, 0, rfl, ⟨(Array.getElem?_eq_some_iff.1 hgg).1, hX g rfl⟩, fun i x hx => ?_⟩⟩
  obtain ⟨B, e, B', e', hc, ht⟩ := hi i x hx
  have hl := lt_of_get hx
  have hcell : ∀ j, j < 6 → w.cell? ⟨g, i * 6 + j, none⟩ = (x.cs B e B' e')[j]? := fun j hj => by
   rw [cell_of_row w g _ cur ty (0, 0) hgg, ← hc j hj, ← h5, List.getElem?_take_of_lt (by omega), Array.getElem?_toList]
  exact ⟨B, e, B', e', by rw [Nat.zero_add]; exact ⟨hcell 0 (by omega), hcell 1 (by omega), hcell 2 (by omega), hcell 3 (by omega), hcell 4 (by omega), hcell 5 (by omega)⟩, ht.wide fun b hb => ⟨hb.1, hb.2.1⟩⟩
theorem cs_one {t : T} {A : Option Addr} {c : Nat} {A' : Option Addr} {c' : Nat} : ∀ u ∈ (t.cs A c A' c').toList, u.oneCell' = true := by
 intro u hu
 simp only [T.cs, List.mem_cons, List.not_mem_nil, or_false] at hu
 rcases hu with rfl | rfl | rfl | rfl | rfl | rfl <;> rfl
theorem src_of_cs {w : World} {g : Nat} {ty : TypeId} {t : T} {A : Option Addr} {c : Nat} {A' : Option Addr} {c' : Nat} (h : Blk w g ty (t.cs A c A' c')) : Src w (some ⟨g, 0, none⟩) 1 6 (t.cs A c A' c').toList := by
 refine ⟨rfl, fun _ => ⟨_, rfl, fun j u hu => ?_⟩⟩
 rw [add_lit, Nat.zero_add, h.cell, ← Array.getElem?_toList]
 exact hu
theorem OwnKeys.step_ {w w' : World} {lo : Nat} {l : List ByteArray} {A : Option Addr} (h : OwnKeys w lo w.heap.size l A) (hg : ∀ (b : Nat) (cs : Array Value), Blk w b 9 cs → w'.heap[b]? = w.heap[b]?) (hs : w.heap.size ≤ w'.heap.size) : OwnKeys w' lo w'.heap.size l A := by
 intro hn
 obtain ⟨g, cs, e, h1, h2, hb, h3, h4⟩ := h hn
 exact ⟨g, cs, e, h1, Nat.lt_of_lt_of_le h2 hs, (hg g cs hb).trans hb, h3, h4⟩
theorem OwnKeys.onto {w w' : World} {lo : Nat} {l : List ByteArray} {A : Option Addr} (h : OwnKeys w lo w.heap.size l A) (hb : Below w.heap.size w w') : OwnKeys w' lo w'.heap.size l A :=
 h.step_ (fun b _ hk => hb.block b hk.lt) hb.size
theorem OwnKeys.set {w : World} {lo : Nat} {l : List ByteArray} {A : Option Addr} (h : OwnKeys w lo w.heap.size l A) {p : Addr} {ty : TypeId} {cs : Array Value} (hp : Blk w p.block ty cs) (hne : ty ≠ 9) (u : Value) : OwnKeys (w.setCell p u) lo (w.setCell p u).heap.size l A :=
 h.step_ (fun b cs' hk => Below.heap_setCell _ _ _ _ (by
  rintro rfl
  unfold Blk at hk hp
  rw [hp] at hk
  injection hk with hk
  injection hk with _ h2 _
  exact hne h2)) (by simp [World.setCell])
theorem OwnKeys.grown {w w' : World} {lo : Nat} {l : List ByteArray} {A : Option Addr} (h : OwnKeys w lo w.heap.size l A) {base : Nat} {ty : TypeId} {size n : Nat} {v : Value} {xs : List Value} (ho : w.ownsRow base ty size v n xs) (hne : ty ≠ 9) (hg : w.grownBy w' v.ownBlock) : OwnKeys w' lo w'.heap.size l A :=
 h.step_ (fun b cs' hk => hg.block b hk.lt (by
  rcases ho.2 with ⟨rfl, _⟩ | ⟨g, cap, cur, rfl, _, hh, _⟩
  · simp [Value.ownBlock]
  ·
   intro he
   have e1 : b = g := by simpa [Value.ownBlock] using he
   unfold Blk at hk
   rw [e1, hh] at hk
   injection hk with hk
   injection hk with _ h2 _
   exact hne h2)) hg.size
def Cells (w : World) (S : Nat → Prop) (l : List T) (xs : List Value) : Prop :=
 xs.length = l.length * 6 ∧ (∀ u ∈ xs, u.oneCell' = true) ∧ ∀ i x, l[i]? = some x → ∃ B e B' e', (∀ j, j < 6 → xs[i * 6 + j]? = (x.cs B e B' e')[j]?) ∧ TV w S x B e B' e'
theorem VReads.take {w : World} {S : Nat → Prop} {A : Option Addr} {l : List T} (h : VReads w S A l) (k : Nat) : VReads w S A (l.take k) := by
 intro hn
 obtain ⟨b, o, e, hs, hi⟩ := h (by rintro rfl; simp at hn)
 refine ⟨b, o, e, hs, fun i x hx => ?_⟩
 have hl := lt_of_get hx
 rw [List.length_take] at hl
 rw [List.getElem?_take_of_lt (by omega)] at hx
 exact hi i x hx
theorem VReads.drop {w : World} {S : Nat → Prop} {A : Option Addr} {l : List T} (h : VReads w S A l) (k : Nat) : VReads w S (A.map fun a => a.add (k * 6)) (l.drop k) := by
 intro hn
 obtain ⟨b, o, rfl, hs, hi⟩ := h (by rintro rfl; simp at hn)
 refine ⟨b, o + k * 6, by simp [add_lit], hs, fun i x hx => ?_⟩
 rw [List.getElem?_drop] at hx
 obtain ⟨B, d, B', d', h6, ht⟩ := hi (k + i) x hx
 refine ⟨B, d, B', d', ?_, ht⟩
 rw [show o + (k + i) * 6 = o + k * 6 + i * 6 by omega] at h6
 exact h6
theorem Six.at_ {w : World} {b o : Nat} {t : T} {A : Option Addr} {c : Nat} {A' : Option Addr} {c' : Nat} (h : Six w b o t A c A' c') {j : Nat} (hj : j < 6) : w.cell? ⟨b, o + j, none⟩ = (t.cs A c A' c')[j]? := by
 obtain ⟨a0, a1, a2, a3, a4, a5⟩ := h
 rcases (by omega : j = 0 ∨ j = 1 ∨ j = 2 ∨ j = 3 ∨ j = 4 ∨ j = 5) with rfl | rfl | rfl | rfl | rfl | rfl
 · exact a0
 · exact a1
 · exact a2
 · exact a3
 · exact a4
 · exact a5
theorem cs_get {t : T} {A : Option Addr} {c : Nat} {A' : Option Addr} {c' : Nat} {j : Nat} (hj : j < 6) : ∃ u, (t.cs A c A' c')[j]? = some u ∧ u.oneCell' = true :=
 ⟨(t.cs A c A' c')[j]'hj, Array.getElem?_eq_getElem hj, cs_one (t := t) (A := A) (c := c) (A' := A') (c' := c') _ (by rw [Array.mem_toList_iff]; exact Array.getElem_mem _)⟩
theorem VReads.cells {w : World} {S : Nat → Prop} {A : Option Addr} {l : List T} (h : VReads w S A l) : ∃ xs, Cells w S l xs ∧ (l ≠ [] → ∃ b o, A = some ⟨b, o, none⟩ ∧ S b ∧ ∀ j u, xs[j]? = some u → w.cell? ⟨b, o + j, none⟩ = some u) := by
 by_cases hn : l = []
 ·
  subst hn
  refine ⟨[], ⟨rfl, fun u hu => ?_, fun i x hx => ?_⟩, fun h => absurd rfl h⟩
  · cases hu
  · simp at hx
 ·
  obtain ⟨b, o, e, hs, hi⟩ := h hn
  have hcell : ∀ j, j < l.length * 6 → ∃ u, w.cell? ⟨b, o + j, none⟩ = some u ∧ u.oneCell' = true := by
   intro j hj
   have hq : j / 6 < l.length := by omega
   obtain ⟨B, d, B', d', h6, _⟩ := hi (j / 6) _ (List.getElem?_eq_getElem hq)
   obtain ⟨u, hu, h1⟩ := cs_get (t := l[j / 6]) (A := B) (c := d) (A' := B') (c' := d') (j := j % 6) (by omega)
   refine ⟨u, ?_, h1⟩
   rw [← hu, ← h6.at_ (by omega), show o + j / 6 * 6 + j % 6 = o + j by omega]
  have hx : ∀ j u, ((List.range (l.length * 6)).map fun j => (w.cell? ⟨b, o + j, none⟩).getD undef)[j]? = some u → j < l.length * 6 ∧ w.cell? ⟨b, o + j, none⟩ = some u := by
   intro j u hu
   have hj := lt_of_get hu
   rw [List.length_map, List.length_range] at hj
   rw [List.getElem?_map, List.getElem?_range hj] at hu
   obtain ⟨v, hv, _⟩ := hcell j hj
   rw [Option.map_some, hv] at hu
   exact ⟨hj, by rw [hv]; exact hu⟩
  refine ⟨_, ⟨by simp, fun u hu => ?_, fun i x hxi => ?_⟩, fun _ => ⟨b, o, e, hs, fun j u hu => (hx j u hu).2⟩⟩
  ·
   obtain ⟨j, hj⟩ := List.mem_iff_getElem?.1 hu
   obtain ⟨hlt, hc⟩ := hx j u hj
   obtain ⟨v, hv, h1⟩ := hcell j hlt
   rw [hv] at hc
   injection hc with hc
   exact hc ▸ h1
  ·
   obtain ⟨B, d, B', d', h6, ht⟩ := hi i x hxi
   have hl := lt_of_get hxi
   refine ⟨B, d, B', d', fun j hj => ?_, ht⟩
   rw [List.getElem?_map, List.getElem?_range (by omega), Option.map_some, ← h6.at_ hj, Nat.add_assoc]
   obtain ⟨v, hv, _⟩ := hcell (i * 6 + j) (by omega)
   rw [hv]; rfl
theorem Cells.append {w : World} {S : Nat → Prop} {l m : List T} {xs ys : List Value} (h : Cells w S l xs) (k : Cells w S m ys) : Cells w S (l ++ m) (xs ++ ys) := by
 obtain ⟨h1, h2, h3⟩ := h
 obtain ⟨k1, k2, k3⟩ := k
 refine ⟨by rw [List.length_append, List.length_append, h1, k1]; omega, fun u hu => ?_, fun i x hx => ?_⟩
 ·
  rcases List.mem_append.1 hu with hu | hu
  · exact h2 u hu
  · exact k2 u hu
 ·
  rcases Nat.lt_or_ge i l.length with hl | hl
  ·
   rw [List.getElem?_append_left hl] at hx
   obtain ⟨B, e, B', e', hc, ht⟩ := h3 i x hx
   exact ⟨B, e, B', e', fun j hj => by rw [List.getElem?_append_left (by omega)]; exact hc j hj, ht⟩
  ·
   rw [List.getElem?_append_right hl] at hx
   obtain ⟨B, e, B', e', hc, ht⟩ := k3 _ x hx
   exact ⟨B, e, B', e', fun j hj => by rw [List.getElem?_append_right (by omega), show i * 6 + j - xs.length = (i - l.length) * 6 + j by omega]; exact hc j hj, ht⟩
theorem Cells.one {w : World} {S : Nat → Prop} {x : T} {B : Option Addr} {e : Nat} {B' : Option Addr} {e' : Nat} (h : TV w S x B e B' e') : Cells w S [x] (x.cs B e B' e').toList := by
 refine ⟨rfl, cs_one, fun i y hy => ?_⟩
 have h2 : i = 0 := by
  rcases Nat.eq_zero_or_pos i with h2 | h2
  · exact h2
  · rw [List.getElem?_eq_none (by simp; omega)] at hy; cases hy
 subst h2
 injection hy with hy
 subst hy
 exact ⟨B, e, B', e', fun j _ => by rw [Nat.zero_mul, Nat.zero_add, Array.getElem?_toList], h⟩
theorem Cells.row {ty : TypeId} {w : World} {lo : Nat} {l : List T} {A : Option Addr} {n c : Nat} {xs : List Value} (hn : l.length = n) (ho : w.ownsRow lo ty 6 (.slice A n c) n xs) (hc : Cells w (· < lo) l xs) (hlo : lo ≤ w.heap.size) : n ≤ c ∧ VReads w (· < w.heap.size) A l := by
 subst hn
 have : Coll ty w lo (fun _ => False) l (.slice A l.length c) xs := ⟨fun _ _ h => h, ho, fun i x hx => by
  obtain ⟨B, e, B', e', h1, h2⟩ := hc.2.2 i x hx
  exact ⟨B, e, B', e', h1, h2.wide fun b hb => ⟨Nat.lt_of_lt_of_le hb hlo, fun h => h, fun e1 => by have := (ho.lt b e1.symm).1; omega⟩⟩⟩
 obtain ⟨_, h2, h3⟩ := this.vreads
 exact ⟨h2, h3.wide fun b hb => hb.1⟩
theorem Cells.on {w w' : World} {B B' : Nat} {l : List T} {xs : List Value} (h : Cells w (· < B) l xs) (hb : Below B w w') (hB : B ≤ B') : Cells w' (· < B') l xs := by
 refine ⟨h.1, h.2.1, fun i x hx => ?_⟩
 obtain ⟨C, e, C', e', hc, ht⟩ := h.2.2 i x hx
 exact ⟨C, e, C', e', hc, (ht.under hb).wide fun b hb' => Nat.lt_of_lt_of_le hb' hB⟩
theorem Cells.wide {w : World} {S S' : Nat → Prop} {l : List T} {xs : List Value} (h : Cells w S l xs) (hs : ∀ b, S b → S' b) : Cells w S' l xs :=
 ⟨h.1, h.2.1, fun i x hx => by
  obtain ⟨C, e, C', e', hc, ht⟩ := h.2.2 i x hx
  exact ⟨C, e, C', e', hc, ht.wide hs⟩⟩
theorem VReads.src_in {w : World} {B : Nat} {S : Nat → Prop} {A : Option Addr} {l : List T} (h : VReads w S A l) (hS : ∀ b, S b → b < B) : ∃ xs, Cells w S l xs ∧ ∀ W2, Below B w W2 → Src W2 A l.length 6 xs := by
 obtain ⟨xs, hc, hs⟩ := h.cells
 refine ⟨xs, hc, fun W2 hb => ⟨hc.1, fun hm => ?_⟩⟩
 obtain ⟨b, o, e, hlt, hcell⟩ := hs (by intro hn; rw [hn] at hm; simp at hm)
 refine ⟨_, e, fun j u hu => ?_⟩
 rw [add_lit]
 exact ((Keeps.of_below hb).cell (hS b hlt) _).trans (hcell j u hu)
theorem Src.nil_any {w : World} {A A' : Option Addr} {size : Nat} {xs : List Value} (h : Src w A 0 size xs) : Src w A' 0 size xs := ⟨h.1, fun hm => absurd hm (by omega)⟩
open Go.RowKit
open Tk
theorem next_code {s : ByteArray} {i p : Nat} {c : Int} (h : next s i = .err p c) : c ≠ 0 := by
 have := err_num s (span isBl s i) p c h
 omega
theorem Rd.err_pos (O : List (ByteArray × T) → T) (s : ByteArray) : ∀ n, (∀ room t p c, Rd.fromF O s n room t = .err p c → c ≠ 0) ∧ (∀ room t acc p c, Rd.itemsF O s n room t acc = .err p c → c ≠ 0) ∧ (∀ room t acc p c, Rd.membsF O s n room t acc = .err p c → c ≠ 0) := by
 intro n
 induction n with
 | zero => exact ⟨fun _ _ _ _ h => (by unfold Rd.fromF at h; cases h), fun _ _ _ _ _ h => (by unfold Rd.itemsF at h; cases h), fun _ _ _ _ _ h => (by unfold Rd.membsF at h; cases h)⟩
 | succ n ih =>
  obtain ⟨ih1, ih2, ih3⟩ := ih
  refine ⟨fun room t p c h => ?_, fun room t acc p c h => ?_, fun room t acc p c h => ?_⟩
  ·
   unfold Rd.fromF at h
   repeat' split at h
   all_goals first
    | (cases h; done)
    | (injection h with _ h; subst h; decide)
    | (injection h with _ h; subst h; exact next_code (by assumption))
    | exact ih2 _ _ _ _ _ h
    | exact ih3 _ _ _ _ _ h
  ·
   unfold Rd.itemsF at h
   repeat' split at h
   all_goals first
    | (cases h; done)
    | (injection h with _ h; subst h; decide)
    | (injection h with _ h; subst h; exact next_code (by assumption))
    | (injection h with _ h; subst h; exact ih1 _ _ _ _ (by assumption))
    | exact ih2 _ _ _ _ _ h
  ·
   unfold Rd.membsF at h
   repeat' split at h
   all_goals first
    | (cases h; done)
    | (injection h with _ h; subst h; decide)
    | (injection h with _ h; subst h; exact next_code (by assumption))
    | (injection h with _ h; subst h; exact ih1 _ _ _ _ (by assumption))
    | exact ih3 _ _ _ _ _ h
def FromAt (O : List (ByteArray × T) → T) (s : ByteArray) (n : Nat) : Prop := ∀ (room : Nat), room ≤ 1000 → ∀ (t : Tok) (r b : Nat) (w : World), Rd.Ok s t → 2 * (s.size - t.at_) + 1 ≤ n → Blk w r 77 #[.pointer (some ⟨b, 0, none⟩), .int .i64 room] → Lx w b s t.fin → ErrAt b w → r ≠ b →
 Calls Tryz.prog 62 #[.pointer (some ⟨r, 0, none⟩), .agg #[.int .i64 t.kind, .string t.text, .int .i64 t.num, .int .i64 t.at_, .int .i64 t.fin]] w (FromGives (Rd.fromF O s n room t) b s w)
def FromSays (res : Rd.Res) (b : Nat) (s : ByteArray) (w : World) (V : T) (A : Option Addr) (c : Nat) (A' : Option Addr) (c' : Nat) (p e : Int) (w' : World) : Prop := match res with
 | .out => False
 | .err p0 c0 => p = p0 ∧ e = c0 ∧ (e == 0) = false ∧ Aside b w w'
 | .val v fin => V = v ∧ p = 0 ∧ e = 0 ∧ TV w' (fun q => w.heap.size ≤ q ∧ q < w'.heap.size) v A c A' c' ∧ Aside b w w' ∧ Lx w' b s fin
theorem FromSays.side {res : Rd.Res} {b : Nat} {s : ByteArray} {w : World} {V : T} {A : Option Addr} {c : Nat} {A' : Option Addr} {c' : Nat} {p e : Int} {w' : World} (h : FromSays res b s w V A c A' c' p e w') : Aside b w w' := by
 cases res with
 | out => exact h.elim
 | err p0 c0 => exact h.2.2.2
 | val v fin => exact h.2.2.2.2.1
theorem from_says {O : List (ByteArray × T) → T} {s : ByteArray} {n : Nat} (h : FromAt O s n) (room : Nat) (hroom : room ≤ 1000) (t : Tok) (r b : Nat) (w : World) (ho : Rd.Ok s t) (hn : 2 * (s.size - t.at_) + 1 ≤ n) (hr : Blk w r 77 #[.pointer (some ⟨b, 0, none⟩), .int .i64 room]) (hl : Lx w b s t.fin) (hE : ErrAt b w) (hne : r ≠ b) :
 Calls Tryz.prog 62 #[.pointer (some ⟨r, 0, none⟩), .agg #[.int .i64 t.kind, .string t.text, .int .i64 t.num, .int .i64 t.at_, .int .i64 t.fin]] w fun e w' => ∃ (V : T) (A : Option Addr) (c : Nat) (A' : Option Addr) (c' : Nat) (p ec : Int), e = .returned (.tuple #[V.agg A c A' c', .int .i64 p, .int .i64 ec]) ∧ FromSays (Rd.fromF O s n room t) b s w V A c A' c' p ec w' := by
 refine (h room hroom t r b w ho hn hr hl hE hne).mono ?_
 intro e w' hg
 have h1 := (Rd.enough O s n).1 room t ho hn
 have h2 := (Rd.err_pos O s n).1 room t
 cases hres : Rd.fromF O s n room t with
 | out => exact absurd hres h1.1
 | err p c =>
  rw [hres] at hg
  obtain ⟨rfl, hA⟩ := hg
  have := h2 p c hres
  exact ⟨T.zero, none, 0, none, 0, p, c, rfl, rfl, rfl, (by rw [beq_eq_false_iff_ne]; exact this), hA⟩
 | val v fin =>
  rw [hres] at hg
  obtain ⟨A, c, A', c', rfl, h3, h4, h5⟩ := hg
  exact ⟨v, A, c, A', c', 0, 0, rfl, rfl, rfl, rfl, h3, h4, h5⟩
theorem Coll.fresh {ty : TypeId} {w w' : World} {lo : Nat} {X X' : Nat → Prop} {l : List T} {v : Value} {xs : List Value} (h : Coll ty w lo X l v xs) (hg : ∀ b, b < w.heap.size → ¬ X b → w'.heap[b]? = w.heap[b]?) (hs : w.heap.size ≤ w'.heap.size) (hX : ∀ b, b < w.heap.size → X' b → X b) : Coll ty w' lo X' l v xs := by
 obtain ⟨h1, ho, hi⟩ := h
 have hlt := ho.lt
 refine ⟨fun b hb hx => h1 b hb (hX b (hlt b hb).2 hx), ⟨ho.1, ?_⟩, fun i x hx => ?_⟩
 ·
  rcases ho.2 with h0 | ⟨g, cap, cur, rfl, hb, hgg, rest⟩
  · exact .inl h0
  · exact .inr ⟨g, cap, cur, rfl, hb, (hg g (Array.getElem?_eq_some_iff.1 hgg).1 (h1 g rfl)).trans hgg, rest⟩
 ·
  obtain ⟨B, e, B', e', hc, ht⟩ := hi i x hx
  exact ⟨B, e, B', e', hc, (ht.keep fun b hb => hg b hb.1 hb.2.1).wide fun b hb => ⟨Nat.lt_of_lt_of_le hb.1 hs, fun hx => hb.2.1 (hX b hb.1 hx), hb.2.2⟩⟩
def StepPost {α : Type} (res : Rd.Gp α) (J : (Nat → Prop) → α → World → Prop) (Y : Nat → Prop) (b N0 : Nat) (s : ByteArray) (w : World) (e : Ending) (w' : World) : Prop := match res with
 | .out => True
 | .err p c => e = .returned (.tuple #[.int .i64 p, .int .i64 c]) ∧ (c == 0) = false ∧ Kept (fun k => Y k ∨ k < N0 ∧ k ≠ b) w w'
 | .ok a' fin => e = .returned (.tuple #[.int .i64 0, .int .i64 0]) ∧ J Y a' w' ∧ Lx w' b s fin ∧ Kept (fun k => Y k ∨ k < N0 ∧ k ≠ b) w w'
theorem setCell_size (w : World) (p : Addr) (v : Value) : (w.setCell p v).heap.size = w.heap.size := by simp [World.setCell]
theorem putv_size {w : World} {g o : Nat} {v0 v1 v2 v3 v4 v5 : Value} : (((((((w.setCell ⟨g, o, none⟩ v0).setCell ⟨g, o + 1, none⟩ v1).setCell ⟨g, o + 2, none⟩ v2).setCell ⟨g, o + 3, none⟩ v3).setCell ⟨g, o + 4, none⟩ v4).setCell ⟨g, o + 5, none⟩ v5)).heap.size = w.heap.size := by
 rw [setCell_size, setCell_size, setCell_size, setCell_size, setCell_size, setCell_size]
theorem putv_heap {w : World} {g o : Nat} {v0 v1 v2 v3 v4 v5 : Value} {k : Nat} (h : k ≠ g) : (((((((w.setCell ⟨g, o, none⟩ v0).setCell ⟨g, o + 1, none⟩ v1).setCell ⟨g, o + 2, none⟩ v2).setCell ⟨g, o + 3, none⟩ v3).setCell ⟨g, o + 4, none⟩ v4).setCell ⟨g, o + 5, none⟩ v5)).heap[k]? = w.heap[k]? := by
 rw [Below.heap_setCell _ _ _ _ h, Below.heap_setCell _ _ _ _ h, Below.heap_setCell _ _ _ _ h, Below.heap_setCell _ _ _ _ h, Below.heap_setCell _ _ _ _ h, Below.heap_setCell _ _ _ _ h]
def ItemJ (q r b N0 : Nat) (room : Nat) (Y : Nat → Prop) (l : List T) (w : World) : Prop :=
 (∃ A d xs, Blk w q 156 #[.pointer (some ⟨r, 0, none⟩), .slice A l.length d] ∧ Coll 43 w N0 (fun k => Y k ∨ k < N0 ∨ k = q) l (.slice A l.length d) xs) ∧
  Blk w r 77 #[.pointer (some ⟨b, 0, none⟩), .int .i64 room] ∧ ¬ Y q ∧ (∀ k, Y k → N0 ≤ k ∧ k < w.heap.size) ∧ r < N0 ∧ b < N0 ∧ N0 ≤ q ∧ r ≠ b
theorem item_stable {q r b N0 room : Nat} (Y : Nat → Prop) (l : List T) (w w' : World) (h : ItemJ q r b N0 room Y l w) (k : Kept (fun i => ¬ Y i ∧ i ≠ b) w w') : ItemJ q r b N0 room (fun i => Y i ∨ (w.heap.size ≤ i ∧ i < w'.heap.size)) l w' := by
 obtain ⟨⟨A, d, xs, hq, hc⟩, hr, hY, hN, h1, h2, h3, h4⟩ := h
 have hql := hq.lt
 refine ⟨⟨A, d, xs, hq.kept k ⟨hY, by omega⟩, hc.fresh (fun i hi hx => k.block i hi ⟨fun hy => hx (.inl hy), fun e => hx (.inr (.inl (by omega)))⟩) k.size (fun i hi hx => ?_)⟩, hr.kept k ⟨fun hy => by have := (hN _ hy).1; omega, h4⟩, fun hy => ?_, fun i hi => ?_, h1, h2, h3, h4⟩
 ·
  rcases hx with (hx | hx) | hx
  · exact .inl hx
  · omega
  · exact .inr hx
 ·
  rcases hy with hy | hy
  · exact hY hy
  · omega
 ·
  rcases hi with hi | hi
  · exact ⟨(hN i hi).1, Nat.lt_of_lt_of_le (hN i hi).2 k.size⟩
  · exact ⟨by omega, hi.2⟩
open Go.RowKit
open Go.RowKit
open Tk
def FromIn (res : Rd.Res) (b : Nat) (s : ByteArray) (W : World) (V : T) (A : Option Addr) (c : Nat) (A' : Option Addr) (c' : Nat) (p e : Int) (g : Nat) (wx : World) : Prop := match res with
 | .out => False
 | .err p0 c0 => p = p0 ∧ e = c0 ∧ (e == 0) = false ∧ Aside b W wx
 | .val v fin => V = v ∧ p = 0 ∧ e = 0 ∧ TV wx (fun k => W.heap.size ≤ k ∧ k < wx.heap.size ∧ k ≠ g) v A c A' c' ∧ Aside b W wx ∧ Lx wx b s fin
def ItemCut (res : Rd.Res) (b : Nat) (s : ByteArray) (W : World) (s6 s7 s8 : Value) (wx : World) : Prop := ∃ (g : Nat) (V : T) (A : Option Addr) (c : Nat) (A' : Option Addr) (c' : Nat) (p e : Int), s6 = .pointer (some ⟨g, 0, none⟩) ∧ s7 = .int .i64 p ∧ s8 = .int .i64 e ∧ Blk wx g 43 #[.int .i64 V.kind, .bool V.tr, .int .i64 V.num, .string V.str, .slice A V.items.length c, .slice A' V.keys.length c'] ∧ FromIn res b s W V A c A' c' p e g wx ∧ W.heap.size ≤ g
theorem FromSays.back {res : Rd.Res} {b : Nat} {s : ByteArray} {W W1 : World} {V : T} {A : Option Addr} {c : Nat} {A' : Option Addr} {c' : Nat} {p e : Int} {w' : World} (h : FromSays res b s W1 V A c A' c' p e w') (hb : Below W.heap.size W W1) : FromSays res b s W V A c A' c' p e w' := by
 cases res with
 | out => exact h.elim
 | err p0 c0 => exact ⟨h.1, h.2.1, h.2.2.1, (Aside.of hb).trans_ h.2.2.2⟩
 | val v fin =>
  obtain ⟨h1, h2, h3, h4, h5, h6⟩ := h
  exact ⟨h1, h2, h3, h4.wide fun k hk => ⟨Nat.le_trans hb.size hk.1, hk.2⟩, (Aside.of hb).trans_ h5, h6⟩
theorem item_cutA {res : Rd.Res} {b : Nat} {s : ByteArray} {W : World} {V : T} {A : Option Addr} {c : Nat} {A' : Option Addr} {c' : Nat} {p e : Int} {w' : World} (h : FromSays res b s W V A c A' c' p e w') (hb : b < W.heap.size) :
 ItemCut res b s W (.pointer (some ⟨w'.heap.size, 0, none⟩)) (.int .i64 p) (.int .i64 e) (w'.alloc (.cells #[.int .i64 V.kind, .bool V.tr, .int .i64 V.num, .string V.str, .slice A V.items.length c, .slice A' V.keys.length c'] 43)) := by
 have hA := h.side
 refine ⟨_, V, A, c, A', c', p, e, rfl, rfl, rfl, Blk.new w' _ _, ?_, hA.size⟩
 have hbel : Below w'.heap.size w' (w'.alloc (.cells #[.int .i64 V.kind, .bool V.tr, .int .i64 V.num, .string V.str, .slice A V.items.length c, .slice A' V.keys.length c'] 43)) := (Below.refl _ _).alloc (Nat.le_refl _) _
 have hA2 := hA.trans_ (Aside.of hbel)
 cases res with
 | out => exact h.elim
 | err p0 c0 => exact ⟨h.1, h.2.1, h.2.2.1, hA2⟩
 | val v fin =>
  obtain ⟨h1, h2, h3, h4, _, h6⟩ := h
  exact ⟨h1, h2, h3, (h4.keep fun k hk => hbel.block k hk.2).wide fun k hk => ⟨hk.1, by have := hk.2; simp; omega, by have := hk.2; omega⟩, hA2, Blk.onto h6 hbel⟩
theorem Aside.put6 {b g : Nat} {w w' : World} (h : Aside b w w') (hg : w.heap.size ≤ g) (v0 v1 v2 v3 v4 v5 : Value) : Aside b w ((((((w'.setCell ⟨g, 0, none⟩ v0).setCell ⟨g, 1, none⟩ v1).setCell ⟨g, 2, none⟩ v2).setCell ⟨g, 3, none⟩ v3).setCell ⟨g, 4, none⟩ v4).setCell ⟨g, 5, none⟩ v5) :=
 (((((h.far hg v0).far hg v1).far hg v2).far hg v3).far hg v4).far hg v5
theorem item_cutB {res : Rd.Res} {b : Nat} {s : ByteArray} {W : World} {V : T} {A : Option Addr} {c : Nat} {A' : Option Addr} {c' : Nat} {p e : Int} {w' W1 : World} (h : FromSays res b s W1 V A c A' c' p e w') (hW1 : Below W.heap.size W W1) (hW2 : W.heap.size < W1.heap.size) (hb : b < W.heap.size) (hB : Blk w' W.heap.size 43 #[.int .i64 0, .bool false, .int .i64 0, .string ⟨#[]⟩, .slice none 0 0, .slice none 0 0]) :
 ItemCut res b s W (.pointer (some ⟨W.heap.size, 0, none⟩)) (.int .i64 p) (.int .i64 e) ((((((w'.setCell ⟨W.heap.size, 0, none⟩ (.int .i64 V.kind)).setCell ⟨W.heap.size, 1, none⟩ (.bool V.tr)).setCell ⟨W.heap.size, 2, none⟩ (.int .i64 V.num)).setCell ⟨W.heap.size, 3, none⟩ (.string V.str)).setCell ⟨W.heap.size, 4, none⟩ (.slice A V.items.length c)).setCell ⟨W.heap.size, 5, none⟩ (.slice A' V.keys.length c')) := by
 have hA := h.side
 have hA1 : Aside b W w' := (Aside.of hW1).trans_ hA
 refine ⟨_, V, A, c, A', c', p, e, rfl, rfl, rfl, res_put hB rfl V A c A' c', ?_, Nat.le_refl _⟩
 have hk : ∀ k, k ≠ W.heap.size → ((((((w'.setCell ⟨W.heap.size, 0, none⟩ (.int .i64 V.kind)).setCell ⟨W.heap.size, 1, none⟩ (.bool V.tr)).setCell ⟨W.heap.size, 2, none⟩ (.int .i64 V.num)).setCell ⟨W.heap.size, 3, none⟩ (.string V.str)).setCell ⟨W.heap.size, 4, none⟩ (.slice A V.items.length c)).setCell ⟨W.heap.size, 5, none⟩ (.slice A' V.keys.length c')).heap[k]? = w'.heap[k]? := fun k hk => by
  rw [Below.heap_setCell _ _ _ _ hk, Below.heap_setCell _ _ _ _ hk, Below.heap_setCell _ _ _ _ hk, Below.heap_setCell _ _ _ _ hk, Below.heap_setCell _ _ _ _ hk, Below.heap_setCell _ _ _ _ hk]
 have hz : ((((((w'.setCell ⟨W.heap.size, 0, none⟩ (.int .i64 V.kind)).setCell ⟨W.heap.size, 1, none⟩ (.bool V.tr)).setCell ⟨W.heap.size, 2, none⟩ (.int .i64 V.num)).setCell ⟨W.heap.size, 3, none⟩ (.string V.str)).setCell ⟨W.heap.size, 4, none⟩ (.slice A V.items.length c)).setCell ⟨W.heap.size, 5, none⟩ (.slice A' V.keys.length c')).heap.size = w'.heap.size := by simp [World.setCell]
 have hA2 := hA1.put6 (g := W.heap.size) (Nat.le_refl _) (.int .i64 V.kind) (.bool V.tr) (.int .i64 V.num) (.string V.str) (.slice A V.items.length c) (.slice A' V.keys.length c')
 cases res with
 | out => exact h.elim
 | err p0 c0 => exact ⟨h.1, h.2.1, h.2.2.1, hA2⟩
 | val v fin =>
  obtain ⟨h1, h2, h3, h4, _, h6⟩ := h
  refine ⟨h1, h2, h3, (h4.keep fun k hk' => hk k (by have := hk'.1; omega)).wide fun k hk' => ⟨by have := hk'.1; omega, by rw [hz]; exact hk'.2, by have := hk'.1; omega⟩, hA2, (hk b (by omega)).trans h6⟩
theorem grown_set {w w' : World} {row : Option Nat} (h : w.grownBy w' row) {p : Addr} (hp : row = some p.block ∨ w.heap.size ≤ p.block) (v : Value) : w.grownBy (w'.setCell p v) row :=
 ⟨h.os, h.tape, h.output, by rw [setCell_size]; exact h.size, fun k hk hne => (Below.heap_setCell w' p v k (fun e => by
  rcases hp with hp | hp
  · exact hne (by rw [hp, e])
  · omega)).trans (h.block k hk hne)⟩
theorem grown_put6 {w w' : World} {row : Option Nat} {g o : Nat} {v0 v1 v2 v3 v4 v5 : Value} (h : w.grownBy w' row) (hg : row = some g ∨ w.heap.size ≤ g) : w.grownBy ((((((w'.setCell ⟨g, o, none⟩ v0).setCell ⟨g, o + 1, none⟩ v1).setCell ⟨g, o + 2, none⟩ v2).setCell ⟨g, o + 3, none⟩ v3).setCell ⟨g, o + 4, none⟩ v4).setCell ⟨g, o + 5, none⟩ v5) row :=
 grown_set (grown_set (grown_set (grown_set (grown_set (grown_set h (p := ⟨g, o, none⟩) hg v0) (p := ⟨g, o + 1, none⟩) hg v1) (p := ⟨g, o + 2, none⟩) hg v2) (p := ⟨g, o + 3, none⟩) hg v3) (p := ⟨g, o + 4, none⟩) hg v4) (p := ⟨g, o + 5, none⟩) hg v5
theorem own_put6 {w : World} {base n d : Nat} {ty : TypeId} {B : Option Addr} {xs zs : List Value} (ho : w.ownsRow base ty 6 (.slice B (n + 1) d) (n + 1) (xs ++ zs)) (hx : xs.length = n * 6) (hz : zs.length = 6) (t : T) (A : Option Addr) (c : Nat) (A' : Option Addr) (c' : Nat) :
 ∃ g, B = some ⟨g, 0, none⟩ ∧ base ≤ g ∧ g < w.heap.size ∧ (∀ j, j < 6 → w.cell? ⟨g, n * 6 + j, none⟩ = zs[j]?) ∧ (∀ j, w.frozen? ⟨g, j, none⟩ = false) ∧ ((((((w.setCell ⟨g, n * 6, none⟩ (.int .i64 t.kind)).setCell ⟨g, n * 6 + 1, none⟩ (.bool t.tr)).setCell ⟨g, n * 6 + 2, none⟩ (.int .i64 t.num)).setCell ⟨g, n * 6 + 3, none⟩ (.string t.str)).setCell ⟨g, n * 6 + 4, none⟩ (.slice A t.items.length c)).setCell ⟨g, n * 6 + 5, none⟩ (.slice A' t.keys.length c')).ownsRow base ty 6 (.slice B (n + 1) d) (n + 1) (xs ++ (t.cs A c A' c').toList) := by
 rcases ho.2 with ⟨_, h0⟩ | ⟨g, cap, cur, e, hb, hh, hle, hm, hsz, ht⟩
 · omega
 ·
  injection e with e1 e2 e3
  subst e1 e3
  have hB : Blk w g ty cur := hh
  obtain ⟨cs', hb', hz', h6', hfar⟩ := six_put hB (o := n * 6) (by rw [hsz]; omega) t A c A' c'
  have hcur : ∀ j, j < (n + 1) * 6 → cur[j]? = (xs ++ zs)[j]? := fun j hj => by rw [← ht, List.getElem?_take_of_lt hj, Array.getElem?_toList]
  refine ⟨g, rfl, hb, hB.lt, fun j hj => ?_, fun j => hB.free j, by simp [T.cs, hx]; omega, .inr ⟨g, d, cs', rfl, hb, hb', hle, hm, by rw [hz', hsz], ?_⟩⟩
  ·
   rw [hB.cell, hcur _ (by omega), List.getElem?_append_right (by omega)]
   rw [show n * 6 + j - xs.length = j by omega]
  ·
   apply List.ext_getElem?
   intro j
   by_cases hj : j < (n + 1) * 6
   ·
    rw [List.getElem?_take_of_lt hj, Array.getElem?_toList]
    by_cases h1 : j < n * 6
    · rw [hfar j (.inl h1), hcur j hj, List.getElem?_append_left (by omega), List.getElem?_append_left (by omega)]
    ·
     rw [List.getElem?_append_right (by omega), hx]
     have h2 := h6'.at_ (j := j - n * 6) (by omega)
     rw [hb'.cell, show n * 6 + (j - n * 6) = j by omega] at h2
     rw [h2, Array.getElem?_toList]
   · rw [List.getElem?_eq_none (by simp; omega), List.getElem?_eq_none (by simp [T.cs, hx]; omega)]
theorem setCell_comm {w : World} {p p' : Addr} (h : p.block ≠ p'.block) (v v' : Value) : (w.setCell p v).setCell p' v' = (w.setCell p' v').setCell p v := by
 unfold World.setCell
 congr 1
 apply Array.ext_getElem?
 intro k
 simp only [Array.getElem?_modify]
 by_cases h1 : p'.block = k
 ·
  by_cases h2 : p.block = k
  · exact absurd (h2.trans h1.symm) h
  · simp [h1, h2]
 ·
  by_cases h2 : p.block = k
  · simp [h1, h2]
  · simp [h1, h2]
theorem putv_comm {w : World} {g o q j : Nat} {v0 v1 v2 v3 v4 v5 u : Value} (h : q ≠ g) : (((((((w.setCell ⟨q, j, none⟩ u).setCell ⟨g, o, none⟩ v0).setCell ⟨g, o + 1, none⟩ v1).setCell ⟨g, o + 2, none⟩ v2).setCell ⟨g, o + 3, none⟩ v3).setCell ⟨g, o + 4, none⟩ v4).setCell ⟨g, o + 5, none⟩ v5) = (((((((w.setCell ⟨g, o, none⟩ v0).setCell ⟨g, o + 1, none⟩ v1).setCell ⟨g, o + 2, none⟩ v2).setCell ⟨g, o + 3, none⟩ v3).setCell ⟨g, o + 4, none⟩ v4).setCell ⟨g, o + 5, none⟩ v5)).setCell ⟨q, j, none⟩ u := by
 rw [setCell_comm (p := ⟨q, j, none⟩) h, setCell_comm (p := ⟨q, j, none⟩) h, setCell_comm (p := ⟨q, j, none⟩) h, setCell_comm (p := ⟨q, j, none⟩) h, setCell_comm (p := ⟨q, j, none⟩) h, setCell_comm (p := ⟨q, j, none⟩) h]
theorem item_end {q r b N0 room gB g d8 d0 fin : Nat} {s : ByteArray} {Y : Nat → Prop} {l : List T} {V : T} {w W wc W9 : World} {A0 : Option Addr} {xs0 : List Value} {A : Option Addr} {c : Nat} {A' : Option Addr} {c' : Nat}
 (hW : Below w.heap.size w W) (hA : Aside b W wc) (hC : Coll 43 wc N0 (fun k => Y k ∨ k < N0 ∨ k = q) l (.slice A0 l.length d0) xs0) (hT : TV wc (fun k => W.heap.size ≤ k ∧ k < wc.heap.size ∧ k ≠ g) V A c A' c') (hL : Lx wc b s fin)
 (hr : Blk W r 77 #[.pointer (some ⟨b, 0, none⟩), .int .i64 room]) (hYq : ¬ Y q) (hYN : ∀ k, Y k → N0 ≤ k ∧ k < w.heap.size) (h1 : r < N0) (h2 : b < N0) (h3 : N0 ≤ q) (h4 : r ≠ b) (hql : q < w.heap.size) (hWs : w.heap.size < W.heap.size) (hlo : ∀ k, (Value.slice A0 l.length d0).ownBlock = some k → k < w.heap.size)
 (hown : W9.ownsRow N0 43 6 (.slice (some ⟨gB, 0, none⟩) (l.length + 1) d8) (l.length + 1) (xs0 ++ (V.cs A c A' c').toList)) {o : Obj} (hG : (wc.alloc o).grownBy W9 (Value.slice A0 l.length d0).ownBlock) (hat : gB < w.heap.size ∧ some gB = (Value.slice A0 l.length d0).ownBlock ∨ gB = wc.heap.size + 1)
 (hQ : Blk W9 q 156 #[.pointer (some ⟨r, 0, none⟩), .slice A0 l.length d0]) :
 ItemJ q r b N0 room Y (l ++ [V]) (W9.setCell ⟨q, 1, none⟩ (.slice (some ⟨gB, 0, none⟩) (l.length + 1) d8)) ∧ Lx (W9.setCell ⟨q, 1, none⟩ (.slice (some ⟨gB, 0, none⟩) (l.length + 1) d8)) b s fin ∧ Kept (fun k => Y k ∨ k < N0 ∧ k ≠ b) w (W9.setCell ⟨q, 1, none⟩ (.slice (some ⟨gB, 0, none⟩) (l.length + 1) d8)) := by
 have hs1 := hA.size
 have hs2 := hG.size
 rw [World.size_alloc] at hs2
 have hrow : ∀ k, (Value.slice A0 l.length d0).ownBlock = some k → N0 ≤ k := fun k hk => (hC.2.1.lt k hk).1
 have hblk : ∀ k, k < wc.heap.size → some k ≠ (Value.slice A0 l.length d0).ownBlock → W9.heap[k]? = wc.heap[k]? := fun k hk hne => (hG.block k (by rw [World.size_alloc]; omega) hne).trans (Below.heap_alloc _ _ k hk)
 have hc9 := hC.app_new (x := V) (hT.wide fun k hk => ⟨hk.2.1, (fun hx => by
  rcases hx with hx | hx | hx
  · have := (hYN k hx).2; have := hk.1; omega
  · have := hk.1; omega
  · have := hk.1; omega), fun e => by have := hlo k e.symm; have := hk.1; omega⟩) (fun hx => by
  rcases hx with hx | hx | hx
  · have := (hYN _ hx).2; omega
  · omega
  · omega) rfl hown hG (by
  rcases hat with h | h
  · exact .inl h.2
  · right; show some gB = _; rw [World.size_alloc, h])
 have hc := hc9.set (p := ⟨q, 1, none⟩) (.inr (.inr rfl)) (.slice (some ⟨gB, 0, none⟩) (l.length + 1) d8)
 have hK : Kept (fun k => Y k ∨ k < N0 ∧ k ≠ b) wc W9 := ⟨hG.os, hG.tape, hG.output, by omega, fun k hk hS => hblk k hk (fun e => by
  rcases hS with hS | hS
  · exact hC.1 k e.symm (.inl hS)
  · have := hrow k e.symm; omega)⟩
 have hL9 : Lx W9 b s fin := (hblk b (Blk.lt hL) (fun e => by have := hrow b e.symm; omega)).trans hL
 refine ⟨⟨⟨some ⟨gB, 0, none⟩, d8, _, by rw [List.length_append]; exact hQ.set_ 1 _, by rw [List.length_append]; exact hc⟩, ?_, hYq, fun k hk => ⟨(hYN k hk).1, by rw [setCell_size]; have := (hYN k hk).2; omega⟩, h1, h2, h3, h4⟩, Blk.far hL9 (by show b ≠ q; omega) _, ?_⟩
 · exact Blk.far ((hr.aside hA h4).kept hK (.inr ⟨h1, h4⟩)) (by show r ≠ q; omega) _
 ·
  refine (((Kept.of hW).trans (Kept.side hA (fun k hk => ?_))).trans hK).set (.inl fun hS => ?_) _
  ·
   rcases hk with hk | hk
   · have := (hYN k hk).1; omega
   · exact hk.2
  ·
   rcases hS with hS | hS
   · exact hYq hS
   · have : q < N0 := hS.1; omega
end Go.Proofs.YtgblenoaeanogaaGreatDoor
