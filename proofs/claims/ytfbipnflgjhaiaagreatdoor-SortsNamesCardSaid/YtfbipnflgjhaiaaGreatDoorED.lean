/- A row of trees that is being filled: words for the program's join. Trees put together, not too deep: contract of the program's join. Strings and ints, read: contracts of the program's parser. -/
import Derived.Test.YtfbipnflgjhaiaaGreatDoorEC
import Derived.Laws.MakeOwn
import Derived.Outline
set_option linter.unusedVariables false
set_option maxRecDepth 100000
set_option maxHeartbeats 8000000
open Go.Lib (hid)
namespace Go.Proofs.YtfbipnflgjhaiaaGreatDoor
open Go.RowKit
open Tk Ex
theorem infoExpr : (Tryz.prog.info? 52).map (fun i => (i.zero, i.size, i.bytes)) = some (some (.agg #[.string ⟨#[]⟩, .string ⟨#[]⟩, .int .i64 0, .bool false, .int .i64 0, .string ⟨#[]⟩, .slice none 0 0, .slice none 0 0, .slice none 0 0]), 9, 144) := by kernel_rfl
theorem set_get {cs : Array Value} {i : Nat} (h : i < cs.size) (v : Value) : (cs.setIfInBounds i v)[i]? = some v := by simp [h]
theorem set_far {cs : Array Value} {i j : Nat} (h : i ≠ j) (v : Value) : (cs.setIfInBounds i v)[j]? = cs[j]? := by simp [h]
def setL (cs : Array Value) : Nat → List Value → Array Value
 | _, [] => cs
 | o, v :: l => setL (cs.setIfInBounds o v) (o + 1) l
theorem setL_size : ∀ (l : List Value) (cs : Array Value) (o : Nat), (setL cs o l).size = cs.size := by
 intro l
 induction l with
 | nil => intro cs o; rfl
 | cons v l ih => intro cs o; rw [setL, ih]; simp
theorem setL_far : ∀ (l : List Value) (cs : Array Value) (o j : Nat), j < o ∨ o + l.length ≤ j → (setL cs o l)[j]? = cs[j]? := by
 intro l
 induction l with
 | nil => intro cs o j _; rfl
 | cons v l ih =>
  intro cs o j h
  simp only [List.length_cons] at h
  rw [setL, ih _ _ _ (by omega), set_far (by omega)]
theorem setL_get : ∀ (l : List Value) (cs : Array Value) (o r : Nat) (v : Value), o + l.length ≤ cs.size → l[r]? = some v → (setL cs o l)[o + r]? = some v := by
 intro l
 induction l with
 | nil => intro cs o r v _ h; cases h
 | cons u l ih =>
  intro cs o r v hs h
  simp only [List.length_cons] at hs
  rw [setL]
  cases r with
  | zero =>
   injection h with h; subst h
   rw [setL_far _ _ _ _ (.inl (by omega)), Nat.add_zero, set_get (by omega)]
  | succ r =>
   have := ih (cs.setIfInBounds o u) (o + 1) r v (by simp; omega) h
   rw [show o + (r + 1) = o + 1 + r by omega]; exact this
theorem nine_put {w : World} {g : Nat} {ty : TypeId} {cs : Array Value} (h : Blk w g ty cs) {o : Nat} (ho : o + 9 ≤ cs.size) (v0 v1 v2 v3 v4 v5 v6 v7 v8 : Value) :
 ∃ cs', Blk (((((((((w.setCell ⟨g, o, none⟩ v0).setCell ⟨g, o + 1, none⟩ v1).setCell ⟨g, o + 2, none⟩ v2).setCell ⟨g, o + 3, none⟩ v3).setCell ⟨g, o + 4, none⟩ v4).setCell ⟨g, o + 5, none⟩ v5).setCell ⟨g, o + 6, none⟩ v6).setCell ⟨g, o + 7, none⟩ v7).setCell ⟨g, o + 8, none⟩ v8) g ty cs' ∧ cs'.size = cs.size ∧ (∀ (r : Nat) (v : Value), [v0, v1, v2, v3, v4, v5, v6, v7, v8][r]? = some v → cs'[o + r]? = some v) ∧ ∀ j, j < o ∨ o + 9 ≤ j → cs'[j]? = cs[j]? := by
 have hb := ((((((((h.set_ o v0).set_ (o + 1) v1).set_ (o + 2) v2).set_ (o + 3) v3).set_ (o + 4) v4).set_ (o + 5) v5).set_ (o + 6) v6).set_ (o + 7) v7).set_ (o + 8) v8
 exact ⟨setL cs o [v0, v1, v2, v3, v4, v5, v6, v7, v8], hb, setL_size _ _ _, fun r v hv => setL_get _ _ _ _ _ ho hv, fun j hj => setL_far _ _ _ _ hj⟩
theorem Blk.nine {w : World} {g : Nat} {ty : TypeId} {cs : Array Value} (h : Blk w g ty cs) {o : Nat} (ho : o + 9 ≤ cs.size) (r : Nat) (hr : r < 9) : ∃ u, w.cell? ⟨g, o + r, none⟩ = some u :=
 ⟨cs[o + r]'(by omega), by rw [h.cell]; simp⟩
def Filled (w : World) (S : Nat → Prop) (R : Nat) (l : List (Nat × E)) (k : Nat) : Prop := ∃ cs : Array Value, Blk w R 52 cs ∧ cs.size = l.length * 9 ∧
 ∀ (j : Nat) (x : Nat × E), j < k → l[j]? = some x → ∃ q : Hd, EV w S x.2 q ∧ ∀ (r : Nat) (v : Value), (ecs x.2 q).toList[r]? = some v → cs[j * 9 + r]? = some v
theorem Filled.onto {w w' : World} {S : Nat → Prop} {R : Nat} {l : List (Nat × E)} {k : Nat} (h : Filled w S R l k) (hS : ∀ q, S q → q < R) (hb : Below w.heap.size w w') : Filled w' S R l k := by
 obtain ⟨cs, hk, hz, hf⟩ := h
 refine ⟨cs, hk.onto hb, hz, fun j x hj hx => ?_⟩
 obtain ⟨q, h1, h2⟩ := hf j x hj hx
 have hR : R ≤ w.heap.size := Nat.le_of_lt hk.lt
 exact ⟨q, h1.keep fun b hb2 => hb.block b (Nat.lt_of_lt_of_le (hS b hb2) hR), h2⟩
theorem Filled.step {w : World} {S : Nat → Prop} {R : Nat} {l : List (Nat × E)} {k : Nat} {x : Nat × E} {q : Hd} (h : Filled w S R l k) (hS : ∀ q, S q → q < R) (hx : l[k]? = some x) (hv : EV w S x.2 q) :
 Filled (((((((((w.setCell ⟨R, k * 9, none⟩ (.string x.2.op)).setCell ⟨R, k * 9 + 1, none⟩ (.string x.2.name)).setCell ⟨R, k * 9 + 2, none⟩ (.int .i64 x.2.lit.kind)).setCell ⟨R, k * 9 + 3, none⟩ (.bool x.2.lit.tr)).setCell ⟨R, k * 9 + 4, none⟩ (.int .i64 x.2.lit.num)).setCell ⟨R, k * 9 + 5, none⟩ (.string x.2.lit.str)).setCell ⟨R, k * 9 + 6, none⟩ (.slice q.L x.2.lit.items.length q.l)).setCell ⟨R, k * 9 + 7, none⟩ (.slice q.L' x.2.lit.keys.length q.l')).setCell ⟨R, k * 9 + 8, none⟩ (.slice q.A x.2.args.length q.c)) S R l (k + 1) := by
 obtain ⟨cs, hk, hz, hf⟩ := h
 have hkl : k < l.length := by
  rcases Nat.lt_or_ge k l.length with h1 | h1
  · exact h1
  · rw [List.getElem?_eq_none h1] at hx; cases hx
 obtain ⟨cs', a, b, c, d⟩ := nine_put hk (o := k * 9) (by omega) (.string x.2.op) (.string x.2.name) (.int .i64 x.2.lit.kind) (.bool x.2.lit.tr) (.int .i64 x.2.lit.num) (.string x.2.lit.str) (.slice q.L x.2.lit.items.length q.l) (.slice q.L' x.2.lit.keys.length q.l') (.slice q.A x.2.args.length q.c)
 have hkeep : Keeps S w (((((((((w.setCell ⟨R, k * 9, none⟩ (.string x.2.op)).setCell ⟨R, k * 9 + 1, none⟩ (.string x.2.name)).setCell ⟨R, k * 9 + 2, none⟩ (.int .i64 x.2.lit.kind)).setCell ⟨R, k * 9 + 3, none⟩ (.bool x.2.lit.tr)).setCell ⟨R, k * 9 + 4, none⟩ (.int .i64 x.2.lit.num)).setCell ⟨R, k * 9 + 5, none⟩ (.string x.2.lit.str)).setCell ⟨R, k * 9 + 6, none⟩ (.slice q.L x.2.lit.items.length q.l)).setCell ⟨R, k * 9 + 7, none⟩ (.slice q.L' x.2.lit.keys.length q.l')).setCell ⟨R, k * 9 + 8, none⟩ (.slice q.A x.2.args.length q.c)) := by
  intro b2 hb2
  have hne : b2 ≠ R := Nat.ne_of_lt (hS b2 hb2)
  rw [Below.heap_setCell _ _ _ _ hne, Below.heap_setCell _ _ _ _ hne, Below.heap_setCell _ _ _ _ hne, Below.heap_setCell _ _ _ _ hne, Below.heap_setCell _ _ _ _ hne, Below.heap_setCell _ _ _ _ hne, Below.heap_setCell _ _ _ _ hne, Below.heap_setCell _ _ _ _ hne, Below.heap_setCell _ _ _ _ hne]
 refine ⟨cs', a, by rw [b, hz], fun j y hj hy => ?_⟩
 rcases Nat.lt_or_ge j k with h1 | h1
 ·
  obtain ⟨q2, h2, h3⟩ := hf j y h1 hy
  refine ⟨q2, h2.keep hkeep, fun r v hr => ?_⟩
  have hr9 : r < 9 := by
   rcases Nat.lt_or_ge r 9 with h4 | h4
   · exact h4
   · rw [List.getElem?_eq_none (by simpa [ecs] using h4)] at hr; cases hr
  rw [d _ (.inl (by omega))]
  exact h3 r v hr
 ·
  obtain rfl : j = k := by omega
  rw [hx] at hy
  injection hy with hy
  subst hy
  exact ⟨q, hv.keep hkeep, fun r v hr => c r v hr⟩
theorem put9_heap {w : World} {g o b : Nat} (h : b ≠ g) (v0 v1 v2 v3 v4 v5 v6 v7 v8 : Value) : (((((((((w.setCell ⟨g, o, none⟩ v0).setCell ⟨g, o + 1, none⟩ v1).setCell ⟨g, o + 2, none⟩ v2).setCell ⟨g, o + 3, none⟩ v3).setCell ⟨g, o + 4, none⟩ v4).setCell ⟨g, o + 5, none⟩ v5).setCell ⟨g, o + 6, none⟩ v6).setCell ⟨g, o + 7, none⟩ v7).setCell ⟨g, o + 8, none⟩ v8).heap[b]? = w.heap[b]? := by
 rw [Below.heap_setCell _ _ _ _ h, Below.heap_setCell _ _ _ _ h, Below.heap_setCell _ _ _ _ h, Below.heap_setCell _ _ _ _ h, Below.heap_setCell _ _ _ _ h, Below.heap_setCell _ _ _ _ h, Below.heap_setCell _ _ _ _ h, Below.heap_setCell _ _ _ _ h, Below.heap_setCell _ _ _ _ h]
theorem drew_heap (W : World) (b : Nat) : W.drew.heap[b]? = W.heap[b]? := rfl
theorem put9_drew {w : World} {g o b : Nat} (h : b ≠ g) (v0 v1 v2 v3 v4 v5 v6 v7 v8 : Value) : ((((((((((w.setCell ⟨g, o, none⟩ v0).setCell ⟨g, o + 1, none⟩ v1).setCell ⟨g, o + 2, none⟩ v2).setCell ⟨g, o + 3, none⟩ v3).setCell ⟨g, o + 4, none⟩ v4).setCell ⟨g, o + 5, none⟩ v5).setCell ⟨g, o + 6, none⟩ v6).setCell ⟨g, o + 7, none⟩ v7).setCell ⟨g, o + 8, none⟩ v8)).drew.heap[b]? = w.heap[b]? := (drew_heap _ _).trans (put9_heap h v0 v1 v2 v3 v4 v5 v6 v7 v8)
theorem put9_below {B : Nat} {w0 w : World} {g o : Nat} (hb : Below B w0 w) (h : B ≤ g) (v0 v1 v2 v3 v4 v5 v6 v7 v8 : Value) : Below B w0 (((((((((w.setCell ⟨g, o, none⟩ v0).setCell ⟨g, o + 1, none⟩ v1).setCell ⟨g, o + 2, none⟩ v2).setCell ⟨g, o + 3, none⟩ v3).setCell ⟨g, o + 4, none⟩ v4).setCell ⟨g, o + 5, none⟩ v5).setCell ⟨g, o + 6, none⟩ v6).setCell ⟨g, o + 7, none⟩ v7).setCell ⟨g, o + 8, none⟩ v8) :=
 ((((((((hb.setCell h _).setCell h _).setCell h _).setCell h _).setCell h _).setCell h _).setCell h _).setCell h _).setCell h _
theorem tv_nul (w : World) (S : Nat → Prop) : TV w S Rd.nulT none 0 none 0 := TV.of (Nat.zero_le _) (Nat.zero_le _) (fun h => absurd rfl h) (SReads.none_ _ _ _)
theorem Filled.ev {w : World} {S : Nat → Prop} {R : Nat} {l : List (Nat × E)} {o n : ByteArray} (h : Filled w S R l l.length) : EV w (fun q => S q ∨ q = R) (.mk o n Rd.nulT (trees l)) ⟨none, 0, none, 0, some ⟨R, 0, none⟩, l.length⟩ := by
 obtain ⟨cs, hk, hz, hf⟩ := h
 refine EV.of (tv_nul _ _) (by show (trees l).length ≤ l.length; simp [trees]) fun _ => ⟨R, 0, rfl, .inr rfl, fun i x hx => ?_⟩
 have hx' : (trees l)[i]? = some x := hx
 obtain ⟨y, hy, rfl⟩ : ∃ y, l[i]? = some y ∧ y.2 = x := by
  simp only [trees, List.getElem?_map] at hx'
  cases hl : l[i]? with
  | none => rw [hl] at hx'; cases hx'
  | some y => rw [hl] at hx'; injection hx' with hx'; exact ⟨y, rfl, hx'⟩
 have hil : i < l.length := by
  rcases Nat.lt_or_ge i l.length with h1 | h1
  · exact h1
  · rw [List.getElem?_eq_none h1] at hy; cases hy
 obtain ⟨q, h1, h2⟩ := hf i y hil hy
 have key : ∀ r v, (ecs y.2 q).toList[r]? = some v → w.cell? ⟨R, 0 + i * 9 + r, none⟩ = some v := fun r v hr => by
  rw [hk.cell, Nat.zero_add]; exact h2 r v hr
 exact ⟨q, ⟨key 0 _ rfl, key 1 _ rfl, ⟨key 2 _ rfl, key 3 _ rfl, key 4 _ rfl, key 5 _ rfl, key 6 _ rfl, key 7 _ rfl⟩, key 8 _ rfl⟩, h1.wide fun b hb => .inl hb⟩
open Go.RowKit
open Tk Ex
theorem xjoin_ok (o n : ByteArray) (l : List (Nat × E)) (A : Option Addr) (c : Nat) (w : World) (hl : l.length ≤ 100) (hl0 : l ≠ []) (hA : VReads w (· < w.heap.size) A (ptrs (heads l))) (S : Nat → Prop) (hSl : ∀ q, S q → q < w.heap.size) (hP : PartsAt w S l) (hdp : (E.mk o n Rd.nulT (trees l)).depth ≤ 32) : Calls Tryz.prog 46 #[.string o, .string n, .slice A l.length c] w (JoinPost S (.mk o n Rd.nulT (trees l)) w) := by
 have hin : ∀ x ∈ l, x.2.depth ≤ 31 := fun x hx => by
  have h1 : (E.mk o n Rd.nulT (trees l)).depth = 1 + E.depths (trees l) := rfl
  have : x.2.depth ≤ E.depths (trees l) := E.mem_depth (List.mem_map_of_mem (f := Prod.snd) hx)
  omega
 have hpos : 0 < l.length := List.length_pos_iff.2 hl0
 have HC := hid (xcontains_any (heads l) A c w (by rw [heads_len]; exact hl) hA)
 rw [heads_none, heads_len] at HC
 have HD := hid (xdeepest_any l A c w hl hA S hP (fun x hx => by have := hin x hx; omega))
 have HX := hid (show (E.mk o n Rd.nulT (trees l)).depth ≤ 32 ∧ (E.mk o n Rd.nulT (trees l)).depth = 1 + E.depths (trees l) from ⟨hdp, rfl⟩)
 have HEV := hid (fun W R (h : Filled W S R l l.length) => (h.ev (o := o) (n := n)))
 have HOP := hid (show (E.mk o n Rd.nulT (trees l)).op = o ∧ (E.mk o n Rd.nulT (trees l)).name = n ∧ (E.mk o n Rd.nulT (trees l)).lit = Rd.nulT ∧ (E.mk o n Rd.nulT (trees l)).args.length = l.length from ⟨rfl, rfl, rfl, by show (trees l).length = _; simp [trees]⟩)
 generalize (E.mk o n Rd.nulT (trees l)) = X at *
 have h1 := HX.out.1
 have h2 := HX.out.2
 have HIN := hid hin
 have HA := hid hA
 have HP := hid hP
 have HSL := hid hSl
 obtain ⟨i0, hi, hz0, hz1, hz2⟩ := info_parts infoExpr
 have hmk : ∀ W : World, (Instr.makeSlice 50 (.int .i64 l.length) (.int .i64 l.length)).run Tryz.prog W = .ok (.slice (some ⟨W.heap.size, 0, none⟩) l.length l.length) (W.alloc (.cells (madeCells #[.string ⟨#[]⟩, .string ⟨#[]⟩, .int .i64 0, .bool false, .int .i64 0, .string ⟨#[]⟩, .slice none 0 0, .slice none 0 0, .slice none 0 0] (l.length * 9)) 52)) := by
  intro W
  have := run_make (P := Tryz.prog) W 50 52 i0 _ Tryz.underlying50 hi hz0 .i64 .i64 l.length l.length (by omega) (by omega) (by rw [hz2]; omega) (by omega)
  rw [hz1] at this
  exact this
 clear hA hP hSl hdp hin hi hz0 hz1 hz2
 generalize E.depths (trees l) = dd at *
 have e1 : IntKind.i64.wrap (1 + (dd : Int)) = (1 + (dd : Int)) := IntWalk.i64_in _ (by omega)
 have u1 : decide ((1 : Int) + (dd : Int) > 32) = false := decide_eq_false (by omega)
 have u2 : decide ((32 : Int) < 1 + (dd : Int)) = false := decide_eq_false (by omega)
 clear h1 h2
 go_enter Tryz.func46, Tryz.ntmps46
 go_wp2_with fail
 refine HC.out.mono ?_
 rintro e w2 ⟨rfl, rfl⟩
 clear HC
 go_wp2_with fail
 refine HD.out.mono ?_
 rintro e w2 ⟨rfl, rfl⟩
 clear HD
 go_upto_region 7 with fail
 have hF : Filled ((w.alloc (.cells (madeCells #[.string ⟨#[]⟩, .string ⟨#[]⟩, .int .i64 0, .bool false, .int .i64 0, .string ⟨#[]⟩, .slice none 0 0, .slice none 0 0, .slice none 0 0] (l.length * 9)) 52)).alloc (.cells #[.string o, .string n, .int .i64 0, .bool false, .int .i64 0, .string ⟨#[]⟩, .slice none 0 0, .slice none 0 0, .slice (some ⟨w.heap.size, 0, none⟩) l.length l.length] 52)) S w.heap.size l 0 :=
  ⟨_, (Blk.new w _ _).alloc _, by rw [size_madeCells], fun j x hj => absurd hj (by omega)⟩
 have hE : Blk ((w.alloc (.cells (madeCells #[.string ⟨#[]⟩, .string ⟨#[]⟩, .int .i64 0, .bool false, .int .i64 0, .string ⟨#[]⟩, .slice none 0 0, .slice none 0 0, .slice none 0 0] (l.length * 9)) 52)).alloc (.cells #[.string o, .string n, .int .i64 0, .bool false, .int .i64 0, .string ⟨#[]⟩, .slice none 0 0, .slice none 0 0, .slice (some ⟨w.heap.size, 0, none⟩) l.length l.length] 52)) (w.heap.size + 1) 52 #[.string o, .string n, .int .i64 0, .bool false, .int .i64 0, .string ⟨#[]⟩, .slice none 0 0, .slice none 0 0, .slice (some ⟨w.heap.size, 0, none⟩) l.length l.length] := by
  have := Blk.new (w.alloc (.cells (madeCells #[.string ⟨#[]⟩, .string ⟨#[]⟩, .int .i64 0, .bool false, .int .i64 0, .string ⟨#[]⟩, .slice none 0 0, .slice none 0 0, .slice none 0 0] (l.length * 9)) 52)) 52 #[.string o, .string n, .int .i64 0, .bool false, .int .i64 0, .string ⟨#[]⟩, .slice none 0 0, .slice none 0 0, .slice (some ⟨w.heap.size, 0, none⟩) l.length l.length]
  rwa [World.size_alloc] at this
 have hW : Below w.heap.size w ((w.alloc (.cells (madeCells #[.string ⟨#[]⟩, .string ⟨#[]⟩, .int .i64 0, .bool false, .int .i64 0, .string ⟨#[]⟩, .slice none 0 0, .slice none 0 0, .slice none 0 0] (l.length * 9)) 52)).alloc (.cells #[.string o, .string n, .int .i64 0, .bool false, .int .i64 0, .string ⟨#[]⟩, .slice none 0 0, .slice none 0 0, .slice (some ⟨w.heap.size, 0, none⟩) l.length l.length] 52)) := ((Below.refl _ _).alloc (Nat.le_refl _) _).alloc (by simp) _
 change Code.wp _ _ _ _ ((w.alloc (.cells (madeCells #[.string ⟨#[]⟩, .string ⟨#[]⟩, .int .i64 0, .bool false, .int .i64 0, .string ⟨#[]⟩, .slice none 0 0, .slice none 0 0, .slice none 0 0] (l.length * 9)) 52)).alloc (.cells #[.string o, .string n, .int .i64 0, .bool false, .int .i64 0, .string ⟨#[]⟩, .slice none 0 0, .slice none 0 0, .slice (some ⟨w.heap.size, 0, none⟩) l.length l.length] 52))
 generalize ((w.alloc (.cells (madeCells #[.string ⟨#[]⟩, .string ⟨#[]⟩, .int .i64 0, .bool false, .int .i64 0, .string ⟨#[]⟩, .slice none 0 0, .slice none 0 0, .slice none 0 0] (l.length * 9)) 52)).alloc (.cells #[.string o, .string n, .int .i64 0, .bool false, .int .i64 0, .string ⟨#[]⟩, .slice none 0 0, .slice none 0 0, .slice (some ⟨w.heap.size, 0, none⟩) l.length l.length] 52)) = W at *
 generalize hR : w.heap.size = R at *
 have HR := hid hR
 have HF := hid hF
 have HE := hid hE
 have HW := hid hW
 clear hF hE hW hmk hR
 go_wp2_with fail
 go_loopw [29] (fun x wr => ∃ k : Nat, k ≤ l.length ∧ x = .int .i64 k ∧ Filled wr S R l k ∧ Blk wr (R + 1) 52 #[.string o, .string n, .int .i64 0, .bool false, .int .i64 0, .string ⟨#[]⟩, .slice none 0 0, .slice none 0 0, .slice (some ⟨R, 0, none⟩) l.length l.length] ∧ Below R w wr) (fun x _ => l.length - (intOf x).toNat)
 case atStart => exact ⟨0, Nat.zero_le _, rfl, HF.out, HE.out, HW.out⟩
 case round =>
  obtain ⟨k, hk, rfl, hfl, hbx, hbel⟩ := hrel
  have HFL := hid hfl
  have HBX := hid hbx
  have HBE := hid hbel
  clear hfl hbx hbel
  by_cases hlt : k < l.length
  ·
   obtain ⟨x, hx⟩ : ∃ x, l[k]? = some x := ⟨_, List.getElem?_eq_getElem hlt⟩
   obtain ⟨g, oo, rfl, hg, hcell⟩ := HA.out (by intro h0; have := congrArg List.length h0; simp [ptrs, heads] at this; rw [this] at hlt; simp at hlt)
   have k0 := (HBE.out.cell (p := ⟨g, oo + k, none⟩) hg).trans (hcell k _ (heads_at hx))
   obtain ⟨q, hev, hblk⟩ := (HP.out k x hx).small (by have := HIN.out x (List.mem_of_getElem? hx); omega)
   have hpg : x.1 < R := HSL.out _ (HP.out k x hx).1
   have HB2 := hid (Blk.on hblk HBE.out (by have := HR.out; omega))
   have HSTP := hid (HFL.out.step (fun q hq => by have := HSL.out q hq; have := HR.out; omega) hx (hev.keep fun b2 hb2 => HBE.out.block b2 (by have := HSL.out b2 hb2; have := HR.out; omega)))
   have u1 : decide (k < l.length) = true := decide_eq_true hlt
   have u2 : decide ((k : Int) < (l.length : Int)) = true := decide_eq_true (by omega)
   have i1 : (k : Int) < (l.length : Int) := by omega
   have i2 : (0 : Int) ≤ (k : Int) := by omega
   clear hx hcell hev hblk
   obtain ⟨pg, e⟩ := x
   obtain ⟨hL, hl1, hL', hl2, hA1, hc1⟩ := q
   dsimp only at k0 hpg HB2 HSTP
   unfold padr at k0
   obtain ⟨p0, p1, p2, p3, p4, p5, p6, p7, p8⟩ : wr.cell? ⟨pg, 0, none⟩ = some (.string e.op) ∧ wr.cell? ⟨pg, 1, none⟩ = some (.string e.name) ∧ wr.cell? ⟨pg, 2, none⟩ = some (.int .i64 e.lit.kind) ∧ wr.cell? ⟨pg, 3, none⟩ = some (.bool e.lit.tr) ∧ wr.cell? ⟨pg, 4, none⟩ = some (.int .i64 e.lit.num) ∧ wr.cell? ⟨pg, 5, none⟩ = some (.string e.lit.str) ∧ wr.cell? ⟨pg, 6, none⟩ = some (.slice hL e.lit.items.length hl1) ∧ wr.cell? ⟨pg, 7, none⟩ = some (.slice hL' e.lit.keys.length hl2) ∧ wr.cell? ⟨pg, 8, none⟩ = some (.slice hA1 e.args.length hc1) :=
    ⟨HB2.out.cell 0, HB2.out.cell 1, HB2.out.cell 2, HB2.out.cell 3, HB2.out.cell 4, HB2.out.cell 5, HB2.out.cell 6, HB2.out.cell 7, HB2.out.cell 8⟩
   have b8 := HBX.out.cell 8
   have hRl : R < wr.heap.size := HBX.out.lt |> Nat.lt_of_succ_lt
   have hpR : pg ≠ R := by have := HR.out; omega
   go_upto_region 10 with fail
   have HS := hid (show ∀ w' : World, w'.heap[pg]? = wr.heap[pg]? → w'.heap[R + 1]? = wr.heap[R + 1]? → (w'.cell? ⟨pg, 0, none⟩ = some (.string e.op) ∧ w'.cell? ⟨pg, 1, none⟩ = some (.string e.name) ∧ w'.cell? ⟨pg, 2, none⟩ = some (.int .i64 e.lit.kind) ∧ w'.cell? ⟨pg, 3, none⟩ = some (.bool e.lit.tr) ∧ w'.cell? ⟨pg, 4, none⟩ = some (.int .i64 e.lit.num) ∧ w'.cell? ⟨pg, 5, none⟩ = some (.string e.lit.str) ∧ w'.cell? ⟨pg, 6, none⟩ = some (.slice hL e.lit.items.length hl1) ∧ w'.cell? ⟨pg, 7, none⟩ = some (.slice hL' e.lit.keys.length hl2) ∧ w'.cell? ⟨pg, 8, none⟩ = some (.slice hA1 e.args.length hc1) ∧ w'.cell? ⟨R + 1, 8, none⟩ = some (.slice (some ⟨R, 0, none⟩) l.length l.length)) from fun w' h1 h2 =>
    ⟨(World.cell?_of_block h1).trans p0, (World.cell?_of_block h1).trans p1, (World.cell?_of_block h1).trans p2, (World.cell?_of_block h1).trans p3, (World.cell?_of_block h1).trans p4, (World.cell?_of_block h1).trans p5, (World.cell?_of_block h1).trans p6, (World.cell?_of_block h1).trans p7, (World.cell?_of_block h1).trans p8, (World.cell?_of_block h2).trans b8⟩)
   clear p0 p1 p2 p3 p4 p5 p6 p7 p8 b8
   refine wp_region_held_drew (S := fun w' => w'.cell? ⟨pg, 0, none⟩ = some (.string e.op) ∧ w'.cell? ⟨pg, 1, none⟩ = some (.string e.name) ∧ w'.cell? ⟨pg, 2, none⟩ = some (.int .i64 e.lit.kind) ∧ w'.cell? ⟨pg, 3, none⟩ = some (.bool e.lit.tr) ∧ w'.cell? ⟨pg, 4, none⟩ = some (.int .i64 e.lit.num) ∧ w'.cell? ⟨pg, 5, none⟩ = some (.string e.lit.str) ∧ w'.cell? ⟨pg, 6, none⟩ = some (.slice hL e.lit.items.length hl1) ∧ w'.cell? ⟨pg, 7, none⟩ = some (.slice hL' e.lit.keys.length hl2) ∧ w'.cell? ⟨pg, 8, none⟩ = some (.slice hA1 e.args.length hc1) ∧ w'.cell? ⟨R + 1, 8, none⟩ = some (.slice (some ⟨R, 0, none⟩) l.length l.length)) (by kernel_rfl) ?_ (fun hHeld => ?_)
   · exact HS.out _ rfl rfl
   refine wpAnyH_take (i := 0) (v := ?_) rfl (by kernel_rfl) (by kernel_rfl) (by kernel_rfl) (fun _ _ _ h => h) (Or.inl ⟨by rfl, ?_⟩) (by assumption) ?_
   rotate_left
   ·
    intro wq hSw
    try dsimp only at hSw
    go_simp
    try (with_reducible rfl)
   try simp only [Act.put, List.getElem_toArray, List.getElem_cons_zero, List.setIfInBounds_toArray, List.set_cons_zero, List.set_cons_succ]
   refine wpAnyH_take (i := 1) (v := ?_) rfl (by kernel_rfl) (by kernel_rfl) (by kernel_rfl) (fun _ _ _ h => h) (Or.inl ⟨by rfl, ?_⟩) (by assumption) ?_
   rotate_left
   ·
    intro wq hSw
    try dsimp only at hSw
    go_simp
    try (with_reducible rfl)
   try simp only [Act.put, sqa, sqb, sqc, sqd, sqe, sqf]
   refine wpAnyH_take (i := 2) (v := ?_) rfl (by kernel_rfl) (by kernel_rfl) (by kernel_rfl) (fun _ _ _ h => h) (Or.inl ⟨by rfl, ?_⟩) (by assumption) ?_
   rotate_left
   ·
    intro wq hSw
    try dsimp only at hSw
    go_simp
    try (with_reducible rfl)
   try simp only [Act.put, sqa, sqb, sqc, sqd, sqe, sqf]
   refine wpAnyH_take (i := 3) (v := ?_) rfl (by kernel_rfl) (by kernel_rfl) (by kernel_rfl) (fun _ _ _ h => h) (Or.inl ⟨by rfl, ?_⟩) (by assumption) ?_
   rotate_left
   ·
    intro wq hSw
    try dsimp only at hSw
    go_simp
    try (with_reducible rfl)
   try simp only [Act.put, sqa, sqb, sqc, sqd, sqe, sqf]
   refine wpAnyH_take (i := 4) (v := ?_) rfl (by kernel_rfl) (by kernel_rfl) (by kernel_rfl) (fun _ _ _ h => h) (Or.inl ⟨by rfl, ?_⟩) (by assumption) ?_
   rotate_left
   ·
    intro wq hSw
    try dsimp only at hSw
    go_simp
    try (with_reducible rfl)
   try simp only [Act.put, sqa, sqb, sqc, sqd, sqe, sqf]
   refine wpAnyH_take (i := 5) (v := ?_) rfl (by kernel_rfl) (by kernel_rfl) (by kernel_rfl) (fun _ _ _ h => h) (Or.inl ⟨by rfl, ?_⟩) (by assumption) ?_
   rotate_left
   ·
    intro wq hSw
    try dsimp only at hSw
    go_simp
    try (with_reducible rfl)
   try simp only [Act.put, sqa, sqb, sqc, sqd, sqe, sqf]
   refine wpAnyH_take (i := 6) (v := ?_) rfl (by kernel_rfl) (by kernel_rfl) (by kernel_rfl) (fun _ _ _ h => h) (Or.inl ⟨by rfl, ?_⟩) (by assumption) ?_
   rotate_left
   ·
    intro wq hSw
    try dsimp only at hSw
    go_simp
    try (with_reducible rfl)
   try simp only [Act.put, sqa, sqb, sqc, sqd, sqe, sqf]
   refine wpAnyH_take (i := 7) (v := ?_) rfl (by kernel_rfl) (by kernel_rfl) (by kernel_rfl) (fun _ _ _ h => h) (Or.inl ⟨by rfl, ?_⟩) (by assumption) ?_
   rotate_left
   ·
    intro wq hSw
    try dsimp only at hSw
    go_simp
    try (with_reducible rfl)
   try simp only [Act.put, sqa, sqb, sqc, sqd, sqe, sqf]
   obtain ⟨cs, hcs, hcz, hcf⟩ := HFL.out
   obtain ⟨y0, z0⟩ := hcs.nine (o := k * 9) (by omega) 0 (by omega)
   obtain ⟨y1, z1⟩ := hcs.nine (o := k * 9) (by omega) 1 (by omega)
   obtain ⟨y2, z2⟩ := hcs.nine (o := k * 9) (by omega) 2 (by omega)
   obtain ⟨y3, z3⟩ := hcs.nine (o := k * 9) (by omega) 3 (by omega)
   obtain ⟨y4, z4⟩ := hcs.nine (o := k * 9) (by omega) 4 (by omega)
   obtain ⟨y5, z5⟩ := hcs.nine (o := k * 9) (by omega) 5 (by omega)
   obtain ⟨y6, z6⟩ := hcs.nine (o := k * 9) (by omega) 6 (by omega)
   obtain ⟨y7, z7⟩ := hcs.nine (o := k * 9) (by omega) 7 (by omega)
   obtain ⟨y8, z8⟩ := hcs.nine (o := k * 9) (by omega) 8 (by omega)
   rw [Nat.add_zero] at z0
   have x0 := hcs.free (k * 9)
   have x1 := hcs.free (k * 9 + 1)
   have x2 := hcs.free (k * 9 + 2)
   have x3 := hcs.free (k * 9 + 3)
   have x4 := hcs.free (k * 9 + 4)
   have x5 := hcs.free (k * 9 + 5)
   have x6 := hcs.free (k * 9 + 6)
   have x7 := hcs.free (k * 9 + 7)
   have x8 := hcs.free (k * 9 + 8)
   clear hcs hcf hcz
   refine wpAnyH_ready (rs := [8]) (by kernel_rfl) (by simp) ?_
   refine AllReadyH.cons rfl (fun K0 hK => ?_) AllReadyH.nil
   go_simp
   refine hK.out _ _ ?_ (fun hHeld => ?_)
   · exact HS.out _ (put9_drew hpR _ _ _ _ _ _ _ _ _) (put9_drew (Nat.succ_ne_self R) _ _ _ _ _ _ _ _ _)
   clear hK K0
   try simp only [Act.put, sqa, sqb, sqc, sqd, sqe, sqf]
   refine wpAnyH_done (by kernel_rfl) ?_ _
   have HBF := hid (show Blk (((((((((wr.setCell ⟨R, k * 9, none⟩ (.string e.op)).setCell ⟨R, k * 9 + 1, none⟩ (.string e.name)).setCell ⟨R, k * 9 + 2, none⟩ (.int .i64 e.lit.kind)).setCell ⟨R, k * 9 + 3, none⟩ (.bool e.lit.tr)).setCell ⟨R, k * 9 + 4, none⟩ (.int .i64 e.lit.num)).setCell ⟨R, k * 9 + 5, none⟩ (.string e.lit.str)).setCell ⟨R, k * 9 + 6, none⟩ (.slice hL e.lit.items.length hl1)).setCell ⟨R, k * 9 + 7, none⟩ (.slice hL' e.lit.keys.length hl2)).setCell ⟨R, k * 9 + 8, none⟩ (.slice hA1 e.args.length hc1)) (R + 1) 52 _ from (put9_heap (Nat.succ_ne_self R) _ _ _ _ _ _ _ _ _).trans HBX.out)
   have HBG := hid (put9_below (o := k * 9) HBE.out (Nat.le_refl R) (.string e.op) (.string e.name) (.int .i64 e.lit.kind) (.bool e.lit.tr) (.int .i64 e.lit.num) (.string e.lit.str) (.slice hL e.lit.items.length hl1) (.slice hL' e.lit.keys.length hl2) (.slice hA1 e.args.length hc1))
   clear z0 z1 z2 z3 z4 z5 z6 z7 z8 x0 x1 x2 x3 x4 x5 x6 x7 x8
   generalize (((((((((wr.setCell ⟨R, k * 9, none⟩ (.string e.op)).setCell ⟨R, k * 9 + 1, none⟩ (.string e.name)).setCell ⟨R, k * 9 + 2, none⟩ (.int .i64 e.lit.kind)).setCell ⟨R, k * 9 + 3, none⟩ (.bool e.lit.tr)).setCell ⟨R, k * 9 + 4, none⟩ (.int .i64 e.lit.num)).setCell ⟨R, k * 9 + 5, none⟩ (.string e.lit.str)).setCell ⟨R, k * 9 + 6, none⟩ (.slice hL e.lit.items.length hl1)).setCell ⟨R, k * 9 + 7, none⟩ (.slice hL' e.lit.keys.length hl2)).setCell ⟨R, k * 9 + 8, none⟩ (.slice hA1 e.args.length hc1)) = WF at *
   go_wp2_with fail
   go_roundw
   case rel => exact ⟨k + 1, hlt, by go_num, HSTP.out.onto (fun q hq => by have := HSL.out q hq; have := HR.out; omega) (Below.refl _ _).drew, HBF.out.drew, HBG.out.drew⟩
   case measure => simp [intOf]; omega
  ·
   obtain rfl : k = l.length := by omega
   have u1 : decide (l.length < l.length) = false := decide_eq_false (by omega)
   have u2 : decide ((l.length : Int) < (l.length : Int)) = false := decide_eq_false (by omega)
   obtain ⟨b0, b1, b2, b3, b4, b5, b6, b7, b8⟩ := all9 HBX.out
   go_wp2_with fail
   go_ret
   have hwl := HBX.out.lt
   have hRw := HR.out
   obtain ⟨o1, o2, o3, o4⟩ := HOP.out
   have hb3 : Below wr.heap.size wr (wr.alloc (.cells #[.string o, .string n, .int .i64 0, .bool false, .int .i64 0, .string ⟨#[]⟩, .slice none 0 0, .slice none 0 0, .slice (some ⟨R, 0, none⟩) l.length l.length, .int .i64 (1 + (dd : Int))] 93)) := (Below.refl _ _).alloc (Nat.le_refl _) _
   refine ⟨wr.heap.size, rfl, PartAt.of (.inr ⟨by omega, by simp⟩) HX.out.1 ⟨none, 0, none, 0, some ⟨R, 0, none⟩, l.length⟩ ((HEV.out _ _ (HFL.out.onto (fun q hq => by have := HSL.out q hq; omega) hb3)).wide fun b hb => hb.elim .inl fun hb => .inr ⟨by omega, by simp; omega⟩) ?_, (HBE.out.mono (by omega)).alloc (by omega) _⟩
   rw [o1, o2, o3, o4, HX.out.2]
   exact Blk.new wr _ _
open Go.RowKit
open Tk Ex
def Err8 (b : Nat) (w : World) : Prop := ∃ wb, RangeErr wb ∧ wb.heap.size ≤ b ∧ Below wb.heap.size wb w
theorem Err8.of {b : Nat} {w : World} (h : RangeErr w) (hb : w.heap.size ≤ b) : Err8 b w := ⟨w, h, hb, Below.refl _ _⟩
theorem Err8.err {b : Nat} {w : World} (h : Err8 b w) : RangeErr w := by
 obtain ⟨wb, h1, h2, h3⟩ := h
 exact h1.on h3
theorem Err8.side {b : Nat} {w w' : World} (h : Err8 b w) (k : Aside b w w') : Err8 b w' := by
 obtain ⟨wb, h1, h2, h3⟩ := h
 exact ⟨wb, h1, h2, h3.trans ⟨k.os, k.tape, k.output, k.size, fun j hj => k.block j (Nat.lt_of_lt_of_le hj h3.size) (by omega)⟩⟩
theorem Err8.onto {b : Nat} {w w' : World} (h : Err8 b w) (k : Below w.heap.size w w') : Err8 b w' := h.side (Aside.of k)
theorem new_any8 (s : ByteArray) (w : World) : Calls Tryz.prog 125 #[.string s] w fun e w' => e = .returned (.pointer (some ⟨w.heap.size, 0, none⟩)) ∧ w' = w.alloc (.cells #[.string s, .int .i64 0] 189) := by
 go_enter Tryz.func125, Tryz.ntmps125
 go_wp2_with fail
 go_ret
 exact ⟨rfl, rfl⟩
theorem xtruth_any (b : Bool) (w : World) : Calls Tryz.prog 121 #[.bool b] w fun e w' => e = .returned (.agg #[.int .i64 1, .bool b, .int .i64 0, .string ⟨#[]⟩, .slice none 0 0, .slice none 0 0]) ∧ Below w.heap.size w w' := by
 go_enter Tryz.func121, Tryz.ntmps121
 go_wp2_with fail
 exact bodyPost_ret (v := .agg #[.int .i64 1, .bool b, .int .i64 0, .string ⟨#[]⟩, .slice none 0 0, .slice none 0 0]) (by simp [results, Tryz.results121, go_sem]) rfl ⟨rfl, (Below.refl _ _).alloc (Nat.le_refl _) _⟩
theorem xnumber_any (n : Int) (w : World) : Calls Tryz.prog 13 #[.int .i64 n] w fun e w' => e = .returned (.agg #[.int .i64 2, .bool false, .int .i64 n, .string ⟨#[]⟩, .slice none 0 0, .slice none 0 0]) ∧ Below w.heap.size w w' := by
 go_enter Tryz.func13, Tryz.ntmps13
 go_wp2_with fail
 exact bodyPost_ret (v := .agg #[.int .i64 2, .bool false, .int .i64 n, .string ⟨#[]⟩, .slice none 0 0, .slice none 0 0]) (by simp [results, Tryz.results13, go_sem]) rfl ⟨rfl, (Below.refl _ _).alloc (Nat.le_refl _) _⟩
theorem xtext_any (s : ByteArray) (w : World) : Calls Tryz.prog 118 #[.string s] w fun e w' => e = .returned (.agg #[.int .i64 3, .bool false, .int .i64 0, .string s, .slice none 0 0, .slice none 0 0]) ∧ Below w.heap.size w w' := by
 go_enter Tryz.func118, Tryz.ntmps118
 go_wp2_with fail
 exact bodyPost_ret (v := .agg #[.int .i64 3, .bool false, .int .i64 0, .string s, .slice none 0 0, .slice none 0 0]) (by simp [results, Tryz.results118, go_sem]) rfl ⟨rfl, (Below.refl _ _).alloc (Nat.le_refl _) _⟩
def StrP (ans : Ans) (b : Nat) (s : ByteArray) (w : World) (e : Ending) (w' : World) : Prop := match ans with
 | .tok t => e = .returned (.tuple #[.string t.text, .bool true]) ∧ Aside b w w' ∧ Px w' b s t.fin
 | .err p c => e = .returned (.tuple #[.string ⟨#[]⟩, .bool false]) ∧ Aside b w w' ∧ Noted w' b s p c
theorem str_ne {s : ByteArray} {a p : Nat} {c : Int} (h : bt s a = 34) (k : strAns s a = .err p c) : c ≠ 0 := by
 have ha : a < s.size := lt_of_bt (by rw [h]; decide)
 have h1 : ansAt s a = strAns s a := by
  unfold ansAt
  rw [if_neg (by omega), if_neg (by rw [h]; decide), if_pos h]
 have := err_num s a p c (h1.trans k)
 omega
theorem Aside.under {g : Nat} {w0 w w' : World} (h : Below w0.heap.size w0 w) (ha : Aside g w w') (hg : w0.heap.size ≤ g) : Below w0.heap.size w0 w' :=
 h.trans ⟨ha.os, ha.tape, ha.output, ha.size, fun k hk => ha.block k (Nat.lt_of_lt_of_le hk h.size) (by omega)⟩
theorem xstr_any (b : Nat) (s : ByteArray) (i a : Nat) (w : World) (hs : s.size ≤ 50000) (h : Px w b s i) (hE : Err8 b w) (h34 : bt s a = 34) : Calls Tryz.prog 116 #[.pointer (some ⟨b, 0, none⟩), .int .i64 a] w (StrP (strAns s a) b s w) := by
 have ha : a < s.size := lt_of_bt (by rw [h34]; decide)
 have HSH := hid (suf_str s a ha)
 have HNX := hid (suf_next s a h34)
 have hu := suf_size s a
 have h034 : bt (s.extract a s.size) 0 = 34 := by rw [suf_bt]; exact h34
 have HNE := hid (fun p c h => str_ne (s := s.extract a s.size) (a := 0) (p := p) (c := c) h034 h)
 have HFI := hid (fun t h => str_fin (s := s.extract a s.size) (a := 0) (t := t) (by rw [suf_size]; omega) h)
 have k0 := h.c0
 have HP := hid h
 have HE := hid hE.err
 have hbl := h.lt
 have i1 : (0 : Int) ≤ (a : Int) := by omega
 have i2 : (a : Int) ≤ (s.size : Int) := by omega
 generalize strAns s a = X at *
 obtain ⟨u, hsu⟩ : ∃ u, s.extract a s.size = u := ⟨_, rfl⟩
 rw [hsu] at HSH HNX hu HNE HFI
 have HX := hid hsu
 clear hsu h hE h34 h034
 go_enter Tryz.func116, Tryz.ntmps116
 go_wp2_with fail
 rw [HX.out]
 refine (new_any8 u w).mono ?_
 rintro e w1 ⟨rfl, rfl⟩
 have hB : Lx (w.alloc (.cells #[.string u, .int .i64 0] 189)) w.heap.size u 0 := Blk.new w _ _
 have hW : Below w.heap.size w (w.alloc (.cells #[.string u, .int .i64 0] 189)) := (Below.refl _ _).alloc (Nat.le_refl _) _
 generalize (w.alloc (.cells #[.string u, .int .i64 0] 189)) = W at *
 have HN := hid (next_any5 w.heap.size u 0 W (by omega) hB (Nat.zero_le _) (HE.out.on hW))
 rw [HNX.out] at HN
 have HW := hid hW
 clear hB hW
 cases hans : strAns u 0 with
 | err p c =>
  have hc0 := HNE.out p c hans
  have HSX := hid (show X = .err (a + p) c by rw [HSH.out, hans]; rfl)
  rw [hans] at HN
  have u1 : (c != 0) = true := by rw [bne_iff_ne]; exact hc0
  have hpf := strAns_far (Nat.zero_le _) hans
  have e1 : IntKind.i64.wrap ((a : Int) + (p : Int)) = ((a + p : Nat) : Int) := by rw [IntWalk.i64_in _ (by omega)]; omega
  clear HNE HFI HNX hc0 hans
  go_wp2_with fail
  refine HN.out.mono ?_
  rintro e w2 ⟨rfl, ha2, hl2⟩
  have H2 := hid ((Aside.under HW.out ha2 (Nat.le_refl _)).alloc (Nat.le_trans HW.out.size ha2.size) (.cells #[.int .i64 0, .string ⟨#[]⟩, .int .i64 0, .int .i64 0, .int .i64 0] 179))
  clear ha2 hl2 HN HW
  unfold Ans.val
  go_upto_region 2 with fail
  change Code.wp _ _ _ _ (w2.alloc (.cells #[.int .i64 0, .string ⟨#[]⟩, .int .i64 0, .int .i64 0, .int .i64 0] 179))
  generalize (w2.alloc (.cells #[.int .i64 0, .string ⟨#[]⟩, .int .i64 0, .int .i64 0, .int .i64 0] 179)) = W2 at *
  go_wp2_with fail
  refine (xfail_any b s i (a + p) c _ (HP.out.onto H2.out)).mono ?_
  rintro e w4 ⟨rfl, ha4, hn4⟩
  have HA4 := hid ((Aside.of H2.out : Aside b w W2).then ha4)
  have HN4 := hid hn4
  clear ha4 hn4
  go_wp2_with fail
  go_ret2
  rw [HSX.out]
  exact ⟨rfl, HA4.out, HN4.out⟩
 | tok t =>
  have hfi := HFI.out t hans
  obtain ⟨z, hz⟩ : ∃ z : Nat, z = a + t.fin := ⟨_, rfl⟩
  have HSX := hid (show X = .tok ⟨t.kind, t.text, t.num, a + t.at_, z⟩ by rw [HSH.out, hans, hz]; rfl)
  have e1 : IntKind.i64.wrap ((a : Int) + (t.fin : Int)) = (z : Int) := by rw [IntWalk.i64_in _ (by omega)]; omega
  clear hz
  rw [hans] at HN
  clear HNE HFI HNX hans
  go_wp2_with fail
  refine HN.out.mono ?_
  rintro e w2 ⟨rfl, ha2, hl2⟩
  have hH2 := (Aside.under HW.out ha2 (Nat.le_refl _))
  have hHt := Blk.new w2 179 #[.int .i64 t.kind, .string t.text, .int .i64 t.num, .int .i64 t.at_, .int .i64 t.fin]
  have H2 := hid (hH2.alloc hH2.size (.cells #[.int .i64 t.kind, .string t.text, .int .i64 t.num, .int .i64 t.at_, .int .i64 t.fin] 179))
  have hg : w2.heap.size ≠ b := by have := hH2.size; omega
  clear ha2 hl2 HN HW hH2
  unfold Ans.val
  go_upto_region 2 with fail
  change Code.wp _ _ _ _ (w2.alloc (.cells #[.int .i64 t.kind, .string t.text, .int .i64 t.num, .int .i64 t.at_, .int .i64 t.fin] 179))
  generalize (w2.alloc (.cells #[.int .i64 t.kind, .string t.text, .int .i64 t.num, .int .i64 t.at_, .int .i64 t.fin] 179)) = W2 at *
  generalize w2.heap.size = g at *
  have HT := hid hHt
  have t4 := hHt.cell 4
  have HP2 := hid (HP.out.onto H2.out)
  have q1 := HP2.out.c1
  have x1 := HP2.out.f 1
  have T1 := hid ((hHt.far (p := ⟨b, 1, none⟩) hg (.int .i64 (z : Int))).cell 1)
  clear hHt
  have t1 := T1.out
  go_wp2_with fail
  go_outline
  go_ret2
  rw [HSX.out]
  exact ⟨rfl, (Aside.of H2.out).set _, HP2.out.move _⟩
end Go.Proofs.YtfbipnflgjhaiaaGreatDoor
