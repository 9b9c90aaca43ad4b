/- What the reference's functions answer: a tree, the place behind it, 0; or the place of an error, and its number: words. The reference's small functions: wrong, literal, ahead: contracts. What stands between expressions on a level, by the reference: contract. What stands between expressions on a level of tests, sums, products, by the reference: contract. What the reference's functions read, in so many steps: words. -/
import Derived.Deep.DeepCutAuto
import Derived.Test.YtfbipnflgjhaiaaGreatDoorRX
import Derived.Deep.WholeRow
import Derived.Great.BuildSlice
set_option linter.unusedVariables false
set_option maxRecDepth 100000
set_option maxHeartbeats 8000000
open Go.Lib (hid)
namespace Go.Proofs.YtfbipnflgjhaiaaGreatDoor
open Go.RowKit
open Tk Ex
def acs (x : E) (h : Hd) (p : Nat) : Array Value :=
 #[.string x.op, .string x.name, .int .i64 x.lit.kind, .bool x.lit.tr, .int .i64 x.lit.num, .string x.lit.str, .slice h.L x.lit.items.length h.l, .slice h.L' x.lit.keys.length h.l', .slice h.A x.args.length h.c, .int .i64 p, .int .i64 0]
def wcs (p : Nat) (c : Int) : Array Value :=
 #[.string ⟨#[]⟩, .string ⟨#[]⟩, .int .i64 0, .bool false, .int .i64 0, .string ⟨#[]⟩, .slice none 0 0, .slice none 0 0, .slice none 0 0, .int .i64 p, .int .i64 c]
def ReadR (R : Res) (w : World) (e : Ending) (w' : World) : Prop := match R with
 | .out => True
 | .ok x p => ∃ h, e = .returned (.agg (acs x h p)) ∧ EV w' (fun q => w.heap.size ≤ q ∧ q < w'.heap.size) x h ∧ Below w.heap.size w w'
 | .err p c => e = .returned (.agg (wcs p c)) ∧ c ≠ 0 ∧ Below w.heap.size w w'
theorem ReadR.later {R : Res} {w0 w : World} {e : Ending} {w' : World} (h : ReadR R w e w') (hb : Below w0.heap.size w0 w) : ReadR R w0 e w' := by
 cases R with
 | out => trivial
 | ok x p =>
  obtain ⟨q, he, hv, hw⟩ := h
  exact ⟨q, he, hv.wide fun b hb' => ⟨Nat.le_trans hb.size hb'.1, hb'.2⟩, hb.trans (hw.mono hb.size)⟩
 | err p c =>
  obtain ⟨he, hc, hw⟩ := h
  exact ⟨he, hc, hb.trans (hw.mono hb.size)⟩
theorem EV.more {w0 w w' : World} {x : E} {h : Hd} (k : EV w (fun q => w0.heap.size ≤ q ∧ q < w.heap.size) x h) (hb : Below w.heap.size w w') : EV w' (fun q => w0.heap.size ≤ q ∧ q < w'.heap.size) x h :=
 (k.keep (fun q hq => hb.block q hq.2)).wide fun q hq => ⟨hq.1, Nat.lt_of_lt_of_le hq.2 hb.size⟩
theorem tv_nulR (w : World) (S : Nat → Prop) : TV w S Rd.nulT none 0 none 0 := TV.of (Nat.zero_le _) (Nat.zero_le _) (fun h => absurd rfl h) (SReads.none_ _ _ _)
theorem EV.one {w : World} {S : Nat → Prop} {o n : ByteArray} {x : E} {h : Hd} {b : Nat} (hS : S b) (hb : Nine w b 0 x h) (hx : EV w S x h) {c : Nat} (hc : 1 ≤ c) : EV w S (.mk o n Rd.nulT [x]) ⟨none, 0, none, 0, some ⟨b, 0, none⟩, c⟩ := by
 refine EV.of (tv_nulR _ _) (by show 1 ≤ c; exact hc) (fun _ => ⟨b, 0, rfl, hS, fun i y hy => ?_⟩)
 have hy' : [x][i]? = some y := hy
 rcases i with _ | i
 ·
  injection hy' with hy'
  subst hy'
  exact ⟨h, by simpa using hb, hx⟩
 · simp at hy'
theorem EV.two {w : World} {S : Nat → Prop} {o n : ByteArray} {x y : E} {h k : Hd} {b : Nat} (hS : S b) (hb : Nine w b 0 x h) (hk : Nine w b 9 y k) (hx : EV w S x h) (hy : EV w S y k) {c : Nat} (hc : 2 ≤ c) : EV w S (.mk o n Rd.nulT [x, y]) ⟨none, 0, none, 0, some ⟨b, 0, none⟩, c⟩ := by
 refine EV.of (tv_nulR _ _) (by show 2 ≤ c; exact hc) (fun _ => ⟨b, 0, rfl, hS, fun i z hz => ?_⟩)
 have hz' : [x, y][i]? = some z := hz
 rcases i with _ | _ | i
 ·
  injection hz' with hz'
  subst hz'
  exact ⟨h, by simpa using hb, hx⟩
 ·
  injection hz' with hz'
  subst hz'
  exact ⟨k, by simpa using hk, hy⟩
 · simp at hz'
theorem Blk.nine8 {w : World} {b o : Nat} {t : TypeId} {cs : Array Value} {x : E} {h : Hd} (k : Blk w b t cs) (hc : ∀ i, i < 9 → cs[o + i]? = (ecs x h)[i]?) : Nine w b o x h := by
 have g : ∀ i, i < 9 → w.cell? ⟨b, o + i, none⟩ = (ecs x h)[i]? := fun i hi => (k.cell (o + i)).trans (hc i hi)
 exact ⟨g 0 (by decide), g 1 (by decide), ⟨g 2 (by decide), g 3 (by decide), g 4 (by decide), g 5 (by decide), g 6 (by decide), g 7 (by decide)⟩, g 8 (by decide)⟩
def nul11 : Array Value := #[.string ⟨#[]⟩, .string ⟨#[]⟩, .int .i64 0, .bool false, .int .i64 0, .string ⟨#[]⟩, .slice none 0 0, .slice none 0 0, .slice none 0 0, .int .i64 0, .int .i64 0]
theorem put11_heap {w : World} {g b : Nat} (h : b ≠ g) (v0 v1 v2 v3 v4 v5 v6 v7 v8 v9 v10 : Value) : (((((((((((w.setCell ⟨g, 0, none⟩ v0).setCell ⟨g, 1, none⟩ v1).setCell ⟨g, 2, none⟩ v2).setCell ⟨g, 3, none⟩ v3).setCell ⟨g, 4, none⟩ v4).setCell ⟨g, 5, none⟩ v5).setCell ⟨g, 6, none⟩ v6).setCell ⟨g, 7, none⟩ v7).setCell ⟨g, 8, none⟩ v8).setCell ⟨g, 9, none⟩ v9).setCell ⟨g, 10, none⟩ v10).heap[b]? = w.heap[b]? := by
 rw [Below.heap_setCell _ _ _ _ h, Below.heap_setCell _ _ _ _ h, Below.heap_setCell _ _ _ _ h, Below.heap_setCell _ _ _ _ h, Below.heap_setCell _ _ _ _ h, Below.heap_setCell _ _ _ _ h, Below.heap_setCell _ _ _ _ h, Below.heap_setCell _ _ _ _ h, Below.heap_setCell _ _ _ _ h, Below.heap_setCell _ _ _ _ h, Below.heap_setCell _ _ _ _ h]
theorem put11_below {B : Nat} {w0 w : World} {g : Nat} (hb : Below B w0 w) (h : B ≤ g) (v0 v1 v2 v3 v4 v5 v6 v7 v8 v9 v10 : Value) : Below B w0 (((((((((((w.setCell ⟨g, 0, none⟩ v0).setCell ⟨g, 1, none⟩ v1).setCell ⟨g, 2, none⟩ v2).setCell ⟨g, 3, none⟩ v3).setCell ⟨g, 4, none⟩ v4).setCell ⟨g, 5, none⟩ v5).setCell ⟨g, 6, none⟩ v6).setCell ⟨g, 7, none⟩ v7).setCell ⟨g, 8, none⟩ v8).setCell ⟨g, 9, none⟩ v9).setCell ⟨g, 10, none⟩ v10) :=
 ((((((((((hb.setCell (p := ⟨g, 0, none⟩) h _).setCell (p := ⟨g, 1, none⟩) h _).setCell (p := ⟨g, 2, none⟩) h _).setCell (p := ⟨g, 3, none⟩) h _).setCell (p := ⟨g, 4, none⟩) h _).setCell (p := ⟨g, 5, none⟩) h _).setCell (p := ⟨g, 6, none⟩) h _).setCell (p := ⟨g, 7, none⟩) h _).setCell (p := ⟨g, 8, none⟩) h _).setCell (p := ⟨g, 9, none⟩) h _).setCell (p := ⟨g, 10, none⟩) h _
theorem set_eleven {cs : Array Value} (h : cs.size = 11) (v0 v1 v2 v3 v4 v5 v6 v7 v8 v9 v10 : Value) : (((((((((((cs.setIfInBounds 0 v0).setIfInBounds 1 v1).setIfInBounds 2 v2).setIfInBounds 3 v3).setIfInBounds 4 v4).setIfInBounds 5 v5).setIfInBounds 6 v6).setIfInBounds 7 v7).setIfInBounds 8 v8).setIfInBounds 9 v9).setIfInBounds 10 v10) = #[v0, v1, v2, v3, v4, v5, v6, v7, v8, v9, v10] := by
 apply Array.ext_getElem?
 intro i
 rcases Nat.lt_or_ge i 11 with hi | hi
 · rcases (by omega : i = 0 ∨ i = 1 ∨ i = 2 ∨ i = 3 ∨ i = 4 ∨ i = 5 ∨ i = 6 ∨ i = 7 ∨ i = 8 ∨ i = 9 ∨ i = 10) with rfl | rfl | rfl | rfl | rfl | rfl | rfl | rfl | rfl | rfl | rfl <;> simp [h]
 · rw [Array.getElem?_eq_none (by simp [h]; omega), Array.getElem?_eq_none (by simp; omega)]
theorem put11_blk {w : World} {g : Nat} {ty : TypeId} {cs : Array Value} (h : Blk w g ty cs) (hz : cs.size = 11) (v0 v1 v2 v3 v4 v5 v6 v7 v8 v9 v10 : Value) : Blk (((((((((((w.setCell ⟨g, 0, none⟩ v0).setCell ⟨g, 1, none⟩ v1).setCell ⟨g, 2, none⟩ v2).setCell ⟨g, 3, none⟩ v3).setCell ⟨g, 4, none⟩ v4).setCell ⟨g, 5, none⟩ v5).setCell ⟨g, 6, none⟩ v6).setCell ⟨g, 7, none⟩ v7).setCell ⟨g, 8, none⟩ v8).setCell ⟨g, 9, none⟩ v9).setCell ⟨g, 10, none⟩ v10) g ty #[v0, v1, v2, v3, v4, v5, v6, v7, v8, v9, v10] := by
 have h1 := ((((((((((h.set_ 0 v0).set_ 1 v1).set_ 2 v2).set_ 3 v3).set_ 4 v4).set_ 5 v5).set_ 6 v6).set_ 7 v7).set_ 8 v8).set_ 9 v9).set_ 10 v10
 rw [set_eleven hz] at h1
 exact h1
theorem ReadR.cells {R : Res} {w : World} {e : Ending} {w' : World} (h : ReadR R w e w') (hR : R ≠ .out) : ∃ v0 v1 v2 v3 v4 v5 v6 v7 v8 v9 v10, e = .returned (.agg #[v0, v1, v2, v3, v4, v5, v6, v7, v8, v9, v10]) := by
 cases R with
 | out => exact absurd rfl hR
 | ok x p => obtain ⟨q, he, _⟩ := h; exact ⟨_, _, _, _, _, _, _, _, _, _, _, he⟩
 | err p c => exact ⟨_, _, _, _, _, _, _, _, _, _, _, h.1⟩
theorem ReadR.below {R : Res} {w : World} {e : Ending} {w' : World} (h : ReadR R w e w') (hR : R ≠ .out) : Below w.heap.size w w' := by
 cases R with
 | out => exact absurd rfl hR
 | ok x p => obtain ⟨q, _, _, hb⟩ := h; exact hb
 | err p c => exact h.2.2
theorem ReadR.put {R : Res} {w0 W w : World} {e : Ending} {g : Nat} (h : ReadR R W e w) (hb : Below w0.heap.size w0 W) (hg : w0.heap.size ≤ g) (hgW : g < W.heap.size) (v0 v1 v2 v3 v4 v5 v6 v7 v8 v9 v10 : Value) : ReadR R w0 e (((((((((((w.setCell ⟨g, 0, none⟩ v0).setCell ⟨g, 1, none⟩ v1).setCell ⟨g, 2, none⟩ v2).setCell ⟨g, 3, none⟩ v3).setCell ⟨g, 4, none⟩ v4).setCell ⟨g, 5, none⟩ v5).setCell ⟨g, 6, none⟩ v6).setCell ⟨g, 7, none⟩ v7).setCell ⟨g, 8, none⟩ v8).setCell ⟨g, 9, none⟩ v9).setCell ⟨g, 10, none⟩ v10) := by
 have hsz : (((((((((((w.setCell ⟨g, 0, none⟩ v0).setCell ⟨g, 1, none⟩ v1).setCell ⟨g, 2, none⟩ v2).setCell ⟨g, 3, none⟩ v3).setCell ⟨g, 4, none⟩ v4).setCell ⟨g, 5, none⟩ v5).setCell ⟨g, 6, none⟩ v6).setCell ⟨g, 7, none⟩ v7).setCell ⟨g, 8, none⟩ v8).setCell ⟨g, 9, none⟩ v9).setCell ⟨g, 10, none⟩ v10).heap.size = w.heap.size := by simp only [World.size_setCell]
 cases R with
 | out => trivial
 | ok x p =>
  obtain ⟨q, he, hv, hw⟩ := h
  refine ⟨q, he, (hv.keep (fun b hb' => put11_heap (by have := hb'.1; omega) v0 v1 v2 v3 v4 v5 v6 v7 v8 v9 v10)).wide (fun b hb' => ⟨Nat.le_trans hb.size hb'.1, by rw [hsz]; exact hb'.2⟩), put11_below (hb.trans (hw.mono hb.size)) hg v0 v1 v2 v3 v4 v5 v6 v7 v8 v9 v10⟩
 | err p c =>
  obtain ⟨he, hc, hw⟩ := h
  exact ⟨he, hc, put11_below (hb.trans (hw.mono hb.size)) hg v0 v1 v2 v3 v4 v5 v6 v7 v8 v9 v10⟩
theorem ReadR.puts {R : Res} {w0 W w WF : World} {e : Ending} {g : Nat} (h : ReadR R W e w) (hb : Below w0.heap.size w0 W) (hg : w0.heap.size ≤ g) (hgW : g < W.heap.size) (h1 : ∀ B w0, Below B w0 w → B ≤ g → Below B w0 WF) (h2 : ∀ b, b ≠ g → WF.heap[b]? = w.heap[b]?) (h3 : WF.heap.size = w.heap.size) : ReadR R w0 e WF := by
 cases R with
 | out => trivial
 | ok x p =>
  obtain ⟨q, he, hv, hw⟩ := h
  exact ⟨q, he, (hv.keep (fun b hb' => h2 b (by have := hb'.1; omega))).wide (fun b hb' => ⟨Nat.le_trans hb.size hb'.1, by rw [h3]; exact hb'.2⟩), h1 _ _ (hb.trans (hw.mono hb.size)) hg⟩
 | err p c =>
  obtain ⟨he, hc, hw⟩ := h
  exact ⟨he, hc, h1 _ _ (hb.trans (hw.mono hb.size)) hg⟩
open Go.RowKit
open Tk Ex
theorem r8wrong_any (p c : Int) (w : World) : Calls Tryz.prog 42 #[.int .i64 p, .int .i64 c] w fun e w' => e = .returned (.agg #[.string ⟨#[]⟩, .string ⟨#[]⟩, .int .i64 0, .bool false, .int .i64 0, .string ⟨#[]⟩, .slice none 0 0, .slice none 0 0, .slice none 0 0, .int .i64 p, .int .i64 c]) ∧ Below w.heap.size w w' := by
 go_enter Tryz.func42, Tryz.ntmps42
 go_upto_region 1 with fail
 refine alloc_gen (fun W hW kG hWs => ?_)
 have HWS := hid hWs
 have hGW := kG.lt
 generalize hG : w.heap.size = G at *
 have HG := hid hG
 have HW := hid hW
 have KG := hid kG
 clear hW kG hWs hG
 obtain ⟨y0, y1, y2, y3, y4, y5, y6, y7, y8, y9, y10, z0, z1, z2, z3, z4, z5, z6, z7, z8, z9, z10, x0, x1, x2, x3, x4, x5, x6, x7, x8, x9, x10⟩ := old11 KG.out
 go_wp2_with fail
 refine put11_gen KG.out _ _ _ _ _ _ _ _ _ _ _ (fun WF hf0 hf1 hf2 hf3 => ?_)
 have HF := hid hf0
 have HFB := hid ((hf1 _ _ HW.out (Nat.le_refl G)))
 clear z0 x0 z1 x1 z2 x2 z3 x3 z4 x4 z5 x5 z6 x6 z7 x7 z8 x8 z9 x9 z10 x10
 clear hf0 hf1 hf2 hf3
 obtain ⟨c0, c1, c2, c3, c4, c5, c6, c7, c8, c9, c10⟩ := all11 HF.out
 refine bodyPost_ret (v := .agg #[.string ⟨#[]⟩, .string ⟨#[]⟩, .int .i64 0, .bool false, .int .i64 0, .string ⟨#[]⟩, .slice none 0 0, .slice none 0 0, .slice none 0 0, .int .i64 p, .int .i64 c]) (by simp [results, Tryz.results42, go_sem, c0, c1, c2, c3, c4, c5, c6, c7, c8, c9, c10]) rfl ?_
 refine ⟨rfl, ?_⟩
 rw [HG.out]
 exact HFB.out
theorem r8literal_any (k : Int) (b : Bool) (n : Int) (st : ByteArray) (p : Int) (w : World) : Calls Tryz.prog 54 #[.agg #[.int .i64 k, .bool b, .int .i64 n, .string st, .slice none 0 0, .slice none 0 0], .int .i64 p] w fun e w' => e = .returned (.agg #[.string ⟨#[108, 105, 116]⟩, .string ⟨#[]⟩, .int .i64 k, .bool b, .int .i64 n, .string st, .slice none 0 0, .slice none 0 0, .slice none 0 0, .int .i64 p, .int .i64 0]) ∧ Below w.heap.size w w' := by
 go_enter Tryz.func54, Tryz.ntmps54
 go_upto_region 1 with fail
 have hW : Below w.heap.size w ((w.alloc (.cells #[.int .i64 k, .bool b, .int .i64 n, .string st, .slice none 0 0, .slice none 0 0] 27)).alloc (.cells #[.string ⟨#[]⟩, .string ⟨#[]⟩, .int .i64 0, .bool false, .int .i64 0, .string ⟨#[]⟩, .slice none 0 0, .slice none 0 0, .slice none 0 0, .int .i64 0, .int .i64 0] 62)) := ((Below.refl _ _).alloc (Nat.le_refl _) _).alloc (by simp) _
 have kX : Blk ((w.alloc (.cells #[.int .i64 k, .bool b, .int .i64 n, .string st, .slice none 0 0, .slice none 0 0] 27)).alloc (.cells #[.string ⟨#[]⟩, .string ⟨#[]⟩, .int .i64 0, .bool false, .int .i64 0, .string ⟨#[]⟩, .slice none 0 0, .slice none 0 0, .slice none 0 0, .int .i64 0, .int .i64 0] 62)) w.heap.size 27 #[.int .i64 k, .bool b, .int .i64 n, .string st, .slice none 0 0, .slice none 0 0] := (Blk.new w _ _).alloc _
 have kG : Blk ((w.alloc (.cells #[.int .i64 k, .bool b, .int .i64 n, .string st, .slice none 0 0, .slice none 0 0] 27)).alloc (.cells #[.string ⟨#[]⟩, .string ⟨#[]⟩, .int .i64 0, .bool false, .int .i64 0, .string ⟨#[]⟩, .slice none 0 0, .slice none 0 0, .slice none 0 0, .int .i64 0, .int .i64 0] 62)) (w.heap.size + 1) 62 nul11 := by
  have := Blk.new (w.alloc (.cells #[.int .i64 k, .bool b, .int .i64 n, .string st, .slice none 0 0, .slice none 0 0] 27)) 62 #[.string ⟨#[]⟩, .string ⟨#[]⟩, .int .i64 0, .bool false, .int .i64 0, .string ⟨#[]⟩, .slice none 0 0, .slice none 0 0, .slice none 0 0, .int .i64 0, .int .i64 0]
  simpa [nul11] using this
 have hWs : ((w.alloc (.cells #[.int .i64 k, .bool b, .int .i64 n, .string st, .slice none 0 0, .slice none 0 0] 27)).alloc (.cells #[.string ⟨#[]⟩, .string ⟨#[]⟩, .int .i64 0, .bool false, .int .i64 0, .string ⟨#[]⟩, .slice none 0 0, .slice none 0 0, .slice none 0 0, .int .i64 0, .int .i64 0] 62)).heap.size = w.heap.size + 2 := by simp
 change Code.wp _ _ _ _ ((w.alloc (.cells #[.int .i64 k, .bool b, .int .i64 n, .string st, .slice none 0 0, .slice none 0 0] 27)).alloc (.cells #[.string ⟨#[]⟩, .string ⟨#[]⟩, .int .i64 0, .bool false, .int .i64 0, .string ⟨#[]⟩, .slice none 0 0, .slice none 0 0, .slice none 0 0, .int .i64 0, .int .i64 0] 62))
 generalize ((w.alloc (.cells #[.int .i64 k, .bool b, .int .i64 n, .string st, .slice none 0 0, .slice none 0 0] 27)).alloc (.cells #[.string ⟨#[]⟩, .string ⟨#[]⟩, .int .i64 0, .bool false, .int .i64 0, .string ⟨#[]⟩, .slice none 0 0, .slice none 0 0, .slice none 0 0, .int .i64 0, .int .i64 0] 62)) = W at *
 have HWS := hid hWs
 have HWG := hid (show Below (w.heap.size + 1) W W from Below.refl _ _)
 have hGW := kG.lt
 have hXW : w.heap.size < W.heap.size := by rw [HWS.out]; omega
 have hXG : w.heap.size < w.heap.size + 1 := Nat.lt_succ_self _
 generalize hX : w.heap.size = X at *
 generalize hG : X + 1 = G at *
 have HX := hid hX
 have HG := hid hG
 have HW := hid hW
 have KG := hid kG
 have KX := hid kX
 clear hW kG kX hWs hX hG
 have a0 := KX.out.cell 0
 have a1 := KX.out.cell 1
 have a2 := KX.out.cell 2
 have a3 := KX.out.cell 3
 have a4 := KX.out.cell 4
 have a5 := KX.out.cell 5
 obtain ⟨y0, y1, y2, y3, y4, y5, y6, y7, y8, y9, y10, z0, z1, z2, z3, z4, z5, z6, z7, z8, z9, z10, x0, x1, x2, x3, x4, x5, x6, x7, x8, x9, x10⟩ := old11 KG.out
 go_wp2_with fail
 clear a0 a1 a2 a3 a4 a5
 refine put11_gen KG.out _ _ _ _ _ _ _ _ _ _ _ (fun WF hf0 hf1 hf2 hf3 => ?_)
 have HF := hid hf0
 have HFB := hid ((hf1 _ _ HW.out (Nat.le_of_lt hXG)))
 clear z0 x0 z1 x1 z2 x2 z3 x3 z4 x4 z5 x5 z6 x6 z7 x7 z8 x8 z9 x9 z10 x10
 clear hf0 hf1 hf2 hf3
 obtain ⟨c0, c1, c2, c3, c4, c5, c6, c7, c8, c9, c10⟩ := all11 HF.out
 refine bodyPost_ret (v := .agg #[.string ⟨#[108, 105, 116]⟩, .string ⟨#[]⟩, .int .i64 k, .bool b, .int .i64 n, .string st, .slice none 0 0, .slice none 0 0, .slice none 0 0, .int .i64 p, .int .i64 0]) (by simp [results, Tryz.results54, go_sem, c0, c1, c2, c3, c4, c5, c6, c7, c8, c9, c10]) rfl ?_
 exact ⟨rfl, by rw [HX.out]; exact HFB.out⟩
theorem r8ahead_err (o : ByteArray) (p c : Int) (hc : c ≠ 0) (w : World) : Calls Tryz.prog 27 #[.string o, .agg #[.string ⟨#[]⟩, .string ⟨#[]⟩, .int .i64 0, .bool false, .int .i64 0, .string ⟨#[]⟩, .slice none 0 0, .slice none 0 0, .slice none 0 0, .int .i64 p, .int .i64 c]] w fun e w' => e = .returned (.agg #[.string ⟨#[]⟩, .string ⟨#[]⟩, .int .i64 0, .bool false, .int .i64 0, .string ⟨#[]⟩, .slice none 0 0, .slice none 0 0, .slice none 0 0, .int .i64 p, .int .i64 c]) ∧ Below w.heap.size w w' := by
 have n1 : (c != 0) = true := by simpa using hc
 have n2 : (c == 0) = false := beq_eq_false_iff_ne.2 hc
 clear hc
 go_enter Tryz.func27, Tryz.ntmps27
 go_upto_region 1 with fail
 have hW : Below w.heap.size w ((w.alloc (.cells #[.string ⟨#[]⟩, .string ⟨#[]⟩, .int .i64 0, .bool false, .int .i64 0, .string ⟨#[]⟩, .slice none 0 0, .slice none 0 0, .slice none 0 0, .int .i64 p, .int .i64 c] 62)).alloc (.cells #[.string ⟨#[]⟩, .string ⟨#[]⟩, .int .i64 0, .bool false, .int .i64 0, .string ⟨#[]⟩, .slice none 0 0, .slice none 0 0, .slice none 0 0, .int .i64 0, .int .i64 0] 62)) := ((Below.refl _ _).alloc (Nat.le_refl _) _).alloc (by simp) _
 have kX : Blk ((w.alloc (.cells #[.string ⟨#[]⟩, .string ⟨#[]⟩, .int .i64 0, .bool false, .int .i64 0, .string ⟨#[]⟩, .slice none 0 0, .slice none 0 0, .slice none 0 0, .int .i64 p, .int .i64 c] 62)).alloc (.cells #[.string ⟨#[]⟩, .string ⟨#[]⟩, .int .i64 0, .bool false, .int .i64 0, .string ⟨#[]⟩, .slice none 0 0, .slice none 0 0, .slice none 0 0, .int .i64 0, .int .i64 0] 62)) w.heap.size 62 #[.string ⟨#[]⟩, .string ⟨#[]⟩, .int .i64 0, .bool false, .int .i64 0, .string ⟨#[]⟩, .slice none 0 0, .slice none 0 0, .slice none 0 0, .int .i64 p, .int .i64 c] := (Blk.new w _ _).alloc _
 have kG : Blk ((w.alloc (.cells #[.string ⟨#[]⟩, .string ⟨#[]⟩, .int .i64 0, .bool false, .int .i64 0, .string ⟨#[]⟩, .slice none 0 0, .slice none 0 0, .slice none 0 0, .int .i64 p, .int .i64 c] 62)).alloc (.cells #[.string ⟨#[]⟩, .string ⟨#[]⟩, .int .i64 0, .bool false, .int .i64 0, .string ⟨#[]⟩, .slice none 0 0, .slice none 0 0, .slice none 0 0, .int .i64 0, .int .i64 0] 62)) (w.heap.size + 1) 62 nul11 := by
  have := Blk.new (w.alloc (.cells #[.string ⟨#[]⟩, .string ⟨#[]⟩, .int .i64 0, .bool false, .int .i64 0, .string ⟨#[]⟩, .slice none 0 0, .slice none 0 0, .slice none 0 0, .int .i64 p, .int .i64 c] 62)) 62 #[.string ⟨#[]⟩, .string ⟨#[]⟩, .int .i64 0, .bool false, .int .i64 0, .string ⟨#[]⟩, .slice none 0 0, .slice none 0 0, .slice none 0 0, .int .i64 0, .int .i64 0]
  simpa [nul11] using this
 have hWs : ((w.alloc (.cells #[.string ⟨#[]⟩, .string ⟨#[]⟩, .int .i64 0, .bool false, .int .i64 0, .string ⟨#[]⟩, .slice none 0 0, .slice none 0 0, .slice none 0 0, .int .i64 p, .int .i64 c] 62)).alloc (.cells #[.string ⟨#[]⟩, .string ⟨#[]⟩, .int .i64 0, .bool false, .int .i64 0, .string ⟨#[]⟩, .slice none 0 0, .slice none 0 0, .slice none 0 0, .int .i64 0, .int .i64 0] 62)).heap.size = w.heap.size + 2 := by simp
 change Code.wp _ _ _ _ ((w.alloc (.cells #[.string ⟨#[]⟩, .string ⟨#[]⟩, .int .i64 0, .bool false, .int .i64 0, .string ⟨#[]⟩, .slice none 0 0, .slice none 0 0, .slice none 0 0, .int .i64 p, .int .i64 c] 62)).alloc (.cells #[.string ⟨#[]⟩, .string ⟨#[]⟩, .int .i64 0, .bool false, .int .i64 0, .string ⟨#[]⟩, .slice none 0 0, .slice none 0 0, .slice none 0 0, .int .i64 0, .int .i64 0] 62))
 generalize ((w.alloc (.cells #[.string ⟨#[]⟩, .string ⟨#[]⟩, .int .i64 0, .bool false, .int .i64 0, .string ⟨#[]⟩, .slice none 0 0, .slice none 0 0, .slice none 0 0, .int .i64 p, .int .i64 c] 62)).alloc (.cells #[.string ⟨#[]⟩, .string ⟨#[]⟩, .int .i64 0, .bool false, .int .i64 0, .string ⟨#[]⟩, .slice none 0 0, .slice none 0 0, .slice none 0 0, .int .i64 0, .int .i64 0] 62)) = W at *
 have HWS := hid hWs
 have HWG := hid (show Below (w.heap.size + 1) W W from Below.refl _ _)
 have hGW := kG.lt
 have hXW : w.heap.size < W.heap.size := by rw [HWS.out]; omega
 have hXG : w.heap.size < w.heap.size + 1 := Nat.lt_succ_self _
 generalize hX : w.heap.size = X at *
 generalize hG : X + 1 = G at *
 have HX := hid hX
 have HG := hid hG
 have HW := hid hW
 have KG := hid kG
 have KX := hid kX
 clear hW kG kX hWs hX hG
 obtain ⟨a0, a1, a2, a3, a4, a5, a6, a7, a8, a9, a10⟩ := all11 KX.out
 obtain ⟨y0, y1, y2, y3, y4, y5, y6, y7, y8, y9, y10, z0, z1, z2, z3, z4, z5, z6, z7, z8, z9, z10, x0, x1, x2, x3, x4, x5, x6, x7, x8, x9, x10⟩ := old11 KG.out
 go_wp2_with fail
 clear a0 a1 a2 a3 a4 a5 a6 a7 a8 a9 a10
 refine put11_gen KG.out _ _ _ _ _ _ _ _ _ _ _ (fun WF hf0 hf1 hf2 hf3 => ?_)
 have HF := hid hf0
 have HFB := hid ((hf1 _ _ HW.out (Nat.le_of_lt hXG)))
 clear z0 x0 z1 x1 z2 x2 z3 x3 z4 x4 z5 x5 z6 x6 z7 x7 z8 x8 z9 x9 z10 x10
 clear hf0 hf1 hf2 hf3
 obtain ⟨c0, c1, c2, c3, c4, c5, c6, c7, c8, c9, c10⟩ := all11 HF.out
 refine bodyPost_ret (v := .agg #[.string ⟨#[]⟩, .string ⟨#[]⟩, .int .i64 0, .bool false, .int .i64 0, .string ⟨#[]⟩, .slice none 0 0, .slice none 0 0, .slice none 0 0, .int .i64 p, .int .i64 c]) (by simp [results, Tryz.results27, go_sem, c0, c1, c2, c3, c4, c5, c6, c7, c8, c9, c10]) rfl ?_
 exact ⟨rfl, by rw [HX.out]; exact HFB.out⟩
theorem r8ahead_ok (o : ByteArray) (x : E) (h : Hd) (p : Nat) (w : World) : Calls Tryz.prog 27 #[.string o, .agg #[.string x.op, .string x.name, .int .i64 x.lit.kind, .bool x.lit.tr, .int .i64 x.lit.num, .string x.lit.str, .slice h.L x.lit.items.length h.l, .slice h.L' x.lit.keys.length h.l', .slice h.A x.args.length h.c, .int .i64 p, .int .i64 0]] w fun e w' => ∃ b, e = .returned (.agg #[.string o, .string ⟨#[]⟩, .int .i64 0, .bool false, .int .i64 0, .string ⟨#[]⟩, .slice none 0 0, .slice none 0 0, .slice (some ⟨b, 0, none⟩) 1 1, .int .i64 p, .int .i64 0]) ∧ Blk w' b 30 (ecs x h) ∧ w.heap.size ≤ b ∧ Below w.heap.size w w' := by
 go_enter Tryz.func27, Tryz.ntmps27
 go_upto_region 1 with fail
 have hW : Below w.heap.size w ((w.alloc (.cells #[.string x.op, .string x.name, .int .i64 x.lit.kind, .bool x.lit.tr, .int .i64 x.lit.num, .string x.lit.str, .slice h.L x.lit.items.length h.l, .slice h.L' x.lit.keys.length h.l', .slice h.A x.args.length h.c, .int .i64 p, .int .i64 0] 62)).alloc (.cells #[.string ⟨#[]⟩, .string ⟨#[]⟩, .int .i64 0, .bool false, .int .i64 0, .string ⟨#[]⟩, .slice none 0 0, .slice none 0 0, .slice none 0 0, .int .i64 0, .int .i64 0] 62)) := ((Below.refl _ _).alloc (Nat.le_refl _) _).alloc (by simp) _
 have kX : Blk ((w.alloc (.cells #[.string x.op, .string x.name, .int .i64 x.lit.kind, .bool x.lit.tr, .int .i64 x.lit.num, .string x.lit.str, .slice h.L x.lit.items.length h.l, .slice h.L' x.lit.keys.length h.l', .slice h.A x.args.length h.c, .int .i64 p, .int .i64 0] 62)).alloc (.cells #[.string ⟨#[]⟩, .string ⟨#[]⟩, .int .i64 0, .bool false, .int .i64 0, .string ⟨#[]⟩, .slice none 0 0, .slice none 0 0, .slice none 0 0, .int .i64 0, .int .i64 0] 62)) w.heap.size 62 #[.string x.op, .string x.name, .int .i64 x.lit.kind, .bool x.lit.tr, .int .i64 x.lit.num, .string x.lit.str, .slice h.L x.lit.items.length h.l, .slice h.L' x.lit.keys.length h.l', .slice h.A x.args.length h.c, .int .i64 p, .int .i64 0] := (Blk.new w _ _).alloc _
 have kG : Blk ((w.alloc (.cells #[.string x.op, .string x.name, .int .i64 x.lit.kind, .bool x.lit.tr, .int .i64 x.lit.num, .string x.lit.str, .slice h.L x.lit.items.length h.l, .slice h.L' x.lit.keys.length h.l', .slice h.A x.args.length h.c, .int .i64 p, .int .i64 0] 62)).alloc (.cells #[.string ⟨#[]⟩, .string ⟨#[]⟩, .int .i64 0, .bool false, .int .i64 0, .string ⟨#[]⟩, .slice none 0 0, .slice none 0 0, .slice none 0 0, .int .i64 0, .int .i64 0] 62)) (w.heap.size + 1) 62 nul11 := by
  have := Blk.new (w.alloc (.cells #[.string x.op, .string x.name, .int .i64 x.lit.kind, .bool x.lit.tr, .int .i64 x.lit.num, .string x.lit.str, .slice h.L x.lit.items.length h.l, .slice h.L' x.lit.keys.length h.l', .slice h.A x.args.length h.c, .int .i64 p, .int .i64 0] 62)) 62 #[.string ⟨#[]⟩, .string ⟨#[]⟩, .int .i64 0, .bool false, .int .i64 0, .string ⟨#[]⟩, .slice none 0 0, .slice none 0 0, .slice none 0 0, .int .i64 0, .int .i64 0]
  simpa [nul11] using this
 have hWs : ((w.alloc (.cells #[.string x.op, .string x.name, .int .i64 x.lit.kind, .bool x.lit.tr, .int .i64 x.lit.num, .string x.lit.str, .slice h.L x.lit.items.length h.l, .slice h.L' x.lit.keys.length h.l', .slice h.A x.args.length h.c, .int .i64 p, .int .i64 0] 62)).alloc (.cells #[.string ⟨#[]⟩, .string ⟨#[]⟩, .int .i64 0, .bool false, .int .i64 0, .string ⟨#[]⟩, .slice none 0 0, .slice none 0 0, .slice none 0 0, .int .i64 0, .int .i64 0] 62)).heap.size = w.heap.size + 2 := by simp
 change Code.wp _ _ _ _ ((w.alloc (.cells #[.string x.op, .string x.name, .int .i64 x.lit.kind, .bool x.lit.tr, .int .i64 x.lit.num, .string x.lit.str, .slice h.L x.lit.items.length h.l, .slice h.L' x.lit.keys.length h.l', .slice h.A x.args.length h.c, .int .i64 p, .int .i64 0] 62)).alloc (.cells #[.string ⟨#[]⟩, .string ⟨#[]⟩, .int .i64 0, .bool false, .int .i64 0, .string ⟨#[]⟩, .slice none 0 0, .slice none 0 0, .slice none 0 0, .int .i64 0, .int .i64 0] 62))
 generalize ((w.alloc (.cells #[.string x.op, .string x.name, .int .i64 x.lit.kind, .bool x.lit.tr, .int .i64 x.lit.num, .string x.lit.str, .slice h.L x.lit.items.length h.l, .slice h.L' x.lit.keys.length h.l', .slice h.A x.args.length h.c, .int .i64 p, .int .i64 0] 62)).alloc (.cells #[.string ⟨#[]⟩, .string ⟨#[]⟩, .int .i64 0, .bool false, .int .i64 0, .string ⟨#[]⟩, .slice none 0 0, .slice none 0 0, .slice none 0 0, .int .i64 0, .int .i64 0] 62)) = W at *
 have HWS := hid hWs
 have HWG := hid (show Below (w.heap.size + 1) W W from Below.refl _ _)
 have hGW := kG.lt
 have hXW : w.heap.size < W.heap.size := by rw [HWS.out]; omega
 have hXG : w.heap.size < w.heap.size + 1 := Nat.lt_succ_self _
 generalize hX : w.heap.size = X at *
 generalize hG : X + 1 = G at *
 have HX := hid hX
 have HG := hid hG
 have HW := hid hW
 have KG := hid kG
 have KX := hid kX
 clear hW kG kX hWs hX hG
 obtain ⟨a0, a1, a2, a3, a4, a5, a6, a7, a8, a9, a10⟩ := all11 KX.out
 obtain ⟨y0, y1, y2, y3, y4, y5, y6, y7, y8, y9, y10, z0, z1, z2, z3, z4, z5, z6, z7, z8, z9, z10, x0, x1, x2, x3, x4, x5, x6, x7, x8, x9, x10⟩ := old11 KG.out
 go_wp2_with fail
 clear a0 a1 a2 a3 a4 a5 a6 a7 a8 a9 a10
 have hsz : (((((((((((W.setCell ⟨G, 0, none⟩ (.string o)).setCell ⟨G, 1, none⟩ (.string ⟨#[]⟩)).setCell ⟨G, 2, none⟩ (.int .i64 0)).setCell ⟨G, 3, none⟩ (.bool false)).setCell ⟨G, 4, none⟩ (.int .i64 0)).setCell ⟨G, 5, none⟩ (.string ⟨#[]⟩)).setCell ⟨G, 6, none⟩ (.slice none 0 0)).setCell ⟨G, 7, none⟩ (.slice none 0 0)).setCell ⟨G, 8, none⟩ (.slice (some ⟨W.heap.size, 0, none⟩) 1 1)).setCell ⟨G, 9, none⟩ (.int .i64 p)).setCell ⟨G, 10, none⟩ (.int .i64 0)).heap.size = W.heap.size := by simp only [World.size_setCell]
 have HF0 := hid (show Blk (((((((((((W.setCell ⟨G, 0, none⟩ (.string o)).setCell ⟨G, 1, none⟩ (.string ⟨#[]⟩)).setCell ⟨G, 2, none⟩ (.int .i64 0)).setCell ⟨G, 3, none⟩ (.bool false)).setCell ⟨G, 4, none⟩ (.int .i64 0)).setCell ⟨G, 5, none⟩ (.string ⟨#[]⟩)).setCell ⟨G, 6, none⟩ (.slice none 0 0)).setCell ⟨G, 7, none⟩ (.slice none 0 0)).setCell ⟨G, 8, none⟩ (.slice (some ⟨W.heap.size, 0, none⟩) 1 1)).setCell ⟨G, 9, none⟩ (.int .i64 p)).setCell ⟨G, 10, none⟩ (.int .i64 0)) G 62 #[.string o, .string ⟨#[]⟩, .int .i64 0, .bool false, .int .i64 0, .string ⟨#[]⟩, .slice none 0 0, .slice none 0 0, .slice (some ⟨W.heap.size, 0, none⟩) 1 1, .int .i64 p, .int .i64 0] from put11_blk KG.out rfl _ _ _ _ _ _ _ _ _ _ _)
 have HFB0 := hid (put11_below HW.out (Nat.le_of_lt hXG) (.string o) (.string ⟨#[]⟩) (.int .i64 0) (.bool false) (.int .i64 0) (.string ⟨#[]⟩) (.slice none 0 0) (.slice none 0 0) (.slice (some ⟨W.heap.size, 0, none⟩) 1 1) (.int .i64 p) (.int .i64 0))
 clear z0 x0 z1 x1 z2 x2 z3 x3 z4 x4 z5 x5 z6 x6 z7 x7 z8 x8 z9 x9 z10 x10
 generalize (((((((((((W.setCell ⟨G, 0, none⟩ (.string o)).setCell ⟨G, 1, none⟩ (.string ⟨#[]⟩)).setCell ⟨G, 2, none⟩ (.int .i64 0)).setCell ⟨G, 3, none⟩ (.bool false)).setCell ⟨G, 4, none⟩ (.int .i64 0)).setCell ⟨G, 5, none⟩ (.string ⟨#[]⟩)).setCell ⟨G, 6, none⟩ (.slice none 0 0)).setCell ⟨G, 7, none⟩ (.slice none 0 0)).setCell ⟨G, 8, none⟩ (.slice (some ⟨W.heap.size, 0, none⟩) 1 1)).setCell ⟨G, 9, none⟩ (.int .i64 p)).setCell ⟨G, 10, none⟩ (.int .i64 0)) = WP at *
 have hA : Below WP.heap.size WP (WP.alloc (.cells #[.string x.op, .string x.name, .int .i64 x.lit.kind, .bool x.lit.tr, .int .i64 x.lit.num, .string x.lit.str, .slice h.L x.lit.items.length h.l, .slice h.L' x.lit.keys.length h.l', .slice h.A x.args.length h.c] 30)) := (Below.refl _ _).alloc (Nat.le_refl _) _
 have HB0 := hid (show Blk (WP.alloc (.cells #[.string x.op, .string x.name, .int .i64 x.lit.kind, .bool x.lit.tr, .int .i64 x.lit.num, .string x.lit.str, .slice h.L x.lit.items.length h.l, .slice h.L' x.lit.keys.length h.l', .slice h.A x.args.length h.c] 30)) W.heap.size 30 #[.string x.op, .string x.name, .int .i64 x.lit.kind, .bool x.lit.tr, .int .i64 x.lit.num, .string x.lit.str, .slice h.L x.lit.items.length h.l, .slice h.L' x.lit.keys.length h.l', .slice h.A x.args.length h.c] by rw [← hsz]; exact Blk.new WP _ _)
 have HF := hid (HF0.out.onto hA)
 have HFB := hid (HFB0.out.trans (hA.mono (by rw [hsz]; omega)))
 generalize (WP.alloc (.cells #[.string x.op, .string x.name, .int .i64 x.lit.kind, .bool x.lit.tr, .int .i64 x.lit.num, .string x.lit.str, .slice h.L x.lit.items.length h.l, .slice h.L' x.lit.keys.length h.l', .slice h.A x.args.length h.c] 30)) = WF at *
 clear hsz hA HF0 HFB0
 obtain ⟨c0, c1, c2, c3, c4, c5, c6, c7, c8, c9, c10⟩ := all11 HF.out
 refine bodyPost_ret (v := .agg #[.string o, .string ⟨#[]⟩, .int .i64 0, .bool false, .int .i64 0, .string ⟨#[]⟩, .slice none 0 0, .slice none 0 0, .slice (some ⟨W.heap.size, 0, none⟩) 1 1, .int .i64 p, .int .i64 0]) (by simp [results, Tryz.results27, go_sem, c0, c1, c2, c3, c4, c5, c6, c7, c8, c9, c10]) rfl ?_
 refine ⟨W.heap.size, rfl, HB0.out, ?_, by rw [HX.out]; exact HFB.out⟩
 rw [HX.out]
 omega
open Go.RowKit
open Tk Ex
def btT (s : ByteArray) (n i : Nat) : ByteArray := match btw s n i with | some t => t | none => nix
def btP (s : ByteArray) (n i : Nat) : Nat := match btw s n i with | some t => past s i t | none => i
theorem bt_some {s : ByteArray} {n i : Nat} {t : ByteArray} (h : btw s n i = some t) : btT s n i = t ∧ btP s n i = past s i t := by unfold btT btP; rw [h]; exact ⟨rfl, rfl⟩
theorem bt_none {s : ByteArray} {n i : Nat} (h : btw s n i = none) : btT s n i = nix ∧ btP s n i = i := by unfold btT btP; rw [h]; exact ⟨rfl, rfl⟩
theorem find_hit {p : ByteArray → Bool} {a b : List ByteArray} {t : ByteArray} (ha : ∀ x ∈ a, p x = false) (ht : p t = true) : (a ++ t :: b).find? p = some t := by
 rw [List.find?_append, List.find?_eq_none.2 (fun x hx => by rw [ha x hx]; decide), List.find?_cons_of_pos ht]
 rfl
theorem find_miss {p : ByteArray → Bool} {a : List ByteArray} (ha : ∀ x ∈ a, p x = false) : a.find? p = none := List.find?_eq_none.2 (fun x hx => by rw [ha x hx]; decide)
theorem mark_yes {s : ByteArray} {i : Nat} {t : ByteArray} (hi : i ≤ s.size) (h0 : t.data.toList ≠ []) (ht : ∀ c ∈ t.data.toList, isLt c.toNat = false) (h : stands s i t = true) : markP s i t = ((past s i t : Nat) : Int) := by rw [mark_sign hi h0 ht, if_pos h]
theorem mark_no {s : ByteArray} {i : Nat} {t : ByteArray} (hi : i ≤ s.size) (h0 : t.data.toList ≠ []) (ht : ∀ c ∈ t.data.toList, isLt c.toNat = false) (h : stands s i t = false) : markP s i t = -1 := by rw [mark_sign hi h0 ht, if_neg (by rw [h]; decide)]
def BtwP (s : ByteArray) (n i : Nat) (w : World) (e : Ending) (w' : World) : Prop := e = .returned (.tuple #[.string (btT s n i), .int .i64 (btP s n i : Nat)]) ∧ Below w.heap.size w w'
theorem r8btw_0 (s : ByteArray) (i : Nat) (w : World) (hs : s.size ≤ 1000000) (hi : i ≤ s.size) : Calls Tryz.prog 30 #[.string s, .int .i64 i, .int .i64 0] w (BtwP s 0 i w) := by
 have HWD := hid (fun w1 => r8word_any s i w1 hs hi)
 have HST := hid (show stands s i orB = eqb (wordT s i) orB from stands_words (t := orB) rfl (by decide))
 have HPP := hid (fun h => wordP_past (s := s) (i := i) (t := orB) hi rfl (by decide) h)
 cases hb : stands s i orB with
 | true =>
  have hbt : btw s 0 i = some orB := by show [orB].find? (stands s i) = _; rw [List.find?_cons_of_pos hb]
  have HT := hid (bt_some hbt).1
  have HP := hid ((bt_some hbt).2.trans (HPP.out hb).symm)
  have hw : wordT s i = orB := eqb_yes (by rw [← HST.out]; exact hb)
  rw [hw] at HWD
  clear hbt hb hw HST HPP
  unfold BtwP
  rw [HT.out, HP.out]
  generalize wordP s i = q at *
  clear HT HP
  unfold orB at *
  go_enter Tryz.func30, Tryz.ntmps30
  go_wp2_with fail
  refine (HWD.out _).mono ?_
  rintro e w2 ⟨rfl, rfl⟩
  go_wp2_with fail
  go_ret2
  exact ⟨rfl, Below.refl _ _⟩
 | false =>
  have hbt : btw s 0 i = none := by show [orB].find? (stands s i) = _; rw [List.find?_cons_of_neg (by rw [hb]; decide)]; rfl
  have HT := hid (bt_none hbt).1
  have HP := hid (bt_none hbt).2
  have hw : eqb (wordT s i) orB = false := by rw [← HST.out]; exact hb
  clear hbt hb HST HPP
  unfold BtwP
  rw [HT.out, HP.out]
  generalize wordP s i = q at *
  generalize wordT s i = wd at *
  have f1 : (wd.toList == [111, 114]) = false := tl_lit (t := orB) rfl hw
  have f2 : (([111, 114] : List UInt8) == wd.toList) = false := by rw [BEq.comm]; exact f1
  clear HT HP hw
  go_enter Tryz.func30, Tryz.ntmps30
  go_wp2_with fail
  refine (HWD.out _).mono ?_
  rintro e w2 ⟨rfl, rfl⟩
  go_wp2_with fail
  go_ret2
  exact ⟨rfl, Below.refl _ _⟩
open Go.RowKit
open Tk Ex
theorem r8btw_1 (s : ByteArray) (i : Nat) (w : World) (hs : s.size ≤ 1000000) (hi : i ≤ s.size) : Calls Tryz.prog 30 #[.string s, .int .i64 i, .int .i64 1] w (BtwP s 1 i w) := by
 have HWD := hid (fun w1 => r8word_any s i w1 hs hi)
 have HST := hid (show stands s i andB = eqb (wordT s i) andB from stands_words (t := andB) rfl (by decide))
 have HPP := hid (fun h => wordP_past (s := s) (i := i) (t := andB) hi rfl (by decide) h)
 cases hb : stands s i andB with
 | true =>
  have hbt : btw s 1 i = some andB := by show [andB].find? (stands s i) = _; rw [List.find?_cons_of_pos hb]
  have HT := hid (bt_some hbt).1
  have HP := hid ((bt_some hbt).2.trans (HPP.out hb).symm)
  have hw : wordT s i = andB := eqb_yes (by rw [← HST.out]; exact hb)
  rw [hw] at HWD
  clear hbt hb hw HST HPP
  unfold BtwP
  rw [HT.out, HP.out]
  generalize wordP s i = q at *
  clear HT HP
  unfold andB at *
  go_enter Tryz.func30, Tryz.ntmps30
  go_wp2_with fail
  refine (HWD.out _).mono ?_
  rintro e w2 ⟨rfl, rfl⟩
  go_wp2_with fail
  go_ret2
  exact ⟨rfl, Below.refl _ _⟩
 | false =>
  have hbt : btw s 1 i = none := by show [andB].find? (stands s i) = _; rw [List.find?_cons_of_neg (by rw [hb]; decide)]; rfl
  have HT := hid (bt_none hbt).1
  have HP := hid (bt_none hbt).2
  have hw : eqb (wordT s i) andB = false := by rw [← HST.out]; exact hb
  clear hbt hb HST HPP
  unfold BtwP
  rw [HT.out, HP.out]
  generalize wordP s i = q at *
  generalize wordT s i = wd at *
  have f1 : (wd.toList == [97, 110, 100]) = false := tl_lit (t := andB) rfl hw
  have f2 : (([97, 110, 100] : List UInt8) == wd.toList) = false := by rw [BEq.comm]; exact f1
  clear HT HP hw
  go_enter Tryz.func30, Tryz.ntmps30
  go_wp2_with fail
  refine (HWD.out _).mono ?_
  rintro e w2 ⟨rfl, rfl⟩
  go_wp2_with fail
  go_ret2
  exact ⟨rfl, Below.refl _ _⟩
theorem made_then {P : Program} {ops : Array Oper} {rest : List Oper} {o : Oper} {a : Act} {w : World} {Q : Exit → Act → World → Prop} (hg : o.guard = none) {d : Option Tmp} (hd : o.dst = d) {v : Value} {ob : Obj}
 (hr : (execOp a.eval o).run P w = .ok (.value v) (w.alloc ob)) (h : wpList P ops Q rest (a.put d v) (w.alloc ob)) : wpList P ops Q (o :: rest) a w := by
 subst hd
 refine wpList_plain hg fun K hK => ?_
 unfold Oper.wp
 rw [hr, Oper.upon_value]
 exact hK _ _ h
def c66 : Array Value := #[.string ⟨#[]⟩, .string ⟨#[]⟩, .string ⟨#[]⟩, .string ⟨#[]⟩, .string ⟨#[]⟩, .string ⟨#[]⟩, .string ⟨#[]⟩, .string ⟨#[]⟩, .string ⟨#[]⟩, .string ⟨#[]⟩, .string ⟨#[]⟩, .string ⟨#[]⟩, .string ⟨#[]⟩, .string ⟨#[]⟩, .string ⟨#[]⟩, .string ⟨#[]⟩, .string ⟨#[]⟩, .string ⟨#[]⟩, .string ⟨#[61, 61]⟩, .string ⟨#[33, 61]⟩, .string ⟨#[60, 61]⟩, .string ⟨#[62, 61]⟩, .string ⟨#[60]⟩, .string ⟨#[62]⟩, .string ⟨#[43]⟩, .string ⟨#[45]⟩, .string ⟨#[]⟩, .string ⟨#[]⟩, .string ⟨#[]⟩, .string ⟨#[]⟩, .string ⟨#[42]⟩, .string ⟨#[47]⟩, .string ⟨#[37]⟩, .string ⟨#[]⟩, .string ⟨#[]⟩, .string ⟨#[]⟩]
def z66 : Array Value := #[.string ⟨#[]⟩, .string ⟨#[]⟩, .string ⟨#[]⟩, .string ⟨#[]⟩, .string ⟨#[]⟩, .string ⟨#[]⟩, .string ⟨#[]⟩, .string ⟨#[]⟩, .string ⟨#[]⟩, .string ⟨#[]⟩, .string ⟨#[]⟩, .string ⟨#[]⟩, .string ⟨#[]⟩, .string ⟨#[]⟩, .string ⟨#[]⟩, .string ⟨#[]⟩, .string ⟨#[]⟩, .string ⟨#[]⟩, .string ⟨#[]⟩, .string ⟨#[]⟩, .string ⟨#[]⟩, .string ⟨#[]⟩, .string ⟨#[]⟩, .string ⟨#[]⟩, .string ⟨#[]⟩, .string ⟨#[]⟩, .string ⟨#[]⟩, .string ⟨#[]⟩, .string ⟨#[]⟩, .string ⟨#[]⟩, .string ⟨#[]⟩, .string ⟨#[]⟩, .string ⟨#[]⟩, .string ⟨#[]⟩, .string ⟨#[]⟩, .string ⟨#[]⟩]
theorem btwR_end {s : ByteArray} {n i : Nat} {w W : World} {t : ByteArray} {q : Nat} (h1 : btT s n i = t) (h2 : btP s n i = q) (hb : Below w.heap.size w W) : BtwP s n i w (.returned (.tuple #[.string t, .int .i64 (q : Nat)])) W := by
 subst h1 h2
 exact ⟨rfl, hb⟩
theorem r8btw_3 (s : ByteArray) (i : Nat) (w : World) (hs : s.size ≤ 1000000) (hi : i ≤ s.size) : Calls Tryz.prog 30 #[.string s, .int .i64 i, .int .i64 3] w (BtwP s 3 i w) := by
 have HMK := hid (fun (t : ByteArray) (ht : t.size ≤ 1000) w1 => r8mark_any s i t w1 hs hi ht)
 go_enter Tryz.func30, Tryz.ntmps30
 go_upto_region 6 with fail
 rename_i K hK
 apply wp_region_lit
 refine wpList_buildTo rfl 100 _ rfl (some 38) rfl #[.string ⟨#[61, 61]⟩, .string ⟨#[33, 61]⟩, .string ⟨#[60, 61]⟩, .string ⟨#[62, 61]⟩, .string ⟨#[60]⟩, .string ⟨#[62]⟩] (by kernel_rfl) ?_
 refine wpList_buildTo rfl 100 _ rfl (some 39) rfl #[.string ⟨#[43]⟩, .string ⟨#[45]⟩, .string ⟨#[]⟩, .string ⟨#[]⟩, .string ⟨#[]⟩, .string ⟨#[]⟩] (by kernel_rfl) ?_
 refine wpList_buildTo rfl 100 _ rfl (some 40) rfl #[.string ⟨#[42]⟩, .string ⟨#[47]⟩, .string ⟨#[37]⟩, .string ⟨#[]⟩, .string ⟨#[]⟩, .string ⟨#[]⟩] (by kernel_rfl) ?_
 refine wpList_buildTo rfl 101 _ rfl (some 41) rfl c66 (by kernel_rfl) ?_
 refine made_then rfl (d := some 10) rfl (v := .pointer (some ⟨w.heap.size, 0, none⟩)) (ob := .cells z66 101) (by kernel_rfl) ?_
 refine wpList_store_rowTo rfl 101 _ _ rfl rfl w.heap.size c66 (by kernel_rfl) (by kernel_rfl) 101 z66 (heap_alloc_last w _) (by kernel_rfl) rfl (by kernel_rfl) ?_
 rw [World.setRow_alloc_new]
 apply wpList_nil
 refine hK _ _ ?_
 clear hK K
 have hA : Below w.heap.size w (w.alloc (.cells c66 101)) := (Below.refl _ _).alloc (Nat.le_refl _) _
 have kA : Blk (w.alloc (.cells c66 101)) w.heap.size 101 c66 := Blk.new w _ _
 generalize (w.alloc (.cells c66 101)) = W at *
 generalize hG : w.heap.size = G at *
 have HG := hid hG
 clear hG
 have c0 : W.cell? ⟨G, 18, none⟩ = some (.string ⟨#[61, 61]⟩) := kA.cell 18
 have c1 : W.cell? ⟨G, 19, none⟩ = some (.string ⟨#[33, 61]⟩) := kA.cell 19
 have c2 : W.cell? ⟨G, 20, none⟩ = some (.string ⟨#[60, 61]⟩) := kA.cell 20
 have c3 : W.cell? ⟨G, 21, none⟩ = some (.string ⟨#[62, 61]⟩) := kA.cell 21
 have c4 : W.cell? ⟨G, 22, none⟩ = some (.string ⟨#[60]⟩) := kA.cell 22
 have c5 : W.cell? ⟨G, 23, none⟩ = some (.string ⟨#[62]⟩) := kA.cell 23
 have HA := hid hA
 clear hA kA
 have HBT := hid (show btw s 3 i = (sg 3).find? (stands s i) from rfl)
 go_wp2_with fail
 go_loop [45] (fun v => ∃ k : Nat, k ≤ 6 ∧ v = .int .i64 k ∧ ∀ x ∈ (sg 3).take k, stands s i x = false) (fun v => 6 - (intOf v).toNat)
 case atStart => exact ⟨0, Nat.zero_le _, rfl, fun x hx => absurd hx (by simp)⟩
 case round =>
  obtain ⟨k, hk, rfl, hno⟩ := hrel
  have HNO := hid hno
  clear hno
  rcases (by omega : k = 0 ∨ k = 1 ∨ k = 2 ∨ k = 3 ∨ k = 4 ∨ k = 5 ∨ k = 6) with rfl | rfl | rfl | rfl | rfl | rfl | rfl
  ·
   have ix : ∀ w1 : World, (Instr.index 100 (.agg #[.string ⟨#[61, 61]⟩, .string ⟨#[33, 61]⟩, .string ⟨#[60, 61]⟩, .string ⟨#[62, 61]⟩, .string ⟨#[60]⟩, .string ⟨#[62]⟩]) (.int .i64 0)).run Tryz.prog w1 = .ok (.string ⟨#[61, 61]⟩) w1 := fun _ => by kernel_rfl
   by_cases h : stands s i eqB = true
   ·
    have hbt : btw s 3 i = some eqB := by rw [HBT.out]; exact find_hit (a := (sg 3).take 0) HNO.out h
    have HT := hid (bt_some hbt)
    have hm := mark_yes hi (by decide) (by decide) h
    have HM := hid (fun w1 => HMK.out eqB (by decide) w1)
    rw [hm] at HM
    clear h hbt hm
    generalize past s i eqB = q at *
    have hq : (0 : Int) ≤ (q : Int) := Int.natCast_nonneg q
    unfold eqB at *
    go_wp2_with fail
    refine (HM.out _).mono ?_
    rintro e w2 ⟨rfl, rfl⟩
    go_wp2_with fail
    refine (HM.out _).mono ?_
    rintro e w2 ⟨rfl, rfl⟩
    go_wp2_with fail
    go_ret2
    exact btwR_end HT.out.1 HT.out.2 (by rw [HG.out]; exact HA.out)
   ·
    have h' : stands s i eqB = false := Bool.eq_false_iff.2 h
    have hm := mark_no hi (by decide) (by decide) h'
    have HM := hid (fun w1 => HMK.out eqB (by decide) w1)
    rw [hm] at HM
    have HH := hid h'
    clear h h' hm
    unfold eqB at HM
    go_wp2_with fail
    refine (HM.out _).mono ?_
    rintro e w2 ⟨rfl, rfl⟩
    go_wp2_with fail
    go_round
    case rel =>
     refine ⟨1, by omega, by go_num, ?_⟩
     rw [show (sg 3).take 1 = (sg 3).take 0 ++ [eqB] from rfl]
     exact fun x hx => (List.mem_append.1 hx).elim (HNO.out x) (fun h => by rw [List.mem_singleton.1 h]; exact HH.out)
    case measure => simp [intOf]
  ·
   have ix : ∀ w1 : World, (Instr.index 100 (.agg #[.string ⟨#[61, 61]⟩, .string ⟨#[33, 61]⟩, .string ⟨#[60, 61]⟩, .string ⟨#[62, 61]⟩, .string ⟨#[60]⟩, .string ⟨#[62]⟩]) (.int .i64 1)).run Tryz.prog w1 = .ok (.string ⟨#[33, 61]⟩) w1 := fun _ => by kernel_rfl
   by_cases h : stands s i neB = true
   ·
    have hbt : btw s 3 i = some neB := by rw [HBT.out]; exact find_hit (a := (sg 3).take 1) HNO.out h
    have HT := hid (bt_some hbt)
    have hm := mark_yes hi (by decide) (by decide) h
    have HM := hid (fun w1 => HMK.out neB (by decide) w1)
    rw [hm] at HM
    clear h hbt hm
    generalize past s i neB = q at *
    have hq : (0 : Int) ≤ (q : Int) := Int.natCast_nonneg q
    unfold neB at *
    go_wp2_with fail
    refine (HM.out _).mono ?_
    rintro e w2 ⟨rfl, rfl⟩
    go_wp2_with fail
    refine (HM.out _).mono ?_
    rintro e w2 ⟨rfl, rfl⟩
    go_wp2_with fail
    go_ret2
    exact btwR_end HT.out.1 HT.out.2 (by rw [HG.out]; exact HA.out)
   ·
    have h' : stands s i neB = false := Bool.eq_false_iff.2 h
    have hm := mark_no hi (by decide) (by decide) h'
    have HM := hid (fun w1 => HMK.out neB (by decide) w1)
    rw [hm] at HM
    have HH := hid h'
    clear h h' hm
    unfold neB at HM
    go_wp2_with fail
    refine (HM.out _).mono ?_
    rintro e w2 ⟨rfl, rfl⟩
    go_wp2_with fail
    go_round
    case rel =>
     refine ⟨2, by omega, by go_num, ?_⟩
     rw [show (sg 3).take 2 = (sg 3).take 1 ++ [neB] from rfl]
     exact fun x hx => (List.mem_append.1 hx).elim (HNO.out x) (fun h => by rw [List.mem_singleton.1 h]; exact HH.out)
    case measure => simp [intOf]
  ·
   have ix : ∀ w1 : World, (Instr.index 100 (.agg #[.string ⟨#[61, 61]⟩, .string ⟨#[33, 61]⟩, .string ⟨#[60, 61]⟩, .string ⟨#[62, 61]⟩, .string ⟨#[60]⟩, .string ⟨#[62]⟩]) (.int .i64 2)).run Tryz.prog w1 = .ok (.string ⟨#[60, 61]⟩) w1 := fun _ => by kernel_rfl
   by_cases h : stands s i leB = true
   ·
    have hbt : btw s 3 i = some leB := by rw [HBT.out]; exact find_hit (a := (sg 3).take 2) HNO.out h
    have HT := hid (bt_some hbt)
    have hm := mark_yes hi (by decide) (by decide) h
    have HM := hid (fun w1 => HMK.out leB (by decide) w1)
    rw [hm] at HM
    clear h hbt hm
    generalize past s i leB = q at *
    have hq : (0 : Int) ≤ (q : Int) := Int.natCast_nonneg q
    unfold leB at *
    go_wp2_with fail
    refine (HM.out _).mono ?_
    rintro e w2 ⟨rfl, rfl⟩
    go_wp2_with fail
    refine (HM.out _).mono ?_
    rintro e w2 ⟨rfl, rfl⟩
    go_wp2_with fail
    go_ret2
    exact btwR_end HT.out.1 HT.out.2 (by rw [HG.out]; exact HA.out)
   ·
    have h' : stands s i leB = false := Bool.eq_false_iff.2 h
    have hm := mark_no hi (by decide) (by decide) h'
    have HM := hid (fun w1 => HMK.out leB (by decide) w1)
    rw [hm] at HM
    have HH := hid h'
    clear h h' hm
    unfold leB at HM
    go_wp2_with fail
    refine (HM.out _).mono ?_
    rintro e w2 ⟨rfl, rfl⟩
    go_wp2_with fail
    go_round
    case rel =>
     refine ⟨3, by omega, by go_num, ?_⟩
     rw [show (sg 3).take 3 = (sg 3).take 2 ++ [leB] from rfl]
     exact fun x hx => (List.mem_append.1 hx).elim (HNO.out x) (fun h => by rw [List.mem_singleton.1 h]; exact HH.out)
    case measure => simp [intOf]
  ·
   have ix : ∀ w1 : World, (Instr.index 100 (.agg #[.string ⟨#[61, 61]⟩, .string ⟨#[33, 61]⟩, .string ⟨#[60, 61]⟩, .string ⟨#[62, 61]⟩, .string ⟨#[60]⟩, .string ⟨#[62]⟩]) (.int .i64 3)).run Tryz.prog w1 = .ok (.string ⟨#[62, 61]⟩) w1 := fun _ => by kernel_rfl
   by_cases h : stands s i geB = true
   ·
    have hbt : btw s 3 i = some geB := by rw [HBT.out]; exact find_hit (a := (sg 3).take 3) HNO.out h
    have HT := hid (bt_some hbt)
    have hm := mark_yes hi (by decide) (by decide) h
    have HM := hid (fun w1 => HMK.out geB (by decide) w1)
    rw [hm] at HM
    clear h hbt hm
    generalize past s i geB = q at *
    have hq : (0 : Int) ≤ (q : Int) := Int.natCast_nonneg q
    unfold geB at *
    go_wp2_with fail
    refine (HM.out _).mono ?_
    rintro e w2 ⟨rfl, rfl⟩
    go_wp2_with fail
    refine (HM.out _).mono ?_
    rintro e w2 ⟨rfl, rfl⟩
    go_wp2_with fail
    go_ret2
    exact btwR_end HT.out.1 HT.out.2 (by rw [HG.out]; exact HA.out)
   ·
    have h' : stands s i geB = false := Bool.eq_false_iff.2 h
    have hm := mark_no hi (by decide) (by decide) h'
    have HM := hid (fun w1 => HMK.out geB (by decide) w1)
    rw [hm] at HM
    have HH := hid h'
    clear h h' hm
    unfold geB at HM
    go_wp2_with fail
    refine (HM.out _).mono ?_
    rintro e w2 ⟨rfl, rfl⟩
    go_wp2_with fail
    go_round
    case rel =>
     refine ⟨4, by omega, by go_num, ?_⟩
     rw [show (sg 3).take 4 = (sg 3).take 3 ++ [geB] from rfl]
     exact fun x hx => (List.mem_append.1 hx).elim (HNO.out x) (fun h => by rw [List.mem_singleton.1 h]; exact HH.out)
    case measure => simp [intOf]
  ·
   have ix : ∀ w1 : World, (Instr.index 100 (.agg #[.string ⟨#[61, 61]⟩, .string ⟨#[33, 61]⟩, .string ⟨#[60, 61]⟩, .string ⟨#[62, 61]⟩, .string ⟨#[60]⟩, .string ⟨#[62]⟩]) (.int .i64 4)).run Tryz.prog w1 = .ok (.string ⟨#[60]⟩) w1 := fun _ => by kernel_rfl
   by_cases h : stands s i ltB = true
   ·
    have hbt : btw s 3 i = some ltB := by rw [HBT.out]; exact find_hit (a := (sg 3).take 4) HNO.out h
    have HT := hid (bt_some hbt)
    have hm := mark_yes hi (by decide) (by decide) h
    have HM := hid (fun w1 => HMK.out ltB (by decide) w1)
    rw [hm] at HM
    clear h hbt hm
    generalize past s i ltB = q at *
    have hq : (0 : Int) ≤ (q : Int) := Int.natCast_nonneg q
    unfold ltB at *
    go_wp2_with fail
    refine (HM.out _).mono ?_
    rintro e w2 ⟨rfl, rfl⟩
    go_wp2_with fail
    refine (HM.out _).mono ?_
    rintro e w2 ⟨rfl, rfl⟩
    go_wp2_with fail
    go_ret2
    exact btwR_end HT.out.1 HT.out.2 (by rw [HG.out]; exact HA.out)
   ·
    have h' : stands s i ltB = false := Bool.eq_false_iff.2 h
    have hm := mark_no hi (by decide) (by decide) h'
    have HM := hid (fun w1 => HMK.out ltB (by decide) w1)
    rw [hm] at HM
    have HH := hid h'
    clear h h' hm
    unfold ltB at HM
    go_wp2_with fail
    refine (HM.out _).mono ?_
    rintro e w2 ⟨rfl, rfl⟩
    go_wp2_with fail
    go_round
    case rel =>
     refine ⟨5, by omega, by go_num, ?_⟩
     rw [show (sg 3).take 5 = (sg 3).take 4 ++ [ltB] from rfl]
     exact fun x hx => (List.mem_append.1 hx).elim (HNO.out x) (fun h => by rw [List.mem_singleton.1 h]; exact HH.out)
    case measure => simp [intOf]
  ·
   have ix : ∀ w1 : World, (Instr.index 100 (.agg #[.string ⟨#[61, 61]⟩, .string ⟨#[33, 61]⟩, .string ⟨#[60, 61]⟩, .string ⟨#[62, 61]⟩, .string ⟨#[60]⟩, .string ⟨#[62]⟩]) (.int .i64 5)).run Tryz.prog w1 = .ok (.string ⟨#[62]⟩) w1 := fun _ => by kernel_rfl
   by_cases h : stands s i gtB = true
   ·
    have hbt : btw s 3 i = some gtB := by rw [HBT.out]; exact find_hit (a := (sg 3).take 5) HNO.out h
    have HT := hid (bt_some hbt)
    have hm := mark_yes hi (by decide) (by decide) h
    have HM := hid (fun w1 => HMK.out gtB (by decide) w1)
    rw [hm] at HM
    clear h hbt hm
    generalize past s i gtB = q at *
    have hq : (0 : Int) ≤ (q : Int) := Int.natCast_nonneg q
    unfold gtB at *
    go_wp2_with fail
    refine (HM.out _).mono ?_
    rintro e w2 ⟨rfl, rfl⟩
    go_wp2_with fail
    refine (HM.out _).mono ?_
    rintro e w2 ⟨rfl, rfl⟩
    go_wp2_with fail
    go_ret2
    exact btwR_end HT.out.1 HT.out.2 (by rw [HG.out]; exact HA.out)
   ·
    have h' : stands s i gtB = false := Bool.eq_false_iff.2 h
    have hm := mark_no hi (by decide) (by decide) h'
    have HM := hid (fun w1 => HMK.out gtB (by decide) w1)
    rw [hm] at HM
    have HH := hid h'
    clear h h' hm
    unfold gtB at HM
    go_wp2_with fail
    refine (HM.out _).mono ?_
    rintro e w2 ⟨rfl, rfl⟩
    go_wp2_with fail
    go_round
    case rel =>
     refine ⟨6, by omega, by go_num, ?_⟩
     rw [show (sg 3).take 6 = (sg 3).take 5 ++ [gtB] from rfl]
     exact fun x hx => (List.mem_append.1 hx).elim (HNO.out x) (fun h => by rw [List.mem_singleton.1 h]; exact HH.out)
    case measure => simp [intOf]
  ·
   have hbt : btw s 3 i = none := by rw [HBT.out]; exact find_miss HNO.out
   have HT := hid (bt_none hbt)
   clear hbt
   go_wp2_with fail
   go_ret2
   exact btwR_end HT.out.1 HT.out.2 (by rw [HG.out]; exact HA.out)
theorem r8btw_4 (s : ByteArray) (i : Nat) (w : World) (hs : s.size ≤ 1000000) (hi : i ≤ s.size) : Calls Tryz.prog 30 #[.string s, .int .i64 i, .int .i64 4] w (BtwP s 4 i w) := by
 have HMK := hid (fun (t : ByteArray) (ht : t.size ≤ 1000) w1 => r8mark_any s i t w1 hs hi ht)
 go_enter Tryz.func30, Tryz.ntmps30
 go_upto_region 6 with fail
 rename_i K hK
 apply wp_region_lit
 refine wpList_buildTo rfl 100 _ rfl (some 38) rfl #[.string ⟨#[61, 61]⟩, .string ⟨#[33, 61]⟩, .string ⟨#[60, 61]⟩, .string ⟨#[62, 61]⟩, .string ⟨#[60]⟩, .string ⟨#[62]⟩] (by kernel_rfl) ?_
 refine wpList_buildTo rfl 100 _ rfl (some 39) rfl #[.string ⟨#[43]⟩, .string ⟨#[45]⟩, .string ⟨#[]⟩, .string ⟨#[]⟩, .string ⟨#[]⟩, .string ⟨#[]⟩] (by kernel_rfl) ?_
 refine wpList_buildTo rfl 100 _ rfl (some 40) rfl #[.string ⟨#[42]⟩, .string ⟨#[47]⟩, .string ⟨#[37]⟩, .string ⟨#[]⟩, .string ⟨#[]⟩, .string ⟨#[]⟩] (by kernel_rfl) ?_
 refine wpList_buildTo rfl 101 _ rfl (some 41) rfl c66 (by kernel_rfl) ?_
 refine made_then rfl (d := some 10) rfl (v := .pointer (some ⟨w.heap.size, 0, none⟩)) (ob := .cells z66 101) (by kernel_rfl) ?_
 refine wpList_store_rowTo rfl 101 _ _ rfl rfl w.heap.size c66 (by kernel_rfl) (by kernel_rfl) 101 z66 (heap_alloc_last w _) (by kernel_rfl) rfl (by kernel_rfl) ?_
 rw [World.setRow_alloc_new]
 apply wpList_nil
 refine hK _ _ ?_
 clear hK K
 have hA : Below w.heap.size w (w.alloc (.cells c66 101)) := (Below.refl _ _).alloc (Nat.le_refl _) _
 have kA : Blk (w.alloc (.cells c66 101)) w.heap.size 101 c66 := Blk.new w _ _
 generalize (w.alloc (.cells c66 101)) = W at *
 generalize hG : w.heap.size = G at *
 have HG := hid hG
 clear hG
 have c0 : W.cell? ⟨G, 24, none⟩ = some (.string ⟨#[43]⟩) := kA.cell 24
 have c1 : W.cell? ⟨G, 25, none⟩ = some (.string ⟨#[45]⟩) := kA.cell 25
 have c2 : W.cell? ⟨G, 26, none⟩ = some (.string ⟨#[]⟩) := kA.cell 26
 have c3 : W.cell? ⟨G, 27, none⟩ = some (.string ⟨#[]⟩) := kA.cell 27
 have c4 : W.cell? ⟨G, 28, none⟩ = some (.string ⟨#[]⟩) := kA.cell 28
 have c5 : W.cell? ⟨G, 29, none⟩ = some (.string ⟨#[]⟩) := kA.cell 29
 have HA := hid hA
 clear hA kA
 have HBT := hid (show btw s 4 i = (sg 4).find? (stands s i) from rfl)
 go_wp2_with fail
 go_loop [45] (fun v => ∃ k : Nat, k ≤ 6 ∧ v = .int .i64 k ∧ ∀ x ∈ (sg 4).take k, stands s i x = false) (fun v => 6 - (intOf v).toNat)
 case atStart => exact ⟨0, Nat.zero_le _, rfl, fun x hx => absurd hx (by simp)⟩
 case round =>
  obtain ⟨k, hk, rfl, hno⟩ := hrel
  have HNO := hid hno
  clear hno
  rcases (by omega : k = 0 ∨ k = 1 ∨ k = 2 ∨ k = 3 ∨ k = 4 ∨ k = 5 ∨ k = 6) with rfl | rfl | rfl | rfl | rfl | rfl | rfl
  ·
   have ix : ∀ w1 : World, (Instr.index 100 (.agg #[.string ⟨#[43]⟩, .string ⟨#[45]⟩, .string ⟨#[]⟩, .string ⟨#[]⟩, .string ⟨#[]⟩, .string ⟨#[]⟩]) (.int .i64 0)).run Tryz.prog w1 = .ok (.string ⟨#[43]⟩) w1 := fun _ => by kernel_rfl
   by_cases h : stands s i plusB = true
   ·
    have hbt : btw s 4 i = some plusB := by rw [HBT.out]; exact find_hit (a := (sg 4).take 0) HNO.out h
    have HT := hid (bt_some hbt)
    have hm := mark_yes hi (by decide) (by decide) h
    have HM := hid (fun w1 => HMK.out plusB (by decide) w1)
    rw [hm] at HM
    clear h hbt hm
    generalize past s i plusB = q at *
    have hq : (0 : Int) ≤ (q : Int) := Int.natCast_nonneg q
    unfold plusB at *
    go_wp2_with fail
    refine (HM.out _).mono ?_
    rintro e w2 ⟨rfl, rfl⟩
    go_wp2_with fail
    refine (HM.out _).mono ?_
    rintro e w2 ⟨rfl, rfl⟩
    go_wp2_with fail
    go_ret2
    exact btwR_end HT.out.1 HT.out.2 (by rw [HG.out]; exact HA.out)
   ·
    have h' : stands s i plusB = false := Bool.eq_false_iff.2 h
    have hm := mark_no hi (by decide) (by decide) h'
    have HM := hid (fun w1 => HMK.out plusB (by decide) w1)
    rw [hm] at HM
    have HH := hid h'
    clear h h' hm
    unfold plusB at HM
    go_wp2_with fail
    refine (HM.out _).mono ?_
    rintro e w2 ⟨rfl, rfl⟩
    go_wp2_with fail
    go_round
    case rel =>
     refine ⟨1, by omega, by go_num, ?_⟩
     rw [show (sg 4).take 1 = (sg 4).take 0 ++ [plusB] from rfl]
     exact fun x hx => (List.mem_append.1 hx).elim (HNO.out x) (fun h => by rw [List.mem_singleton.1 h]; exact HH.out)
    case measure => simp [intOf]
  ·
   have ix : ∀ w1 : World, (Instr.index 100 (.agg #[.string ⟨#[43]⟩, .string ⟨#[45]⟩, .string ⟨#[]⟩, .string ⟨#[]⟩, .string ⟨#[]⟩, .string ⟨#[]⟩]) (.int .i64 1)).run Tryz.prog w1 = .ok (.string ⟨#[45]⟩) w1 := fun _ => by kernel_rfl
   by_cases h : stands s i minusB = true
   ·
    have hbt : btw s 4 i = some minusB := by rw [HBT.out]; exact find_hit (a := (sg 4).take 1) HNO.out h
    have HT := hid (bt_some hbt)
    have hm := mark_yes hi (by decide) (by decide) h
    have HM := hid (fun w1 => HMK.out minusB (by decide) w1)
    rw [hm] at HM
    clear h hbt hm
    generalize past s i minusB = q at *
    have hq : (0 : Int) ≤ (q : Int) := Int.natCast_nonneg q
    unfold minusB at *
    go_wp2_with fail
    refine (HM.out _).mono ?_
    rintro e w2 ⟨rfl, rfl⟩
    go_wp2_with fail
    refine (HM.out _).mono ?_
    rintro e w2 ⟨rfl, rfl⟩
    go_wp2_with fail
    go_ret2
    exact btwR_end HT.out.1 HT.out.2 (by rw [HG.out]; exact HA.out)
   ·
    have h' : stands s i minusB = false := Bool.eq_false_iff.2 h
    have hm := mark_no hi (by decide) (by decide) h'
    have HM := hid (fun w1 => HMK.out minusB (by decide) w1)
    rw [hm] at HM
    have HH := hid h'
    clear h h' hm
    unfold minusB at HM
    go_wp2_with fail
    refine (HM.out _).mono ?_
    rintro e w2 ⟨rfl, rfl⟩
    go_wp2_with fail
    go_round
    case rel =>
     refine ⟨2, by omega, by go_num, ?_⟩
     rw [show (sg 4).take 2 = (sg 4).take 1 ++ [minusB] from rfl]
     exact fun x hx => (List.mem_append.1 hx).elim (HNO.out x) (fun h => by rw [List.mem_singleton.1 h]; exact HH.out)
    case measure => simp [intOf]
  ·
   have ix : ∀ w1 : World, (Instr.index 100 (.agg #[.string ⟨#[43]⟩, .string ⟨#[45]⟩, .string ⟨#[]⟩, .string ⟨#[]⟩, .string ⟨#[]⟩, .string ⟨#[]⟩]) (.int .i64 2)).run Tryz.prog w1 = .ok (.string ⟨#[]⟩) w1 := fun _ => by kernel_rfl
   go_wp2_with fail
   go_round
   case rel => exact ⟨3, by omega, by go_num, HNO.out⟩
   case measure => simp [intOf]
  ·
   have ix : ∀ w1 : World, (Instr.index 100 (.agg #[.string ⟨#[43]⟩, .string ⟨#[45]⟩, .string ⟨#[]⟩, .string ⟨#[]⟩, .string ⟨#[]⟩, .string ⟨#[]⟩]) (.int .i64 3)).run Tryz.prog w1 = .ok (.string ⟨#[]⟩) w1 := fun _ => by kernel_rfl
   go_wp2_with fail
   go_round
   case rel => exact ⟨4, by omega, by go_num, HNO.out⟩
   case measure => simp [intOf]
  ·
   have ix : ∀ w1 : World, (Instr.index 100 (.agg #[.string ⟨#[43]⟩, .string ⟨#[45]⟩, .string ⟨#[]⟩, .string ⟨#[]⟩, .string ⟨#[]⟩, .string ⟨#[]⟩]) (.int .i64 4)).run Tryz.prog w1 = .ok (.string ⟨#[]⟩) w1 := fun _ => by kernel_rfl
   go_wp2_with fail
   go_round
   case rel => exact ⟨5, by omega, by go_num, HNO.out⟩
   case measure => simp [intOf]
  ·
   have ix : ∀ w1 : World, (Instr.index 100 (.agg #[.string ⟨#[43]⟩, .string ⟨#[45]⟩, .string ⟨#[]⟩, .string ⟨#[]⟩, .string ⟨#[]⟩, .string ⟨#[]⟩]) (.int .i64 5)).run Tryz.prog w1 = .ok (.string ⟨#[]⟩) w1 := fun _ => by kernel_rfl
   go_wp2_with fail
   go_round
   case rel => exact ⟨6, by omega, by go_num, HNO.out⟩
   case measure => simp [intOf]
  ·
   have hbt : btw s 4 i = none := by rw [HBT.out]; exact find_miss HNO.out
   have HT := hid (bt_none hbt)
   clear hbt
   go_wp2_with fail
   go_ret2
   exact btwR_end HT.out.1 HT.out.2 (by rw [HG.out]; exact HA.out)
theorem r8btw_5 (s : ByteArray) (i : Nat) (w : World) (hs : s.size ≤ 1000000) (hi : i ≤ s.size) : Calls Tryz.prog 30 #[.string s, .int .i64 i, .int .i64 5] w (BtwP s 5 i w) := by
 have HMK := hid (fun (t : ByteArray) (ht : t.size ≤ 1000) w1 => r8mark_any s i t w1 hs hi ht)
 go_enter Tryz.func30, Tryz.ntmps30
 go_upto_region 6 with fail
 rename_i K hK
 apply wp_region_lit
 refine wpList_buildTo rfl 100 _ rfl (some 38) rfl #[.string ⟨#[61, 61]⟩, .string ⟨#[33, 61]⟩, .string ⟨#[60, 61]⟩, .string ⟨#[62, 61]⟩, .string ⟨#[60]⟩, .string ⟨#[62]⟩] (by kernel_rfl) ?_
 refine wpList_buildTo rfl 100 _ rfl (some 39) rfl #[.string ⟨#[43]⟩, .string ⟨#[45]⟩, .string ⟨#[]⟩, .string ⟨#[]⟩, .string ⟨#[]⟩, .string ⟨#[]⟩] (by kernel_rfl) ?_
 refine wpList_buildTo rfl 100 _ rfl (some 40) rfl #[.string ⟨#[42]⟩, .string ⟨#[47]⟩, .string ⟨#[37]⟩, .string ⟨#[]⟩, .string ⟨#[]⟩, .string ⟨#[]⟩] (by kernel_rfl) ?_
 refine wpList_buildTo rfl 101 _ rfl (some 41) rfl c66 (by kernel_rfl) ?_
 refine made_then rfl (d := some 10) rfl (v := .pointer (some ⟨w.heap.size, 0, none⟩)) (ob := .cells z66 101) (by kernel_rfl) ?_
 refine wpList_store_rowTo rfl 101 _ _ rfl rfl w.heap.size c66 (by kernel_rfl) (by kernel_rfl) 101 z66 (heap_alloc_last w _) (by kernel_rfl) rfl (by kernel_rfl) ?_
 rw [World.setRow_alloc_new]
 apply wpList_nil
 refine hK _ _ ?_
 clear hK K
 have hA : Below w.heap.size w (w.alloc (.cells c66 101)) := (Below.refl _ _).alloc (Nat.le_refl _) _
 have kA : Blk (w.alloc (.cells c66 101)) w.heap.size 101 c66 := Blk.new w _ _
 generalize (w.alloc (.cells c66 101)) = W at *
 generalize hG : w.heap.size = G at *
 have HG := hid hG
 clear hG
 have c0 : W.cell? ⟨G, 30, none⟩ = some (.string ⟨#[42]⟩) := kA.cell 30
 have c1 : W.cell? ⟨G, 31, none⟩ = some (.string ⟨#[47]⟩) := kA.cell 31
 have c2 : W.cell? ⟨G, 32, none⟩ = some (.string ⟨#[37]⟩) := kA.cell 32
 have c3 : W.cell? ⟨G, 33, none⟩ = some (.string ⟨#[]⟩) := kA.cell 33
 have c4 : W.cell? ⟨G, 34, none⟩ = some (.string ⟨#[]⟩) := kA.cell 34
 have c5 : W.cell? ⟨G, 35, none⟩ = some (.string ⟨#[]⟩) := kA.cell 35
 have HA := hid hA
 clear hA kA
 have HBT := hid (show btw s 5 i = (sg 5).find? (stands s i) from rfl)
 go_wp2_with fail
 go_loop [45] (fun v => ∃ k : Nat, k ≤ 6 ∧ v = .int .i64 k ∧ ∀ x ∈ (sg 5).take k, stands s i x = false) (fun v => 6 - (intOf v).toNat)
 case atStart => exact ⟨0, Nat.zero_le _, rfl, fun x hx => absurd hx (by simp)⟩
 case round =>
  obtain ⟨k, hk, rfl, hno⟩ := hrel
  have HNO := hid hno
  clear hno
  rcases (by omega : k = 0 ∨ k = 1 ∨ k = 2 ∨ k = 3 ∨ k = 4 ∨ k = 5 ∨ k = 6) with rfl | rfl | rfl | rfl | rfl | rfl | rfl
  ·
   have ix : ∀ w1 : World, (Instr.index 100 (.agg #[.string ⟨#[42]⟩, .string ⟨#[47]⟩, .string ⟨#[37]⟩, .string ⟨#[]⟩, .string ⟨#[]⟩, .string ⟨#[]⟩]) (.int .i64 0)).run Tryz.prog w1 = .ok (.string ⟨#[42]⟩) w1 := fun _ => by kernel_rfl
   by_cases h : stands s i starB = true
   ·
    have hbt : btw s 5 i = some starB := by rw [HBT.out]; exact find_hit (a := (sg 5).take 0) HNO.out h
    have HT := hid (bt_some hbt)
    have hm := mark_yes hi (by decide) (by decide) h
    have HM := hid (fun w1 => HMK.out starB (by decide) w1)
    rw [hm] at HM
    clear h hbt hm
    generalize past s i starB = q at *
    have hq : (0 : Int) ≤ (q : Int) := Int.natCast_nonneg q
    unfold starB at *
    go_wp2_with fail
    refine (HM.out _).mono ?_
    rintro e w2 ⟨rfl, rfl⟩
    go_wp2_with fail
    refine (HM.out _).mono ?_
    rintro e w2 ⟨rfl, rfl⟩
    go_wp2_with fail
    go_ret2
    exact btwR_end HT.out.1 HT.out.2 (by rw [HG.out]; exact HA.out)
   ·
    have h' : stands s i starB = false := Bool.eq_false_iff.2 h
    have hm := mark_no hi (by decide) (by decide) h'
    have HM := hid (fun w1 => HMK.out starB (by decide) w1)
    rw [hm] at HM
    have HH := hid h'
    clear h h' hm
    unfold starB at HM
    go_wp2_with fail
    refine (HM.out _).mono ?_
    rintro e w2 ⟨rfl, rfl⟩
    go_wp2_with fail
    go_round
    case rel =>
     refine ⟨1, by omega, by go_num, ?_⟩
     rw [show (sg 5).take 1 = (sg 5).take 0 ++ [starB] from rfl]
     exact fun x hx => (List.mem_append.1 hx).elim (HNO.out x) (fun h => by rw [List.mem_singleton.1 h]; exact HH.out)
    case measure => simp [intOf]
  ·
   have ix : ∀ w1 : World, (Instr.index 100 (.agg #[.string ⟨#[42]⟩, .string ⟨#[47]⟩, .string ⟨#[37]⟩, .string ⟨#[]⟩, .string ⟨#[]⟩, .string ⟨#[]⟩]) (.int .i64 1)).run Tryz.prog w1 = .ok (.string ⟨#[47]⟩) w1 := fun _ => by kernel_rfl
   by_cases h : stands s i slashB = true
   ·
    have hbt : btw s 5 i = some slashB := by rw [HBT.out]; exact find_hit (a := (sg 5).take 1) HNO.out h
    have HT := hid (bt_some hbt)
    have hm := mark_yes hi (by decide) (by decide) h
    have HM := hid (fun w1 => HMK.out slashB (by decide) w1)
    rw [hm] at HM
    clear h hbt hm
    generalize past s i slashB = q at *
    have hq : (0 : Int) ≤ (q : Int) := Int.natCast_nonneg q
    unfold slashB at *
    go_wp2_with fail
    refine (HM.out _).mono ?_
    rintro e w2 ⟨rfl, rfl⟩
    go_wp2_with fail
    refine (HM.out _).mono ?_
    rintro e w2 ⟨rfl, rfl⟩
    go_wp2_with fail
    go_ret2
    exact btwR_end HT.out.1 HT.out.2 (by rw [HG.out]; exact HA.out)
   ·
    have h' : stands s i slashB = false := Bool.eq_false_iff.2 h
    have hm := mark_no hi (by decide) (by decide) h'
    have HM := hid (fun w1 => HMK.out slashB (by decide) w1)
    rw [hm] at HM
    have HH := hid h'
    clear h h' hm
    unfold slashB at HM
    go_wp2_with fail
    refine (HM.out _).mono ?_
    rintro e w2 ⟨rfl, rfl⟩
    go_wp2_with fail
    go_round
    case rel =>
     refine ⟨2, by omega, by go_num, ?_⟩
     rw [show (sg 5).take 2 = (sg 5).take 1 ++ [slashB] from rfl]
     exact fun x hx => (List.mem_append.1 hx).elim (HNO.out x) (fun h => by rw [List.mem_singleton.1 h]; exact HH.out)
    case measure => simp [intOf]
  ·
   have ix : ∀ w1 : World, (Instr.index 100 (.agg #[.string ⟨#[42]⟩, .string ⟨#[47]⟩, .string ⟨#[37]⟩, .string ⟨#[]⟩, .string ⟨#[]⟩, .string ⟨#[]⟩]) (.int .i64 2)).run Tryz.prog w1 = .ok (.string ⟨#[37]⟩) w1 := fun _ => by kernel_rfl
   by_cases h : stands s i remB = true
   ·
    have hbt : btw s 5 i = some remB := by rw [HBT.out]; exact find_hit (a := (sg 5).take 2) HNO.out h
    have HT := hid (bt_some hbt)
    have hm := mark_yes hi (by decide) (by decide) h
    have HM := hid (fun w1 => HMK.out remB (by decide) w1)
    rw [hm] at HM
    clear h hbt hm
    generalize past s i remB = q at *
    have hq : (0 : Int) ≤ (q : Int) := Int.natCast_nonneg q
    unfold remB at *
    go_wp2_with fail
    refine (HM.out _).mono ?_
    rintro e w2 ⟨rfl, rfl⟩
    go_wp2_with fail
    refine (HM.out _).mono ?_
    rintro e w2 ⟨rfl, rfl⟩
    go_wp2_with fail
    go_ret2
    exact btwR_end HT.out.1 HT.out.2 (by rw [HG.out]; exact HA.out)
   ·
    have h' : stands s i remB = false := Bool.eq_false_iff.2 h
    have hm := mark_no hi (by decide) (by decide) h'
    have HM := hid (fun w1 => HMK.out remB (by decide) w1)
    rw [hm] at HM
    have HH := hid h'
    clear h h' hm
    unfold remB at HM
    go_wp2_with fail
    refine (HM.out _).mono ?_
    rintro e w2 ⟨rfl, rfl⟩
    go_wp2_with fail
    go_round
    case rel =>
     refine ⟨3, by omega, by go_num, ?_⟩
     rw [show (sg 5).take 3 = (sg 5).take 2 ++ [remB] from rfl]
     exact fun x hx => (List.mem_append.1 hx).elim (HNO.out x) (fun h => by rw [List.mem_singleton.1 h]; exact HH.out)
    case measure => simp [intOf]
  ·
   have ix : ∀ w1 : World, (Instr.index 100 (.agg #[.string ⟨#[42]⟩, .string ⟨#[47]⟩, .string ⟨#[37]⟩, .string ⟨#[]⟩, .string ⟨#[]⟩, .string ⟨#[]⟩]) (.int .i64 3)).run Tryz.prog w1 = .ok (.string ⟨#[]⟩) w1 := fun _ => by kernel_rfl
   go_wp2_with fail
   go_round
   case rel => exact ⟨4, by omega, by go_num, HNO.out⟩
   case measure => simp [intOf]
  ·
   have ix : ∀ w1 : World, (Instr.index 100 (.agg #[.string ⟨#[42]⟩, .string ⟨#[47]⟩, .string ⟨#[37]⟩, .string ⟨#[]⟩, .string ⟨#[]⟩, .string ⟨#[]⟩]) (.int .i64 4)).run Tryz.prog w1 = .ok (.string ⟨#[]⟩) w1 := fun _ => by kernel_rfl
   go_wp2_with fail
   go_round
   case rel => exact ⟨5, by omega, by go_num, HNO.out⟩
   case measure => simp [intOf]
  ·
   have ix : ∀ w1 : World, (Instr.index 100 (.agg #[.string ⟨#[42]⟩, .string ⟨#[47]⟩, .string ⟨#[37]⟩, .string ⟨#[]⟩, .string ⟨#[]⟩, .string ⟨#[]⟩]) (.int .i64 5)).run Tryz.prog w1 = .ok (.string ⟨#[]⟩) w1 := fun _ => by kernel_rfl
   go_wp2_with fail
   go_round
   case rel => exact ⟨6, by omega, by go_num, HNO.out⟩
   case measure => simp [intOf]
  ·
   have hbt : btw s 5 i = none := by rw [HBT.out]; exact find_miss HNO.out
   have HT := hid (bt_none hbt)
   clear hbt
   go_wp2_with fail
   go_ret2
   exact btwR_end HT.out.1 HT.out.2 (by rw [HG.out]; exact HA.out)
open Go.RowKit
open Tk Ex
def RLev (s : ByteArray) (f n : Nat) : Prop := ∀ i, i ≤ s.size → lev s f n i ≠ .out → ∀ w, Calls Tryz.prog 14 #[.string s, .int .i64 (i : Int), .int .i64 (n : Int)] w (ReadR (lev s f n i) w)
def RPart (s : ByteArray) (f : Nat) : Prop := ∀ i, i ≤ s.size → lev s f 7 i ≠ .out → ∀ w, Calls Tryz.prog 29 #[.string s, .int .i64 (i : Int)] w (ReadR (lev s f 7 i) w)
def ROne (s : ByteArray) (f : Nat) : Prop := ∀ i, i ≤ s.size → lev s f 8 i ≠ .out → ∀ w, Calls Tryz.prog 40 #[.string s, .int .i64 (i : Int)] w (ReadR (lev s f 8 i) w)
def calQ (s : ByteArray) (f : Nat) (wd : ByteArray) (a : Nat) : Res := if stands s a opnB = true then cal s f wd [] (past s a opnB) else .err (bl s a) 1
def RCall (s : ByteArray) (f : Nat) : Prop := ∀ wd a, a ≤ s.size → 0 < argsN wd → calQ s f wd a ≠ .out → ∀ w, Calls Tryz.prog 56 #[.string s, .string wd, .int .i64 (a : Int)] w (ReadR (calQ s f wd a) w)
end Go.Proofs.YtfbipnflgjhaiaaGreatDoor
