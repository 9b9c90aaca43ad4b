/- A row of the call's own stays one. append of one element, onto a row of bytes or of texts of the call's own. A builder within a struct: contracts. A builder within a struct: a text written, and read at last: contracts. A byte of a text in quotation marks: contract. A text in quotation marks: contracts. The writer: truths, numbers, nothing; what stays: contracts. -/
import Derived.Lib.OthersKept
import Derived.Lib.AppendStr
import Derived.Shelf.Strings.Builder1
import Derived.Outline
import Derived.Lib.UnsafeStr
import Derived.Test.YtgblenoaeanogaaGreatDoorMM
import Derived.Lib.LaidTab
set_option linter.unusedVariables false
set_option maxRecDepth 100000
set_option maxHeartbeats 8000000
open Go.Lib (hid)
namespace Go.Proofs.YtgblenoaeanogaaGreatDoor
open Go.RowKit
theorem own_keptS {w w' : World} {base : Nat} {e : TypeId} {size n : Nat} {v : Value} {xs : List Value} (h : w.ownsRow base e size v n xs) (hb : Below w.heap.size w w') : w'.ownsRow base e size v n xs :=
 World.ownsRow.kept h (row := none) ⟨hb.os, hb.tape, hb.output, hb.size, fun a ha _ => hb.block a ha⟩ (by cases v <;> simp [Value.ownBlock] <;> split <;> simp)
open Go.RowKit
theorem app_u8 {ops : Array Oper} {rest : List Oper} {o : Oper} {a : Act} {Q : Exit → Act → World → Prop} {w : World} (hgd : o.guard = none) (s x : Operand)
 (ho : o.op = .call { callee := .builtin .append, args := #[s, x], argTypes := #[33, 33] })
 (base : Nat) (v : Value) (l : List UInt8) (y : UInt8) (z : Int) (hz : z = (y.toNat : Int)) (hs : a.eval s = v) (hx : a.eval x = .slice (some ⟨w.heap.size, 0, none⟩) 1 1)
 (hown : w.ownsRow base 5 1 v l.length (Lib.byteCells l)) (hn : l.length ≤ 1000000) (hbase : base ≤ w.heap.size)
 (h : ∀ (v' : Value) (w' : World), w'.ownsRow base 5 1 v' (l ++ [y]).length (Lib.byteCells (l ++ [y])) → (∀ W, Below base W w → Below base W w') → wpList Tryz.prog ops Q rest (a.put o.dst v') w') :
 wpList Tryz.prog ops Q (o :: rest) a (w.alloc (.cells #[.int .u8 z] 5)) := by
 subst hz
 obtain ⟨i0, hi, hz0, hz1, hz2⟩ := info_parts info5
 refine wpList_append_own _ hgd s x 33 ho base 5 i0 (.int .u8 0) 1 1 Tryz.underlying33 hi hz0 hz1 hz2 rfl (by decide) v _ _ hs (hown.alloc _) ⟨w.heap.size, 0, none⟩ 1 1 [.int .u8 y.toNat] hx rfl ?_ ?_ ?_ ?_ ?_ ?_
 ·
  intro j u hu
  match j, hu with
  | 0, hu => simp at hu; subst hu; simp [Addr.add]
 · intro u hu; simp at hu; subst hu; rfl
 · unfold maxLen; omega
 · omega
 · simp; omega
 ·
  intro v' w' h1 h2 _
  refine h v' w' ?_ (fun W hW => ?_)
  · rw [List.length_append, Lib.byteCells_append]; exact h1
  · exact (hW.alloc hbase _).grown h2 (by simp; omega) (fun k hk => (hown.lt k hk).1)
open Go.RowKit
def Wr (B b : Nat) (l : List UInt8) (c2 c3 c4 c5 : Value) (w : World) : Prop :=
 B ≤ b ∧ ∃ p v, (p = .pointer none ∨ p = .pointer (some ⟨b, 0, none⟩)) ∧ Blk w b 92 #[p, v, c2, c3, c4, c5] ∧ w.ownsRow B 5 1 v l.length (Lib.byteCells l)
def KeptW (B b : Nat) (w w' : World) : Prop := Below B w w' ∧ Lib.OthersKept 5 (some b) w w'
theorem KeptW.refl (B b : Nat) (w : World) : KeptW B b w w := ⟨Below.refl _ _, Lib.OthersKept.refl _ _ _⟩
theorem KeptW.trans {B b : Nat} {u v w : World} (h : KeptW B b u v) (k : KeptW B b v w) : KeptW B b u w := ⟨h.1.trans k.1, h.2.trans k.2⟩
theorem KeptW.size {B b : Nat} {u v : World} (h : KeptW B b u v) : u.heap.size ≤ v.heap.size := h.1.size
theorem KeptW.blk {B b g : Nat} {t : TypeId} {cs : Array Value} {u v : World} (h : KeptW B b u v) (hb : Blk u g t cs) (hg : g ≠ b) (ht : t ≠ 5) : Blk v g t cs :=
 h.2 g _ hb (by simpa using hg) (fun c fz e => by injection e with _ e _; exact ht e)
theorem KeptW.of {B b : Nat} {u v : World} (h : Below u.heap.size u v) (hB : B ≤ u.heap.size) : KeptW B b u v :=
 ⟨h.mono hB, fun k o hk _ _ => (h.block k (Array.getElem?_eq_some_iff.1 hk).1).trans hk⟩
theorem Wr.lt {B b : Nat} {l : List UInt8} {c2 c3 c4 c5 : Value} {w : World} (h : Wr B b l c2 c3 c4 c5 w) : b < w.heap.size := by
 obtain ⟨_, p, v, _, hb, _⟩ := h
 exact hb.lt
theorem Wr.on {B b : Nat} {l : List UInt8} {c2 c3 c4 c5 : Value} {w w' : World} (h : Wr B b l c2 c3 c4 c5 w) (hb : Below w.heap.size w w') : Wr B b l c2 c3 c4 c5 w' := by
 obtain ⟨h1, p, v, h2, h3, h4⟩ := h
 exact ⟨h1, p, v, h2, h3.onto hb, own_keptS h4 hb⟩
theorem app_u8g {ops : Array Oper} {rest : List Oper} {o : Oper} {a : Act} {Q : Exit → Act → World → Prop} {w : World} (hgd : o.guard = none) (s x : Operand)
 (ho : o.op = .call { callee := .builtin .append, args := #[s, x], argTypes := #[33, 33] })
 (base : Nat) (v : Value) (l : List UInt8) (y : UInt8) (z : Int) (hz : z = (y.toNat : Int)) (hs : a.eval s = v) (hx : a.eval x = .slice (some ⟨w.heap.size, 0, none⟩) 1 1)
 (hown : w.ownsRow base 5 1 v l.length (Lib.byteCells l)) (hn : l.length ≤ 1000000) (hbase : base ≤ w.heap.size)
 (h : ∀ (g cap : Nat) (w' : World), w'.ownsRow base 5 1 (.slice (some ⟨g, 0, none⟩) (l.length + 1) cap) (l ++ [y]).length (Lib.byteCells (l ++ [y])) → (w.alloc (.cells #[.int .u8 z] 5)).grownBy w' v.ownBlock → wpList Tryz.prog ops Q rest (a.put o.dst (.slice (some ⟨g, 0, none⟩) (l.length + 1) cap)) w') :
 wpList Tryz.prog ops Q (o :: rest) a (w.alloc (.cells #[.int .u8 z] 5)) := by
 subst hz
 obtain ⟨i0, hi, hz0, hz1, hz2⟩ := info_parts info5
 refine wpList_append_own _ hgd s x 33 ho base 5 i0 (.int .u8 0) 1 1 Tryz.underlying33 hi hz0 hz1 hz2 rfl (by decide) v _ _ hs (hown.alloc _) ⟨w.heap.size, 0, none⟩ 1 1 [.int .u8 y.toNat] hx rfl ?_ ?_ ?_ ?_ ?_ ?_
 ·
  intro j u hu
  match j, hu with
  | 0, hu => simp at hu; subst hu; simp [Addr.add]
 · intro u hu; simp at hu; subst hu; rfl
 · unfold maxLen; omega
 · omega
 · simp; omega
 ·
  intro v' w' h1 h2 _
  obtain ⟨g, cap, rfl⟩ : ∃ g cap, v' = .slice (some ⟨g, 0, none⟩) (l.length + 1) cap := by
   rcases h1.2 with ⟨_, h0⟩ | ⟨g, cap, cur, hv, _⟩
   · omega
   · exact ⟨g, cap, hv⟩
  refine h g cap w' ?_ h2
  rw [List.length_append, Lib.byteCells_append]
  exact h1
theorem own_kind {w : World} {B : Nat} {v : Value} {l : List UInt8} (h : w.ownsRow B 5 1 v l.length (Lib.byteCells l)) : ∀ g, v.ownBlock = some g → ∃ c fz, w.heap[g]? = some (.cells c 5 fz) := by
 intro g hg
 rcases h.2 with ⟨rfl, _⟩ | ⟨g', cap, cur, rfl, _, hh, _⟩
 · simp [Value.ownBlock] at hg
 ·
  simp [Value.ownBlock] at hg
  subst hg
  exact ⟨cur, _, hh⟩
theorem own_far8 {w : World} {B b : Nat} {v : Value} {l : List UInt8} {t : TypeId} {cs : Array Value} (h : w.ownsRow B 5 1 v l.length (Lib.byteCells l)) (hb : Blk w b t cs) (ht : t ≠ 5) : v.ownBlock ≠ some b := by
 intro e
 obtain ⟨c, fz, hh⟩ := own_kind h b e
 have := hb.symm.trans hh
 injection this with this
 injection this with _ this _
 exact ht this
theorem wr_put {B b : Nat} {l : List UInt8} {p v v' c2 c3 c4 c5 : Value} {w : World} (hB : B ≤ b) (hp : p = .pointer none ∨ p = .pointer (some ⟨b, 0, none⟩)) (hb : Blk w b 92 #[p, v, c2, c3, c4, c5]) (hown : w.ownsRow B 5 1 v' l.length (Lib.byteCells l)) : Wr B b l c2 c3 c4 c5 (w.setCell ⟨b, 1, none⟩ v') := by
 refine ⟨hB, p, v', hp, hb.set_ 1 v', ?_⟩
 exact hown.kept (row := some b) ⟨rfl, rfl, rfl, by simp [World.setCell], fun k _ hk => Below.heap_setCell _ _ _ _ (fun e => hk (by simp [e]))⟩ (Or.inr (own_far8 hown hb (by decide)))
theorem copy_w (B b : Nat) (l : List UInt8) (c2 c3 c4 c5 : Value) (w : World) (h : Wr B b l c2 c3 c4 c5 w) :
 Calls Tryz.prog 75 #[.pointer (some ⟨b, 0, none⟩)] w fun e w' => e = .returned (.tuple #[]) ∧ (∃ v, Blk w' b 92 #[.pointer (some ⟨b, 0, none⟩), v, c2, c3, c4, c5] ∧ w'.ownsRow B 5 1 v l.length (Lib.byteCells l)) ∧ KeptW B b w w' := by
 obtain ⟨hB, p, v, hp, hb, hown⟩ := h
 have hinfo : (Tryz.prog.info? 90).map (fun i => i.size) = some 2 := by kernel_rfl
 obtain ⟨j, hj, hjs⟩ := Option.map_eq_some_iff.1 hinfo
 have h0 : w.cell? ⟨b, 0, none⟩ = some p := hb.cell 0
 rcases hp with rfl | rfl
 ·
  have hf := hb.free 0
  have hsh : w.shape? b = some (92, 6) := by
   have hb' : w.heap[b]? = some (Obj.cells #[.pointer none, v, c2, c3, c4, c5] 92 (0, 0)) := hb
   simp [World.shape?, hb']
  have HF := hid (show (∃ v, Blk (w.setCell ⟨b, 0, none⟩ (.pointer (some ⟨b, 0, none⟩))) b 92 #[.pointer (some ⟨b, 0, none⟩), v, c2, c3, c4, c5] ∧ (w.setCell ⟨b, 0, none⟩ (.pointer (some ⟨b, 0, none⟩))).ownsRow B 5 1 v l.length (Lib.byteCells l)) ∧ KeptW B b w (w.setCell ⟨b, 0, none⟩ (.pointer (some ⟨b, 0, none⟩))) from
   ⟨⟨v, hb.set_ 0 _, hown.kept (row := some b) ⟨rfl, rfl, rfl, by simp [World.setCell], fun k _ hk => Below.heap_setCell _ _ _ _ (fun e => hk (by simp [e]))⟩ (Or.inr (own_far8 hown hb (by decide)))⟩, (Below.refl _ _).setCell (p := ⟨b, 0, none⟩) hB _, (Lib.OthersKept.refl _ _ _).setCell ⟨b, 0, none⟩ rfl _⟩)
  clear hb hown hB
  go_enter Tryz.func75, Tryz.ntmps75
  go_wp2
  rw [Lib.run_to_unsafe w ⟨b, 0, none⟩ Tryz.underlying88 Tryz.underlying150 hj (by rw [hjs]; decide) hsh (Nat.zero_lt_succ 5)]
  simp only [Result.andThen]
  rw [Oper.upon_value]
  go_wp2
  rw [run_callFunc_extern Tryz.func97 (by kernel_rfl) (by kernel_rfl) (by kernel_rfl) (e := Extern.AbiNoEscape.same) (by kernel_rfl)]
  rw [Lib.run_noEscape]
  simp only [Result.andThen]
  rw [Oper.upon_value]
  go_wp2
  rw [Lib.run_from_unsafe w ⟨b, 0, none⟩ Tryz.underlying150 Tryz.underlying88 hj hsh (by kernel_rfl)]
  simp only [Result.andThen]
  rw [Oper.upon_value]
  go_wp2
  go_end0
  exact ⟨rfl, HF.out⟩
 ·
  have HF := hid (show (∃ v, Blk w b 92 #[.pointer (some ⟨b, 0, none⟩), v, c2, c3, c4, c5] ∧ w.ownsRow B 5 1 v l.length (Lib.byteCells l)) ∧ KeptW B b w w from ⟨⟨v, hb, hown⟩, KeptW.refl _ _ _⟩)
  clear hb hown hB
  go_enter Tryz.func75, Tryz.ntmps75
  go_wp2
  rw [Lib.run_neq_ptr_same w _ Tryz.underlying88 hj]
  go_wp2
  go_end0
  exact ⟨rfl, HF.out⟩
theorem wbyte_any (B b : Nat) (l : List UInt8) (c2 c3 c4 c5 : Value) (c : UInt8) (z : Int) (hz : z = (c.toNat : Int)) (w : World) (h : Wr B b l c2 c3 c4 c5 w) (hlen : l.length ≤ 900000) (hBw : B ≤ w.heap.size) :
 Calls Tryz.prog 100 #[.pointer (some ⟨b, 0, none⟩), .int .u8 z] w fun e w' => e = .returned .nilIface ∧ Wr B b (l ++ [c]) c2 c3 c4 c5 w' ∧ KeptW B b w w' := by
 subst hz
 have HC := hid (copy_w B b l c2 c3 c4 c5 w h)
 have hB := h.1
 clear h
 go_enter Tryz.func100, Tryz.ntmps100
 go_wp2_with fail
 refine HC.out.mono ?_
 rintro e w1 ⟨rfl, ⟨v, hbk, hown⟩, hk1⟩
 have x0 : w1.cell? ⟨b, 0, none⟩ = some (.pointer (some ⟨b, 0, none⟩)) := hbk.cell 0
 have x1 : w1.cell? ⟨b, 1, none⟩ = some v := hbk.cell 1
 have HBk := hid hbk
 have HO := hid hown
 have HK := hid hk1
 have y1 : ∀ o : Obj, (w1.alloc o).cell? ⟨b, 1, none⟩ = some v := fun o => (hbk.alloc o).cell 1
 clear hbk hown hk1
 go_wp2_with (
  at_builtin
  go_loud (refine app_u8g rfl (.tmp _) (.tmp _) rfl B v l c _ rfl rfl rfl HO.out (by omega) (by have := HK.out.size; omega) ?_)
  intro g cap w2 hown2 hgrow
  have hbk2 : Blk w2 b 92 #[.pointer (some ⟨b, 0, none⟩), v, c2, c3, c4, c5] := (hgrow.block b (by have := HBk.out.lt; simp; omega) (fun e => own_far8 HO.out HBk.out (by decide) e.symm)).trans (HBk.out.alloc _)
  have z1 : w2.cell? ⟨b, 1, none⟩ = some v := hbk2.cell 1
  have g1 := hbk2.free 1
  have HW := hid (wr_put hB (.inr rfl) hbk2 hown2)
  have HK2 := hid (show KeptW B b w (w2.setCell ⟨b, 1, none⟩ (.slice (some ⟨g, 0, none⟩) (l.length + 1) cap)) from HK.out.trans ⟨((((Below.refl _ _).alloc (by have := HK.out.size; omega) _).grown hgrow (by have := HK.out.size; simp; omega) (fun k hk => (HO.out.lt k hk).1))).setCell (p := ⟨b, 1, none⟩) hB _, (((Lib.OthersKept.refl _ _ _).alloc _).grown hgrow (own_kind (HO.out.alloc _))).setCell ⟨b, 1, none⟩ rfl _⟩)
  clear hown2 hgrow hbk2 x0 x1 y1)
 go_ret
 exact ⟨rfl, HW.out, HK2.out⟩
open Go.RowKit
theorem wstr_any (B b : Nat) (l : List UInt8) (c2 c3 c4 c5 : Value) (s : ByteArray) (w : World) (h : Wr B b l c2 c3 c4 c5 w) (hlen : l.length + s.size ≤ 900000) (hBw : B ≤ w.heap.size) :
 Calls Tryz.prog 57 #[.pointer (some ⟨b, 0, none⟩), .string s] w fun e w' => e = .returned (.tuple #[.int .i64 s.size, .nilIface]) ∧ Wr B b (l ++ s.data.toList) c2 c3 c4 c5 w' ∧ KeptW B b w w' := by
 obtain ⟨i0, hi, hz0, hz1, hz2⟩ := info_parts info5
 have HC := hid (copy_w B b l c2 c3 c4 c5 w h)
 have hB := h.1
 clear h
 go_enter Tryz.func57, Tryz.ntmps57
 go_wp2_with fail
 refine HC.out.mono ?_
 rintro e w1 ⟨rfl, ⟨v, hbk, hown⟩, hk1⟩
 have x0 : w1.cell? ⟨b, 0, none⟩ = some (.pointer (some ⟨b, 0, none⟩)) := hbk.cell 0
 have x1 : w1.cell? ⟨b, 1, none⟩ = some v := hbk.cell 1
 have HBk := hid hbk
 have HO := hid hown
 have HK := hid hk1
 clear hbk hown hk1
 go_wp2_with (
  at_builtin
  go_loud (refine Lib.wpList_append_own_string _ rfl (.tmp _) (.tmp _) 33 9 rfl B 5 i0 Tryz.underlying33 Tryz.underlying9 hi hz0 hz1 hz2 v l.length (Lib.byteCells l) rfl HO.out s rfl (by unfold maxLen; omega) (by omega) (by have := HK.out.size; omega) ?_)
  intro v' w2 hown2 hgrow _
  have hown3 : w2.ownsRow B 5 1 v' (l ++ s.data.toList).length (Lib.byteCells (l ++ s.data.toList)) := by
   rw [Lib.byteCells_append, ← Lib.strCells_eq, List.length_append]
   exact hown2
  have hbk2 : Blk w2 b 92 #[.pointer (some ⟨b, 0, none⟩), v, c2, c3, c4, c5] := (hgrow.block b HBk.out.lt (fun e => own_far8 HO.out HBk.out (by decide) e.symm)).trans HBk.out
  have z1 : w2.cell? ⟨b, 1, none⟩ = some v := hbk2.cell 1
  have g1 := hbk2.free 1
  have HW := hid (wr_put hB (.inr rfl) hbk2 hown3)
  have HK2 := hid (show KeptW B b w (w2.setCell ⟨b, 1, none⟩ v') from HK.out.trans ⟨((Below.refl _ _).grown hgrow (by have := HK.out.size; omega) (fun k hk => (HO.out.lt k hk).1)).setCell (p := ⟨b, 1, none⟩) hB _, ((Lib.OthersKept.refl _ _ _).grown hgrow (own_kind HO.out)).setCell ⟨b, 1, none⟩ rfl _⟩)
  obtain ⟨ao, n', cap, rfl⟩ : ∃ ao n' cap, v' = .slice ao n' cap := by
   rcases hown2.2 with ⟨hv, _⟩ | ⟨g, cap, cur, hv, _⟩
   · exact ⟨_, _, _, hv⟩
   · exact ⟨_, _, _, hv⟩
  clear hown2 hown3 hgrow hbk2 x0 x1)
 go_ret2
 exact ⟨rfl, HW.out, HK2.out⟩
theorem string_any (B b : Nat) (l : List UInt8) (c2 c3 c4 c5 : Value) (w : World) (h : Wr B b l c2 c3 c4 c5 w) (h0 : l ≠ []) :
 Calls Tryz.prog 38 #[.pointer (some ⟨b, 0, none⟩)] w fun e w' => e = .returned (.string ⟨l.toArray⟩) ∧ Below B w w' := by
 obtain ⟨hB, p, v, hp, hbk, hown⟩ := h
 have hl0 : l.length ≠ 0 := by simpa using h0
 obtain ⟨g, cap, cur, rfl, hbg, hg, hnc, hcm, hcs, htake⟩ : ∃ g cap cur, v = .slice (some ⟨g, 0, none⟩) l.length cap ∧ B ≤ g ∧ w.heap[g]? = some (.cells cur 5 (0, 0)) ∧ l.length ≤ cap ∧ cap ≤ maxLen ∧ cur.size = cap * 1 ∧ cur.toList.take (l.length * 1) = Lib.byteCells l := by
  rcases hown.2 with ⟨_, hz⟩ | ⟨g, cap, cur, hv, r⟩
  · exact absurd hz hl0
  · exact ⟨g, cap, cur, hv, r⟩
 have c1 : w.drew.cell? ⟨b, 1, none⟩ = some (.slice (some ⟨g, 0, none⟩) l.length cap) := hbk.cell 1
 have hSD : (Builtin.unsafeSliceData_ #[33] 122 #[.slice (some ⟨g, 0, none⟩) l.length cap]).run Tryz.prog w.drew = .ok (.pointer (some ⟨g, 0, none⟩)) w.drew :=
  Lib.run_unsafeSliceData_row _ _ _ _ _ _ (by omega)
 have hUS : (Builtin.unsafeString_ #[122, 3] 9 #[.pointer (some ⟨g, 0, none⟩), .int .i64 l.length]).run Tryz.prog w.drew = .ok (.string ⟨l.toArray⟩) (w.drew.freeze ⟨g, 0, none⟩ l.length) := by
  refine Lib.run_unsafeString_row w.drew 122 3 9 5 Tryz.underlying122 (by kernel_rfl) g cur.size (by have hg' : w.drew.heap[g]? = some (.cells cur 5 (0, 0)) := hg; simp [World.shape?, hg']) l h0 (by omega) (by unfold maxLen at hcm; omega) ?_
  intro j x hx
  have := hown.cells (g := g) rfl j (.int .u8 x.toNat) (by simp [Lib.byteCells, hx])
  exact this
 have HB := hid (show Below B w (w.drew.freeze ⟨g, 0, none⟩ l.length) from Lib.below_freeze (Below.drew (Below.refl B w)) (p := ⟨g, 0, none⟩) hbg _)
 have mixed : Tryz.prog.follows Departure.mixedOrders = true := by kernel_rfl
 clear hbk hown hg htake hcs
 go_enter Tryz.func38, Tryz.ntmps38
 go_wp2
 go_region_o
 all_goals (go_wp2; go_ret; exact ⟨rfl, HB.out⟩)
open Go.RowKit
def CharPost (B b : Nat) (l : List UInt8) (c : UInt8) (c2 c3 c4 c5 : Value) (w : World) (e : Ending) (w' : World) : Prop := e = .returned (.tuple #[]) ∧ Wr B b (l ++ Q.esc c) c2 c3 c4 c5 w' ∧ KeptW B b w w'
theorem Wr.drewW {B b : Nat} {l : List UInt8} {c2 c3 c4 c5 : Value} {w : World} (h : Wr B b l c2 c3 c4 c5 w) : Wr B b l c2 c3 c4 c5 w.drew := h.on (Below.refl w.heap.size w).drew
theorem KeptW.drewK {B b : Nat} {u v : World} (h : KeptW B b u.drew v) : KeptW B b u v := KeptW.trans ⟨(Below.refl _ _).drew, fun k o hk _ _ => hk⟩ h
theorem idx7 (z r : Int) (w : World) (hr : Lib.indexByte [34, 92, 8, 12, 10, 13, 9] z.toNat.toUInt8 = r) :
 Calls Tryz.prog 99 #[.string ⟨#[34, 92, 8, 12, 10, 13, 9]⟩, .int .u8 z] w fun e w' => e = .returned (.int .i64 r) ∧ w = w' := by
 have h := Tryz.strings_IndexByte ⟨#[34, 92, 8, 12, 10, 13, 9]⟩ z w
 refine h.mono ?_
 rintro e w' ⟨rfl, rfl⟩
 exact ⟨by rw [← hr], rfl⟩
theorem dig_lt {n : Nat} (h : n < 16) : n < (⟨#[48, 49, 50, 51, 52, 53, 54, 55, 56, 57, 97, 98, 99, 100, 101, 102]⟩ : ByteArray).size := h
theorem esc_hex : ∀ n : Fin 32, n.val ≠ 8 → n.val ≠ 9 → n.val ≠ 10 → n.val ≠ 12 → n.val ≠ 13 → Q.esc n.val.toUInt8 = [92, 117, 48, 48, (⟨#[48, 49, 50, 51, 52, 53, 54, 55, 56, 57, 97, 98, 99, 100, 101, 102]⟩ : ByteArray).data.toList.getD (n.val / 16) 0, (⟨#[48, 49, 50, 51, 52, 53, 54, 55, 56, 57, 97, 98, 99, 100, 101, 102]⟩ : ByteArray).data.toList.getD (n.val % 16) 0] := by decide +kernel
theorem dig_at {n : Nat} (h : n < (⟨#[48, 49, 50, 51, 52, 53, 54, 55, 56, 57, 97, 98, 99, 100, 101, 102]⟩ : ByteArray).size) : (⟨#[48, 49, 50, 51, 52, 53, 54, 55, 56, 57, 97, 98, 99, 100, 101, 102]⟩ : ByteArray)[n]'h = (⟨#[48, 49, 50, 51, 52, 53, 54, 55, 56, 57, 97, 98, 99, 100, 101, 102]⟩ : ByteArray).data.toList.getD n 0 := by
 rw [List.getD_eq_getElem?_getD, List.getElem?_eq_getElem (by exact h)]
 rfl
theorem char_hex (c : UInt8) (h32 : c.toNat < 32) (n8 : c.toNat ≠ 8) (n9 : c.toNat ≠ 9) (n10 : c.toNat ≠ 10) (n12 : c.toNat ≠ 12) (n13 : c.toNat ≠ 13) (B b : Nat) (l : List UInt8) (c2 c3 c4 c5 : Value) (w : World) (h : Wr B b l c2 c3 c4 c5 w) (hlen : l.length ≤ 800000) (hBw : B ≤ w.heap.size) :
 Calls Tryz.prog 77 #[.pointer (some ⟨b, 0, none⟩), .int .u8 c.toNat] w (CharPost B b l c c2 c3 c4 c5 w) := by
 have hs0 := hBw
 have hidx : Lib.indexByte [34, 92, 8, 12, 10, 13, 9] (c.toNat : Int).toNat.toUInt8 = -1 := by
  rw [show ((c.toNat : Int)).toNat.toUInt8 = c by simp, Q.idx_of, if_neg (by omega), if_neg (by omega), if_neg (by omega), if_neg (by omega), if_neg (by omega), if_neg (by omega), if_neg (by omega)]
 have u1 : decide ((c.toNat : Int) < 32) = true := decide_eq_true (by omega)
 have u2 : decide (c.toNat < 32) = true := decide_eq_true (by omega)
 have HI := hid (idx7 (c.toNat : Int) (-1) w hidx)
 obtain ⟨hi, hhi⟩ : ∃ hi : Nat, hi = c.toNat / 16 := ⟨_, rfl⟩
 obtain ⟨lo, hlo⟩ : ∃ lo : Nat, lo = c.toNat % 16 := ⟨_, rfl⟩
 have hi16 : hi < 16 := by omega
 have lo16 : lo < 16 := by omega
 have hesc : Q.esc c = [92, 117, 48, 48, (⟨#[48, 49, 50, 51, 52, 53, 54, 55, 56, 57, 97, 98, 99, 100, 101, 102]⟩ : ByteArray)[hi]'(dig_lt hi16), (⟨#[48, 49, 50, 51, 52, 53, 54, 55, 56, 57, 97, 98, 99, 100, 101, 102]⟩ : ByteArray)[lo]'(dig_lt lo16)] := by
  have := esc_hex ⟨c.toNat, h32⟩ n8 n9 n10 n12 n13
  rw [dig_at, dig_at, hhi, hlo]
  rw [show c.toNat.toUInt8 = c by simp] at this
  exact this
 have HES := hid hesc
 have e1 : (c.toNat : Int).tdiv 16 = (hi : Int) := by rw [Int.tdiv_eq_ediv_of_nonneg (by omega)]; omega
 have e2 : (c.toNat : Int).tmod 16 = (lo : Int) := by rw [Int.tmod_eq_emod_of_nonneg (by omega)]; omega
 have e1' : (c.toNat : Int) / 16 = (hi : Int) := by omega
 have e2' : (c.toNat : Int) % 16 = (lo : Int) := by omega
 have q1 : IntKind.u8.wrap (hi : Int) = (hi : Int) := IntWalk.u8_in _ (by omega)
 have q2 : IntKind.u8.wrap (lo : Int) = (lo : Int) := IntWalk.u8_in _ (by omega)
 have b1 : (hi : Int) < 16 := by omega
 have b2 : (lo : Int) < 16 := by omega
 have b3 : (0 : Int) ≤ (hi : Int) := by omega
 have b4 : (0 : Int) ≤ (lo : Int) := by omega
 have H := hid h
 clear h hidx hesc h32 n8 n9 n10 n12 n13 hhi hlo
 go_enter Tryz.func77, Tryz.ntmps77
 go_wp2_with fail
 refine HI.out.mono ?_
 rintro e w1 ⟨rfl, rfl⟩
 go_wp2_with fail
 refine (wstr_any B b l c2 c3 c4 c5 ⟨#[92, 117, 48, 48]⟩ _ H.out (by show l.length + 4 ≤ 900000; omega) hs0).mono ?_
 rintro e w1 ⟨rfl, h1, k1⟩
 have H1 := hid (show Wr B b (l ++ [92, 117, 48, 48]) c2 c3 c4 c5 w1 from h1)
 have K1 := hid k1
 have hs1 := Nat.le_trans hs0 (KeptW.size k1)
 clear h1 k1
 go_wp2_with fail
 refine wp_region_held_drew (S := fun _ => True) (by kernel_rfl) ?_ (fun hHeld => ?_)
 · trivial
 refine wpAnyH_take (i := 0) (v := ?_) rfl (by kernel_rfl) (by kernel_rfl) (by kernel_rfl) (fun _ _ _ h => h) (Or.inl ⟨by rfl, ?_⟩) (by assumption) ?_
 rotate_left
 ·
  intro wq hSw
  try dsimp only at hSw
  go_simp
  try (with_reducible rfl)
 try simp only [Act.put, List.getElem_toArray, List.getElem_cons_zero, List.setIfInBounds_toArray, List.set_cons_zero, List.set_cons_succ]
 refine wpAnyH_take (i := 1) (v := ?_) rfl (by kernel_rfl) (by kernel_rfl) (by kernel_rfl) (fun _ _ _ h => h) (Or.inl ⟨by rfl, ?_⟩) (by assumption) ?_
 rotate_left
 ·
  intro wq hSw
  try dsimp only at hSw
  go_simp
  try (with_reducible rfl)
 try simp only [Act.put, sqa, sqb, sqc, sqd, sqe, sqf]
 refine wpAnyH_take (i := 2) (v := ?_) rfl (by kernel_rfl) (by kernel_rfl) (by kernel_rfl) (fun _ _ _ h => h) (Or.inl ⟨by rfl, ?_⟩) (by assumption) ?_
 rotate_left
 ·
  intro wq hSw
  try dsimp only at hSw
  go_simp
  try (with_reducible rfl)
 try simp only [Act.put, sqa, sqb, sqc, sqd, sqe, sqf]
 refine wpAnyH_take (i := 3) (v := ?_) rfl (by kernel_rfl) (by kernel_rfl) (by kernel_rfl) (fun _ _ _ h => h) (Or.inl ⟨by rfl, ?_⟩) (by assumption) ?_
 rotate_left
 ·
  intro wq hSw
  try dsimp only at hSw
  go_simp
  try (with_reducible rfl)
 try simp only [Act.put, sqa, sqb, sqc, sqd, sqe, sqf]
 refine wpAnyH_take (i := 4) (v := ?_) rfl (by kernel_rfl) (by kernel_rfl) (by kernel_rfl) (fun _ _ _ h => h) (Or.inl ⟨by rfl, ?_⟩) (by assumption) ?_
 rotate_left
 ·
  intro wq hSw
  try dsimp only at hSw
  go_simp
  try (with_reducible rfl)
 try simp only [Act.put, sqa, sqb, sqc, sqd, sqe, sqf]
 refine wpAnyH_take (i := 5) (v := ?_) rfl (by kernel_rfl) (by kernel_rfl) (by kernel_rfl) (fun _ _ _ h => h) (Or.inl ⟨by rfl, ?_⟩) (by assumption) ?_
 rotate_left
 ·
  intro wq hSw
  try dsimp only at hSw
  go_simp
  try (with_reducible rfl)
 try simp only [Act.put, sqa, sqb, sqc, sqd, sqe, sqf]
 refine wpAnyH_ready (rs := [6]) (by kernel_rfl) (by simp) ?_
 refine AllReadyH.cons rfl (fun K0 hK => ?_) ?_
 rotate_left
 · exact AllReadyH.nil
 go_simp
 refine (wbyte_any B b (l ++ [92, 117, 48, 48]) c2 c3 c4 c5 ((⟨#[48, 49, 50, 51, 52, 53, 54, 55, 56, 57, 97, 98, 99, 100, 101, 102]⟩ : ByteArray)[hi]'(dig_lt hi16)) _ rfl _ H1.out.drewW (by first | omega | (simp; omega)) hs1).mono ?_
 rintro e w2 ⟨rfl, h2, k2⟩
 have H2 := hid h2
 have K2 := hid (K1.out.trans (KeptW.drewK k2))
 have hs2 := Nat.le_trans hs1 (KeptW.size (KeptW.drewK k2))
 clear h2 k2
 go_wp2_with fail
 refine hK.out _ _ ?_ (fun hHeld => ?_)
 · trivial
 clear hK K0
 try simp only [Act.put, sqa, sqb, sqc, sqd, sqe, sqf]
 refine wpAnyH_done (by kernel_rfl) ?_ _
 go_wp2_with fail
 refine wp_region_held_drew (S := fun _ => True) (by kernel_rfl) ?_ (fun hHeld => ?_)
 · trivial
 refine wpAnyH_take (i := 0) (v := ?_) rfl (by kernel_rfl) (by kernel_rfl) (by kernel_rfl) (fun _ _ _ h => h) (Or.inl ⟨by rfl, ?_⟩) (by assumption) ?_
 rotate_left
 ·
  intro wq hSw
  try dsimp only at hSw
  go_simp
  try (with_reducible rfl)
 try simp only [Act.put, List.getElem_toArray, List.getElem_cons_zero, List.setIfInBounds_toArray, List.set_cons_zero, List.set_cons_succ]
 refine wpAnyH_take (i := 1) (v := ?_) rfl (by kernel_rfl) (by kernel_rfl) (by kernel_rfl) (fun _ _ _ h => h) (Or.inl ⟨by rfl, ?_⟩) (by assumption) ?_
 rotate_left
 ·
  intro wq hSw
  try dsimp only at hSw
  go_simp
  try (with_reducible rfl)
 try simp only [Act.put, sqa, sqb, sqc, sqd, sqe, sqf]
 refine wpAnyH_take (i := 2) (v := ?_) rfl (by kernel_rfl) (by kernel_rfl) (by kernel_rfl) (fun _ _ _ h => h) (Or.inl ⟨by rfl, ?_⟩) (by assumption) ?_
 rotate_left
 ·
  intro wq hSw
  try dsimp only at hSw
  go_simp
  try (with_reducible rfl)
 try simp only [Act.put, sqa, sqb, sqc, sqd, sqe, sqf]
 refine wpAnyH_take (i := 3) (v := ?_) rfl (by kernel_rfl) (by kernel_rfl) (by kernel_rfl) (fun _ _ _ h => h) (Or.inl ⟨by rfl, ?_⟩) (by assumption) ?_
 rotate_left
 ·
  intro wq hSw
  try dsimp only at hSw
  go_simp
  try (with_reducible rfl)
 try simp only [Act.put, sqa, sqb, sqc, sqd, sqe, sqf]
 refine wpAnyH_take (i := 4) (v := ?_) rfl (by kernel_rfl) (by kernel_rfl) (by kernel_rfl) (fun _ _ _ h => h) (Or.inl ⟨by rfl, ?_⟩) (by assumption) ?_
 rotate_left
 ·
  intro wq hSw
  try dsimp only at hSw
  go_simp
  try (with_reducible rfl)
 try simp only [Act.put, sqa, sqb, sqc, sqd, sqe, sqf]
 refine wpAnyH_take (i := 5) (v := ?_) rfl (by kernel_rfl) (by kernel_rfl) (by kernel_rfl) (fun _ _ _ h => h) (Or.inl ⟨by rfl, ?_⟩) (by assumption) ?_
 rotate_left
 ·
  intro wq hSw
  try dsimp only at hSw
  go_simp
  try (with_reducible rfl)
 try simp only [Act.put, sqa, sqb, sqc, sqd, sqe, sqf]
 refine wpAnyH_ready (rs := [6]) (by kernel_rfl) (by simp) ?_
 refine AllReadyH.cons rfl (fun K0 hK => ?_) ?_
 rotate_left
 · exact AllReadyH.nil
 go_simp
 refine (wbyte_any B b (l ++ [92, 117, 48, 48] ++ [(⟨#[48, 49, 50, 51, 52, 53, 54, 55, 56, 57, 97, 98, 99, 100, 101, 102]⟩ : ByteArray)[hi]'(dig_lt hi16)]) c2 c3 c4 c5 ((⟨#[48, 49, 50, 51, 52, 53, 54, 55, 56, 57, 97, 98, 99, 100, 101, 102]⟩ : ByteArray)[lo]'(dig_lt lo16)) _ rfl _ H2.out.drewW (by first | omega | (simp; omega)) hs2).mono ?_
 rintro e w3 ⟨rfl, h3, k3⟩
 have H3 := hid h3
 have K3 := hid (K2.out.trans (KeptW.drewK k3))
 have hs3 := Nat.le_trans hs2 (KeptW.size (KeptW.drewK k3))
 clear h3 k3
 go_wp2_with fail
 refine hK.out _ _ ?_ (fun hHeld => ?_)
 · trivial
 clear hK K0
 try simp only [Act.put, sqa, sqb, sqc, sqd, sqe, sqf]
 refine wpAnyH_done (by kernel_rfl) ?_ _
 go_wp2_with fail
 go_end0
 exact ⟨rfl, by rw [HES.out]; have := H3.out; rwa [List.append_assoc, List.append_assoc] at this, K3.out⟩
theorem char_plain (c : UInt8) (h32 : 32 ≤ c.toNat) (h34 : c.toNat ≠ 34) (h92 : c.toNat ≠ 92) (B b : Nat) (l : List UInt8) (c2 c3 c4 c5 : Value) (w : World) (h : Wr B b l c2 c3 c4 c5 w) (hlen : l.length ≤ 800000) (hBw : B ≤ w.heap.size) :
 Calls Tryz.prog 77 #[.pointer (some ⟨b, 0, none⟩), .int .u8 c.toNat] w (CharPost B b l c c2 c3 c4 c5 w) := by
 have hidx : Lib.indexByte [34, 92, 8, 12, 10, 13, 9] (c.toNat : Int).toNat.toUInt8 = -1 := by
  rw [show ((c.toNat : Int)).toNat.toUInt8 = c by simp, Q.idx_of, if_neg h34, if_neg h92, if_neg (by omega), if_neg (by omega), if_neg (by omega), if_neg (by omega), if_neg (by omega)]
 have hesc : Q.esc c = [c] := by
  unfold Q.esc
  have ne : ∀ d : UInt8, c.toNat ≠ d.toNat → c ≠ d := fun d h e => h (by rw [e])
  rw [if_neg (ne 34 h34), if_neg (ne 92 h92), if_neg (ne 8 (by show c.toNat ≠ 8; omega)), if_neg (ne 12 (by show c.toNat ≠ 12; omega)), if_neg (ne 10 (by show c.toNat ≠ 10; omega)), if_neg (ne 13 (by show c.toNat ≠ 13; omega)), if_neg (ne 9 (by show c.toNat ≠ 9; omega)), if_neg (fun (e : c < 32) => by have : c.toNat < 32 := e; omega)]
 have u1 : decide ((c.toNat : Int) < 32) = false := decide_eq_false (by omega)
 have u2 : decide (c.toNat < 32) = false := decide_eq_false (by omega)
 have HI := hid (idx7 (c.toNat : Int) (-1) w hidx)
 have H := hid h
 clear h hidx h34 h92 h32
 go_enter Tryz.func77, Tryz.ntmps77
 go_wp2_with fail
 refine HI.out.mono ?_
 rintro e w1 ⟨rfl, rfl⟩
 go_wp2_with fail
 refine (wbyte_any B b l c2 c3 c4 c5 c _ rfl _ H.out (by omega) hBw).mono ?_
 rintro e w1 ⟨rfl, h1, k1⟩
 have H1 := hid h1
 have K1 := hid k1
 clear h1 k1
 go_wp2_with fail
 go_end0
 exact ⟨rfl, by rw [hesc]; exact H1.out, K1.out⟩
theorem char_34 (B b : Nat) (l : List UInt8) (c2 c3 c4 c5 : Value) (w : World) (h : Wr B b l c2 c3 c4 c5 w) (hlen : l.length ≤ 800000) (hBw : B ≤ w.heap.size) :
 Calls Tryz.prog 77 #[.pointer (some ⟨b, 0, none⟩), .int .u8 34] w (CharPost B b l 34 c2 c3 c4 c5 w) := by
 have hs0 := hBw
 have H := hid h
 clear h
 go_enter Tryz.func77, Tryz.ntmps77
 go_wp2_with fail
 refine (idx7 34 (0) w (by decide)).mono ?_
 rintro e w1 ⟨rfl, rfl⟩
 go_wp2_with fail
 refine (wbyte_any B b (l) c2 c3 c4 c5 92 _ rfl _ H.out (by first | omega | (simp; omega)) hs0).mono ?_
 rintro e w1 ⟨rfl, h1, k1⟩
 have H1 := hid h1
 have K1 := hid (k1)
 have hs1 := Nat.le_trans hs0 (KeptW.size k1)
 clear h1 k1
 go_wp2_with fail
 refine wp_region_held_drew (S := fun _ => True) (by kernel_rfl) ?_ (fun hHeld => ?_)
 · trivial
 refine wpAnyH_take (i := 0) (v := ?_) rfl (by kernel_rfl) (by kernel_rfl) (by kernel_rfl) (fun _ _ _ h => h) (Or.inl ⟨by rfl, ?_⟩) (by assumption) ?_
 rotate_left
 ·
  intro wq hSw
  try dsimp only at hSw
  go_simp
  try (with_reducible rfl)
 try simp only [Act.put, List.getElem_toArray, List.getElem_cons_zero, List.setIfInBounds_toArray, List.set_cons_zero, List.set_cons_succ]
 refine wpAnyH_take (i := 1) (v := ?_) rfl (by kernel_rfl) (by kernel_rfl) (by kernel_rfl) (fun _ _ _ h => h) (Or.inl ⟨by rfl, ?_⟩) (by assumption) ?_
 rotate_left
 ·
  intro wq hSw
  try dsimp only at hSw
  go_simp
  try (with_reducible rfl)
 try simp only [Act.put, sqa, sqb, sqc, sqd, sqe, sqf]
 refine wpAnyH_take (i := 2) (v := ?_) rfl (by kernel_rfl) (by kernel_rfl) (by kernel_rfl) (fun _ _ _ h => h) (Or.inl ⟨by rfl, ?_⟩) (by assumption) ?_
 rotate_left
 ·
  intro wq hSw
  try dsimp only at hSw
  go_simp
  try (with_reducible rfl)
 try simp only [Act.put, sqa, sqb, sqc, sqd, sqe, sqf]
 refine wpAnyH_take (i := 3) (v := ?_) rfl (by kernel_rfl) (by kernel_rfl) (by kernel_rfl) (fun _ _ _ h => h) (Or.inl ⟨by rfl, ?_⟩) (by assumption) ?_
 rotate_left
 ·
  intro wq hSw
  try dsimp only at hSw
  go_simp
  try (with_reducible rfl)
 try simp only [Act.put, sqa, sqb, sqc, sqd, sqe, sqf]
 refine wpAnyH_take (i := 4) (v := ?_) rfl (by kernel_rfl) (by kernel_rfl) (by kernel_rfl) (fun _ _ _ h => h) (Or.inl ⟨by rfl, ?_⟩) (by assumption) ?_
 rotate_left
 ·
  intro wq hSw
  try dsimp only at hSw
  go_simp
  try (with_reducible rfl)
 try simp only [Act.put, sqa, sqb, sqc, sqd, sqe, sqf]
 refine wpAnyH_ready (rs := [5]) (by kernel_rfl) (by simp) ?_
 refine AllReadyH.cons rfl (fun K0 hK => ?_) ?_
 rotate_left
 · exact AllReadyH.nil
 go_simp
 refine (wbyte_any B b (l ++ [92]) c2 c3 c4 c5 34 _ rfl _ H1.out.drewW (by first | omega | (simp; omega)) hs1).mono ?_
 rintro e w2 ⟨rfl, h2, k2⟩
 have H2 := hid h2
 have K2 := hid (K1.out.trans (KeptW.drewK k2))
 have hs2 := Nat.le_trans hs1 (KeptW.size (KeptW.drewK k2))
 clear h2 k2
 go_wp2_with fail
 refine hK.out _ _ ?_ (fun hHeld => ?_)
 · trivial
 clear hK K0
 try simp only [Act.put, sqa, sqb, sqc, sqd, sqe, sqf]
 refine wpAnyH_done (by kernel_rfl) ?_ _
 go_wp2_with fail
 go_end0
 exact ⟨rfl, by have := H2.out; rwa [List.append_assoc] at this, K2.out⟩
theorem char_92 (B b : Nat) (l : List UInt8) (c2 c3 c4 c5 : Value) (w : World) (h : Wr B b l c2 c3 c4 c5 w) (hlen : l.length ≤ 800000) (hBw : B ≤ w.heap.size) :
 Calls Tryz.prog 77 #[.pointer (some ⟨b, 0, none⟩), .int .u8 92] w (CharPost B b l 92 c2 c3 c4 c5 w) := by
 have hs0 := hBw
 have H := hid h
 clear h
 go_enter Tryz.func77, Tryz.ntmps77
 go_wp2_with fail
 refine (idx7 92 (1) w (by decide)).mono ?_
 rintro e w1 ⟨rfl, rfl⟩
 go_wp2_with fail
 refine (wbyte_any B b (l) c2 c3 c4 c5 92 _ rfl _ H.out (by first | omega | (simp; omega)) hs0).mono ?_
 rintro e w1 ⟨rfl, h1, k1⟩
 have H1 := hid h1
 have K1 := hid (k1)
 have hs1 := Nat.le_trans hs0 (KeptW.size k1)
 clear h1 k1
 go_wp2_with fail
 refine wp_region_held_drew (S := fun _ => True) (by kernel_rfl) ?_ (fun hHeld => ?_)
 · trivial
 refine wpAnyH_take (i := 0) (v := ?_) rfl (by kernel_rfl) (by kernel_rfl) (by kernel_rfl) (fun _ _ _ h => h) (Or.inl ⟨by rfl, ?_⟩) (by assumption) ?_
 rotate_left
 ·
  intro wq hSw
  try dsimp only at hSw
  go_simp
  try (with_reducible rfl)
 try simp only [Act.put, List.getElem_toArray, List.getElem_cons_zero, List.setIfInBounds_toArray, List.set_cons_zero, List.set_cons_succ]
 refine wpAnyH_take (i := 1) (v := ?_) rfl (by kernel_rfl) (by kernel_rfl) (by kernel_rfl) (fun _ _ _ h => h) (Or.inl ⟨by rfl, ?_⟩) (by assumption) ?_
 rotate_left
 ·
  intro wq hSw
  try dsimp only at hSw
  go_simp
  try (with_reducible rfl)
 try simp only [Act.put, sqa, sqb, sqc, sqd, sqe, sqf]
 refine wpAnyH_take (i := 2) (v := ?_) rfl (by kernel_rfl) (by kernel_rfl) (by kernel_rfl) (fun _ _ _ h => h) (Or.inl ⟨by rfl, ?_⟩) (by assumption) ?_
 rotate_left
 ·
  intro wq hSw
  try dsimp only at hSw
  go_simp
  try (with_reducible rfl)
 try simp only [Act.put, sqa, sqb, sqc, sqd, sqe, sqf]
 refine wpAnyH_take (i := 3) (v := ?_) rfl (by kernel_rfl) (by kernel_rfl) (by kernel_rfl) (fun _ _ _ h => h) (Or.inl ⟨by rfl, ?_⟩) (by assumption) ?_
 rotate_left
 ·
  intro wq hSw
  try dsimp only at hSw
  go_simp
  try (with_reducible rfl)
 try simp only [Act.put, sqa, sqb, sqc, sqd, sqe, sqf]
 refine wpAnyH_take (i := 4) (v := ?_) rfl (by kernel_rfl) (by kernel_rfl) (by kernel_rfl) (fun _ _ _ h => h) (Or.inl ⟨by rfl, ?_⟩) (by assumption) ?_
 rotate_left
 ·
  intro wq hSw
  try dsimp only at hSw
  go_simp
  try (with_reducible rfl)
 try simp only [Act.put, sqa, sqb, sqc, sqd, sqe, sqf]
 refine wpAnyH_ready (rs := [5]) (by kernel_rfl) (by simp) ?_
 refine AllReadyH.cons rfl (fun K0 hK => ?_) ?_
 rotate_left
 · exact AllReadyH.nil
 go_simp
 refine (wbyte_any B b (l ++ [92]) c2 c3 c4 c5 92 _ rfl _ H1.out.drewW (by first | omega | (simp; omega)) hs1).mono ?_
 rintro e w2 ⟨rfl, h2, k2⟩
 have H2 := hid h2
 have K2 := hid (K1.out.trans (KeptW.drewK k2))
 have hs2 := Nat.le_trans hs1 (KeptW.size (KeptW.drewK k2))
 clear h2 k2
 go_wp2_with fail
 refine hK.out _ _ ?_ (fun hHeld => ?_)
 · trivial
 clear hK K0
 try simp only [Act.put, sqa, sqb, sqc, sqd, sqe, sqf]
 refine wpAnyH_done (by kernel_rfl) ?_ _
 go_wp2_with fail
 go_end0
 exact ⟨rfl, by have := H2.out; rwa [List.append_assoc] at this, K2.out⟩
theorem char_8 (B b : Nat) (l : List UInt8) (c2 c3 c4 c5 : Value) (w : World) (h : Wr B b l c2 c3 c4 c5 w) (hlen : l.length ≤ 800000) (hBw : B ≤ w.heap.size) :
 Calls Tryz.prog 77 #[.pointer (some ⟨b, 0, none⟩), .int .u8 8] w (CharPost B b l 8 c2 c3 c4 c5 w) := by
 have hs0 := hBw
 have H := hid h
 clear h
 go_enter Tryz.func77, Tryz.ntmps77
 go_wp2_with fail
 refine (idx7 8 (2) w (by decide)).mono ?_
 rintro e w1 ⟨rfl, rfl⟩
 go_wp2_with fail
 refine (wbyte_any B b (l) c2 c3 c4 c5 92 _ rfl _ H.out (by first | omega | (simp; omega)) hs0).mono ?_
 rintro e w1 ⟨rfl, h1, k1⟩
 have H1 := hid h1
 have K1 := hid (k1)
 have hs1 := Nat.le_trans hs0 (KeptW.size k1)
 clear h1 k1
 go_wp2_with fail
 refine wp_region_held_drew (S := fun _ => True) (by kernel_rfl) ?_ (fun hHeld => ?_)
 · trivial
 refine wpAnyH_take (i := 0) (v := ?_) rfl (by kernel_rfl) (by kernel_rfl) (by kernel_rfl) (fun _ _ _ h => h) (Or.inl ⟨by rfl, ?_⟩) (by assumption) ?_
 rotate_left
 ·
  intro wq hSw
  try dsimp only at hSw
  go_simp
  try (with_reducible rfl)
 try simp only [Act.put, List.getElem_toArray, List.getElem_cons_zero, List.setIfInBounds_toArray, List.set_cons_zero, List.set_cons_succ]
 refine wpAnyH_take (i := 1) (v := ?_) rfl (by kernel_rfl) (by kernel_rfl) (by kernel_rfl) (fun _ _ _ h => h) (Or.inl ⟨by rfl, ?_⟩) (by assumption) ?_
 rotate_left
 ·
  intro wq hSw
  try dsimp only at hSw
  go_simp
  try (with_reducible rfl)
 try simp only [Act.put, sqa, sqb, sqc, sqd, sqe, sqf]
 refine wpAnyH_take (i := 2) (v := ?_) rfl (by kernel_rfl) (by kernel_rfl) (by kernel_rfl) (fun _ _ _ h => h) (Or.inl ⟨by rfl, ?_⟩) (by assumption) ?_
 rotate_left
 ·
  intro wq hSw
  try dsimp only at hSw
  go_simp
  try (with_reducible rfl)
 try simp only [Act.put, sqa, sqb, sqc, sqd, sqe, sqf]
 refine wpAnyH_take (i := 3) (v := ?_) rfl (by kernel_rfl) (by kernel_rfl) (by kernel_rfl) (fun _ _ _ h => h) (Or.inl ⟨by rfl, ?_⟩) (by assumption) ?_
 rotate_left
 ·
  intro wq hSw
  try dsimp only at hSw
  go_simp
  try (with_reducible rfl)
 try simp only [Act.put, sqa, sqb, sqc, sqd, sqe, sqf]
 refine wpAnyH_take (i := 4) (v := ?_) rfl (by kernel_rfl) (by kernel_rfl) (by kernel_rfl) (fun _ _ _ h => h) (Or.inl ⟨by rfl, ?_⟩) (by assumption) ?_
 rotate_left
 ·
  intro wq hSw
  try dsimp only at hSw
  go_simp
  try (with_reducible rfl)
 try simp only [Act.put, sqa, sqb, sqc, sqd, sqe, sqf]
 refine wpAnyH_ready (rs := [5]) (by kernel_rfl) (by simp) ?_
 refine AllReadyH.cons rfl (fun K0 hK => ?_) ?_
 rotate_left
 · exact AllReadyH.nil
 go_simp
 refine (wbyte_any B b (l ++ [92]) c2 c3 c4 c5 98 _ rfl _ H1.out.drewW (by first | omega | (simp; omega)) hs1).mono ?_
 rintro e w2 ⟨rfl, h2, k2⟩
 have H2 := hid h2
 have K2 := hid (K1.out.trans (KeptW.drewK k2))
 have hs2 := Nat.le_trans hs1 (KeptW.size (KeptW.drewK k2))
 clear h2 k2
 go_wp2_with fail
 refine hK.out _ _ ?_ (fun hHeld => ?_)
 · trivial
 clear hK K0
 try simp only [Act.put, sqa, sqb, sqc, sqd, sqe, sqf]
 refine wpAnyH_done (by kernel_rfl) ?_ _
 go_wp2_with fail
 go_end0
 exact ⟨rfl, by have := H2.out; rwa [List.append_assoc] at this, K2.out⟩
theorem char_12 (B b : Nat) (l : List UInt8) (c2 c3 c4 c5 : Value) (w : World) (h : Wr B b l c2 c3 c4 c5 w) (hlen : l.length ≤ 800000) (hBw : B ≤ w.heap.size) :
 Calls Tryz.prog 77 #[.pointer (some ⟨b, 0, none⟩), .int .u8 12] w (CharPost B b l 12 c2 c3 c4 c5 w) := by
 have hs0 := hBw
 have H := hid h
 clear h
 go_enter Tryz.func77, Tryz.ntmps77
 go_wp2_with fail
 refine (idx7 12 (3) w (by decide)).mono ?_
 rintro e w1 ⟨rfl, rfl⟩
 go_wp2_with fail
 refine (wbyte_any B b (l) c2 c3 c4 c5 92 _ rfl _ H.out (by first | omega | (simp; omega)) hs0).mono ?_
 rintro e w1 ⟨rfl, h1, k1⟩
 have H1 := hid h1
 have K1 := hid (k1)
 have hs1 := Nat.le_trans hs0 (KeptW.size k1)
 clear h1 k1
 go_wp2_with fail
 refine wp_region_held_drew (S := fun _ => True) (by kernel_rfl) ?_ (fun hHeld => ?_)
 · trivial
 refine wpAnyH_take (i := 0) (v := ?_) rfl (by kernel_rfl) (by kernel_rfl) (by kernel_rfl) (fun _ _ _ h => h) (Or.inl ⟨by rfl, ?_⟩) (by assumption) ?_
 rotate_left
 ·
  intro wq hSw
  try dsimp only at hSw
  go_simp
  try (with_reducible rfl)
 try simp only [Act.put, List.getElem_toArray, List.getElem_cons_zero, List.setIfInBounds_toArray, List.set_cons_zero, List.set_cons_succ]
 refine wpAnyH_take (i := 1) (v := ?_) rfl (by kernel_rfl) (by kernel_rfl) (by kernel_rfl) (fun _ _ _ h => h) (Or.inl ⟨by rfl, ?_⟩) (by assumption) ?_
 rotate_left
 ·
  intro wq hSw
  try dsimp only at hSw
  go_simp
  try (with_reducible rfl)
 try simp only [Act.put, sqa, sqb, sqc, sqd, sqe, sqf]
 refine wpAnyH_take (i := 2) (v := ?_) rfl (by kernel_rfl) (by kernel_rfl) (by kernel_rfl) (fun _ _ _ h => h) (Or.inl ⟨by rfl, ?_⟩) (by assumption) ?_
 rotate_left
 ·
  intro wq hSw
  try dsimp only at hSw
  go_simp
  try (with_reducible rfl)
 try simp only [Act.put, sqa, sqb, sqc, sqd, sqe, sqf]
 refine wpAnyH_take (i := 3) (v := ?_) rfl (by kernel_rfl) (by kernel_rfl) (by kernel_rfl) (fun _ _ _ h => h) (Or.inl ⟨by rfl, ?_⟩) (by assumption) ?_
 rotate_left
 ·
  intro wq hSw
  try dsimp only at hSw
  go_simp
  try (with_reducible rfl)
 try simp only [Act.put, sqa, sqb, sqc, sqd, sqe, sqf]
 refine wpAnyH_take (i := 4) (v := ?_) rfl (by kernel_rfl) (by kernel_rfl) (by kernel_rfl) (fun _ _ _ h => h) (Or.inl ⟨by rfl, ?_⟩) (by assumption) ?_
 rotate_left
 ·
  intro wq hSw
  try dsimp only at hSw
  go_simp
  try (with_reducible rfl)
 try simp only [Act.put, sqa, sqb, sqc, sqd, sqe, sqf]
 refine wpAnyH_ready (rs := [5]) (by kernel_rfl) (by simp) ?_
 refine AllReadyH.cons rfl (fun K0 hK => ?_) ?_
 rotate_left
 · exact AllReadyH.nil
 go_simp
 refine (wbyte_any B b (l ++ [92]) c2 c3 c4 c5 102 _ rfl _ H1.out.drewW (by first | omega | (simp; omega)) hs1).mono ?_
 rintro e w2 ⟨rfl, h2, k2⟩
 have H2 := hid h2
 have K2 := hid (K1.out.trans (KeptW.drewK k2))
 have hs2 := Nat.le_trans hs1 (KeptW.size (KeptW.drewK k2))
 clear h2 k2
 go_wp2_with fail
 refine hK.out _ _ ?_ (fun hHeld => ?_)
 · trivial
 clear hK K0
 try simp only [Act.put, sqa, sqb, sqc, sqd, sqe, sqf]
 refine wpAnyH_done (by kernel_rfl) ?_ _
 go_wp2_with fail
 go_end0
 exact ⟨rfl, by have := H2.out; rwa [List.append_assoc] at this, K2.out⟩
theorem char_10 (B b : Nat) (l : List UInt8) (c2 c3 c4 c5 : Value) (w : World) (h : Wr B b l c2 c3 c4 c5 w) (hlen : l.length ≤ 800000) (hBw : B ≤ w.heap.size) :
 Calls Tryz.prog 77 #[.pointer (some ⟨b, 0, none⟩), .int .u8 10] w (CharPost B b l 10 c2 c3 c4 c5 w) := by
 have hs0 := hBw
 have H := hid h
 clear h
 go_enter Tryz.func77, Tryz.ntmps77
 go_wp2_with fail
 refine (idx7 10 (4) w (by decide)).mono ?_
 rintro e w1 ⟨rfl, rfl⟩
 go_wp2_with fail
 refine (wbyte_any B b (l) c2 c3 c4 c5 92 _ rfl _ H.out (by first | omega | (simp; omega)) hs0).mono ?_
 rintro e w1 ⟨rfl, h1, k1⟩
 have H1 := hid h1
 have K1 := hid (k1)
 have hs1 := Nat.le_trans hs0 (KeptW.size k1)
 clear h1 k1
 go_wp2_with fail
 refine wp_region_held_drew (S := fun _ => True) (by kernel_rfl) ?_ (fun hHeld => ?_)
 · trivial
 refine wpAnyH_take (i := 0) (v := ?_) rfl (by kernel_rfl) (by kernel_rfl) (by kernel_rfl) (fun _ _ _ h => h) (Or.inl ⟨by rfl, ?_⟩) (by assumption) ?_
 rotate_left
 ·
  intro wq hSw
  try dsimp only at hSw
  go_simp
  try (with_reducible rfl)
 try simp only [Act.put, List.getElem_toArray, List.getElem_cons_zero, List.setIfInBounds_toArray, List.set_cons_zero, List.set_cons_succ]
 refine wpAnyH_take (i := 1) (v := ?_) rfl (by kernel_rfl) (by kernel_rfl) (by kernel_rfl) (fun _ _ _ h => h) (Or.inl ⟨by rfl, ?_⟩) (by assumption) ?_
 rotate_left
 ·
  intro wq hSw
  try dsimp only at hSw
  go_simp
  try (with_reducible rfl)
 try simp only [Act.put, sqa, sqb, sqc, sqd, sqe, sqf]
 refine wpAnyH_take (i := 2) (v := ?_) rfl (by kernel_rfl) (by kernel_rfl) (by kernel_rfl) (fun _ _ _ h => h) (Or.inl ⟨by rfl, ?_⟩) (by assumption) ?_
 rotate_left
 ·
  intro wq hSw
  try dsimp only at hSw
  go_simp
  try (with_reducible rfl)
 try simp only [Act.put, sqa, sqb, sqc, sqd, sqe, sqf]
 refine wpAnyH_take (i := 3) (v := ?_) rfl (by kernel_rfl) (by kernel_rfl) (by kernel_rfl) (fun _ _ _ h => h) (Or.inl ⟨by rfl, ?_⟩) (by assumption) ?_
 rotate_left
 ·
  intro wq hSw
  try dsimp only at hSw
  go_simp
  try (with_reducible rfl)
 try simp only [Act.put, sqa, sqb, sqc, sqd, sqe, sqf]
 refine wpAnyH_take (i := 4) (v := ?_) rfl (by kernel_rfl) (by kernel_rfl) (by kernel_rfl) (fun _ _ _ h => h) (Or.inl ⟨by rfl, ?_⟩) (by assumption) ?_
 rotate_left
 ·
  intro wq hSw
  try dsimp only at hSw
  go_simp
  try (with_reducible rfl)
 try simp only [Act.put, sqa, sqb, sqc, sqd, sqe, sqf]
 refine wpAnyH_ready (rs := [5]) (by kernel_rfl) (by simp) ?_
 refine AllReadyH.cons rfl (fun K0 hK => ?_) ?_
 rotate_left
 · exact AllReadyH.nil
 go_simp
 refine (wbyte_any B b (l ++ [92]) c2 c3 c4 c5 110 _ rfl _ H1.out.drewW (by first | omega | (simp; omega)) hs1).mono ?_
 rintro e w2 ⟨rfl, h2, k2⟩
 have H2 := hid h2
 have K2 := hid (K1.out.trans (KeptW.drewK k2))
 have hs2 := Nat.le_trans hs1 (KeptW.size (KeptW.drewK k2))
 clear h2 k2
 go_wp2_with fail
 refine hK.out _ _ ?_ (fun hHeld => ?_)
 · trivial
 clear hK K0
 try simp only [Act.put, sqa, sqb, sqc, sqd, sqe, sqf]
 refine wpAnyH_done (by kernel_rfl) ?_ _
 go_wp2_with fail
 go_end0
 exact ⟨rfl, by have := H2.out; rwa [List.append_assoc] at this, K2.out⟩
theorem char_13 (B b : Nat) (l : List UInt8) (c2 c3 c4 c5 : Value) (w : World) (h : Wr B b l c2 c3 c4 c5 w) (hlen : l.length ≤ 800000) (hBw : B ≤ w.heap.size) :
 Calls Tryz.prog 77 #[.pointer (some ⟨b, 0, none⟩), .int .u8 13] w (CharPost B b l 13 c2 c3 c4 c5 w) := by
 have hs0 := hBw
 have H := hid h
 clear h
 go_enter Tryz.func77, Tryz.ntmps77
 go_wp2_with fail
 refine (idx7 13 (5) w (by decide)).mono ?_
 rintro e w1 ⟨rfl, rfl⟩
 go_wp2_with fail
 refine (wbyte_any B b (l) c2 c3 c4 c5 92 _ rfl _ H.out (by first | omega | (simp; omega)) hs0).mono ?_
 rintro e w1 ⟨rfl, h1, k1⟩
 have H1 := hid h1
 have K1 := hid (k1)
 have hs1 := Nat.le_trans hs0 (KeptW.size k1)
 clear h1 k1
 go_wp2_with fail
 refine wp_region_held_drew (S := fun _ => True) (by kernel_rfl) ?_ (fun hHeld => ?_)
 · trivial
 refine wpAnyH_take (i := 0) (v := ?_) rfl (by kernel_rfl) (by kernel_rfl) (by kernel_rfl) (fun _ _ _ h => h) (Or.inl ⟨by rfl, ?_⟩) (by assumption) ?_
 rotate_left
 ·
  intro wq hSw
  try dsimp only at hSw
  go_simp
  try (with_reducible rfl)
 try simp only [Act.put, List.getElem_toArray, List.getElem_cons_zero, List.setIfInBounds_toArray, List.set_cons_zero, List.set_cons_succ]
 refine wpAnyH_take (i := 1) (v := ?_) rfl (by kernel_rfl) (by kernel_rfl) (by kernel_rfl) (fun _ _ _ h => h) (Or.inl ⟨by rfl, ?_⟩) (by assumption) ?_
 rotate_left
 ·
  intro wq hSw
  try dsimp only at hSw
  go_simp
  try (with_reducible rfl)
 try simp only [Act.put, sqa, sqb, sqc, sqd, sqe, sqf]
 refine wpAnyH_take (i := 2) (v := ?_) rfl (by kernel_rfl) (by kernel_rfl) (by kernel_rfl) (fun _ _ _ h => h) (Or.inl ⟨by rfl, ?_⟩) (by assumption) ?_
 rotate_left
 ·
  intro wq hSw
  try dsimp only at hSw
  go_simp
  try (with_reducible rfl)
 try simp only [Act.put, sqa, sqb, sqc, sqd, sqe, sqf]
 refine wpAnyH_take (i := 3) (v := ?_) rfl (by kernel_rfl) (by kernel_rfl) (by kernel_rfl) (fun _ _ _ h => h) (Or.inl ⟨by rfl, ?_⟩) (by assumption) ?_
 rotate_left
 ·
  intro wq hSw
  try dsimp only at hSw
  go_simp
  try (with_reducible rfl)
 try simp only [Act.put, sqa, sqb, sqc, sqd, sqe, sqf]
 refine wpAnyH_take (i := 4) (v := ?_) rfl (by kernel_rfl) (by kernel_rfl) (by kernel_rfl) (fun _ _ _ h => h) (Or.inl ⟨by rfl, ?_⟩) (by assumption) ?_
 rotate_left
 ·
  intro wq hSw
  try dsimp only at hSw
  go_simp
  try (with_reducible rfl)
 try simp only [Act.put, sqa, sqb, sqc, sqd, sqe, sqf]
 refine wpAnyH_ready (rs := [5]) (by kernel_rfl) (by simp) ?_
 refine AllReadyH.cons rfl (fun K0 hK => ?_) ?_
 rotate_left
 · exact AllReadyH.nil
 go_simp
 refine (wbyte_any B b (l ++ [92]) c2 c3 c4 c5 114 _ rfl _ H1.out.drewW (by first | omega | (simp; omega)) hs1).mono ?_
 rintro e w2 ⟨rfl, h2, k2⟩
 have H2 := hid h2
 have K2 := hid (K1.out.trans (KeptW.drewK k2))
 have hs2 := Nat.le_trans hs1 (KeptW.size (KeptW.drewK k2))
 clear h2 k2
 go_wp2_with fail
 refine hK.out _ _ ?_ (fun hHeld => ?_)
 · trivial
 clear hK K0
 try simp only [Act.put, sqa, sqb, sqc, sqd, sqe, sqf]
 refine wpAnyH_done (by kernel_rfl) ?_ _
 go_wp2_with fail
 go_end0
 exact ⟨rfl, by have := H2.out; rwa [List.append_assoc] at this, K2.out⟩
theorem char_9 (B b : Nat) (l : List UInt8) (c2 c3 c4 c5 : Value) (w : World) (h : Wr B b l c2 c3 c4 c5 w) (hlen : l.length ≤ 800000) (hBw : B ≤ w.heap.size) :
 Calls Tryz.prog 77 #[.pointer (some ⟨b, 0, none⟩), .int .u8 9] w (CharPost B b l 9 c2 c3 c4 c5 w) := by
 have hs0 := hBw
 have H := hid h
 clear h
 go_enter Tryz.func77, Tryz.ntmps77
 go_wp2_with fail
 refine (idx7 9 (6) w (by decide)).mono ?_
 rintro e w1 ⟨rfl, rfl⟩
 go_wp2_with fail
 refine (wbyte_any B b (l) c2 c3 c4 c5 92 _ rfl _ H.out (by first | omega | (simp; omega)) hs0).mono ?_
 rintro e w1 ⟨rfl, h1, k1⟩
 have H1 := hid h1
 have K1 := hid (k1)
 have hs1 := Nat.le_trans hs0 (KeptW.size k1)
 clear h1 k1
 go_wp2_with fail
 refine wp_region_held_drew (S := fun _ => True) (by kernel_rfl) ?_ (fun hHeld => ?_)
 · trivial
 refine wpAnyH_take (i := 0) (v := ?_) rfl (by kernel_rfl) (by kernel_rfl) (by kernel_rfl) (fun _ _ _ h => h) (Or.inl ⟨by rfl, ?_⟩) (by assumption) ?_
 rotate_left
 ·
  intro wq hSw
  try dsimp only at hSw
  go_simp
  try (with_reducible rfl)
 try simp only [Act.put, List.getElem_toArray, List.getElem_cons_zero, List.setIfInBounds_toArray, List.set_cons_zero, List.set_cons_succ]
 refine wpAnyH_take (i := 1) (v := ?_) rfl (by kernel_rfl) (by kernel_rfl) (by kernel_rfl) (fun _ _ _ h => h) (Or.inl ⟨by rfl, ?_⟩) (by assumption) ?_
 rotate_left
 ·
  intro wq hSw
  try dsimp only at hSw
  go_simp
  try (with_reducible rfl)
 try simp only [Act.put, sqa, sqb, sqc, sqd, sqe, sqf]
 refine wpAnyH_take (i := 2) (v := ?_) rfl (by kernel_rfl) (by kernel_rfl) (by kernel_rfl) (fun _ _ _ h => h) (Or.inl ⟨by rfl, ?_⟩) (by assumption) ?_
 rotate_left
 ·
  intro wq hSw
  try dsimp only at hSw
  go_simp
  try (with_reducible rfl)
 try simp only [Act.put, sqa, sqb, sqc, sqd, sqe, sqf]
 refine wpAnyH_take (i := 3) (v := ?_) rfl (by kernel_rfl) (by kernel_rfl) (by kernel_rfl) (fun _ _ _ h => h) (Or.inl ⟨by rfl, ?_⟩) (by assumption) ?_
 rotate_left
 ·
  intro wq hSw
  try dsimp only at hSw
  go_simp
  try (with_reducible rfl)
 try simp only [Act.put, sqa, sqb, sqc, sqd, sqe, sqf]
 refine wpAnyH_take (i := 4) (v := ?_) rfl (by kernel_rfl) (by kernel_rfl) (by kernel_rfl) (fun _ _ _ h => h) (Or.inl ⟨by rfl, ?_⟩) (by assumption) ?_
 rotate_left
 ·
  intro wq hSw
  try dsimp only at hSw
  go_simp
  try (with_reducible rfl)
 try simp only [Act.put, sqa, sqb, sqc, sqd, sqe, sqf]
 refine wpAnyH_ready (rs := [5]) (by kernel_rfl) (by simp) ?_
 refine AllReadyH.cons rfl (fun K0 hK => ?_) ?_
 rotate_left
 · exact AllReadyH.nil
 go_simp
 refine (wbyte_any B b (l ++ [92]) c2 c3 c4 c5 116 _ rfl _ H1.out.drewW (by first | omega | (simp; omega)) hs1).mono ?_
 rintro e w2 ⟨rfl, h2, k2⟩
 have H2 := hid h2
 have K2 := hid (K1.out.trans (KeptW.drewK k2))
 have hs2 := Nat.le_trans hs1 (KeptW.size (KeptW.drewK k2))
 clear h2 k2
 go_wp2_with fail
 refine hK.out _ _ ?_ (fun hHeld => ?_)
 · trivial
 clear hK K0
 try simp only [Act.put, sqa, sqb, sqc, sqd, sqe, sqf]
 refine wpAnyH_done (by kernel_rfl) ?_ _
 go_wp2_with fail
 go_end0
 exact ⟨rfl, by have := H2.out; rwa [List.append_assoc] at this, K2.out⟩
theorem char_any7 (c : UInt8) (B b : Nat) (l : List UInt8) (c2 c3 c4 c5 : Value) (w : World) (h : Wr B b l c2 c3 c4 c5 w) (hlen : l.length ≤ 800000) (hBw : B ≤ w.heap.size) :
 Calls Tryz.prog 77 #[.pointer (some ⟨b, 0, none⟩), .int .u8 c.toNat] w (CharPost B b l c c2 c3 c4 c5 w) := by
 by_cases hp : 32 ≤ c.toNat ∧ c.toNat ≠ 34 ∧ c.toNat ≠ 92
 · exact char_plain c hp.1 hp.2.1 hp.2.2 B b l c2 c3 c4 c5 w h hlen hBw
 ·
  by_cases hx : c.toNat < 32 ∧ c.toNat ≠ 8 ∧ c.toNat ≠ 9 ∧ c.toNat ≠ 10 ∧ c.toNat ≠ 12 ∧ c.toNat ≠ 13
  · exact char_hex c hx.1 hx.2.1 hx.2.2.1 hx.2.2.2.1 hx.2.2.2.2.1 hx.2.2.2.2.2 B b l c2 c3 c4 c5 w h hlen hBw
  have he : ∀ d : UInt8, c.toNat = d.toNat → c = d := fun d h => UInt8.toNat_inj.1 h
  have hc : c.toNat = 8 ∨ c.toNat = 9 ∨ c.toNat = 10 ∨ c.toNat = 12 ∨ c.toNat = 13 ∨ c.toNat = 34 ∨ c.toNat = 92 := by omega
  rcases hc with hc | hc | hc | hc | hc | hc | hc
  · cases he 8 hc; exact char_8 B b l c2 c3 c4 c5 w h hlen hBw
  · cases he 9 hc; exact char_9 B b l c2 c3 c4 c5 w h hlen hBw
  · cases he 10 hc; exact char_10 B b l c2 c3 c4 c5 w h hlen hBw
  · cases he 12 hc; exact char_12 B b l c2 c3 c4 c5 w h hlen hBw
  · cases he 13 hc; exact char_13 B b l c2 c3 c4 c5 w h hlen hBw
  · cases he 34 hc; exact char_34 B b l c2 c3 c4 c5 w h hlen hBw
  · cases he 92 hc; exact char_92 B b l c2 c3 c4 c5 w h hlen hBw
open Go.RowKit
def mkB (l : List UInt8) : ByteArray := ⟨l.toArray⟩
def QuotePost (B b : Nat) (l : List UInt8) (s : ByteArray) (c2 c3 c4 c5 : Value) (w : World) (e : Ending) (w' : World) : Prop := e = .returned (.tuple #[]) ∧ Wr B b (l ++ Q.quo s.data.toList) c2 c3 c4 c5 w' ∧ KeptW B b w w'
theorem take_flat {s : ByteArray} {j : Nat} (hj : j < s.size) : (s.data.toList.take (j + 1)).flatMap Q.esc = (s.data.toList.take j).flatMap Q.esc ++ Q.esc s[j] := by
 have h : s.data.toList[j]? = some s[j] := by
  rw [Array.getElem?_toList]
  exact Array.getElem?_eq_getElem (by simpa using hj)
 rw [List.take_add_one, h, List.flatMap_append]
 simp
theorem flat_take_len (l : List UInt8) (j : Nat) (n : Nat) (h : l.length ≤ n) : ((l.take j).flatMap Q.esc).length ≤ 6 * n := by
 have := Q.flat_len (l.take j)
 have h2 : (l.take j).length ≤ l.length := by rw [List.length_take]; omega
 omega
theorem quote_any7 (B b : Nat) (l : List UInt8) (c2 c3 c4 c5 : Value) (s : ByteArray) (w : World) (h : Wr B b l c2 c3 c4 c5 w) (hlen : l.length ≤ 700000) (hs : s.size ≤ 2400) (hBw : B ≤ w.heap.size) :
 Calls Tryz.prog 59 #[.pointer (some ⟨b, 0, none⟩), .string s] w (QuotePost B b l s c2 c3 c4 c5 w) := by
 have H := hid h
 clear h
 go_enter Tryz.func59, Tryz.ntmps59
 go_wp2_with fail
 refine (wstr_any B b l c2 c3 c4 c5 ⟨#[34]⟩ _ H.out (by show l.length + 1 ≤ 900000; omega) hBw).mono ?_
 rintro e w1 ⟨rfl, h1, k1⟩
 have H1 := hid (show Wr B b (l ++ [34]) c2 c3 c4 c5 w1 from h1)
 have K1 := hid k1
 clear h1 k1
 go_wp2_with fail
 go_loopw [11] (fun x wr => ∃ j : Nat, j ≤ s.size ∧ x = .int .i64 j ∧ Wr B b (l ++ ([34] ++ (s.data.toList.take j).flatMap Q.esc)) c2 c3 c4 c5 wr ∧ KeptW B b w wr) (fun x _ => s.size - (intOf x).toNat)
 case atStart => exact ⟨0, Nat.zero_le _, rfl, by simpa using H1.out, K1.out⟩
 case round =>
  obtain ⟨j, hj, rfl, hwr, hk⟩ := hrel
  have HR := hid hwr
  have HK := hid hk
  have hsr := Nat.le_trans hBw (KeptW.size hk)
  have hfl := flat_take_len s.data.toList j s.size (by simp)
  clear hwr hk
  by_cases hlt : j < s.size
  ·
   have u1 : decide (j < s.size) = true := decide_eq_true hlt
   have u2 : decide ((j : Int) < (s.size : Int)) = true := decide_eq_true (by omega)
   have i1 : (j : Int) < (s.size : Int) := by omega
   have i2 : (0 : Int) ≤ (j : Int) := by omega
   go_wp2_with fail
   refine (char_any7 s[j] B b _ c2 c3 c4 c5 _ HR.out (by simp only [List.length_append, List.length_singleton]; omega) hsr).mono ?_
   rintro e w2 ⟨rfl, h2, k2⟩
   have H2 := hid h2
   have K2 := hid (HK.out.trans k2)
   clear h2 k2
   go_wp2_with fail
   go_roundw
   case rel => exact ⟨j + 1, hlt, by go_num, by rw [take_flat hlt]; have := H2.out; simpa only [List.append_assoc] using this, K2.out⟩
   case measure => simp [intOf]; omega
  ·
   have u1 : decide (j < s.size) = false := decide_eq_false hlt
   have u2 : decide ((j : Int) < (s.size : Int)) = false := decide_eq_false (by omega)
   have hfull : s.data.toList.take j = s.data.toList := List.take_of_length_le (by simp; omega)
   have HF := hid (show Wr B b (l ++ ([34] ++ s.data.toList.flatMap Q.esc)) c2 c3 c4 c5 wr from hfull ▸ HR.out)
   rw [hfull] at hfl
   clear hfull HR
   go_wp2_with fail
   refine (wstr_any B b _ c2 c3 c4 c5 ⟨#[34]⟩ _ HF.out (by show (l ++ ([34] ++ s.data.toList.flatMap Q.esc)).length + 1 ≤ 900000; simp only [List.length_append, List.length_singleton]; omega) hsr).mono ?_
   rintro e w3 ⟨rfl, h3, k3⟩
   have H3 := hid h3
   have K3 := hid (HK.out.trans k3)
   clear h3 k3
   go_wp2_with fail
   go_end0
   refine ⟨rfl, ?_, K3.out⟩
   have := H3.out
   unfold Q.quo
   simpa only [List.append_assoc, List.singleton_append, List.cons_append, List.nil_append] using this
open Go.RowKit
theorem gPow : Tryz.prog.globalNamed "internal/strconv.uint64pow10" = some 0 := by kernel_rfl
def Tab (B : Nat) (w : World) : Prop := 0 < B ∧ Lib.TabIs Tryz.prog w "internal/strconv.uint64pow10" .u64 Lib.pow10Tab
theorem Tab.on {B : Nat} {w w' : World} (h : Tab B w) (hb : Below B w w') : Tab B w' := by
 obtain ⟨h1, h2⟩ := h
 refine ⟨h1, ?_⟩
 unfold Lib.TabIs World.var? at h2 ⊢
 rw [gPow] at h2 ⊢
 simp only [Option.bind_some] at h2 ⊢
 rw [hb.block _ h1]
 exact h2
theorem tab_of {w : World} (h : Lib.TabIs Tryz.prog w "internal/strconv.uint64pow10" .u64 Lib.pow10Tab) : Tab w.heap.size w := by
 refine ⟨?_, h⟩
 unfold Lib.TabIs World.var? at h
 rw [gPow] at h
 simp only [Option.bind_some] at h
 rcases Nat.lt_or_ge 0 w.heap.size with hl | hl
 · exact hl
 · rw [Array.getElem?_eq_none hl] at h; cases h
def WroteW (B b : Nat) (l x : List UInt8) (c2 c3 c4 c5 : Value) (w : World) (e : Ending) (w' : World) : Prop := e = .returned (.tuple #[]) ∧ Wr B b (l ++ x) c2 c3 c4 c5 w' ∧ KeptW B b w w'
theorem nothing_any (b : Nat) (w : World) : Calls Tryz.prog 36 #[.pointer (some ⟨b, 0, none⟩)] w fun e w' => e = .returned (.tuple #[]) ∧ w = w' := by
 go_enter Tryz.func36, Tryz.ntmps36
 go_wp2
 go_end0
 exact ⟨rfl, rfl⟩
theorem wtext_any (n : Int) (w : World) (h0 : -9223372036854775808 ≤ n) (h1 : n ≤ 9223372036854775807) (ht : Lib.TabIs Tryz.prog w "internal/strconv.uint64pow10" .u64 Lib.pow10Tab) :
 Calls Tryz.prog 58 #[.int .i64 n] w fun e w' => e = .returned (.string ⟨(Lib.itoa n).toArray⟩) ∧ Below w.heap.size w w' := by
 have Ht := hid ht
 clear ht
 go_enter Tryz.func58, Tryz.ntmps58
 go_wp2_with fail
 refine (Tryz.strconv_FormatInt_10 n h0 h1 w Ht.out).mono ?_
 rintro e w2 ⟨rfl, k, os, hw⟩
 have Hb := hid (show Below w.heap.size w w2 by rw [hw]; exact ⟨rfl, rfl, rfl, by show w.heap.size ≤ (w.heap ++ os).size; rw [Array.size_append]; omega, fun j hj => by show (w.heap ++ os)[j]? = w.heap[j]?; exact Array.getElem?_append_left hj⟩)
 clear hw
 go_wp2_with fail
 go_ret
 exact ⟨rfl, Hb.out⟩
theorem truth_any7 (B b : Nat) (l : List UInt8) (c2 c3 c4 c5 : Value) (t : Bool) (w : World) (h : Wr B b l c2 c3 c4 c5 w) (hlen : l.length ≤ 700000) (hBw : B ≤ w.heap.size) :
 Calls Tryz.prog 56 #[.pointer (some ⟨b, 0, none⟩), .bool t] w (WroteW B b l (if t then [116, 114, 117, 101] else [102, 97, 108, 115, 101]) c2 c3 c4 c5 w) := by
 have H := hid h
 clear h
 cases t with
 | true =>
  go_enter Tryz.func56, Tryz.ntmps56
  go_wp2_with fail
  refine (wstr_any B b l c2 c3 c4 c5 ⟨#[116, 114, 117, 101]⟩ _ H.out (by show l.length + 4 ≤ 900000; omega) hBw).mono ?_
  rintro e w1 ⟨rfl, h1, k1⟩
  have H1 := hid h1
  have K1 := hid k1
  clear h1 k1
  go_wp2_with fail
  go_end0
  exact ⟨rfl, H1.out, K1.out⟩
 | false =>
  go_enter Tryz.func56, Tryz.ntmps56
  go_wp2_with fail
  refine (wstr_any B b l c2 c3 c4 c5 ⟨#[102, 97, 108, 115, 101]⟩ _ H.out (by show l.length + 5 ≤ 900000; omega) hBw).mono ?_
  rintro e w1 ⟨rfl, h1, k1⟩
  have H1 := hid h1
  have K1 := hid k1
  clear h1 k1
  go_wp2_with fail
  go_end0
  exact ⟨rfl, H1.out, K1.out⟩
theorem Wr.deep {B b : Nat} {l : List UInt8} {c2 c3 c4 c5 : Value} {w : World} (h : Wr B b l c2 c3 c4 c5 w) (v : Value) : Wr B b l c2 c3 c4 v (w.setCell ⟨b, 5, none⟩ v) ∧ KeptW B b w (w.setCell ⟨b, 5, none⟩ v) := by
 obtain ⟨hB, p, x, hp, hb, hown⟩ := h
 refine ⟨⟨hB, p, x, hp, hb.set_ 5 v, ?_⟩, (Below.refl _ _).setCell (p := ⟨b, 5, none⟩) hB _, (Lib.OthersKept.refl _ _ _).setCell ⟨b, 5, none⟩ rfl _⟩
 exact hown.kept (row := some b) ⟨rfl, rfl, rfl, by simp [World.setCell], fun k _ hk => Below.heap_setCell _ _ _ _ (fun e => hk (by simp [e]))⟩ (Or.inr (own_far8 hown hb (by decide)))
theorem Wr.cells {B b : Nat} {l : List UInt8} {c2 c3 c4 c5 : Value} {w : World} (h : Wr B b l c2 c3 c4 c5 w) : w.cell? ⟨b, 2, none⟩ = some c2 ∧ w.cell? ⟨b, 3, none⟩ = some c3 ∧ w.cell? ⟨b, 5, none⟩ = some c5 ∧ w.frozen? ⟨b, 5, none⟩ = false := by
 obtain ⟨hB, p, x, hp, hb, hown⟩ := h
 exact ⟨hb.cell 2, hb.cell 3, hb.cell 5, hb.free 5⟩
end Go.Proofs.YtgblenoaeanogaaGreatDoor
