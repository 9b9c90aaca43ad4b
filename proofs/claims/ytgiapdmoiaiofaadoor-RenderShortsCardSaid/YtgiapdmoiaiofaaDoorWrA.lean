/- A builder within a struct: contracts. -/
import Derived.Test.YtgiapdmoiaiofaaDoorShelf3
import Derived.Test.YtgiapdmoiaiofaaDoorRefText
import Derived.Test.YtgiapdmoiaiofaaDoorMem3
import Derived.Test.YtgiapdmoiaiofaaDoorAppS
import Derived.Lib.OthersKept
import Derived.Lib.AppendStr
import Derived.Shelf.Strings.Builder1
import Derived.Outline
namespace Go.Proofs.YtgiapdmoiaiofaaDoor
open Go.RowKit
set_option linter.unusedVariables false

/-- a writer at block b, whose buffer holds l; whatever it makes lies from B on -/
def Wr (B b : Nat) (l : List UInt8) (c2 c3 c4 c5 : Value) (w : World) : Prop :=
  B ≤ b ∧ ∃ p v, (p = .pointer none ∨ p = .pointer (some ⟨b, 0, none⟩)) ∧ Blk w b 56 #[p, v, c2, c3, c4, c5] ∧ w.ownsRow B 5 1 v l.length (Lib.byteCells l)
/-- all is kept but the writer and its buffer -/
def Kept (B b : Nat) (w w' : World) : Prop := Below B w w' ∧ Lib.OthersKept 5 (some b) w w'
theorem Kept.refl (B b : Nat) (w : World) : Kept B b w w := ⟨Below.refl _ _, Lib.OthersKept.refl _ _ _⟩
theorem Kept.trans {B b : Nat} {u v w : World} (h : Kept B b u v) (k : Kept B b v w) : Kept B b u w := ⟨h.1.trans k.1, h.2.trans k.2⟩
theorem Kept.size {B b : Nat} {u v : World} (h : Kept B b u v) : u.heap.size ≤ v.heap.size := h.1.size
theorem Kept.blk {B b g : Nat} {t : TypeId} {cs : Array Value} {u v : World} (h : Kept B b u v) (hb : Blk u g t cs) (hg : g ≠ b) (ht : t ≠ 5) : Blk v g t cs :=
  h.2 g _ hb (by simpa using hg) (fun c fz e => by injection e with _ e _; exact ht e)
theorem Kept.of {B b : Nat} {u v : World} (h : Below u.heap.size u v) (hB : B ≤ u.heap.size) : Kept B b u v :=
  ⟨h.mono hB, fun k o hk _ _ => (h.block k (Array.getElem?_eq_some_iff.1 hk).1).trans hk⟩
theorem Wr.lt {B b : Nat} {l : List UInt8} {c2 c3 c4 c5 : Value} {w : World} (h : Wr B b l c2 c3 c4 c5 w) : b < w.heap.size := by
  obtain ⟨_, p, v, _, hb, _⟩ := h
  exact hb.lt
theorem Wr.on {B b : Nat} {l : List UInt8} {c2 c3 c4 c5 : Value} {w w' : World} (h : Wr B b l c2 c3 c4 c5 w) (hb : Below w.heap.size w w') : Wr B b l c2 c3 c4 c5 w' := by
  obtain ⟨h1, p, v, h2, h3, h4⟩ := h
  exact ⟨h1, p, v, h2, h3.onto hb, own_keptS h4 hb⟩
theorem app_u8g {ops : Array Oper} {rest : List Oper} {o : Oper} {a : Act} {Q : Exit → Act → World → Prop} {w : World} (hgd : o.guard = none) (s x : Operand)
    (ho : o.op = .call { callee := .builtin .append, args := #[s, x], argTypes := #[51, 51] })
    (base : Nat) (v : Value) (l : List UInt8) (y : UInt8) (z : Int) (hz : z = (y.toNat : Int)) (hs : a.eval s = v) (hx : a.eval x = .slice (some ⟨w.heap.size, 0, none⟩) 1 1)
    (hown : w.ownsRow base 5 1 v l.length (Lib.byteCells l)) (hn : l.length ≤ 1000000) (hbase : base ≤ w.heap.size)
    (h : ∀ (g cap : Nat) (w' : World), w'.ownsRow base 5 1 (.slice (some ⟨g, 0, none⟩) (l.length + 1) cap) (l ++ [y]).length (Lib.byteCells (l ++ [y])) → (w.alloc (.cells #[.int .u8 z] 5)).grownBy w' v.ownBlock → wpList Tryd.prog ops Q rest (a.put o.dst (.slice (some ⟨g, 0, none⟩) (l.length + 1) cap)) w') :
    wpList Tryd.prog ops Q (o :: rest) a (w.alloc (.cells #[.int .u8 z] 5)) := by
  subst hz
  obtain ⟨i0, hi, hz0, hz1, hz2⟩ := info_parts info5
  refine wpList_append_own _ hgd s x 51 ho base 5 i0 (.int .u8 0) 1 1 Tryd.underlying51 hi hz0 hz1 hz2 rfl (by decide) v _ _ hs (hown.alloc _) ⟨w.heap.size, 0, none⟩ 1 1 [.int .u8 y.toNat] hx rfl ?_ ?_ ?_ ?_ ?_ ?_
  · intro j u hu
    match j, hu with
    | 0, hu => simp at hu; subst hu; simp [Addr.add]
  · intro u hu; simp at hu; subst hu; rfl
  · unfold maxLen; omega
  · omega
  · simp; omega
  · intro v' w' h1 h2 _
    obtain ⟨g, cap, rfl⟩ : ∃ g cap, v' = .slice (some ⟨g, 0, none⟩) (l.length + 1) cap := by
      rcases h1.2 with ⟨_, h0⟩ | ⟨g, cap, cur, hv, _⟩
      · omega
      · exact ⟨g, cap, hv⟩
    refine h g cap w' ?_ h2
    rw [List.length_append, Lib.byteCells_append]
    exact h1
theorem own_kind {w : World} {B : Nat} {v : Value} {l : List UInt8} (h : w.ownsRow B 5 1 v l.length (Lib.byteCells l)) : ∀ g, v.ownBlock = some g → ∃ c fz, w.heap[g]? = some (.cells c 5 fz) := by
  intro g hg
  rcases h.2 with ⟨rfl, _⟩ | ⟨g', cap, cur, rfl, _, hh, _⟩
  · simp [Value.ownBlock] at hg
  · simp [Value.ownBlock] at hg
    subst hg
    exact ⟨cur, _, hh⟩
theorem own_far8 {w : World} {B b : Nat} {v : Value} {l : List UInt8} {t : TypeId} {cs : Array Value} (h : w.ownsRow B 5 1 v l.length (Lib.byteCells l)) (hb : Blk w b t cs) (ht : t ≠ 5) : v.ownBlock ≠ some b := by
  intro e
  obtain ⟨c, fz, hh⟩ := own_kind h b e
  have := hb.symm.trans hh
  injection this with this
  injection this with _ this _
  exact ht this
/-- a new buffer laid into the writer -/
theorem wr_put {B b : Nat} {l : List UInt8} {p v v' c2 c3 c4 c5 : Value} {w : World} (hB : B ≤ b) (hp : p = .pointer none ∨ p = .pointer (some ⟨b, 0, none⟩)) (hb : Blk w b 56 #[p, v, c2, c3, c4, c5]) (hown : w.ownsRow B 5 1 v' l.length (Lib.byteCells l)) : Wr B b l c2 c3 c4 c5 (w.setCell ⟨b, 1, none⟩ v') := by
  refine ⟨hB, p, v', hp, hb.set_ 1 v', ?_⟩
  exact hown.kept (row := some b) ⟨rfl, rfl, rfl, by simp [World.setCell], fun k _ hk => Below.heap_setCell _ _ _ _ (fun e => hk (by simp [e]))⟩ (Or.inr (own_far8 hown hb (by decide)))
set_option maxHeartbeats 1000000 in
set_option maxRecDepth 100000 in
theorem copy_w (B b : Nat) (l : List UInt8) (c2 c3 c4 c5 : Value) (w : World) (h : Wr B b l c2 c3 c4 c5 w) :
    Calls Tryd.prog 50 #[.pointer (some ⟨b, 0, none⟩)] w fun e w' => e = .returned (.tuple #[]) ∧ (∃ v, Blk w' b 56 #[.pointer (some ⟨b, 0, none⟩), v, c2, c3, c4, c5] ∧ w'.ownsRow B 5 1 v l.length (Lib.byteCells l)) ∧ Kept B b w w' := by
  obtain ⟨hB, p, v, hp, hb, hown⟩ := h
  have hinfo : (Tryd.prog.info? 53).map (fun i => i.size) = some 2 := by kernel_rfl
  obtain ⟨j, hj, hjs⟩ := Option.map_eq_some_iff.1 hinfo
  have h0 : w.cell? ⟨b, 0, none⟩ = some p := hb.cell 0
  rcases hp with rfl | rfl
  · have hf := hb.free 0
    have hsh : w.shape? b = some (56, 6) := by
      have hb' : w.heap[b]? = some (Obj.cells #[.pointer none, v, c2, c3, c4, c5] 56 (0, 0)) := hb
      simp [World.shape?, hb']
    have HF := Lib.hid (show (∃ v, Blk (w.setCell ⟨b, 0, none⟩ (.pointer (some ⟨b, 0, none⟩))) b 56 #[.pointer (some ⟨b, 0, none⟩), v, c2, c3, c4, c5] ∧ (w.setCell ⟨b, 0, none⟩ (.pointer (some ⟨b, 0, none⟩))).ownsRow B 5 1 v l.length (Lib.byteCells l)) ∧ Kept B b w (w.setCell ⟨b, 0, none⟩ (.pointer (some ⟨b, 0, none⟩))) from
      ⟨⟨v, hb.set_ 0 _, hown.kept (row := some b) ⟨rfl, rfl, rfl, by simp [World.setCell], fun k _ hk => Below.heap_setCell _ _ _ _ (fun e => hk (by simp [e]))⟩ (Or.inr (own_far8 hown hb (by decide)))⟩, (Below.refl _ _).setCell (p := ⟨b, 0, none⟩) hB _, (Lib.OthersKept.refl _ _ _).setCell ⟨b, 0, none⟩ rfl _⟩)
    clear hb hown hB
    go_enter Tryd.func50, Tryd.ntmps50
    go_wp2
    rw [Lib.run_to_unsafe w ⟨b, 0, none⟩ Tryd.underlying50 Tryd.underlying116 hj (by rw [hjs]; decide) hsh (Nat.zero_lt_succ 5)]
    simp only [Result.andThen]
    rw [Oper.upon_value]
    go_wp2
    rw [run_callFunc_extern Tryd.func70 (by kernel_rfl) (by kernel_rfl) (by kernel_rfl) (e := Extern.AbiNoEscape.same) (by kernel_rfl)]
    rw [Lib.run_noEscape]
    simp only [Result.andThen]
    rw [Oper.upon_value]
    go_wp2
    rw [Lib.run_from_unsafe w ⟨b, 0, none⟩ Tryd.underlying116 Tryd.underlying50 hj hsh (by kernel_rfl)]
    simp only [Result.andThen]
    rw [Oper.upon_value]
    go_wp2
    go_end0
    exact ⟨rfl, HF.out⟩
  · have HF := Lib.hid (show (∃ v, Blk w b 56 #[.pointer (some ⟨b, 0, none⟩), v, c2, c3, c4, c5] ∧ w.ownsRow B 5 1 v l.length (Lib.byteCells l)) ∧ Kept B b w w from ⟨⟨v, hb, hown⟩, Kept.refl _ _ _⟩)
    clear hb hown hB
    go_enter Tryd.func50, Tryd.ntmps50
    go_wp2
    rw [Lib.run_neq_ptr_same w _ Tryd.underlying50 hj]
    go_wp2
    go_end0
    exact ⟨rfl, HF.out⟩
set_option maxHeartbeats 2000000 in
set_option maxRecDepth 100000 in
theorem wbyte_any (B b : Nat) (l : List UInt8) (c2 c3 c4 c5 : Value) (c : UInt8) (z : Int) (hz : z = (c.toNat : Int)) (w : World) (h : Wr B b l c2 c3 c4 c5 w) (hlen : l.length ≤ 900000) (hBw : B ≤ w.heap.size) :
    Calls Tryd.prog 52 #[.pointer (some ⟨b, 0, none⟩), .int .u8 z] w fun e w' => e = .returned .nilIface ∧ Wr B b (l ++ [c]) c2 c3 c4 c5 w' ∧ Kept B b w w' := by
  subst hz
  have HC := Lib.hid (copy_w B b l c2 c3 c4 c5 w h)
  have hB := h.1
  clear h
  go_enter Tryd.func52, Tryd.ntmps52
  go_wp2_with fail
  refine HC.out.mono ?_
  rintro e w1 ⟨rfl, ⟨v, hbk, hown⟩, hk1⟩
  have x0 : w1.cell? ⟨b, 0, none⟩ = some (.pointer (some ⟨b, 0, none⟩)) := hbk.cell 0
  have x1 : w1.cell? ⟨b, 1, none⟩ = some v := hbk.cell 1
  have HBk := Lib.hid hbk
  have HO := Lib.hid hown
  have HK := Lib.hid hk1
  have y1 : ∀ o : Obj, (w1.alloc o).cell? ⟨b, 1, none⟩ = some v := fun o => (hbk.alloc o).cell 1
  clear hbk hown hk1
  go_wp2_with (
    at_builtin
    go_loud (refine app_u8g rfl (.tmp _) (.tmp _) rfl B v l c _ rfl rfl rfl HO.out (by omega) (by have := HK.out.size; omega) ?_)
    intro g cap w2 hown2 hgrow
    have hbk2 : Blk w2 b 56 #[.pointer (some ⟨b, 0, none⟩), v, c2, c3, c4, c5] := (hgrow.block b (by have := HBk.out.lt; simp; omega) (fun e => own_far8 HO.out HBk.out (by decide) e.symm)).trans (HBk.out.alloc _)
    have z1 : w2.cell? ⟨b, 1, none⟩ = some v := hbk2.cell 1
    have g1 := hbk2.free 1
    have HW := Lib.hid (wr_put hB (.inr rfl) hbk2 hown2)
    have HK2 := Lib.hid (show Kept B b w (w2.setCell ⟨b, 1, none⟩ (.slice (some ⟨g, 0, none⟩) (l.length + 1) cap)) from HK.out.trans ⟨((((Below.refl _ _).alloc (by have := HK.out.size; omega) _).grown hgrow (by have := HK.out.size; simp; omega) (fun k hk => (HO.out.lt k hk).1))).setCell (p := ⟨b, 1, none⟩) hB _, (((Lib.OthersKept.refl _ _ _).alloc _).grown hgrow (own_kind (HO.out.alloc _))).setCell ⟨b, 1, none⟩ rfl _⟩)
    clear hown2 hgrow hbk2 x0 x1 y1)
  go_ret
  exact ⟨rfl, HW.out, HK2.out⟩
end Go.Proofs.YtgiapdmoiaiofaaDoor
