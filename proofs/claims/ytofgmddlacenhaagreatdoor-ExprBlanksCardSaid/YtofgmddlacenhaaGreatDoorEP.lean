/- A row of the call's own stays one. A builder within a struct: contracts. A builder within a struct: a text written, and read at last: contracts. -/
import Derived.Test.YtofgmddlacenhaaGreatDoorEX
import Derived.Test.YtofgmddlacenhaaGreatDoorME
import Derived.Lib.OthersKept
import Derived.Lib.AppendStr
import Derived.Shelf.Strings.Builder1
import Derived.Outline
import Derived.Lib.UnsafeStr
set_option linter.unusedVariables false
set_option maxRecDepth 100000
set_option maxHeartbeats 8000000
open Go.Lib (hid)
namespace Go.Proofs.YtofgmddlacenhaaGreatDoor
open Go.RowKit
theorem own_keptS {w w' : World} {base : Nat} {e : TypeId} {size n : Nat} {v : Value} {xs : List Value} (h : w.ownsRow base e size v n xs) (hb : Below w.heap.size w w') : w'.ownsRow base e size v n xs :=
 World.ownsRow.kept h (row := none) ⟨hb.os, hb.tape, hb.output, hb.size, fun a ha _ => hb.block a ha⟩ (by cases v <;> simp [Value.ownBlock] <;> split <;> simp)
open Go.RowKit
def Wr (B b : Nat) (l : List UInt8) (c2 c3 c4 c5 : Value) (w : World) : Prop :=
 B ≤ b ∧ ∃ p v, (p = .pointer none ∨ p = .pointer (some ⟨b, 0, none⟩)) ∧ Blk w b 163 #[p, v, c2, c3, c4, c5] ∧ w.ownsRow B 5 1 v l.length (Lib.byteCells l)
def KeptW (B b : Nat) (w w' : World) : Prop := Below B w w' ∧ Lib.OthersKept 5 (some b) w w'
theorem KeptW.refl (B b : Nat) (w : World) : KeptW B b w w := ⟨Below.refl _ _, Lib.OthersKept.refl _ _ _⟩
theorem KeptW.trans {B b : Nat} {u v w : World} (h : KeptW B b u v) (k : KeptW B b v w) : KeptW B b u w := ⟨h.1.trans k.1, h.2.trans k.2⟩
theorem KeptW.size {B b : Nat} {u v : World} (h : KeptW B b u v) : u.heap.size ≤ v.heap.size := h.1.size
theorem KeptW.blk {B b g : Nat} {t : TypeId} {cs : Array Value} {u v : World} (h : KeptW B b u v) (hb : Blk u g t cs) (hg : g ≠ b) (ht : t ≠ 5) : Blk v g t cs :=
 h.2 g _ hb (by simpa using hg) (fun c fz e => by injection e with _ e _; exact ht e)
theorem KeptW.of {B b : Nat} {u v : World} (h : Below u.heap.size u v) (hB : B ≤ u.heap.size) : KeptW B b u v :=
 ⟨h.mono hB, fun k o hk _ _ => (h.block k (Array.getElem?_eq_some_iff.1 hk).1).trans hk⟩
theorem Wr.lt {B b : Nat} {l : List UInt8} {c2 c3 c4 c5 : Value} {w : World} (h : Wr B b l c2 c3 c4 c5 w) : b < w.heap.size := by
 obtain ⟨_, p, v, _, hb, _⟩ := h
 exact hb.lt
theorem Wr.on {B b : Nat} {l : List UInt8} {c2 c3 c4 c5 : Value} {w w' : World} (h : Wr B b l c2 c3 c4 c5 w) (hb : Below w.heap.size w w') : Wr B b l c2 c3 c4 c5 w' := by
 obtain ⟨h1, p, v, h2, h3, h4⟩ := h
 exact ⟨h1, p, v, h2, h3.onto hb, own_keptS h4 hb⟩
theorem own_kind {w : World} {B : Nat} {v : Value} {l : List UInt8} (h : w.ownsRow B 5 1 v l.length (Lib.byteCells l)) : ∀ g, v.ownBlock = some g → ∃ c fz, w.heap[g]? = some (.cells c 5 fz) := by
 intro g hg
 rcases h.2 with ⟨rfl, _⟩ | ⟨g', cap, cur, rfl, _, hh, _⟩
 · simp [Value.ownBlock] at hg
 ·
  simp [Value.ownBlock] at hg
  subst hg
  exact ⟨cur, _, hh⟩
theorem own_far8 {w : World} {B b : Nat} {v : Value} {l : List UInt8} {t : TypeId} {cs : Array Value} (h : w.ownsRow B 5 1 v l.length (Lib.byteCells l)) (hb : Blk w b t cs) (ht : t ≠ 5) : v.ownBlock ≠ some b := by
 intro e
 obtain ⟨c, fz, hh⟩ := own_kind h b e
 have := hb.symm.trans hh
 injection this with this
 injection this with _ this _
 exact ht this
theorem wr_put {B b : Nat} {l : List UInt8} {p v v' c2 c3 c4 c5 : Value} {w : World} (hB : B ≤ b) (hp : p = .pointer none ∨ p = .pointer (some ⟨b, 0, none⟩)) (hb : Blk w b 163 #[p, v, c2, c3, c4, c5]) (hown : w.ownsRow B 5 1 v' l.length (Lib.byteCells l)) : Wr B b l c2 c3 c4 c5 (w.setCell ⟨b, 1, none⟩ v') := by
 refine ⟨hB, p, v', hp, hb.set_ 1 v', ?_⟩
 exact hown.kept (row := some b) ⟨rfl, rfl, rfl, by simp [World.setCell], fun k _ hk => Below.heap_setCell _ _ _ _ (fun e => hk (by simp [e]))⟩ (Or.inr (own_far8 hown hb (by decide)))
theorem copy_w (B b : Nat) (l : List UInt8) (c2 c3 c4 c5 : Value) (w : World) (h : Wr B b l c2 c3 c4 c5 w) :
 Calls Tryz.prog 62 #[.pointer (some ⟨b, 0, none⟩)] w fun e w' => e = .returned (.tuple #[]) ∧ (∃ v, Blk w' b 163 #[.pointer (some ⟨b, 0, none⟩), v, c2, c3, c4, c5] ∧ w'.ownsRow B 5 1 v l.length (Lib.byteCells l)) ∧ KeptW B b w w' := by
 obtain ⟨hB, p, v, hp, hb, hown⟩ := h
 have hinfo : (Tryz.prog.info? 64).map (fun i => i.size) = some 2 := by kernel_rfl
 obtain ⟨j, hj, hjs⟩ := Option.map_eq_some_iff.1 hinfo
 have h0 : w.cell? ⟨b, 0, none⟩ = some p := hb.cell 0
 rcases hp with rfl | rfl
 ·
  have hf := hb.free 0
  have hsh : w.shape? b = some (163, 6) := by
   have hb' : w.heap[b]? = some (Obj.cells #[.pointer none, v, c2, c3, c4, c5] 163 (0, 0)) := hb
   simp [World.shape?, hb']
  have HF := hid (show (∃ v, Blk (w.setCell ⟨b, 0, none⟩ (.pointer (some ⟨b, 0, none⟩))) b 163 #[.pointer (some ⟨b, 0, none⟩), v, c2, c3, c4, c5] ∧ (w.setCell ⟨b, 0, none⟩ (.pointer (some ⟨b, 0, none⟩))).ownsRow B 5 1 v l.length (Lib.byteCells l)) ∧ KeptW B b w (w.setCell ⟨b, 0, none⟩ (.pointer (some ⟨b, 0, none⟩))) from
   ⟨⟨v, hb.set_ 0 _, hown.kept (row := some b) ⟨rfl, rfl, rfl, by simp [World.setCell], fun k _ hk => Below.heap_setCell _ _ _ _ (fun e => hk (by simp [e]))⟩ (Or.inr (own_far8 hown hb (by decide)))⟩, (Below.refl _ _).setCell (p := ⟨b, 0, none⟩) hB _, (Lib.OthersKept.refl _ _ _).setCell ⟨b, 0, none⟩ rfl _⟩)
  clear hb hown hB
  go_enter Tryz.func62, Tryz.ntmps62
  go_wp2
  rw [Lib.run_to_unsafe w ⟨b, 0, none⟩ Tryz.underlying62 Tryz.underlying166 hj (by rw [hjs]; decide) hsh (Nat.zero_lt_succ 5)]
  simp only [Result.andThen]
  rw [Oper.upon_value]
  go_wp2
  rw [run_callFunc_extern Tryz.func103 (by kernel_rfl) (by kernel_rfl) (by kernel_rfl) (e := Extern.AbiNoEscape.same) (by kernel_rfl)]
  rw [Lib.run_noEscape]
  simp only [Result.andThen]
  rw [Oper.upon_value]
  go_wp2
  rw [Lib.run_from_unsafe w ⟨b, 0, none⟩ Tryz.underlying166 Tryz.underlying62 hj hsh (by kernel_rfl)]
  simp only [Result.andThen]
  rw [Oper.upon_value]
  go_wp2
  go_end0
  exact ⟨rfl, HF.out⟩
 ·
  have HF := hid (show (∃ v, Blk w b 163 #[.pointer (some ⟨b, 0, none⟩), v, c2, c3, c4, c5] ∧ w.ownsRow B 5 1 v l.length (Lib.byteCells l)) ∧ KeptW B b w w from ⟨⟨v, hb, hown⟩, KeptW.refl _ _ _⟩)
  clear hb hown hB
  go_enter Tryz.func62, Tryz.ntmps62
  go_wp2
  rw [Lib.run_neq_ptr_same w _ Tryz.underlying62 hj]
  go_wp2
  go_end0
  exact ⟨rfl, HF.out⟩
open Go.RowKit
theorem wstr_any (B b : Nat) (l : List UInt8) (c2 c3 c4 c5 : Value) (s : ByteArray) (w : World) (h : Wr B b l c2 c3 c4 c5 w) (hlen : l.length + s.size ≤ 900000) (hBw : B ≤ w.heap.size) :
 Calls Tryz.prog 46 #[.pointer (some ⟨b, 0, none⟩), .string s] w fun e w' => e = .returned (.tuple #[.int .i64 s.size, .nilIface]) ∧ Wr B b (l ++ s.data.toList) c2 c3 c4 c5 w' ∧ KeptW B b w w' := by
 obtain ⟨i0, hi, hz0, hz1, hz2⟩ := info_parts info5
 have HC := hid (copy_w B b l c2 c3 c4 c5 w h)
 have hB := h.1
 clear h
 go_enter Tryz.func46, Tryz.ntmps46
 go_wp2_with fail
 refine HC.out.mono ?_
 rintro e w1 ⟨rfl, ⟨v, hbk, hown⟩, hk1⟩
 have x0 : w1.cell? ⟨b, 0, none⟩ = some (.pointer (some ⟨b, 0, none⟩)) := hbk.cell 0
 have x1 : w1.cell? ⟨b, 1, none⟩ = some v := hbk.cell 1
 have HBk := hid hbk
 have HO := hid hown
 have HK := hid hk1
 clear hbk hown hk1
 go_wp2_with (
  at_builtin
  go_loud (refine Lib.wpList_append_own_string _ rfl (.tmp _) (.tmp _) 53 9 rfl B 5 i0 Tryz.underlying53 Tryz.underlying9 hi hz0 hz1 hz2 v l.length (Lib.byteCells l) rfl HO.out s rfl (by unfold maxLen; omega) (by omega) (by have := HK.out.size; omega) ?_)
  intro v' w2 hown2 hgrow _
  have hown3 : w2.ownsRow B 5 1 v' (l ++ s.data.toList).length (Lib.byteCells (l ++ s.data.toList)) := by
   rw [Lib.byteCells_append, ← Lib.strCells_eq, List.length_append]
   exact hown2
  have hbk2 : Blk w2 b 163 #[.pointer (some ⟨b, 0, none⟩), v, c2, c3, c4, c5] := (hgrow.block b HBk.out.lt (fun e => own_far8 HO.out HBk.out (by decide) e.symm)).trans HBk.out
  have z1 : w2.cell? ⟨b, 1, none⟩ = some v := hbk2.cell 1
  have g1 := hbk2.free 1
  have HW := hid (wr_put hB (.inr rfl) hbk2 hown3)
  have HK2 := hid (show KeptW B b w (w2.setCell ⟨b, 1, none⟩ v') from HK.out.trans ⟨((Below.refl _ _).grown hgrow (by have := HK.out.size; omega) (fun k hk => (HO.out.lt k hk).1)).setCell (p := ⟨b, 1, none⟩) hB _, ((Lib.OthersKept.refl _ _ _).grown hgrow (own_kind HO.out)).setCell ⟨b, 1, none⟩ rfl _⟩)
  obtain ⟨ao, n', cap, rfl⟩ : ∃ ao n' cap, v' = .slice ao n' cap := by
   rcases hown2.2 with ⟨hv, _⟩ | ⟨g, cap, cur, hv, _⟩
   · exact ⟨_, _, _, hv⟩
   · exact ⟨_, _, _, hv⟩
  clear hown2 hown3 hgrow hbk2 x0 x1)
 go_ret2
 exact ⟨rfl, HW.out, HK2.out⟩
theorem string_any (B b : Nat) (l : List UInt8) (c2 c3 c4 c5 : Value) (w : World) (h : Wr B b l c2 c3 c4 c5 w) (h0 : l ≠ []) :
 Calls Tryz.prog 23 #[.pointer (some ⟨b, 0, none⟩)] w fun e w' => e = .returned (.string ⟨l.toArray⟩) ∧ Below B w w' := by
 obtain ⟨hB, p, v, hp, hbk, hown⟩ := h
 have hl0 : l.length ≠ 0 := by simpa using h0
 obtain ⟨g, cap, cur, rfl, hbg, hg, hnc, hcm, hcs, htake⟩ : ∃ g cap cur, v = .slice (some ⟨g, 0, none⟩) l.length cap ∧ B ≤ g ∧ w.heap[g]? = some (.cells cur 5 (0, 0)) ∧ l.length ≤ cap ∧ cap ≤ maxLen ∧ cur.size = cap * 1 ∧ cur.toList.take (l.length * 1) = Lib.byteCells l := by
  rcases hown.2 with ⟨_, hz⟩ | ⟨g, cap, cur, hv, r⟩
  · exact absurd hz hl0
  · exact ⟨g, cap, cur, hv, r⟩
 have c1 : w.drew.cell? ⟨b, 1, none⟩ = some (.slice (some ⟨g, 0, none⟩) l.length cap) := hbk.cell 1
 have hSD : (Builtin.unsafeSliceData_ #[53] 97 #[.slice (some ⟨g, 0, none⟩) l.length cap]).run Tryz.prog w.drew = .ok (.pointer (some ⟨g, 0, none⟩)) w.drew :=
  Lib.run_unsafeSliceData_row _ _ _ _ _ _ (by omega)
 have hUS : (Builtin.unsafeString_ #[97, 3] 9 #[.pointer (some ⟨g, 0, none⟩), .int .i64 l.length]).run Tryz.prog w.drew = .ok (.string ⟨l.toArray⟩) (w.drew.freeze ⟨g, 0, none⟩ l.length) := by
  refine Lib.run_unsafeString_row w.drew 97 3 9 5 Tryz.underlying97 (by kernel_rfl) g cur.size (by have hg' : w.drew.heap[g]? = some (.cells cur 5 (0, 0)) := hg; simp [World.shape?, hg']) l h0 (by omega) (by unfold maxLen at hcm; omega) ?_
  intro j x hx
  have := hown.cells (g := g) rfl j (.int .u8 x.toNat) (by simp [Lib.byteCells, hx])
  exact this
 have HB := hid (show Below B w (w.drew.freeze ⟨g, 0, none⟩ l.length) from Lib.below_freeze (Below.drew (Below.refl B w)) (p := ⟨g, 0, none⟩) hbg _)
 have mixed : Tryz.prog.follows Departure.mixedOrders = true := by kernel_rfl
 clear hbk hown hg htake hcs
 go_enter Tryz.func23, Tryz.ntmps23
 go_wp2
 go_region_o
 all_goals (go_wp2; go_ret; exact ⟨rfl, HB.out⟩)
end Go.Proofs.YtofgmddlacenhaaGreatDoor
