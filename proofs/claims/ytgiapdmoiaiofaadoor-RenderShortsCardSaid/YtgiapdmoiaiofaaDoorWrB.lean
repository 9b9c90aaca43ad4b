/- A builder within a struct: a text written, and read at last: contracts. -/
import Derived.Test.YtgiapdmoiaiofaaDoorWrA
import Derived.Lib.UnsafeStr
import Derived.Outline
namespace Go.Proofs.YtgiapdmoiaiofaaDoor
open Go.RowKit
set_option linter.unusedVariables false

set_option maxHeartbeats 2000000 in
set_option maxRecDepth 100000 in
theorem wstr_any (B b : Nat) (l : List UInt8) (c2 c3 c4 c5 : Value) (s : ByteArray) (w : World) (h : Wr B b l c2 c3 c4 c5 w) (hlen : l.length + s.size ≤ 900000) (hBw : B ≤ w.heap.size) :
    Calls Tryd.prog 37 #[.pointer (some ⟨b, 0, none⟩), .string s] w fun e w' => e = .returned (.tuple #[.int .i64 s.size, .nilIface]) ∧ Wr B b (l ++ s.data.toList) c2 c3 c4 c5 w' ∧ Kept B b w w' := by
  obtain ⟨i0, hi, hz0, hz1, hz2⟩ := info_parts info5
  have HC := Lib.hid (copy_w B b l c2 c3 c4 c5 w h)
  have hB := h.1
  clear h
  go_enter Tryd.func37, Tryd.ntmps37
  go_wp2_with fail
  refine HC.out.mono ?_
  rintro e w1 ⟨rfl, ⟨v, hbk, hown⟩, hk1⟩
  have x0 : w1.cell? ⟨b, 0, none⟩ = some (.pointer (some ⟨b, 0, none⟩)) := hbk.cell 0
  have x1 : w1.cell? ⟨b, 1, none⟩ = some v := hbk.cell 1
  have HBk := Lib.hid hbk
  have HO := Lib.hid hown
  have HK := Lib.hid hk1
  clear hbk hown hk1
  go_wp2_with (
    at_builtin
    go_loud (refine Lib.wpList_append_own_string _ rfl (.tmp _) (.tmp _) 51 9 rfl B 5 i0 Tryd.underlying51 Tryd.underlying9 hi hz0 hz1 hz2 v l.length (Lib.byteCells l) rfl HO.out s rfl (by unfold maxLen; omega) (by omega) (by have := HK.out.size; omega) ?_)
    intro v' w2 hown2 hgrow _
    have hown3 : w2.ownsRow B 5 1 v' (l ++ s.data.toList).length (Lib.byteCells (l ++ s.data.toList)) := by
      rw [Lib.byteCells_append, ← Lib.strCells_eq, List.length_append]
      exact hown2
    have hbk2 : Blk w2 b 56 #[.pointer (some ⟨b, 0, none⟩), v, c2, c3, c4, c5] := (hgrow.block b HBk.out.lt (fun e => own_far8 HO.out HBk.out (by decide) e.symm)).trans HBk.out
    have z1 : w2.cell? ⟨b, 1, none⟩ = some v := hbk2.cell 1
    have g1 := hbk2.free 1
    have HW := Lib.hid (wr_put hB (.inr rfl) hbk2 hown3)
    have HK2 := Lib.hid (show Kept B b w (w2.setCell ⟨b, 1, none⟩ v') from HK.out.trans ⟨((Below.refl _ _).grown hgrow (by have := HK.out.size; omega) (fun k hk => (HO.out.lt k hk).1)).setCell (p := ⟨b, 1, none⟩) hB _, ((Lib.OthersKept.refl _ _ _).grown hgrow (own_kind HO.out)).setCell ⟨b, 1, none⟩ rfl _⟩)
    obtain ⟨ao, n', cap, rfl⟩ : ∃ ao n' cap, v' = .slice ao n' cap := by
      rcases hown2.2 with ⟨hv, _⟩ | ⟨g, cap, cur, hv, _⟩
      · exact ⟨_, _, _, hv⟩
      · exact ⟨_, _, _, hv⟩
    clear hown2 hown3 hgrow hbk2 x0 x1)
  go_ret2
  exact ⟨rfl, HW.out, HK2.out⟩
set_option maxHeartbeats 1000000 in
set_option maxRecDepth 100000 in
theorem string_any (B b : Nat) (l : List UInt8) (c2 c3 c4 c5 : Value) (w : World) (h : Wr B b l c2 c3 c4 c5 w) (h0 : l ≠ []) :
    Calls Tryd.prog 20 #[.pointer (some ⟨b, 0, none⟩)] w fun e w' => e = .returned (.string ⟨l.toArray⟩) ∧ Below B w w' := by
  obtain ⟨hB, p, v, hp, hbk, hown⟩ := h
  have hl0 : l.length ≠ 0 := by simpa using h0
  obtain ⟨g, cap, cur, rfl, hbg, hg, hnc, hcm, hcs, htake⟩ : ∃ g cap cur, v = .slice (some ⟨g, 0, none⟩) l.length cap ∧ B ≤ g ∧ w.heap[g]? = some (.cells cur 5 (0, 0)) ∧ l.length ≤ cap ∧ cap ≤ maxLen ∧ cur.size = cap * 1 ∧ cur.toList.take (l.length * 1) = Lib.byteCells l := by
    rcases hown.2 with ⟨_, hz⟩ | ⟨g, cap, cur, hv, r⟩
    · exact absurd hz hl0
    · exact ⟨g, cap, cur, hv, r⟩
  have c1 : w.drew.cell? ⟨b, 1, none⟩ = some (.slice (some ⟨g, 0, none⟩) l.length cap) := hbk.cell 1
  have hSD : (Builtin.unsafeSliceData_ #[51] 83 #[.slice (some ⟨g, 0, none⟩) l.length cap]).run Tryd.prog w.drew = .ok (.pointer (some ⟨g, 0, none⟩)) w.drew :=
    Lib.run_unsafeSliceData_row _ _ _ _ _ _ (by omega)
  have hUS : (Builtin.unsafeString_ #[83, 3] 9 #[.pointer (some ⟨g, 0, none⟩), .int .i64 l.length]).run Tryd.prog w.drew = .ok (.string ⟨l.toArray⟩) (w.drew.freeze ⟨g, 0, none⟩ l.length) := by
    refine Lib.run_unsafeString_row w.drew 83 3 9 5 Tryd.underlying83 (by kernel_rfl) g cur.size (by have hg' : w.drew.heap[g]? = some (.cells cur 5 (0, 0)) := hg; simp [World.shape?, hg']) l h0 (by omega) (by unfold maxLen at hcm; omega) ?_
    intro j x hx
    have := hown.cells (g := g) rfl j (.int .u8 x.toNat) (by simp [Lib.byteCells, hx])
    exact this
  have HB := Lib.hid (show Below B w (w.drew.freeze ⟨g, 0, none⟩ l.length) from Lib.below_freeze (Below.drew (Below.refl B w)) (p := ⟨g, 0, none⟩) hbg _)
  have mixed : Tryd.prog.follows Departure.mixedOrders = true := by kernel_rfl
  clear hbk hown hg htake hcs
  go_enter Tryd.func20, Tryd.ntmps20
  go_wp2
  go_region_o
  all_goals (go_wp2; go_ret; exact ⟨rfl, HB.out⟩)
end Go.Proofs.YtgiapdmoiaiofaaDoor
