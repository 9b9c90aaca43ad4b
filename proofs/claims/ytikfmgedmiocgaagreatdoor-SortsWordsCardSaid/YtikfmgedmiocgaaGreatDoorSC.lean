/- What kinds of values an expression may have: contract of Check, of a number, of this, and of an Op whose Args' sorts are known. The fixed fact of layer 9; the reference's sorts of a number: contracts. -/
import Derived.Test.YtikfmgedmiocgaaGreatDoorSA
import Derived.Test.YtikfmgedmiocgaaGreatDoorEO
import Derived.Laws.MakeOwn
import Derived.Test.YtikfmgedmiocgaaGreatDoorEN
import Derived.Test.YtikfmgedmiocgaaGreatDoorEV
namespace Go.Proofs.YtikfmgedmiocgaaGreatDoor
open Go.RowKit
open Tk Ex
set_option linter.unusedVariables false

theorem infoSorts : (Tryz.prog.info? 45).map (fun i => (i.zero, i.size, i.bytes)) = some (some (.int .i64 0), 1, 8) := by kernel_rfl
/-- Check tells the sorts v, where this may be of the sorts This and there are no names -/
def CheckAt (This : Nat) (e : E) (v : Nat) : Prop := ∀ (h : Hd) (w : World), EV w (· < w.heap.size) e h → Calls Tryz.prog 39 #[.agg (ecs e h), .agg #[.int .i64 (This : Int), .slice none 0 0, .slice none 0 0]] w fun en w' => en = .returned (.tuple #[.int .i64 (v : Int), .int .i64 0]) ∧ Below w.heap.size w w'
set_option maxRecDepth 100000 in
set_option maxHeartbeats 4000000 in
theorem check_lit (This : Nat) (n : Int) : CheckAt This (.mk litB nix (Rd.numT n) []) 4 := by
  intro h w hev
  obtain ⟨hL, hl1, hL', hl2, hA1, hc1⟩ := h
  clear hev
  show Calls Tryz.prog 39 #[.agg #[.string ⟨#[108, 105, 116]⟩, .string ⟨#[]⟩, .int .i64 2, .bool false, .int .i64 n, .string ⟨#[]⟩, .slice hL 0 hl1, .slice hL' 0 hl2, .slice hA1 0 hc1], .agg #[.int .i64 (This : Int), .slice none 0 0, .slice none 0 0]] w fun en w' => en = .returned (.tuple #[.int .i64 ((4 : Nat) : Int), .int .i64 0]) ∧ Below w.heap.size w w'
  obtain ⟨i0, hi, hz0, hz1, hz2⟩ := info_parts infoSorts
  have hmk : ∀ W : World, (Instr.makeSlice 82 (.int .i64 0) (.int .i64 0)).run Tryz.prog W = .ok (.slice (some ⟨W.heap.size, 0, none⟩) 0 0) (W.alloc (.cells (madeCells #[.int .i64 0] (0 * 1)) 45)) := by
    intro W
    have := run_make (P := Tryz.prog) W 82 45 i0 _ Tryz.underlying82 hi hz0 .i64 .i64 0 0 (by omega) (by omega) (by rw [hz2]; omega) (by omega)
    rw [hz1] at this
    exact this
  clear hi hz0 hz1 hz2
  go_enter Tryz.func39, Tryz.ntmps39
  go_upto_region 1 with fail
  have hW1 : Below w.heap.size w ((w.alloc (.cells #[.string ⟨#[108, 105, 116]⟩, .string ⟨#[]⟩, .int .i64 2, .bool false, .int .i64 n, .string ⟨#[]⟩, .slice hL 0 hl1, .slice hL' 0 hl2, .slice hA1 0 hc1] 30)).alloc (.cells #[.int .i64 (This : Int), .slice none 0 0, .slice none 0 0] 84)) := ((Below.refl _ _).alloc (Nat.le_refl _) _).alloc (by simp) _
  have kA : Blk ((w.alloc (.cells #[.string ⟨#[108, 105, 116]⟩, .string ⟨#[]⟩, .int .i64 2, .bool false, .int .i64 n, .string ⟨#[]⟩, .slice hL 0 hl1, .slice hL' 0 hl2, .slice hA1 0 hc1] 30)).alloc (.cells #[.int .i64 (This : Int), .slice none 0 0, .slice none 0 0] 84)) w.heap.size 30 #[.string ⟨#[108, 105, 116]⟩, .string ⟨#[]⟩, .int .i64 2, .bool false, .int .i64 n, .string ⟨#[]⟩, .slice hL 0 hl1, .slice hL' 0 hl2, .slice hA1 0 hc1] := (Blk.new w _ _).alloc _
  have kB : Blk ((w.alloc (.cells #[.string ⟨#[108, 105, 116]⟩, .string ⟨#[]⟩, .int .i64 2, .bool false, .int .i64 n, .string ⟨#[]⟩, .slice hL 0 hl1, .slice hL' 0 hl2, .slice hA1 0 hc1] 30)).alloc (.cells #[.int .i64 (This : Int), .slice none 0 0, .slice none 0 0] 84)) (w.heap.size + 1) 84 #[.int .i64 (This : Int), .slice none 0 0, .slice none 0 0] := by
    have := Blk.new (w.alloc (.cells #[.string ⟨#[108, 105, 116]⟩, .string ⟨#[]⟩, .int .i64 2, .bool false, .int .i64 n, .string ⟨#[]⟩, .slice hL 0 hl1, .slice hL' 0 hl2, .slice hA1 0 hc1] 30)) 84 #[.int .i64 (This : Int), .slice none 0 0, .slice none 0 0]
    simpa using this
  have hs1 : ((w.alloc (.cells #[.string ⟨#[108, 105, 116]⟩, .string ⟨#[]⟩, .int .i64 2, .bool false, .int .i64 n, .string ⟨#[]⟩, .slice hL 0 hl1, .slice hL' 0 hl2, .slice hA1 0 hc1] 30)).alloc (.cells #[.int .i64 (This : Int), .slice none 0 0, .slice none 0 0] 84)).heap.size = w.heap.size + 2 := by simp
  change Code.wp _ _ _ _ ((w.alloc (.cells #[.string ⟨#[108, 105, 116]⟩, .string ⟨#[]⟩, .int .i64 2, .bool false, .int .i64 n, .string ⟨#[]⟩, .slice hL 0 hl1, .slice hL' 0 hl2, .slice hA1 0 hc1] 30)).alloc (.cells #[.int .i64 (This : Int), .slice none 0 0, .slice none 0 0] 84))
  generalize ((w.alloc (.cells #[.string ⟨#[108, 105, 116]⟩, .string ⟨#[]⟩, .int .i64 2, .bool false, .int .i64 n, .string ⟨#[]⟩, .slice hL 0 hl1, .slice hL' 0 hl2, .slice hA1 0 hc1] 30)).alloc (.cells #[.int .i64 (This : Int), .slice none 0 0, .slice none 0 0] 84)) = W1 at *
  have a8 := kA.cell 8
  have HW1 := Lib.hid hW1
  have HA := Lib.hid kA
  have HB := Lib.hid kB
  have HS1 := Lib.hid hs1
  clear hW1 kA kB hs1
  go_upto_region 2 with fail
  have hW2 : Below W1.heap.size W1 (W1.alloc (.cells (madeCells #[.int .i64 0] (0 * 1)) 45)) := (Below.refl _ _).alloc (Nat.le_refl _) _
  have kC := Blk.new W1 45 (madeCells #[.int .i64 0] (0 * 1))
  have kA := HA.out.onto hW2
  have kB := HB.out.onto hW2
  change Code.wp _ _ _ _ (W1.alloc (.cells (madeCells #[.int .i64 0] (0 * 1)) 45))
  have HW2 := Lib.hid (HW1.out.trans (hW2.mono HW1.out.size))
  have hs2 : (W1.alloc (.cells (madeCells #[.int .i64 0] (0 * 1)) 45)).heap.size = W1.heap.size + 1 := by simp
  generalize (W1.alloc (.cells (madeCells #[.int .i64 0] (0 * 1)) 45)) = W2 at *
  have HA2 := Lib.hid kA
  have HB2 := Lib.hid kB
  have HC2 := Lib.hid kC
  have HS2 := Lib.hid hs2
  clear hW2 kA kB kC hs2 a8 hmk
  have a8 := HA2.out.cell 8
  go_upto_region 3 with fail
  clear a8
  go_loopw [20] (fun x wr => x = .int .i64 0 ∧ wr = W2) (fun _ _ => 0)
  case atStart => exact ⟨rfl, rfl⟩
  case round =>
    obtain ⟨rfl, rfl⟩ := hrel
    have a0 := HA2.out.cell 0
    have a1 := HA2.out.cell 1
    have a2 := HA2.out.cell 2
    have a3 := HA2.out.cell 3
    have a4 := HA2.out.cell 4
    have a5 := HA2.out.cell 5
    have a6 := HA2.out.cell 6
    have a7 := HA2.out.cell 7
    have a8 := HA2.out.cell 8
    have e0 := HB2.out.cell 0
    go_wp2_with fail
    refine (oof_any 2 _ _ _ _ _ _).mono ?_
    rintro en w4 ⟨rfl, hb4⟩
    have HB4 := Lib.hid (HW2.out.trans (hb4.mono HW2.out.size))
    clear hb4 a0 a1 a2 a3 a4 a5 a6 a7 a8 e0
    go_wp2_with fail
    go_ret2
    exact ⟨rfl, HB4.out⟩
set_option maxRecDepth 100000 in
set_option maxHeartbeats 4000000 in
theorem check_this (This : Nat) : CheckAt This (.mk thisB nix Rd.nulT []) This := by
  intro h w hev
  obtain ⟨hL, hl1, hL', hl2, hA1, hc1⟩ := h
  clear hev
  show Calls Tryz.prog 39 #[.agg #[.string ⟨#[116, 104, 105, 115]⟩, .string ⟨#[]⟩, .int .i64 0, .bool false, .int .i64 0, .string ⟨#[]⟩, .slice hL 0 hl1, .slice hL' 0 hl2, .slice hA1 0 hc1], .agg #[.int .i64 (This : Int), .slice none 0 0, .slice none 0 0]] w fun en w' => en = .returned (.tuple #[.int .i64 ((This : Nat) : Int), .int .i64 0]) ∧ Below w.heap.size w w'
  obtain ⟨i0, hi, hz0, hz1, hz2⟩ := info_parts infoSorts
  have hmk : ∀ W : World, (Instr.makeSlice 82 (.int .i64 0) (.int .i64 0)).run Tryz.prog W = .ok (.slice (some ⟨W.heap.size, 0, none⟩) 0 0) (W.alloc (.cells (madeCells #[.int .i64 0] (0 * 1)) 45)) := by
    intro W
    have := run_make (P := Tryz.prog) W 82 45 i0 _ Tryz.underlying82 hi hz0 .i64 .i64 0 0 (by omega) (by omega) (by rw [hz2]; omega) (by omega)
    rw [hz1] at this
    exact this
  clear hi hz0 hz1 hz2
  go_enter Tryz.func39, Tryz.ntmps39
  go_upto_region 1 with fail
  have hW1 : Below w.heap.size w ((w.alloc (.cells #[.string ⟨#[116, 104, 105, 115]⟩, .string ⟨#[]⟩, .int .i64 0, .bool false, .int .i64 0, .string ⟨#[]⟩, .slice hL 0 hl1, .slice hL' 0 hl2, .slice hA1 0 hc1] 30)).alloc (.cells #[.int .i64 (This : Int), .slice none 0 0, .slice none 0 0] 84)) := ((Below.refl _ _).alloc (Nat.le_refl _) _).alloc (by simp) _
  have kA : Blk ((w.alloc (.cells #[.string ⟨#[116, 104, 105, 115]⟩, .string ⟨#[]⟩, .int .i64 0, .bool false, .int .i64 0, .string ⟨#[]⟩, .slice hL 0 hl1, .slice hL' 0 hl2, .slice hA1 0 hc1] 30)).alloc (.cells #[.int .i64 (This : Int), .slice none 0 0, .slice none 0 0] 84)) w.heap.size 30 #[.string ⟨#[116, 104, 105, 115]⟩, .string ⟨#[]⟩, .int .i64 0, .bool false, .int .i64 0, .string ⟨#[]⟩, .slice hL 0 hl1, .slice hL' 0 hl2, .slice hA1 0 hc1] := (Blk.new w _ _).alloc _
  have kB : Blk ((w.alloc (.cells #[.string ⟨#[116, 104, 105, 115]⟩, .string ⟨#[]⟩, .int .i64 0, .bool false, .int .i64 0, .string ⟨#[]⟩, .slice hL 0 hl1, .slice hL' 0 hl2, .slice hA1 0 hc1] 30)).alloc (.cells #[.int .i64 (This : Int), .slice none 0 0, .slice none 0 0] 84)) (w.heap.size + 1) 84 #[.int .i64 (This : Int), .slice none 0 0, .slice none 0 0] := by
    have := Blk.new (w.alloc (.cells #[.string ⟨#[116, 104, 105, 115]⟩, .string ⟨#[]⟩, .int .i64 0, .bool false, .int .i64 0, .string ⟨#[]⟩, .slice hL 0 hl1, .slice hL' 0 hl2, .slice hA1 0 hc1] 30)) 84 #[.int .i64 (This : Int), .slice none 0 0, .slice none 0 0]
    simpa using this
  have hs1 : ((w.alloc (.cells #[.string ⟨#[116, 104, 105, 115]⟩, .string ⟨#[]⟩, .int .i64 0, .bool false, .int .i64 0, .string ⟨#[]⟩, .slice hL 0 hl1, .slice hL' 0 hl2, .slice hA1 0 hc1] 30)).alloc (.cells #[.int .i64 (This : Int), .slice none 0 0, .slice none 0 0] 84)).heap.size = w.heap.size + 2 := by simp
  change Code.wp _ _ _ _ ((w.alloc (.cells #[.string ⟨#[116, 104, 105, 115]⟩, .string ⟨#[]⟩, .int .i64 0, .bool false, .int .i64 0, .string ⟨#[]⟩, .slice hL 0 hl1, .slice hL' 0 hl2, .slice hA1 0 hc1] 30)).alloc (.cells #[.int .i64 (This : Int), .slice none 0 0, .slice none 0 0] 84))
  generalize ((w.alloc (.cells #[.string ⟨#[116, 104, 105, 115]⟩, .string ⟨#[]⟩, .int .i64 0, .bool false, .int .i64 0, .string ⟨#[]⟩, .slice hL 0 hl1, .slice hL' 0 hl2, .slice hA1 0 hc1] 30)).alloc (.cells #[.int .i64 (This : Int), .slice none 0 0, .slice none 0 0] 84)) = W1 at *
  have a8 := kA.cell 8
  have HW1 := Lib.hid hW1
  have HA := Lib.hid kA
  have HB := Lib.hid kB
  have HS1 := Lib.hid hs1
  clear hW1 kA kB hs1
  go_upto_region 2 with fail
  have hW2 : Below W1.heap.size W1 (W1.alloc (.cells (madeCells #[.int .i64 0] (0 * 1)) 45)) := (Below.refl _ _).alloc (Nat.le_refl _) _
  have kC := Blk.new W1 45 (madeCells #[.int .i64 0] (0 * 1))
  have kA := HA.out.onto hW2
  have kB := HB.out.onto hW2
  change Code.wp _ _ _ _ (W1.alloc (.cells (madeCells #[.int .i64 0] (0 * 1)) 45))
  have HW2 := Lib.hid (HW1.out.trans (hW2.mono HW1.out.size))
  have hs2 : (W1.alloc (.cells (madeCells #[.int .i64 0] (0 * 1)) 45)).heap.size = W1.heap.size + 1 := by simp
  generalize (W1.alloc (.cells (madeCells #[.int .i64 0] (0 * 1)) 45)) = W2 at *
  have HA2 := Lib.hid kA
  have HB2 := Lib.hid kB
  have HC2 := Lib.hid kC
  have HS2 := Lib.hid hs2
  clear hW2 kA kB kC hs2 a8 hmk
  have a8 := HA2.out.cell 8
  go_upto_region 3 with fail
  clear a8
  go_loopw [20] (fun x wr => x = .int .i64 0 ∧ wr = W2) (fun _ _ => 0)
  case atStart => exact ⟨rfl, rfl⟩
  case round =>
    obtain ⟨rfl, rfl⟩ := hrel
    have a0 := HA2.out.cell 0
    have a1 := HA2.out.cell 1
    have a2 := HA2.out.cell 2
    have a3 := HA2.out.cell 3
    have a4 := HA2.out.cell 4
    have a5 := HA2.out.cell 5
    have a6 := HA2.out.cell 6
    have a7 := HA2.out.cell 7
    have a8 := HA2.out.cell 8
    have e0 := HB2.out.cell 0
    go_wp2_with fail
    go_ret2
    exact ⟨rfl, HW2.out⟩
set_option maxRecDepth 100000 in
set_option maxHeartbeats 8000000 in
theorem check_op (This : Nat) (e : E) (vs : List Nat) (r : Nat) (hn : e.args.length = vs.length) (hlen : vs.length ≤ 1000)
    (ho1 : (e.op.toList == [108, 105, 116]) = false) (ho2 : (e.op.toList == [116, 104, 105, 115]) = false) (ho3 : (e.op.toList == [118, 97, 114]) = false)
    (hargs : ∀ (i : Nat) (x : E) (v : Nat), e.args[i]? = some x → vs[i]? = some v → CheckAt This x v)
    (hdone : ∀ (b : Nat) (w1 : World), SRow w1 b 0 vs → Calls Tryz.prog 66 #[.string e.op, .slice (some ⟨b, 0, none⟩) vs.length vs.length] w1 fun en w' => en = .returned (.tuple #[.int .i64 (r : Int), .bool true]) ∧ Below w1.heap.size w1 w') :
    CheckAt This e r := by
  intro h w hev
  obtain ⟨hL, hl1, hL', hl2, hA1, hc1⟩ := h
  have HEV := Lib.hid hev
  have HAR := Lib.hid hargs
  have HDN := Lib.hid hdone
  have HN := Lib.hid hn
  clear hev hargs hdone
  unfold ecs
  dsimp only
  rw [hn]
  clear hn
  obtain ⟨i0, hi, hz0, hz1, hz2⟩ := info_parts infoSorts
  have hmk : ∀ W : World, (Instr.makeSlice 82 (.int .i64 ((vs.length : Nat) : Int)) (.int .i64 ((vs.length : Nat) : Int))).run Tryz.prog W = .ok (.slice (some ⟨W.heap.size, 0, none⟩) vs.length vs.length) (W.alloc (.cells (madeCells #[.int .i64 0] vs.length) 45)) := by
    intro W
    have := run_make (P := Tryz.prog) W 82 45 i0 _ Tryz.underlying82 hi hz0 .i64 .i64 vs.length vs.length (by omega) (by omega) (by rw [hz2]; omega) (by omega)
    rw [hz1, Nat.mul_one] at this
    exact this
  clear hi hz0 hz1 hz2
  go_enter Tryz.func39, Tryz.ntmps39
  go_upto_region 1 with fail
  have hW1 : Below w.heap.size w ((w.alloc (.cells #[.string e.op, .string e.name, .int .i64 e.lit.kind, .bool e.lit.tr, .int .i64 e.lit.num, .string e.lit.str, .slice hL e.lit.items.length hl1, .slice hL' e.lit.keys.length hl2, .slice hA1 vs.length hc1] 30)).alloc (.cells #[.int .i64 (This : Int), .slice none 0 0, .slice none 0 0] 84)) := ((Below.refl _ _).alloc (Nat.le_refl _) _).alloc (by simp) _
  have kA : Blk ((w.alloc (.cells #[.string e.op, .string e.name, .int .i64 e.lit.kind, .bool e.lit.tr, .int .i64 e.lit.num, .string e.lit.str, .slice hL e.lit.items.length hl1, .slice hL' e.lit.keys.length hl2, .slice hA1 vs.length hc1] 30)).alloc (.cells #[.int .i64 (This : Int), .slice none 0 0, .slice none 0 0] 84)) w.heap.size 30 #[.string e.op, .string e.name, .int .i64 e.lit.kind, .bool e.lit.tr, .int .i64 e.lit.num, .string e.lit.str, .slice hL e.lit.items.length hl1, .slice hL' e.lit.keys.length hl2, .slice hA1 vs.length hc1] := (Blk.new w _ _).alloc _
  have kB : Blk ((w.alloc (.cells #[.string e.op, .string e.name, .int .i64 e.lit.kind, .bool e.lit.tr, .int .i64 e.lit.num, .string e.lit.str, .slice hL e.lit.items.length hl1, .slice hL' e.lit.keys.length hl2, .slice hA1 vs.length hc1] 30)).alloc (.cells #[.int .i64 (This : Int), .slice none 0 0, .slice none 0 0] 84)) (w.heap.size + 1) 84 #[.int .i64 (This : Int), .slice none 0 0, .slice none 0 0] := by
    have := Blk.new (w.alloc (.cells #[.string e.op, .string e.name, .int .i64 e.lit.kind, .bool e.lit.tr, .int .i64 e.lit.num, .string e.lit.str, .slice hL e.lit.items.length hl1, .slice hL' e.lit.keys.length hl2, .slice hA1 vs.length hc1] 30)) 84 #[.int .i64 (This : Int), .slice none 0 0, .slice none 0 0]
    simpa using this
  have hs1 : ((w.alloc (.cells #[.string e.op, .string e.name, .int .i64 e.lit.kind, .bool e.lit.tr, .int .i64 e.lit.num, .string e.lit.str, .slice hL e.lit.items.length hl1, .slice hL' e.lit.keys.length hl2, .slice hA1 vs.length hc1] 30)).alloc (.cells #[.int .i64 (This : Int), .slice none 0 0, .slice none 0 0] 84)).heap.size = w.heap.size + 2 := by simp
  change Code.wp _ _ _ _ ((w.alloc (.cells #[.string e.op, .string e.name, .int .i64 e.lit.kind, .bool e.lit.tr, .int .i64 e.lit.num, .string e.lit.str, .slice hL e.lit.items.length hl1, .slice hL' e.lit.keys.length hl2, .slice hA1 vs.length hc1] 30)).alloc (.cells #[.int .i64 (This : Int), .slice none 0 0, .slice none 0 0] 84))
  generalize ((w.alloc (.cells #[.string e.op, .string e.name, .int .i64 e.lit.kind, .bool e.lit.tr, .int .i64 e.lit.num, .string e.lit.str, .slice hL e.lit.items.length hl1, .slice hL' e.lit.keys.length hl2, .slice hA1 vs.length hc1] 30)).alloc (.cells #[.int .i64 (This : Int), .slice none 0 0, .slice none 0 0] 84)) = W1 at *
  have a8 := kA.cell 8
  have HW1 := Lib.hid hW1
  have HA := Lib.hid kA
  have HB := Lib.hid kB
  have HS1 := Lib.hid hs1
  clear hW1 kA kB hs1
  go_upto_region 2 with fail
  have hW2 : Below W1.heap.size W1 (W1.alloc (.cells (madeCells #[.int .i64 0] vs.length) 45)) := (Below.refl _ _).alloc (Nat.le_refl _) _
  have kC := Blk.new W1 45 (madeCells #[.int .i64 0] vs.length)
  have kA := HA.out.onto hW2
  have kB := HB.out.onto hW2
  change Code.wp _ _ _ _ (W1.alloc (.cells (madeCells #[.int .i64 0] vs.length) 45))
  have HW2 := Lib.hid (HW1.out.trans (hW2.mono HW1.out.size))
  have hs2 : (W1.alloc (.cells (madeCells #[.int .i64 0] vs.length) 45)).heap.size = W1.heap.size + 1 := by simp
  generalize (W1.alloc (.cells (madeCells #[.int .i64 0] vs.length) 45)) = W2 at *
  have HA2 := Lib.hid kA
  have HB2 := Lib.hid kB
  have HC2 := Lib.hid kC
  have HS2 := Lib.hid hs2
  clear hW2 kA kB kC hs2 a8 hmk
  have a8 := HA2.out.cell 8
  go_upto_region 3 with fail
  clear a8
  go_loopw [20] (fun x wr => ∃ k : Nat, k ≤ vs.length ∧ x = .int .i64 k ∧ (∃ cs, Blk wr W1.heap.size 45 cs ∧ cs.size = vs.length ∧ ∀ i v : Nat, i < k → vs[i]? = some v → cs[i]? = some (.int .i64 (v : Int))) ∧ Below W1.heap.size W2 wr) (fun x _ => vs.length - (intOf x).toNat)
  case atStart => exact ⟨0, Nat.zero_le _, rfl, ⟨_, HC2.out, by rw [size_madeCells], fun i v h => absurd h (Nat.not_lt_zero i)⟩, Below.refl _ _⟩
  case round =>
    obtain ⟨k, hk, rfl, ⟨cs, hcs, hcz, hci⟩, hbel⟩ := hrel
    have HCS := Lib.hid hcs
    have HCI := Lib.hid hci
    have HBl := Lib.hid hbel
    have hws := hbel.size
    have q2 : w.heap.size + 1 < W1.heap.size := by have := HS1.out; omega
    have q3 : W1.heap.size < W2.heap.size := by have := HS2.out; omega
    have kA : Blk wr w.heap.size 30 #[.string e.op, .string e.name, .int .i64 e.lit.kind, .bool e.lit.tr, .int .i64 e.lit.num, .string e.lit.str, .slice hL e.lit.items.length hl1, .slice hL' e.lit.keys.length hl2, .slice hA1 vs.length hc1] := (HBl.out.block _ (by omega)).trans HA2.out
    have kB : Blk wr (w.heap.size + 1) 84 #[.int .i64 (This : Int), .slice none 0 0, .slice none 0 0] := (HBl.out.block _ (by omega)).trans HB2.out
    have HKA := Lib.hid kA
    have HKB := Lib.hid kB
    have HWR := Lib.hid (HW2.out.trans (HBl.out.mono (show w.heap.size ≤ W1.heap.size by omega)))
    have HCZ := Lib.hid hcz
    clear hcs hci hbel kA kB hcz
    by_cases hlt : k < vs.length
    · have u1 : decide (k < vs.length) = true := decide_eq_true hlt
      have u2 : decide ((k : Int) < (vs.length : Int)) = true := decide_eq_true (by omega)
      have i1 : (k : Int) < (vs.length : Int) := by omega
      have i2 : (0 : Int) ≤ (k : Int) := by omega
      have hev2 := (HEV.out.keep (Keeps.of_below HWR.out))
      obtain ⟨bb, o, x, q, hAe, hSb, hx, h9, hex⟩ := hev2.at_ (show k < e.args.length by rw [HN.out]; exact hlt)
      dsimp only at hAe
      subst hAe
      obtain ⟨p0, p1, p2, p3, p4, p5, p6, p7, p8⟩ := h9.cells
      have HEX := Lib.hid hex
      obtain ⟨v, hv⟩ : ∃ v, vs[k]? = some v := ⟨_, List.getElem?_eq_getElem hlt⟩
      have HCK := Lib.hid (HAR.out k x v hx hv q)
      have HV := Lib.hid hv
      clear hev2 h9 hex hx hv
      go_upto_region 5 with fail
      change Code.wp _ _ _ _ (wr.alloc (.cells #[.string x.op, .string x.name, .int .i64 x.lit.kind, .bool x.lit.tr, .int .i64 x.lit.num, .string x.lit.str, .slice q.L x.lit.items.length q.l, .slice q.L' x.lit.keys.length q.l', .slice q.A x.args.length q.c] 30))
      have hB5 : Blk (wr.alloc (.cells #[.string x.op, .string x.name, .int .i64 x.lit.kind, .bool x.lit.tr, .int .i64 x.lit.num, .string x.lit.str, .slice q.L x.lit.items.length q.l, .slice q.L' x.lit.keys.length q.l', .slice q.A x.args.length q.c] 30)) wr.heap.size 30 #[.string x.op, .string x.name, .int .i64 x.lit.kind, .bool x.lit.tr, .int .i64 x.lit.num, .string x.lit.str, .slice q.L x.lit.items.length q.l, .slice q.L' x.lit.keys.length q.l', .slice q.A x.args.length q.c] := Blk.new wr _ _
      have hW5 : Below wr.heap.size wr (wr.alloc (.cells #[.string x.op, .string x.name, .int .i64 x.lit.kind, .bool x.lit.tr, .int .i64 x.lit.num, .string x.lit.str, .slice q.L x.lit.items.length q.l, .slice q.L' x.lit.keys.length q.l', .slice q.A x.args.length q.c] 30)) := (Below.refl _ _).alloc (Nat.le_refl _) _
      have HEX5 := Lib.hid ((HEX.out.keep (w' := (wr.alloc (.cells #[.string x.op, .string x.name, .int .i64 x.lit.kind, .bool x.lit.tr, .int .i64 x.lit.num, .string x.lit.str, .slice q.L x.lit.items.length q.l, .slice q.L' x.lit.keys.length q.l', .slice q.A x.args.length q.c] 30))) (fun q2 hq => hW5.block q2 (Nat.lt_of_lt_of_le hq HWR.out.size))).wide (S' := (· < (wr.alloc (.cells #[.string x.op, .string x.name, .int .i64 x.lit.kind, .bool x.lit.tr, .int .i64 x.lit.num, .string x.lit.str, .slice q.L x.lit.items.length q.l, .slice q.L' x.lit.keys.length q.l', .slice q.A x.args.length q.c] 30)).heap.size)) (fun q2 hq => by have h1 : q2 < w.heap.size := hq; have h2 := HWR.out.size; have h3 := hW5.size; show q2 < _; omega))
      have HC5 := Lib.hid (HCS.out.onto hW5)
      have HE5 := Lib.hid (HKB.out.onto hW5)
      have HA5 := Lib.hid (HKA.out.onto hW5)
      have HBl5 := Lib.hid (HBl.out.trans (hW5.mono (by omega)))
      have b0 := hB5.cell 0
      have b1 := hB5.cell 1
      have b2 := hB5.cell 2
      have b3 := hB5.cell 3
      have b4 := hB5.cell 4
      have b5 := hB5.cell 5
      have b6 := hB5.cell 6
      have b7 := hB5.cell 7
      have b8 := hB5.cell 8
      have e0 := HE5.out.cell 0
      have e1 := HE5.out.cell 1
      have e2 := HE5.out.cell 2
      clear hB5 hW5 p0 p1 p2 p3 p4 p5 p6 p7 p8
      generalize (wr.alloc (.cells #[.string x.op, .string x.name, .int .i64 x.lit.kind, .bool x.lit.tr, .int .i64 x.lit.num, .string x.lit.str, .slice q.L x.lit.items.length q.l, .slice q.L' x.lit.keys.length q.l', .slice q.A x.args.length q.c] 30)) = W5 at *
      generalize wr.heap.size = g5 at *
      have HCC := Lib.hid (show Calls Tryz.prog 39 #[.agg #[.string x.op, .string x.name, .int .i64 x.lit.kind, .bool x.lit.tr, .int .i64 x.lit.num, .string x.lit.str, .slice q.L x.lit.items.length q.l, .slice q.L' x.lit.keys.length q.l', .slice q.A x.args.length q.c], .agg #[.int .i64 (This : Int), .slice none 0 0, .slice none 0 0]] W5 fun en w' => en = .returned (.tuple #[.int .i64 (v : Int), .int .i64 0]) ∧ Below W5.heap.size W5 w' from HCK.out W5 HEX5.out)
      clear HCK
      go_wp2_with fail
      refine HCC.out.mono ?_
      rintro en w6 ⟨rfl, hb6⟩
      have h5s := HBl5.out.size
      have HC6 := Lib.hid (HC5.out.onto hb6)
      have HBl6 := Lib.hid (HBl5.out.trans (hb6.mono (by omega)))
      have hkcs : k < cs.size := by rw [HCZ.out]; exact hlt
      have z0 : w6.cell? ⟨W1.heap.size, k, none⟩ = some cs[k] := by rw [HC6.out.cell k, Array.getElem?_eq_getElem hkcs]
      have x0 := HC6.out.free k
      generalize cs[k] = old at *
      clear hb6 b0 b1 b2 b3 b4 b5 b6 b7 b8 e0 e1 e2 h5s
      go_wp2_with fail
      go_roundw
      case rel =>
        refine ⟨k + 1, hlt, ?_, ⟨_, HC6.out.set_ k _, ?_, ?_⟩, HBl6.out.setCell (p := ⟨W1.heap.size, k, none⟩) (Nat.le_refl _) _⟩
        · go_num
        · rw [Array.size_setIfInBounds]; exact HCZ.out
        · intro i v' hi hv'
          rcases Nat.lt_or_ge i k with h | h
          · rw [Array.getElem?_setIfInBounds_ne (by omega)]; exact HCI.out i v' h hv'
          · obtain rfl : i = k := by omega
            rw [HV.out] at hv'
            injection hv' with hv'
            subst hv'
            rw [Array.getElem?_setIfInBounds_self_of_lt hkcs]
      case measure => simp [intOf]; omega
    · obtain rfl : k = vs.length := by omega
      have u1 : decide (vs.length < vs.length) = false := decide_eq_false (by omega)
      have u2 : decide ((vs.length : Int) < (vs.length : Int)) = false := decide_eq_false (by omega)
      have HSR := Lib.hid (show SRow wr W1.heap.size 0 vs from ⟨HCS.out.lt, fun i v hv => by
        rw [Nat.zero_add, HCS.out.cell]
        exact HCI.out i v (List.getElem?_eq_some_iff.1 hv).1 hv⟩)
      have a0 := HKA.out.cell 0
      have HDD := Lib.hid (HDN.out _ _ HSR.out)
      generalize W1.heap.size = q1 at *
      go_wp2_with fail
      refine HDD.out.mono ?_
      rintro en w4 ⟨rfl, hb4⟩
      have HB4 := Lib.hid (HWR.out.trans (hb4.mono HWR.out.size))
      clear hb4 a0
      go_wp2_with fail
      go_ret2
      exact ⟨rfl, HB4.out⟩
end Go.Proofs.YtikfmgedmiocgaaGreatDoor
namespace Go.Proofs.YtikfmgedmiocgaaGreatDoor
open Go.RowKit
open Tk Ex
set_option linter.unusedVariables false

theorem check_awk9 : CheckAt 63 awk9 4 := by
  refine check_op 63 awk9 [63, 4] 4 rfl (by decide) (by rw [ByteArray.toList_eq]; rfl) (by rw [ByteArray.toList_eq]; rfl) (by rw [ByteArray.toList_eq]; rfl) ?_ ?_
  · intro i x v hx hv
    rcases i with _ | _ | i
    · injection hx with hx
      injection hv with hv
      subst hx hv
      refine check_op 63 _ [63] 63 rfl (by decide) (by rw [ByteArray.toList_eq]; rfl) (by rw [ByteArray.toList_eq]; rfl) (by rw [ByteArray.toList_eq]; rfl) ?_ ?_
      · intro i x v hx hv
        rcases i with _ | i
        · injection hx with hx
          injection hv with hv
          subst hx hv
          exact check_this 63
        · simp at hv
      · intro b w1 h
        exact odone_get 63 b 1 w1 (by decide) h
    · injection hx with hx
      injection hv with hv
      subst hx hv
      exact check_lit 63 1
    · simp at hv
  · intro b w1 h
    exact odone_plus 63 4 b 2 w1 (by decide) (by decide) h
set_option maxRecDepth 100000 in
set_option maxHeartbeats 4000000 in
theorem awake9_any (w : World) (hr : RangeErr w) : Calls Tryz.prog 14 #[] w fun e w' => e = .returned (.bool true) ∧ Below w.heap.size w w' := by
  have HP := Lib.hid (show Calls Tryz.prog 8 #[.string ⟨#[116, 104, 105, 115, 46, 97, 32, 43, 32, 49]⟩] w (ReadP (.ok awk9 0) w) from xparse_short _ w (by decide) hr _ parse_awk9)
  clear hr
  go_enter Tryz.func14, Tryz.ntmps14
  go_wp2_with fail
  refine HP.out.mono ?_
  intro e w1 hrd
  obtain ⟨⟨hL, hl1, hL', hl2, hA1, hc1⟩, rfl, hev, hb1⟩ := hrd
  have hecs : ecs awk9 ⟨hL, hl1, hL', hl2, hA1, hc1⟩ = #[.string ⟨#[43]⟩, .string ⟨#[]⟩, .int .i64 0, .bool false, .int .i64 0, .string ⟨#[]⟩, .slice hL 0 hl1, .slice hL' 0 hl2, .slice hA1 2 hc1] := rfl
  have HCK := Lib.hid (fun (w5 : World) (hv : EV w5 (· < w5.heap.size) awk9 ⟨hL, hl1, hL', hl2, hA1, hc1⟩) => check_awk9 ⟨hL, hl1, hL', hl2, hA1, hc1⟩ w5 hv)
  have HEV := Lib.hid (hev.wide (S' := (· < w1.heap.size)) fun q hq => hq.2)
  have HB1 := Lib.hid hb1
  clear hev hb1
  rw [hecs] at HCK
  rw [hecs]
  clear hecs
  go_upto_region 2 with fail
  change Code.wp _ _ _ _ (w1.alloc (.cells #[.string ⟨#[43]⟩, .string ⟨#[]⟩, .int .i64 0, .bool false, .int .i64 0, .string ⟨#[]⟩, .slice hL 0 hl1, .slice hL' 0 hl2, .slice hA1 2 hc1] 30))
  have hB : Blk (w1.alloc (.cells #[.string ⟨#[43]⟩, .string ⟨#[]⟩, .int .i64 0, .bool false, .int .i64 0, .string ⟨#[]⟩, .slice hL 0 hl1, .slice hL' 0 hl2, .slice hA1 2 hc1] 30)) w1.heap.size 30 #[.string ⟨#[43]⟩, .string ⟨#[]⟩, .int .i64 0, .bool false, .int .i64 0, .string ⟨#[]⟩, .slice hL 0 hl1, .slice hL' 0 hl2, .slice hA1 2 hc1] := Blk.new w1 _ _
  have hW : Below w1.heap.size w1 (w1.alloc (.cells #[.string ⟨#[43]⟩, .string ⟨#[]⟩, .int .i64 0, .bool false, .int .i64 0, .string ⟨#[]⟩, .slice hL 0 hl1, .slice hL' 0 hl2, .slice hA1 2 hc1] 30)) := (Below.refl _ _).alloc (Nat.le_refl _) _
  have HEV2 := Lib.hid (HEV.out.on hW)
  have HW := Lib.hid (HB1.out.trans (hW.mono HB1.out.size))
  generalize (w1.alloc (.cells #[.string ⟨#[43]⟩, .string ⟨#[]⟩, .int .i64 0, .bool false, .int .i64 0, .string ⟨#[]⟩, .slice hL 0 hl1, .slice hL' 0 hl2, .slice hA1 2 hc1] 30)) = W at *
  generalize w1.heap.size = g at *
  have a0 := hB.cell 0
  have a1 := hB.cell 1
  have a2 := hB.cell 2
  have a3 := hB.cell 3
  have a4 := hB.cell 4
  have a5 := hB.cell 5
  have a6 := hB.cell 6
  have a7 := hB.cell 7
  have a8 := hB.cell 8
  have HPP := Lib.hid (HCK.out W HEV2.out)
  clear hB hW
  go_wp2_with fail
  refine HPP.out.mono ?_
  rintro e w4 ⟨rfl, hb4⟩
  have HW4 := Lib.hid (HW.out.trans (hb4.mono HW.out.size))
  clear hb4 a0 a1 a2 a3 a4 a5 a6 a7 a8
  go_wp2_with fail
  refine (xnumber_any 1 _).mono ?_
  rintro e w5 ⟨rfl, hb5⟩
  have HW5 := Lib.hid (HW4.out.trans (hb5.mono HW4.out.size))
  clear hb5
  go_wp2_with fail
  refine (oof_any 2 _ _ _ _ _ _).mono ?_
  rintro e w6 ⟨rfl, hb6⟩
  have HW6 := Lib.hid (HW5.out.trans (hb6.mono HW5.out.size))
  clear hb6
  rw [show onlyN 2 = 4 from rfl]
  go_wp2_with fail
  go_ret
  exact ⟨rfl, HW6.out⟩
/-- a number's binary digit -/
def bitN (n k : Nat) : Bool := decide (n / 2 ^ k % 2 = 1)
theorem has_bit : ∀ (s : Fin 64) (k : Fin 6), hasN s.val (k.val : Int) = bitN s.val k.val := by decide +kernel
theorem half_next (n k : Nat) : n / 2 ^ (k + 1) = n / 2 ^ k / 2 := by rw [Nat.pow_succ, Nat.div_div_eq_div_mul]
theorem six_of {cs : Array Value} {f : Nat → Bool} (hz : cs.size = 6) (h : ∀ i, i < 6 → cs[i]? = some (.bool (f i))) : cs = #[.bool (f 0), .bool (f 1), .bool (f 2), .bool (f 3), .bool (f 4), .bool (f 5)] := by
  apply Array.ext_getElem?
  intro i
  rcases Nat.lt_or_ge i 6 with hi | hi
  · rw [h i hi]
    rcases (by omega : i = 0 ∨ i = 1 ∨ i = 2 ∨ i = 3 ∨ i = 4 ∨ i = 5) with rfl | rfl | rfl | rfl | rfl | rfl <;> rfl
  · rw [Array.getElem?_eq_none (by omega), Array.getElem?_eq_none (by simp; omega)]
set_option maxRecDepth 100000 in
set_option maxHeartbeats 4000000 in
theorem r9of_any (n : Nat) (w : World) (hn : n < 64) : Calls Tryz.prog 15 #[.int .i64 (n : Int)] w fun e w' => e = .returned (.agg #[.bool (bitN n 0), .bool (bitN n 1), .bool (bitN n 2), .bool (bitN n 3), .bool (bitN n 4), .bool (bitN n 5)]) ∧ Below w.heap.size w w' := by
  go_enter Tryz.func15, Tryz.ntmps15
  go_upto_region 3 with fail
  have hW : Below w.heap.size w ((w.alloc (.cells #[.bool false, .bool false, .bool false, .bool false, .bool false, .bool false] 47)).alloc (.cells #[.bool false, .bool false, .bool false, .bool false, .bool false, .bool false] 47)) := ((Below.refl _ _).alloc (Nat.le_refl _) _).alloc (by simp) _
  have kA : Blk ((w.alloc (.cells #[.bool false, .bool false, .bool false, .bool false, .bool false, .bool false] 47)).alloc (.cells #[.bool false, .bool false, .bool false, .bool false, .bool false, .bool false] 47)) w.heap.size 47 #[.bool false, .bool false, .bool false, .bool false, .bool false, .bool false] := (Blk.new w _ _).alloc _
  have kB : Blk ((w.alloc (.cells #[.bool false, .bool false, .bool false, .bool false, .bool false, .bool false] 47)).alloc (.cells #[.bool false, .bool false, .bool false, .bool false, .bool false, .bool false] 47)) (w.heap.size + 1) 47 #[.bool false, .bool false, .bool false, .bool false, .bool false, .bool false] := by
    have := Blk.new (w.alloc (.cells #[.bool false, .bool false, .bool false, .bool false, .bool false, .bool false] 47)) 47 #[.bool false, .bool false, .bool false, .bool false, .bool false, .bool false]
    simpa using this
  change Code.wp _ _ _ _ ((w.alloc (.cells #[.bool false, .bool false, .bool false, .bool false, .bool false, .bool false] 47)).alloc (.cells #[.bool false, .bool false, .bool false, .bool false, .bool false, .bool false] 47))
  generalize ((w.alloc (.cells #[.bool false, .bool false, .bool false, .bool false, .bool false, .bool false] 47)).alloc (.cells #[.bool false, .bool false, .bool false, .bool false, .bool false, .bool false] 47)) = W at *
  generalize hg : w.heap.size = g at *
  have HG := Lib.hid hg
  have HW := Lib.hid hW
  have HA := Lib.hid kA
  have HB := Lib.hid kB
  clear hg hW kA kB
  go_loopw [0, 5] (fun a y wr => ∃ k : Nat, k ≤ 6 ∧ y = .int .i64 k ∧ a = .int .i64 ((n / 2 ^ k : Nat) : Int) ∧ (∃ cs, Blk wr (g + 1) 47 cs ∧ cs.size = 6 ∧ ∀ i, i < k → cs[i]? = some (.bool (bitN n i))) ∧ Below (g + 1) W wr) (fun _ y _ => 6 - (intOf y).toNat)
  case atStart => exact ⟨0, by omega, rfl, by simp, ⟨_, HB.out, rfl, fun i h => absurd h (Nat.not_lt_zero i)⟩, Below.refl _ _⟩
  case round =>
    obtain ⟨k, hk, rfl, rfl, ⟨cs, hcs, hcz, hci⟩, hbel⟩ := hrel
    have HCS := Lib.hid hcs
    have HCI := Lib.hid hci
    have HCZ := Lib.hid hcz
    have HBl := Lib.hid hbel
    clear hcs hci hcz hbel
    by_cases hlt : k < 6
    · have u1 : decide (k < 6) = true := decide_eq_true hlt
      have u2 : decide ((k : Int) < 6) = true := decide_eq_true (by omega)
      have i1 : (k : Int) < 6 := by omega
      have i2 : (0 : Int) ≤ (k : Int) := by omega
      have hkcs : k < cs.size := by rw [HCZ.out]; exact hlt
      have z0 : wr.cell? ⟨g + 1, k, none⟩ = some cs[k] := by rw [HCS.out.cell k, Array.getElem?_eq_getElem hkcs]
      have x0 := HCS.out.free k
      generalize cs[k] = old at *
      have HBT := Lib.hid (show bitN n k = decide (n / 2 ^ k % 2 = 1) from rfl)
      have HNX := Lib.hid (half_next n k)
      have hm64 : n / 2 ^ k < 64 := Nat.lt_of_le_of_lt (Nat.div_le_self _ _) hn
      generalize n / 2 ^ k = m at *
      have e1 : ((m : Int) % 2 == 1) = bitN n k := by
        rw [HBT.out]
        by_cases h : m % 2 = 1
        · rw [decide_eq_true h, beq_iff_eq]; omega
        · rw [decide_eq_false h, beq_eq_false_iff_ne]; omega
      have e2 : (m : Int).tmod 2 = (m : Int) % 2 := Int.tmod_eq_emod_of_nonneg (by omega)
      have e3 : (m : Int).tdiv 2 = ((m / 2 : Nat) : Int) := by rw [Int.tdiv_eq_ediv_of_nonneg (by omega)]; omega
      have e4 : (m : Int) / 2 = ((m / 2 : Nat) : Int) := by omega
      have e5 : ((m : Int).tmod 2 == 1) = bitN n k := by rw [e2]; exact e1
      have e6 : IntKind.i64.wrap ((m : Int).tdiv 2) = ((m / 2 : Nat) : Int) := by rw [e3]; exact IntWalk.i64_in _ (by omega)
      have e7 : IntKind.i64.wrap ((m : Int) / 2) = ((m / 2 : Nat) : Int) := by rw [e4]; exact IntWalk.i64_in _ (by omega)
      clear e2 e3 e4
      go_wp2_with fail
      go_roundw
      case rel =>
        refine ⟨k + 1, hlt, by go_num, by rw [HNX.out]; congr 1, ⟨_, HCS.out.set_ k _, ?_, ?_⟩, HBl.out.setCell (p := ⟨g + 1, k, none⟩) (Nat.le_refl _) _⟩
        · rw [Array.size_setIfInBounds]; exact HCZ.out
        · intro i hi
          rcases Nat.lt_or_ge i k with h | h
          · rw [Array.getElem?_setIfInBounds_ne (by omega)]; exact HCI.out i h
          · obtain rfl : i = k := by omega
            rw [Array.getElem?_setIfInBounds_self_of_lt hkcs]
      case measure => simp [intOf]; omega
    · obtain rfl : k = 6 := by omega
      have hcs6 := six_of HCZ.out HCI.out
      have HC6 := Lib.hid (show Blk wr (g + 1) 47 #[.bool (bitN n 0), .bool (bitN n 1), .bool (bitN n 2), .bool (bitN n 3), .bool (bitN n 4), .bool (bitN n 5)] by rw [← hcs6]; exact HCS.out)
      have HA6 := Lib.hid (show Blk wr g 47 #[.bool false, .bool false, .bool false, .bool false, .bool false, .bool false] from (HBl.out.block g (by omega)).trans HA.out)
      have HWR := Lib.hid (HW.out.trans (HBl.out.mono (by omega)))
      clear hcs6
      have c0 := HC6.out.cell 0
      have c1 := HC6.out.cell 1
      have c2 := HC6.out.cell 2
      have c3 := HC6.out.cell 3
      have c4 := HC6.out.cell 4
      have c5 := HC6.out.cell 5
      have d0 := HA6.out.cell 0
      have d1 := HA6.out.cell 1
      have d2 := HA6.out.cell 2
      have d3 := HA6.out.cell 3
      have d4 := HA6.out.cell 4
      have d5 := HA6.out.cell 5
      have x0 := HA6.out.free 0
      have x1 := HA6.out.free 1
      have x2 := HA6.out.free 2
      have x3 := HA6.out.free 3
      have x4 := HA6.out.free 4
      have x5 := HA6.out.free 5
      go_wp2_with fail
      refine bodyPost_ret (v := .agg #[.bool (bitN n 0), .bool (bitN n 1), .bool (bitN n 2), .bool (bitN n 3), .bool (bitN n 4), .bool (bitN n 5)]) (by simp [results, Tryz.results15, go_sem, d0, d1, d2, d3, d4, d5]) rfl ⟨rfl, ?_⟩
      rw [HG.out]
      exact (((((HWR.out.setCell (Nat.le_refl _) _).setCell (Nat.le_refl _) _).setCell (Nat.le_refl _) _).setCell (Nat.le_refl _) _).setCell (Nat.le_refl _) _).setCell (Nat.le_refl _) _
end Go.Proofs.YtikfmgedmiocgaaGreatDoor
