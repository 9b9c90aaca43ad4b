/- Isos: what their names stand for. Isos: leaves: numbers, texts, their copies. Isos: ways of numbers: plus and show, there and back. Isos: ways of numbers: read. Isos: ways of numbers that lead nowhere. -/
import Derived.Deep.DeepCutAuto
import Derived.Deep.RegionLaw
import Derived.Laws.EntriesVeiled
import Derived.Test.YtfiahpeajccinaaGreatDoorPA
import Derived.Test.YtfiahpeajccinaaGreatDoorPB
import Derived.Test.YtfiahpeajccinaaGreatDoorPC
import Derived.Deep.RegionHeld3
namespace Go.Proofs.YtfiahpeajccinaaGreatDoor
open Go.RowKit
open Tk Ex
set_option linter.unusedVariables false
set_option linter.unusedSimpArgs false

theorem tl_lit2 {s : ByteArray} {t : ByteArray} {l : List UInt8} {r : Bool} (hl : t.data.toList = l) (h : eqb s t = r) : (s.toList == l) = r := by
  rw [ByteArray.toList_eq, ← hl]; exact h
theorem alloc_gz {w : World} {cs : Array Value} {t : TypeId} {P : World → Prop} (h : ∀ W, Below w.heap.size w W → Blk W w.heap.size t cs → P W) : P (w.alloc (.cells cs t)) := h _ ((Below.refl _ _).alloc (Nat.le_refl _) _) (Blk.new w _ _)
theorem below_put3 {B b : Nat} {w w' : World} (h : Below B w w') (hb : B ≤ b) (v0 v1 v2 : Value) : Below B w (((w'.setCell ⟨b, 0, none⟩ v0).setCell ⟨b, 1, none⟩ v1).setCell ⟨b, 2, none⟩ v2) := ((h.setCell (p := ⟨b, 0, none⟩) hb v0).setCell (p := ⟨b, 1, none⟩) hb v1).setCell (p := ⟨b, 2, none⟩) hb v2
/-- which iso has the name: 11 is none -/
def kindN (s : ByteArray) : Nat :=
  if eqb s Iz.negW = true then 0
  else if eqb s Iz.plusW = true then 1
  else if eqb s Iz.timesW = true then 2
  else if eqb s Iz.flipW = true then 3
  else if eqb s Iz.revW = true then 4
  else if eqb s Iz.swapW = true then 5
  else if eqb s Iz.boxW = true then 6
  else if eqb s Iz.tagW = true then 7
  else if eqb s Iz.showW = true then 8
  else if eqb s Iz.charsW = true then 9
  else if eqb s Iz.pairsW = true then 10
  else 11
/-- a function of the program, as a value -/
def wayV (f : Nat) : Value := .func (.func f) #[] #[]
/-- what isos of a name use, and their ways -/
def useN : Nat → Nat
  | 0 => 1
  | 1 => 2
  | 2 => 3
  | 3 => 1
  | 4 => 1
  | 5 => 1
  | 6 => 1
  | 7 => 4
  | 8 => 1
  | 9 => 1
  | 10 => 1
  | _ => 0
def thereN : Nat → Nat
  | 0 => 38
  | 1 => 39
  | 2 => 41
  | 3 => 43
  | 4 => 44
  | 5 => 45
  | 6 => 46
  | 7 => 48
  | 8 => 50
  | 9 => 52
  | 10 => 54
  | _ => 56
def backN : Nat → Nat
  | 0 => 38
  | 1 => 40
  | 2 => 42
  | 3 => 43
  | 4 => 44
  | 5 => 45
  | 6 => 47
  | 7 => 49
  | 8 => 51
  | 9 => 53
  | 10 => 55
  | _ => 56
def kindV (k : Nat) : Value := .agg #[.int .i64 (useN k : Nat), wayV (thereN k), wayV (backN k)]
set_option maxRecDepth 100000 in
set_option maxHeartbeats 4000000 in
theorem kind_any (s : ByteArray) (w : World) : Calls Tryz.prog 23 #[.string s] w fun e w' => e = .returned (kindV (kindN s)) ∧ Below w.heap.size w w' := by
  obtain ⟨b0, h0⟩ : ∃ b, eqb s (⟨#[110, 101, 103]⟩ : ByteArray) = b := ⟨_, rfl⟩
  obtain ⟨b1, h1⟩ : ∃ b, eqb s (⟨#[112, 108, 117, 115]⟩ : ByteArray) = b := ⟨_, rfl⟩
  obtain ⟨b2, h2⟩ : ∃ b, eqb s (⟨#[116, 105, 109, 101, 115]⟩ : ByteArray) = b := ⟨_, rfl⟩
  obtain ⟨b3, h3⟩ : ∃ b, eqb s (⟨#[102, 108, 105, 112]⟩ : ByteArray) = b := ⟨_, rfl⟩
  obtain ⟨b4, h4⟩ : ∃ b, eqb s (⟨#[114, 101, 118]⟩ : ByteArray) = b := ⟨_, rfl⟩
  obtain ⟨b5, h5⟩ : ∃ b, eqb s (⟨#[115, 119, 97, 112]⟩ : ByteArray) = b := ⟨_, rfl⟩
  obtain ⟨b6, h6⟩ : ∃ b, eqb s (⟨#[98, 111, 120]⟩ : ByteArray) = b := ⟨_, rfl⟩
  obtain ⟨b7, h7⟩ : ∃ b, eqb s (⟨#[116, 97, 103]⟩ : ByteArray) = b := ⟨_, rfl⟩
  obtain ⟨b8, h8⟩ : ∃ b, eqb s (⟨#[115, 104, 111, 119]⟩ : ByteArray) = b := ⟨_, rfl⟩
  obtain ⟨b9, h9⟩ : ∃ b, eqb s (⟨#[99, 104, 97, 114, 115]⟩ : ByteArray) = b := ⟨_, rfl⟩
  obtain ⟨b10, h10⟩ : ∃ b, eqb s (⟨#[112, 97, 105, 114, 115]⟩ : ByteArray) = b := ⟨_, rfl⟩
  have f0 : (s.toList == [110, 101, 103]) = b0 := tl_lit2 rfl h0
  have g0 : (s.toList == (⟨#[110, 101, 103]⟩ : ByteArray).toList) = b0 := by rw [tl_eqb]; exact h0
  have f1 : (s.toList == [112, 108, 117, 115]) = b1 := tl_lit2 rfl h1
  have g1 : (s.toList == (⟨#[112, 108, 117, 115]⟩ : ByteArray).toList) = b1 := by rw [tl_eqb]; exact h1
  have f2 : (s.toList == [116, 105, 109, 101, 115]) = b2 := tl_lit2 rfl h2
  have g2 : (s.toList == (⟨#[116, 105, 109, 101, 115]⟩ : ByteArray).toList) = b2 := by rw [tl_eqb]; exact h2
  have f3 : (s.toList == [102, 108, 105, 112]) = b3 := tl_lit2 rfl h3
  have g3 : (s.toList == (⟨#[102, 108, 105, 112]⟩ : ByteArray).toList) = b3 := by rw [tl_eqb]; exact h3
  have f4 : (s.toList == [114, 101, 118]) = b4 := tl_lit2 rfl h4
  have g4 : (s.toList == (⟨#[114, 101, 118]⟩ : ByteArray).toList) = b4 := by rw [tl_eqb]; exact h4
  have f5 : (s.toList == [115, 119, 97, 112]) = b5 := tl_lit2 rfl h5
  have g5 : (s.toList == (⟨#[115, 119, 97, 112]⟩ : ByteArray).toList) = b5 := by rw [tl_eqb]; exact h5
  have f6 : (s.toList == [98, 111, 120]) = b6 := tl_lit2 rfl h6
  have g6 : (s.toList == (⟨#[98, 111, 120]⟩ : ByteArray).toList) = b6 := by rw [tl_eqb]; exact h6
  have f7 : (s.toList == [116, 97, 103]) = b7 := tl_lit2 rfl h7
  have g7 : (s.toList == (⟨#[116, 97, 103]⟩ : ByteArray).toList) = b7 := by rw [tl_eqb]; exact h7
  have f8 : (s.toList == [115, 104, 111, 119]) = b8 := tl_lit2 rfl h8
  have g8 : (s.toList == (⟨#[115, 104, 111, 119]⟩ : ByteArray).toList) = b8 := by rw [tl_eqb]; exact h8
  have f9 : (s.toList == [99, 104, 97, 114, 115]) = b9 := tl_lit2 rfl h9
  have g9 : (s.toList == (⟨#[99, 104, 97, 114, 115]⟩ : ByteArray).toList) = b9 := by rw [tl_eqb]; exact h9
  have f10 : (s.toList == [112, 97, 105, 114, 115]) = b10 := tl_lit2 rfl h10
  have g10 : (s.toList == (⟨#[112, 97, 105, 114, 115]⟩ : ByteArray).toList) = b10 := by rw [tl_eqb]; exact h10
  have HR := Lib.hid (show kindN s = (if b0 = true then 0 else if b1 = true then 1 else if b2 = true then 2 else if b3 = true then 3 else if b4 = true then 4 else if b5 = true then 5 else if b6 = true then 6 else if b7 = true then 7 else if b8 = true then 8 else if b9 = true then 9 else if b10 = true then 10 else 11) by unfold kindN Iz.negW Iz.plusW Iz.timesW Iz.flipW Iz.revW Iz.swapW Iz.boxW Iz.tagW Iz.showW Iz.charsW Iz.pairsW; simp only [h0, h1, h2, h3, h4, h5, h6, h7, h8, h9, h10])
  clear h0 h1 h2 h3 h4 h5 h6 h7 h8 h9 h10
  generalize kindN s = z at *
  cases b0
  cases b1
  cases b2
  cases b3
  cases b4
  cases b5
  cases b6
  cases b7
  cases b8
  cases b9
  cases b10
  all_goals
    go_enter Tryz.func23, Tryz.ntmps23
    go_upto_region 1 with fail
    refine alloc_gz (fun W hW hB => ?_)
    have c0 := hB.cell 0
    have c1 := hB.cell 1
    have c2 := hB.cell 2
    have f0 := hB.free 0
    have f1 := hB.free 1
    have f2 := hB.free 2
    have HW := Lib.hid hW
    clear hW hB
    go_wp2_with fail
    refine bodyPost_ret (v := kindV z) (by rw [HR.out]; simp [results, Tryz.results23, go_sem, kindV, useN, thereN, backN, wayV, c0, c1, c2]) rfl ⟨rfl, ?_⟩
    exact below_put3 HW.out (Nat.le_refl _) _ _ _
end Go.Proofs.YtfiahpeajccinaaGreatDoor
namespace Go.Proofs.YtfiahpeajccinaaGreatDoor
open Go.RowKit
open Tk Ex
set_option linter.unusedVariables false
set_option linter.unusedSimpArgs false

theorem alloc2_gz {w : World} {cs ds : Array Value} {t u : TypeId} {P : World → Prop} (h : ∀ W, Below w.heap.size w W → Blk W w.heap.size t cs → Blk W (w.heap.size + 1) u ds → RowKit.Hid (W.heap.size = w.heap.size + 1 + 1) → P W) : P ((w.alloc (.cells cs t)).alloc (.cells ds u)) := by
  have h1 : (w.alloc (.cells cs t)).heap.size = w.heap.size + 1 := by simp
  have h2 : Blk ((w.alloc (.cells cs t)).alloc (.cells ds u)) (w.heap.size + 1) u ds := by
    have := Blk.new (w.alloc (.cells cs t)) u ds
    rw [h1] at this
    exact this
  exact h _ (((Below.refl _ _).alloc (Nat.le_refl _) _).alloc (by simp) _) ((Blk.new w _ _).alloc _) h2 (Lib.hid (by simp))
def slLen : Value → Nat
  | .slice _ n _ => n
  | _ => 0
theorem below_iz6 {B b : Nat} {w w' : World} (h : Below B w w') (hb : B ≤ b) (v0 v1 v2 v3 v4 v5 : Value) :
    Below B w ((((((w'.setCell ⟨b, 0, none⟩ v0).setCell ⟨b, 1, none⟩ v1).setCell ⟨b, 2, none⟩ v2).setCell ⟨b, 3, none⟩ v3).setCell ⟨b, 4, none⟩ v4).setCell ⟨b, 5, none⟩ v5) :=
  (((((h.setCell (p := ⟨b, 0, none⟩) hb v0).setCell (p := ⟨b, 1, none⟩) hb v1).setCell (p := ⟨b, 2, none⟩) hb v2).setCell (p := ⟨b, 3, none⟩) hb v3).setCell (p := ⟨b, 4, none⟩) hb v4).setCell (p := ⟨b, 5, none⟩) hb v5
set_option maxRecDepth 100000 in
set_option maxHeartbeats 2000000 in
theorem vnum_any (n : Int) (w : World) : Calls Tryz.prog 18 #[.int .i64 n] w fun e w' => e = .returned (.agg #[.int .i64 2, .bool false, .int .i64 n, .string ⟨#[]⟩, .slice none 0 0, .slice none 0 0]) ∧ Below w.heap.size w w' := by
  go_enter Tryz.func18, Tryz.ntmps18
  go_upto_region 1 with fail
  refine alloc_gz (fun W hW hB => ?_)
  have c0 := hB.cell 0
  have c1 := hB.cell 1
  have c2 := hB.cell 2
  have c3 := hB.cell 3
  have c4 := hB.cell 4
  have c5 := hB.cell 5
  have f0 := hB.free 0
  have f1 := hB.free 1
  have f2 := hB.free 2
  have f3 := hB.free 3
  have f4 := hB.free 4
  have f5 := hB.free 5
  have HW := Lib.hid hW
  clear hW hB
  go_wp2_with fail
  refine bodyPost_ret (v := .agg #[.int .i64 2, .bool false, .int .i64 n, .string ⟨#[]⟩, .slice none 0 0, .slice none 0 0]) (by simp [results, Tryz.results18, go_sem, c0, c1, c2, c3, c4, c5]) rfl ⟨rfl, ?_⟩
  exact below_iz6 HW.out (Nat.le_refl _) _ _ _ _ _ _
set_option maxRecDepth 100000 in
set_option maxHeartbeats 2000000 in
theorem vtext_iz (s : ByteArray) (w : World) : Calls Tryz.prog 20 #[.string s] w fun e w' => e = .returned (.agg #[.int .i64 3, .bool false, .int .i64 0, .string s, .slice none 0 0, .slice none 0 0]) ∧ Below w.heap.size w w' := by
  go_enter Tryz.func20, Tryz.ntmps20
  go_upto_region 1 with fail
  refine alloc_gz (fun W hW hB => ?_)
  have c0 := hB.cell 0
  have c1 := hB.cell 1
  have c2 := hB.cell 2
  have c3 := hB.cell 3
  have c4 := hB.cell 4
  have c5 := hB.cell 5
  have f0 := hB.free 0
  have f1 := hB.free 1
  have f2 := hB.free 2
  have f3 := hB.free 3
  have f4 := hB.free 4
  have f5 := hB.free 5
  have HW := Lib.hid hW
  clear hW hB
  go_wp2_with fail
  refine bodyPost_ret (v := .agg #[.int .i64 3, .bool false, .int .i64 0, .string s, .slice none 0 0, .slice none 0 0]) (by simp [results, Tryz.results20, go_sem, c0, c1, c2, c3, c4, c5]) rfl ⟨rfl, ?_⟩
  exact below_iz6 HW.out (Nat.le_refl _) _ _ _ _ _ _
set_option maxRecDepth 100000 in
set_option maxHeartbeats 2000000 in
theorem clonev_nil (w : World) : Calls Tryz.prog 71 #[.slice none 0 0] w fun e w' => e = .returned (.slice none 0 0) ∧ w = w' := by
  have hq : ∀ w : World, (binOp .eql 49 (.slice none 0 0) (.slice none 0 0)).run Tryz.prog w = .ok (.bool true) w := fun _ => by kernel_rfl
  go_enter Tryz.func71, Tryz.ntmps71
  go_wp2_with fail
  go_ret
  exact ⟨rfl, rfl⟩
set_option maxRecDepth 100000 in
set_option maxHeartbeats 2000000 in
theorem clones_nil (w : World) : Calls Tryz.prog 72 #[.slice none 0 0] w fun e w' => e = .returned (.slice none 0 0) ∧ w = w' := by
  have hq : ∀ w : World, (binOp .eql 50 (.slice none 0 0) (.slice none 0 0)).run Tryz.prog w = .ok (.bool true) w := fun _ => by kernel_rfl
  go_enter Tryz.func72, Tryz.ntmps72
  go_wp2_with fail
  go_ret
  exact ⟨rfl, rfl⟩
set_option maxRecDepth 100000 in
set_option maxHeartbeats 8000000 in
/-- a leaf's copy -/
theorem copied_leaf (kd : Int) (tr : Bool) (nm : Int) (st : ByteArray) (w : World) :
    Calls Tryz.prog 35 #[.agg #[.int .i64 kd, .bool tr, .int .i64 nm, .string st, .slice none 0 0, .slice none 0 0]] w fun e w' => e = .returned (.agg #[.int .i64 kd, .bool tr, .int .i64 nm, .string st, .slice none 0 0, .slice none 0 0]) ∧ Below w.heap.size w w' := by
  go_enter Tryz.func35, Tryz.ntmps35
  go_upto_region 1 with fail
  refine alloc2_gz (fun W1 hW hB0 hR hs1 => ?_)
  have HW := Lib.hid hW
  have HR := Lib.hid hR
  have c0 := hB0.cell 0
  have c1 := hB0.cell 1
  have c2 := hB0.cell 2
  have c3 := hB0.cell 3
  have c4 := hB0.cell 4
  have c5 := hB0.cell 5
  clear hW hB0 hR
  go_upto_region 3 with fail
  refine alloc2_gz (fun W2 hW2 hB3 hB4 hs2 => ?_)
  have HW2 := Lib.hid (HW.out.trans (hW2.mono HW.out.size))
  have HR2 := Lib.hid (HR.out.onto hW2)
  obtain ⟨g, hg⟩ : ∃ g, W1.heap.size = g := ⟨_, rfl⟩
  rw [hg] at hB3 hB4 hs2
  have HG := Lib.hid (show g = w.heap.size + 1 + 1 from hg.symm.trans hs1.out)
  have HB32 := Lib.hid hB3
  have HB42 := Lib.hid hB4
  rw [hg]
  clear hW2 hB3 hB4 hg hs1 hs2 c0 c1 c2 c3 c4 c5
  go_loopw [4] (fun v wr => ∃ k, k ≤ 1 ∧ v = .slice (some ⟨g + 1, 0, none⟩) k 1 ∧ Blk wr g 52 #[.int .i64 kd, .bool tr, .int .i64 nm, .string st, .slice none 0 0, .slice none 0 0] ∧ Blk wr (g + 1) 49 #[.slice (some ⟨g, 0, none⟩) 1 1] ∧ Blk wr (w.heap.size + 1) 52 #[.int .i64 0, .bool false, .int .i64 0, .string ⟨#[]⟩, .slice none 0 0, .slice none 0 0] ∧ Below w.heap.size w wr) (fun v _ => slLen v)
  case atStart => exact ⟨1, Nat.le_refl _, rfl, HB32.out, HB42.out, HR2.out, HW2.out⟩
  case round =>
    obtain ⟨k, hk, rfl, hb3, hb4, hr, hw⟩ := hrel
    have HB3 := Lib.hid hb3
    have HB4 := Lib.hid hb4
    have HR := Lib.hid hr
    have HW := Lib.hid hw
    clear hb3 hb4 hr hw HB32 HB42 HR2 HW2
    rcases (by omega : k = 0 ∨ k = 1) with rfl | rfl
    · have r0 := HR.out.cell 0
      have r1 := HR.out.cell 1
      have r2 := HR.out.cell 2
      have r3 := HR.out.cell 3
      have r4 := HR.out.cell 4
      have r5 := HR.out.cell 5
      have q0 := HR.out.free 0
      have q1 := HR.out.free 1
      have q2 := HR.out.free 2
      have q3 := HR.out.free 3
      have q4 := HR.out.free 4
      have q5 := HR.out.free 5
      have c0 := HB3.out.cell 0
      have c1 := HB3.out.cell 1
      have c2 := HB3.out.cell 2
      have c3 := HB3.out.cell 3
      have c4 := HB3.out.cell 4
      have c5 := HB3.out.cell 5
      go_wp2_with fail
      refine bodyPost_ret (v := .agg #[.int .i64 kd, .bool tr, .int .i64 nm, .string st, .slice none 0 0, .slice none 0 0]) (by simp [results, Tryz.results35, go_sem, r0, r1, r2, r3, r4, r5]) rfl ⟨rfl, ?_⟩
      exact below_iz6 HW.out (Nat.le_succ _) _ _ _ _ _ _
    · have d0 := HB4.out.cell 0
      go_wp2_with fail
      clear d0
      go_loopw [4, 28] (fun v i wr => v = .slice (some ⟨g + 1, 0, none⟩) 0 1 ∧ ∃ j : Nat, j ≤ 1 ∧ i = .int .i64 j ∧ Blk wr g 52 #[.int .i64 kd, .bool tr, .int .i64 nm, .string st, .slice none 0 0, .slice none 0 0] ∧ Blk wr (g + 1) 49 #[.slice (some ⟨g, 0, none⟩) 1 1] ∧ Blk wr (w.heap.size + 1) 52 #[.int .i64 0, .bool false, .int .i64 0, .string ⟨#[]⟩, .slice none 0 0, .slice none 0 0] ∧ Below w.heap.size w wr) (fun _ i _ => 1 - (intOf i).toNat)
      case atStart => exact ⟨rfl, 0, by omega, rfl, HB3.out, HB4.out, HR.out, HW.out⟩
      case round =>
        clear HB3 HB4 HR HW
        obtain ⟨rfl, j, hj, rfl, hb3, hb4, hr, hw⟩ := hrel
        have HB3 := Lib.hid hb3
        have HB4 := Lib.hid hb4
        have HR := Lib.hid hr
        have HW := Lib.hid hw
        clear hb3 hb4 hr hw
        rcases (by omega : j = 0 ∨ j = 1) with rfl | rfl
        · go_upto_region 11 with fail
          have k4 := HB3.out.cell 4
          have k5 := HB3.out.cell 5
          refine wp_region_held_drew (S := fun w' => w'.cell? ⟨g, 4, none⟩ = some (.slice none 0 0) ∧ w'.cell? ⟨g, 5, none⟩ = some (.slice none 0 0)) (by kernel_rfl) ?_ (fun hHeld => ?_)
          · exact ⟨k4, k5⟩
          clear k4 k5
          refine wpAnyH_take (i := 0) (v := ?_) rfl (by kernel_rfl) (by kernel_rfl) (by kernel_rfl) (fun _ _ _ h => h) (Or.inl ⟨by rfl, ?_⟩) (by assumption) ?_
          rotate_left
          · intro wq hSw
            try dsimp only at hSw
            go_simp
            try (with_reducible rfl)
          try simp only [Act.put, List.getElem_toArray, List.getElem_cons_zero, List.setIfInBounds_toArray, List.set_cons_zero, List.set_cons_succ]
          refine wpAnyH_take (i := 1) (v := ?_) rfl (by kernel_rfl) (by kernel_rfl) (by kernel_rfl) (fun _ _ _ h => h) (Or.inl ⟨by rfl, ?_⟩) (by assumption) ?_
          rotate_left
          · intro wq hSw
            try dsimp only at hSw
            go_simp
            try (with_reducible rfl)
          try simp only [Act.put, List.getElem_toArray, List.getElem_cons_succ, List.getElem_cons_zero, List.setIfInBounds_toArray, List.set_cons_zero, List.set_cons_succ]
          refine wpAnyH_take (i := 2) (v := ?_) rfl (by kernel_rfl) (by kernel_rfl) (by kernel_rfl) (fun _ _ _ h => h) (Or.inl ⟨by rfl, ?_⟩) (by assumption) ?_
          rotate_left
          · intro wq hSw
            try dsimp only at hSw
            go_simp
            try (with_reducible rfl)
          try simp only [Act.put, List.getElem_toArray, List.getElem_cons_succ, List.getElem_cons_zero, List.setIfInBounds_toArray, List.set_cons_zero, List.set_cons_succ]
          refine wpAnyH_take (i := 3) (v := ?_) rfl (by kernel_rfl) (by kernel_rfl) (by kernel_rfl) (fun _ _ _ h => h) (Or.inl ⟨by rfl, ?_⟩) (by assumption) ?_
          rotate_left
          · intro wq hSw
            try dsimp only at hSw
            go_simp
            try (with_reducible rfl)
          try simp only [Act.put, List.getElem_toArray, List.getElem_cons_succ, List.getElem_cons_zero, List.setIfInBounds_toArray, List.set_cons_zero, List.set_cons_succ]
          refine wpAnyH_take (i := 4) (v := ?_) rfl (by kernel_rfl) (by kernel_rfl) (by kernel_rfl) (fun _ _ _ h => h) (Or.inl ⟨by rfl, ?_⟩) (by assumption) ?_
          rotate_left
          · intro wq hSw
            try dsimp only at hSw
            go_simp
            try (with_reducible rfl)
          try simp only [Act.put, List.getElem_toArray, List.getElem_cons_succ, List.getElem_cons_zero, List.setIfInBounds_toArray, List.set_cons_zero, List.set_cons_succ]
          refine wpAnyH_take (i := 5) (v := ?_) rfl (by kernel_rfl) (by kernel_rfl) (by kernel_rfl) (fun _ _ _ h => h) (Or.inl ⟨by rfl, ?_⟩) (by assumption) ?_
          rotate_left
          · intro wq hSw
            try dsimp only at hSw
            go_simp
            try (with_reducible rfl)
          try simp only [Act.put, List.getElem_toArray, List.getElem_cons_succ, List.getElem_cons_zero, List.setIfInBounds_toArray, List.set_cons_zero, List.set_cons_succ]
          refine wpAnyH_take (i := 7) (v := ?_) rfl (by kernel_rfl) (by kernel_rfl) (by kernel_rfl) (fun _ _ _ h => h) (Or.inl ⟨by rfl, ?_⟩) (by assumption) ?_
          rotate_left
          · intro wq hSw
            try dsimp only at hSw
            go_simp
            try (with_reducible rfl)
          try simp only [Act.put, List.getElem_toArray, List.getElem_cons_succ, List.getElem_cons_zero, List.setIfInBounds_toArray, List.set_cons_zero, List.set_cons_succ]
          refine wpAnyH_take (i := 8) (v := ?_) rfl (by kernel_rfl) (by kernel_rfl) (by kernel_rfl) (fun _ _ _ h => h) (Or.inl ⟨by rfl, ?_⟩) (by assumption) ?_
          rotate_left
          · intro wq hSw
            try dsimp only at hSw
            go_simp
            try (with_reducible rfl)
          try simp only [Act.put, List.getElem_toArray, List.getElem_cons_succ, List.getElem_cons_zero, List.setIfInBounds_toArray, List.set_cons_zero, List.set_cons_succ]
          refine wpAnyH_take (i := 9) (v := ?_) rfl (by kernel_rfl) (by kernel_rfl) (by kernel_rfl) (fun _ _ _ h => h) (Or.inl ⟨by rfl, ?_⟩) (by assumption) ?_
          rotate_left
          · intro wq hSw
            try dsimp only at hSw
            go_simp
            try (with_reducible rfl)
          try simp only [Act.put, List.getElem_toArray, List.getElem_cons_succ, List.getElem_cons_zero, List.setIfInBounds_toArray, List.set_cons_zero, List.set_cons_succ]
          refine wpAnyH_take (i := 10) (v := ?_) rfl (by kernel_rfl) (by kernel_rfl) (by kernel_rfl) (fun _ _ _ h => h) (Or.inl ⟨by rfl, ?_⟩) (by assumption) ?_
          rotate_left
          · intro wq hSw
            try dsimp only at hSw
            go_simp
            try (with_reducible rfl)
          try simp only [Act.put, List.getElem_toArray, List.getElem_cons_succ, List.getElem_cons_zero, List.setIfInBounds_toArray, List.set_cons_zero, List.set_cons_succ]
          have HB3 := Lib.hid (show Blk wr.drew g 52 #[.int .i64 kd, .bool tr, .int .i64 nm, .string st, .slice none 0 0, .slice none 0 0] from HB3.out)
          have HB4 := Lib.hid (show Blk wr.drew (g + 1) 49 #[.slice (some ⟨g, 0, none⟩) 1 1] from HB4.out)
          have HR := Lib.hid (show Blk wr.drew (w.heap.size + 1) 52 #[.int .i64 0, .bool false, .int .i64 0, .string ⟨#[]⟩, .slice none 0 0, .slice none 0 0] from HR.out)
          have HW := Lib.hid (HW.out.drew)
          generalize wr.drew = W9 at *
          refine wpAnyH_ready (rs := [6]) (by kernel_rfl) (by simp) ?_
          refine AllReadyH.cons rfl (fun K0 hK => ?_) AllReadyH.nil
          go_simp
          refine (clonev_nil _).mono ?_
          rintro e w9 ⟨rfl, rfl⟩
          go_wp2_with fail
          refine hK.out _ _ hHeld (fun hHeld => ?_)
          clear hK K0
          try simp only [Act.put, List.getElem_toArray, List.getElem_cons_succ, List.getElem_cons_zero, List.setIfInBounds_toArray, List.set_cons_zero, List.set_cons_succ]
          refine wpAnyH_ready (rs := [11]) (by kernel_rfl) (by simp) ?_
          refine AllReadyH.cons rfl (fun K0 hK => ?_) AllReadyH.nil
          go_simp
          refine (clones_nil _).mono ?_
          rintro e w9 ⟨rfl, rfl⟩
          go_wp2_with fail
          refine hK.out _ _ hHeld (fun hHeld => ?_)
          clear hK K0
          try simp only [Act.put, List.getElem_toArray, List.getElem_cons_succ, List.getElem_cons_zero, List.setIfInBounds_toArray, List.set_cons_zero, List.set_cons_succ]
          refine wpAnyH_take (i := 12) (v := ?_) rfl (by kernel_rfl) (by kernel_rfl) (by kernel_rfl) (fun _ _ _ h => h) (Or.inl ⟨by rfl, ?_⟩) (by assumption) ?_
          rotate_left
          · intro wq hSw
            try dsimp only at hSw
            go_simp
            try (with_reducible rfl)
          try simp only [Act.put, List.getElem_toArray, List.getElem_cons_succ, List.getElem_cons_zero, List.setIfInBounds_toArray, List.set_cons_zero, List.set_cons_succ]
          refine wpAnyH_take (i := 13) (v := ?_) rfl (by kernel_rfl) (by kernel_rfl) (by kernel_rfl) (fun _ _ _ h => h) (Or.inl ⟨by rfl, ?_⟩) (by assumption) ?_
          rotate_left
          · intro wq hSw
            try dsimp only at hSw
            go_simp
            try (with_reducible rfl)
          try simp only [Act.put, List.getElem_toArray, List.getElem_cons_succ, List.getElem_cons_zero, List.setIfInBounds_toArray, List.set_cons_zero, List.set_cons_succ]
          refine wpAnyH_ready (rs := [14]) (by kernel_rfl) (by simp) ?_
          refine AllReadyH.cons rfl (fun K0 hK => ?_) AllReadyH.nil
          have m4 := HB3.out.cell 4
          have n4 := HB3.out.free 4
          go_simp
          have HB3 := Lib.hid (show Blk _ g 52 #[.int .i64 kd, .bool tr, .int .i64 nm, .string st, .slice none 0 0, .slice none 0 0] from HB3.out.set_ 4 (.slice none 0 0))
          have HB4 := Lib.hid (HB4.out.far (p := ⟨g, 4, none⟩) (show ¬ g + 1 = g by omega) (.slice none 0 0))
          have HR := Lib.hid (HR.out.far (p := ⟨g, 4, none⟩) (show ¬ w.heap.size + 1 = g by have := HG.out; omega) (.slice none 0 0))
          have HW := Lib.hid (HW.out.setCell (p := ⟨g, 4, none⟩) (show w.heap.size ≤ g by have := HG.out; omega) (.slice none 0 0))
          refine hK.out _ _ ⟨HB3.out.cell 4, HB3.out.cell 5⟩ (fun hHeld => ?_)
          clear hK K0 m4 n4
          try simp only [Act.put, List.getElem_toArray, List.getElem_cons_succ, List.getElem_cons_zero, List.setIfInBounds_toArray, List.set_cons_zero, List.set_cons_succ]
          refine wpAnyH_take (i := 15) (v := ?_) rfl (by kernel_rfl) (by kernel_rfl) (by kernel_rfl) (fun _ _ _ h => h) (Or.inl ⟨by rfl, ?_⟩) (by assumption) ?_
          rotate_left
          · intro wq hSw
            try dsimp only at hSw
            go_simp
            try (with_reducible rfl)
          try simp only [Act.put, List.getElem_toArray, List.getElem_cons_succ, List.getElem_cons_zero, List.setIfInBounds_toArray, List.set_cons_zero, List.set_cons_succ]
          refine wpAnyH_take (i := 16) (v := ?_) rfl (by kernel_rfl) (by kernel_rfl) (by kernel_rfl) (fun _ _ _ h => h) (Or.inl ⟨by rfl, ?_⟩) (by assumption) ?_
          rotate_left
          · intro wq hSw
            try dsimp only at hSw
            go_simp
            try (with_reducible rfl)
          try simp only [Act.put, List.getElem_toArray, List.getElem_cons_succ, List.getElem_cons_zero, List.setIfInBounds_toArray, List.set_cons_zero, List.set_cons_succ]
          refine wpAnyH_ready (rs := [17]) (by kernel_rfl) (by simp) ?_
          refine AllReadyH.cons rfl (fun K0 hK => ?_) AllReadyH.nil
          have m5 := HB3.out.cell 5
          have n5 := HB3.out.free 5
          go_simp
          have HB3 := Lib.hid (show Blk _ g 52 #[.int .i64 kd, .bool tr, .int .i64 nm, .string st, .slice none 0 0, .slice none 0 0] from HB3.out.set_ 5 (.slice none 0 0))
          have HB4 := Lib.hid (HB4.out.far (p := ⟨g, 5, none⟩) (show ¬ g + 1 = g by omega) (.slice none 0 0))
          have HR := Lib.hid (HR.out.far (p := ⟨g, 5, none⟩) (show ¬ w.heap.size + 1 = g by have := HG.out; omega) (.slice none 0 0))
          have HW := Lib.hid (HW.out.setCell (p := ⟨g, 5, none⟩) (show w.heap.size ≤ g by have := HG.out; omega) (.slice none 0 0))
          refine hK.out _ _ ⟨HB3.out.cell 4, HB3.out.cell 5⟩ (fun hHeld => ?_)
          clear hK K0 m5 n5
          try simp only [Act.put, List.getElem_toArray, List.getElem_cons_succ, List.getElem_cons_zero, List.setIfInBounds_toArray, List.set_cons_zero, List.set_cons_succ]
          refine wpAnyH_done (by kernel_rfl) ?_ _
          generalize hwz : World.setCell _ _ _ = W8 at *
          have k4 := HB3.out.cell 4
          go_wp2_with fail
          go_roundw
          case rel => exact ⟨rfl, 1, Nat.le_refl _, by go_num, HB3.out, HB4.out, HR.out, HW.out⟩
          case measure => simp [intOf]
        · go_wp2_with fail
          go_roundw
          case rel => exact ⟨0, by omega, rfl, HB3.out, HB4.out, HR.out, HW.out⟩
          case measure => simp [slLen]
end Go.Proofs.YtfiahpeajccinaaGreatDoor
namespace Go.Proofs.YtfiahpeajccinaaGreatDoor
open Go.RowKit
open Tk Ex
set_option linter.unusedVariables false
set_option linter.unusedSimpArgs false

theorem gPow11 : Tryz.prog.globalNamed "internal/strconv.uint64pow10" = some 0 := by kernel_rfl
/-- the library's table of powers lies below B -/
def Tab11 (B : Nat) (w : World) : Prop := 0 < B ∧ Lib.TabIs Tryz.prog w "internal/strconv.uint64pow10" .u64 Lib.pow10Tab
theorem Tab11.on {B : Nat} {w w' : World} (h : Tab11 B w) (hb : Below B w w') : Tab11 B w' := by
  obtain ⟨h1, h2⟩ := h
  refine ⟨h1, ?_⟩
  unfold Lib.TabIs World.var? at h2 ⊢
  rw [gPow11] at h2 ⊢
  simp only [Option.bind_some] at h2 ⊢
  rw [hb.block _ h1]
  exact h2
theorem tab_of11 {w : World} (h : Lib.TabIs Tryz.prog w "internal/strconv.uint64pow10" .u64 Lib.pow10Tab) : Tab11 w.heap.size w := by
  refine ⟨?_, h⟩
  unfold Lib.TabIs World.var? at h
  rw [gPow11] at h
  simp only [Option.bind_some] at h
  rcases Nat.lt_or_ge 0 w.heap.size with hl | hl
  · exact hl
  · rw [Array.getElem?_eq_none hl] at h; cases h
theorem Tab11.raise {B B' : Nat} {w : World} (h : Tab11 B w) (hB : B ≤ B') : Tab11 B' w := ⟨Nat.lt_of_lt_of_le h.1 hB, h.2⟩
theorem alloc3_gz {w : World} {cs ds es : Array Value} {t u v : TypeId} {P : World → Prop} (h : ∀ W, Below w.heap.size w W → Blk W w.heap.size t cs → Blk W (w.heap.size + 1) u ds → Blk W (w.heap.size + 1 + 1) v es → P W) : P (((w.alloc (.cells cs t)).alloc (.cells ds u)).alloc (.cells es v)) := by
  have h1 : (w.alloc (.cells cs t)).heap.size = w.heap.size + 1 := by simp
  have h3 : ((w.alloc (.cells cs t)).alloc (.cells ds u)).heap.size = w.heap.size + 1 + 1 := by simp
  have h2 : Blk ((w.alloc (.cells cs t)).alloc (.cells ds u)) (w.heap.size + 1) u ds := by
    have := Blk.new (w.alloc (.cells cs t)) u ds
    rw [h1] at this
    exact this
  have h4 : Blk (((w.alloc (.cells cs t)).alloc (.cells ds u)).alloc (.cells es v)) (w.heap.size + 1 + 1) v es := by
    have := Blk.new ((w.alloc (.cells cs t)).alloc (.cells ds u)) v es
    rw [h3] at this
    exact this
  exact h _ ((((Below.refl _ _).alloc (Nat.le_refl _) _).alloc (by simp) _).alloc (by simp; omega) _) (((Blk.new w _ _).alloc _).alloc _) (h2.alloc _) h4
set_option maxRecDepth 100000 in
set_option maxHeartbeats 4000000 in
theorem add1_any (n N : Int) (p : Nat) (t : TypeId) (nm ky : ByteArray) (w : World) (hp : Blk w p t #[.string nm, .int .i64 N, .string ky]) (hn : In64 n) (hN : In64 N) (h : In64 (n + N)) :
    Calls Tryz.prog 77 #[.int .i64 n, .pointer (some ⟨p, 0, none⟩)] w fun e w' => e = .returned (.tuple #[.int .i64 (n + N), .int .i64 0]) ∧ w = w' := by
  have c1 := hp.cell 1
  have HC := Lib.hid (W2.add_ok n N w ⟨hn.1, hn.2⟩ ⟨hN.1, hN.2⟩ ⟨h.1, h.2⟩)
  clear hp hn hN h
  go_enter Tryz.func77, Tryz.ntmps77
  go_wp2_with fail
  refine HC.out.mono ?_
  rintro e w' ⟨rfl, rfl⟩
  go_wp2_with fail
  go_ret2
  exact ⟨rfl, rfl⟩
set_option maxRecDepth 100000 in
set_option maxHeartbeats 4000000 in
theorem subtract1_any (n N : Int) (p : Nat) (t : TypeId) (nm ky : ByteArray) (w : World) (hp : Blk w p t #[.string nm, .int .i64 N, .string ky]) (hn : In64 n) (hN : In64 N) (h : In64 (n - N)) :
    Calls Tryz.prog 79 #[.int .i64 n, .pointer (some ⟨p, 0, none⟩)] w fun e w' => e = .returned (.tuple #[.int .i64 (n - N), .int .i64 0]) ∧ w = w' := by
  have c1 := hp.cell 1
  have HC := Lib.hid (W2.sub_ok n N w ⟨hn.1, hn.2⟩ ⟨hN.1, hN.2⟩ ⟨h.1, h.2⟩)
  clear hp hn hN h
  go_enter Tryz.func79, Tryz.ntmps79
  go_wp2_with fail
  refine HC.out.mono ?_
  rintro e w' ⟨rfl, rfl⟩
  go_wp2_with fail
  go_ret2
  exact ⟨rfl, rfl⟩
set_option maxRecDepth 100000 in
set_option maxHeartbeats 4000000 in
theorem reck_any (f : Nat) (p : Addr) (n m : Int) (w : World) (hen : ∀ args w, (callFunc f args).run Tryz.prog w = .ok (.enter f args) w)
    (hf : ∀ w1, Below w.heap.size w w1 → Calls Tryz.prog f #[.int .i64 n, .pointer (some p)] w1 fun e w' => e = .returned (.tuple #[.int .i64 m, .int .i64 0]) ∧ w1 = w') :
    Calls Tryz.prog 75 #[.agg #[.int .i64 2, .bool false, .int .i64 n, .string ⟨#[]⟩, .slice none 0 0, .slice none 0 0], .func (.func f) #[] #[.pointer (some p)]] w fun e w' => e = .returned (.tuple #[.agg #[.int .i64 2, .bool false, .int .i64 m, .string ⟨#[]⟩, .slice none 0 0, .slice none 0 0], .int .i64 0]) ∧ Below w.heap.size w w' := by
  have HF := Lib.hid hf
  clear hf
  go_enter Tryz.func75, Tryz.ntmps75
  go_upto_region 1 with fail
  refine alloc2_gz (fun W hW hB0 hB1 _ => ?_)
  have HW := Lib.hid hW
  have HB1 := Lib.hid hB1
  have c0 := hB0.cell 0
  have c1 := hB0.cell 1
  have c2 := hB0.cell 2
  have c3 := hB0.cell 3
  have c4 := hB0.cell 4
  have c5 := hB0.cell 5
  clear hW hB0 hB1
  go_wp2_with fail
  refine (HF.out _ HW.out).mono ?_
  rintro e w2 ⟨rfl, rfl⟩
  go_wp2_with fail
  refine (vnum_any m _).mono ?_
  rintro e w2 ⟨rfl, hb⟩
  have HW2 := Lib.hid (HW.out.trans (hb.mono HW.out.size))
  have HR := Lib.hid (HB1.out.onto hb)
  clear hb c0 c1 c2 c3 c4 c5
  have c0 := HR.out.cell 0
  have c1 := HR.out.cell 1
  have c2 := HR.out.cell 2
  have c3 := HR.out.cell 3
  have c4 := HR.out.cell 4
  have c5 := HR.out.cell 5
  have f0 := HR.out.free 0
  have f1 := HR.out.free 1
  have f2 := HR.out.free 2
  have f3 := HR.out.free 3
  have f4 := HR.out.free 4
  have f5 := HR.out.free 5
  go_wp2_with fail
  refine bodyPost_ret (v := .tuple #[.agg #[.int .i64 2, .bool false, .int .i64 m, .string ⟨#[]⟩, .slice none 0 0, .slice none 0 0], .int .i64 0]) (by simp [results, Tryz.results75, go_sem, c0, c1, c2, c3, c4, c5]) rfl ⟨rfl, ?_⟩
  exact below_iz6 HW2.out (by omega) _ _ _ _ _ _
set_option maxRecDepth 100000 in
set_option maxHeartbeats 4000000 in
theorem add_any (n N : Int) (nm ky : ByteArray) (w : World) (hn : In64 n) (hN : In64 N) (h : In64 (n + N)) :
    Calls Tryz.prog 39 #[.agg #[.string nm, .int .i64 N, .string ky], .agg #[.int .i64 2, .bool false, .int .i64 n, .string ⟨#[]⟩, .slice none 0 0, .slice none 0 0]] w fun e w' => e = .returned (.tuple #[.agg #[.int .i64 2, .bool false, .int .i64 (n + N), .string ⟨#[]⟩, .slice none 0 0, .slice none 0 0], .int .i64 0]) ∧ Below w.heap.size w w' := by
  have HN := Lib.hid hn
  have HM := Lib.hid hN
  have HS := Lib.hid h
  clear hn hN h
  go_enter Tryz.func39, Tryz.ntmps39
  go_upto_region 1 with fail
  refine alloc3_gz (fun W hW hB0 hB1 hB2 => ?_)
  have HW := Lib.hid hW
  have HB0 := Lib.hid hB0
  have HB2 := Lib.hid hB2
  have c0 := hB1.cell 0
  have c1 := hB1.cell 1
  have c2 := hB1.cell 2
  have c3 := hB1.cell 3
  have c4 := hB1.cell 4
  have c5 := hB1.cell 5
  clear hW hB0 hB1 hB2
  go_wp2_with fail
  refine (reck_any 77 ⟨w.heap.size, 0, none⟩ n (n + N) W (Go.Proofs.enters_of Tryz.func77 (by kernel_rfl) rfl) (fun w1 hb => add1_any n N w.heap.size _ nm ky w1 (HB0.out.onto hb) HN.out HM.out HS.out)).mono ?_
  rintro e w2 ⟨rfl, hb⟩
  have HW2 := Lib.hid (HW.out.trans (hb.mono HW.out.size))
  have HR := Lib.hid (HB2.out.onto hb)
  clear hb c0 c1 c2 c3 c4 c5
  have c0 := HR.out.cell 0
  have c1 := HR.out.cell 1
  have c2 := HR.out.cell 2
  have c3 := HR.out.cell 3
  have c4 := HR.out.cell 4
  have c5 := HR.out.cell 5
  have f0 := HR.out.free 0
  have f1 := HR.out.free 1
  have f2 := HR.out.free 2
  have f3 := HR.out.free 3
  have f4 := HR.out.free 4
  have f5 := HR.out.free 5
  go_wp2_with fail
  refine bodyPost_ret (v := .tuple #[.agg #[.int .i64 2, .bool false, .int .i64 (n + N), .string ⟨#[]⟩, .slice none 0 0, .slice none 0 0], .int .i64 0]) (by simp [results, Tryz.results39, go_sem, c0, c1, c2, c3, c4, c5]) rfl ⟨rfl, ?_⟩
  exact below_iz6 HW2.out (by omega) _ _ _ _ _ _
set_option maxRecDepth 100000 in
set_option maxHeartbeats 4000000 in
theorem subtract_any (n N : Int) (nm ky : ByteArray) (w : World) (hn : In64 n) (hN : In64 N) (h : In64 (n - N)) :
    Calls Tryz.prog 40 #[.agg #[.string nm, .int .i64 N, .string ky], .agg #[.int .i64 2, .bool false, .int .i64 n, .string ⟨#[]⟩, .slice none 0 0, .slice none 0 0]] w fun e w' => e = .returned (.tuple #[.agg #[.int .i64 2, .bool false, .int .i64 (n - N), .string ⟨#[]⟩, .slice none 0 0, .slice none 0 0], .int .i64 0]) ∧ Below w.heap.size w w' := by
  have HN := Lib.hid hn
  have HM := Lib.hid hN
  have HS := Lib.hid h
  clear hn hN h
  go_enter Tryz.func40, Tryz.ntmps40
  go_upto_region 1 with fail
  refine alloc3_gz (fun W hW hB0 hB1 hB2 => ?_)
  have HW := Lib.hid hW
  have HB0 := Lib.hid hB0
  have HB2 := Lib.hid hB2
  have c0 := hB1.cell 0
  have c1 := hB1.cell 1
  have c2 := hB1.cell 2
  have c3 := hB1.cell 3
  have c4 := hB1.cell 4
  have c5 := hB1.cell 5
  clear hW hB0 hB1 hB2
  go_wp2_with fail
  refine (reck_any 79 ⟨w.heap.size, 0, none⟩ n (n - N) W (Go.Proofs.enters_of Tryz.func79 (by kernel_rfl) rfl) (fun w1 hb => subtract1_any n N w.heap.size _ nm ky w1 (HB0.out.onto hb) HN.out HM.out HS.out)).mono ?_
  rintro e w2 ⟨rfl, hb⟩
  have HW2 := Lib.hid (HW.out.trans (hb.mono HW.out.size))
  have HR := Lib.hid (HB2.out.onto hb)
  clear hb c0 c1 c2 c3 c4 c5
  have c0 := HR.out.cell 0
  have c1 := HR.out.cell 1
  have c2 := HR.out.cell 2
  have c3 := HR.out.cell 3
  have c4 := HR.out.cell 4
  have c5 := HR.out.cell 5
  have f0 := HR.out.free 0
  have f1 := HR.out.free 1
  have f2 := HR.out.free 2
  have f3 := HR.out.free 3
  have f4 := HR.out.free 4
  have f5 := HR.out.free 5
  go_wp2_with fail
  refine bodyPost_ret (v := .tuple #[.agg #[.int .i64 2, .bool false, .int .i64 (n - N), .string ⟨#[]⟩, .slice none 0 0, .slice none 0 0], .int .i64 0]) (by simp [results, Tryz.results40, go_sem, c0, c1, c2, c3, c4, c5]) rfl ⟨rfl, ?_⟩
  exact below_iz6 HW2.out (by omega) _ _ _ _ _ _
set_option maxRecDepth 100000 in
set_option maxHeartbeats 4000000 in
theorem show_any (n N : Int) (nm ky : ByteArray) (w : World) (hn : In64 n) (ht : Lib.TabIs Tryz.prog w "internal/strconv.uint64pow10" .u64 Lib.pow10Tab) :
    Calls Tryz.prog 50 #[.agg #[.string nm, .int .i64 N, .string ky], .agg #[.int .i64 2, .bool false, .int .i64 n, .string ⟨#[]⟩, .slice none 0 0, .slice none 0 0]] w fun e w' => e = .returned (.tuple #[.agg #[.int .i64 3, .bool false, .int .i64 0, .string ⟨(Lib.itoa n).toArray⟩, .slice none 0 0, .slice none 0 0], .int .i64 0]) ∧ Below w.heap.size w w' := by
  have HT := Lib.hid (fun w1 (hb : Below w.heap.size w w1) => W2.text_any n w1 ⟨hn.1, hn.2⟩ ((tab_of11 ht).on hb).2)
  clear hn ht
  generalize (Lib.itoa n) = L at *
  go_enter Tryz.func50, Tryz.ntmps50
  go_upto_region 1 with fail
  refine alloc3_gz (fun W hW hB0 hB1 hB2 => ?_)
  have HW := Lib.hid hW
  have HB2 := Lib.hid hB2
  have c0 := hB1.cell 0
  have c1 := hB1.cell 1
  have c2 := hB1.cell 2
  have c3 := hB1.cell 3
  have c4 := hB1.cell 4
  have c5 := hB1.cell 5
  clear hW hB0 hB1 hB2
  go_wp2_with fail
  refine (HT.out _ HW.out).mono ?_
  rintro e w2 ⟨rfl, hb⟩
  have HW2 := Lib.hid (HW.out.trans (hb.mono HW.out.size))
  have HR2 := Lib.hid (HB2.out.onto hb)
  clear hb c0 c1 c2 c3 c4 c5
  go_wp2_with fail
  refine (vtext_iz _ _).mono ?_
  rintro e w3 ⟨rfl, hb⟩
  have HW3 := Lib.hid (HW2.out.trans (hb.mono HW2.out.size))
  have HR := Lib.hid (HR2.out.onto hb)
  clear hb
  have c0 := HR.out.cell 0
  have c1 := HR.out.cell 1
  have c2 := HR.out.cell 2
  have c3 := HR.out.cell 3
  have c4 := HR.out.cell 4
  have c5 := HR.out.cell 5
  have f0 := HR.out.free 0
  have f1 := HR.out.free 1
  have f2 := HR.out.free 2
  have f3 := HR.out.free 3
  have f4 := HR.out.free 4
  have f5 := HR.out.free 5
  go_wp2_with fail
  refine bodyPost_ret (v := .tuple #[.agg #[.int .i64 3, .bool false, .int .i64 0, .string ⟨L.toArray⟩, .slice none 0 0, .slice none 0 0], .int .i64 0]) (by simp [results, Tryz.results50, go_sem, c0, c1, c2, c3, c4, c5]) rfl ⟨rfl, ?_⟩
  exact below_iz6 HW3.out (by omega) _ _ _ _ _ _
end Go.Proofs.YtfiahpeajccinaaGreatDoor
namespace Go.Proofs.YtfiahpeajccinaaGreatDoor
open Go.RowKit
open Tk Ex
set_option linter.unusedVariables false
set_option linter.unusedSimpArgs false

set_option maxRecDepth 100000 in
set_option maxHeartbeats 4000000 in
theorem read_ok (n N : Int) (nm ky : ByteArray) (w : World) (hn : In64 n) (ht : Lib.TabIs Tryz.prog w "internal/strconv.uint64pow10" .u64 Lib.pow10Tab) :
    Calls Tryz.prog 51 #[.agg #[.string nm, .int .i64 N, .string ky], .agg #[.int .i64 3, .bool false, .int .i64 0, .string ⟨(Lib.itoa n).toArray⟩, .slice none 0 0, .slice none 0 0]] w fun e w' => e = .returned (.tuple #[.agg #[.int .i64 2, .bool false, .int .i64 n, .string ⟨#[]⟩, .slice none 0 0, .slice none 0 0], .int .i64 0]) ∧ Below w.heap.size w w' := by
  have HT := Lib.hid (fun w1 (hb : Below w.heap.size w w1) => W2.text_any n w1 ⟨hn.1, hn.2⟩ ((tab_of11 ht).on hb).2)
  have hfo := De.itoa_form n
  have hle := De.itoa_len (n := n) ⟨hn.1, hn.2⟩
  have HP := Lib.hid (fun w1 => W2.parse_ok ⟨(Lib.itoa n).toArray⟩ w1 (by show (Lib.itoa n).toArray.size ≤ _; simp; omega) (by show De.form (Lib.itoa n).toArray.toList = true; rw [List.toList_toArray]; exact hfo.1) (by show -9223372036854775808 ≤ De.numL (Lib.itoa n).toArray.toList ∧ De.numL (Lib.itoa n).toArray.toList ≤ 9223372036854775807; rw [List.toList_toArray, hfo.2]; exact ⟨hn.1, hn.2⟩))
  rw [show De.numL ((⟨(Lib.itoa n).toArray⟩ : ByteArray).data.toList) = n from by show De.numL (Lib.itoa n).toArray.toList = n; rw [List.toList_toArray]; exact hfo.2] at HP
  clear hn ht hfo hle
  generalize (Lib.itoa n) = L at *
  go_enter Tryz.func51, Tryz.ntmps51
  go_upto_region 1 with fail
  refine alloc3_gz (fun W hW hB0 hB1 hB2 => ?_)
  have HW := Lib.hid hW
  have HB1 := Lib.hid hB1
  have HB2 := Lib.hid hB2
  have c0 := hB1.cell 0
  have c1 := hB1.cell 1
  have c2 := hB1.cell 2
  have c3 := hB1.cell 3
  have c4 := hB1.cell 4
  have c5 := hB1.cell 5
  clear hW hB0 hB1 hB2
  go_wp2_with fail
  refine (HP.out _).mono ?_
  rintro e w2 ⟨rfl, hb⟩
  have HW2 := Lib.hid (HW.out.trans (hb.mono HW.out.size))
  have HR2 := Lib.hid (HB2.out.onto hb)
  have HV2 := Lib.hid (HB1.out.onto hb)
  clear hb c0 c1 c2 c3 c4 c5
  go_upto_region 4 with fail
  have m3 := HV2.out.cell 3
  have hne : (L != L) = false := by simp
  refine wp_region_held_drew (S := fun w' => w'.cell? ⟨w.heap.size + 1, 3, none⟩ = some (.string ⟨L.toArray⟩)) (by kernel_rfl) ?_ (fun hHeld => ?_)
  · exact m3
  clear m3
  refine wpAnyH_take (i := 0) (v := ?_) rfl (by kernel_rfl) (by kernel_rfl) (by kernel_rfl) (fun _ _ _ h => h) (Or.inl ⟨by rfl, ?_⟩) (by assumption) ?_
  rotate_left
  · intro wq hSw
    try dsimp only at hSw
    go_simp
    try (with_reducible rfl)
  try simp only [Act.put, List.getElem_toArray, List.getElem_cons_zero, List.setIfInBounds_toArray, List.set_cons_zero, List.set_cons_succ]
  refine wpAnyH_take (i := 1) (v := ?_) rfl (by kernel_rfl) (by kernel_rfl) (by kernel_rfl) (fun _ _ _ h => h) (Or.inl ⟨by rfl, ?_⟩) (by assumption) ?_
  rotate_left
  · intro wq hSw
    try dsimp only at hSw
    go_simp
    try (with_reducible rfl)
  try simp only [Act.put, List.getElem_toArray, List.getElem_cons_succ, List.getElem_cons_zero, List.setIfInBounds_toArray, List.set_cons_zero, List.set_cons_succ]
  refine wpAnyH_take (i := 2) (v := ?_) rfl (by kernel_rfl) (by kernel_rfl) (by kernel_rfl) (fun _ _ _ h => h) (Or.inl ⟨by rfl, ?_⟩) (by assumption) ?_
  rotate_left
  · intro wq hSw
    try dsimp only at hSw
    go_simp
    try (with_reducible rfl)
  try simp only [Act.put, List.getElem_toArray, List.getElem_cons_succ, List.getElem_cons_zero, List.setIfInBounds_toArray, List.set_cons_zero, List.set_cons_succ]
  refine wpAnyH_take (i := 3) (v := ?_) rfl (by kernel_rfl) (by kernel_rfl) (by kernel_rfl) (fun _ _ _ h => h) (Or.inl ⟨by rfl, ?_⟩) (by assumption) ?_
  rotate_left
  · intro wq hSw
    try dsimp only at hSw
    go_simp
    try (with_reducible rfl)
  try simp only [Act.put, List.getElem_toArray, List.getElem_cons_succ, List.getElem_cons_zero, List.setIfInBounds_toArray, List.set_cons_zero, List.set_cons_succ]
  refine wpAnyH_take (i := 5) (v := ?_) rfl (by kernel_rfl) (by kernel_rfl) (by kernel_rfl) (fun _ _ _ h => h) (Or.inl ⟨by rfl, ?_⟩) (by assumption) ?_
  rotate_left
  · intro wq hSw
    try dsimp only at hSw
    go_simp
    try (with_reducible rfl)
  try simp only [Act.put, List.getElem_toArray, List.getElem_cons_succ, List.getElem_cons_zero, List.setIfInBounds_toArray, List.set_cons_zero, List.set_cons_succ]
  refine wpAnyH_take (i := 6) (v := ?_) rfl (by kernel_rfl) (by kernel_rfl) (by kernel_rfl) (fun _ _ _ h => h) (Or.inl ⟨by rfl, ?_⟩) (by assumption) ?_
  rotate_left
  · intro wq hSw
    try dsimp only at hSw
    go_simp
    try (with_reducible rfl)
  try simp only [Act.put, List.getElem_toArray, List.getElem_cons_succ, List.getElem_cons_zero, List.setIfInBounds_toArray, List.set_cons_zero, List.set_cons_succ]
  refine wpAnyH_ready (rs := [4]) (by kernel_rfl) (by simp) ?_
  refine AllReadyH.cons rfl (fun K0 hK => ?_) AllReadyH.nil
  go_simp
  refine (HT.out _ HW2.out.drew).mono ?_
  rintro e w3 ⟨rfl, hb⟩
  have HW3 := Lib.hid (HW2.out.drew.trans (hb.mono HW2.out.size))
  have HR3 := Lib.hid ((show Blk w2.drew _ _ _ from HR2.out).onto hb)
  have HV3 := Lib.hid ((show Blk w2.drew _ _ _ from HV2.out).onto hb)
  clear hb
  go_wp2_with fail
  refine hK.out _ _ (HV3.out.cell 3) (fun hHeld => ?_)
  clear hK K0
  try simp only [Act.put, List.getElem_toArray, List.getElem_cons_succ, List.getElem_cons_zero, List.setIfInBounds_toArray, List.set_cons_zero, List.set_cons_succ]
  refine wpAnyH_take (i := 7) (v := ?_) rfl (by kernel_rfl) (by kernel_rfl) (by kernel_rfl) (fun _ _ _ h => h) (Or.inl ⟨by rfl, ?_⟩) (by assumption) ?_
  rotate_left
  · intro wq hSw
    try dsimp only at hSw
    go_simp
    try (with_reducible rfl)
  try simp only [Act.put, List.getElem_toArray, List.getElem_cons_succ, List.getElem_cons_zero, List.setIfInBounds_toArray, List.set_cons_zero, List.set_cons_succ]
  refine wpAnyH_take (i := 8) (v := ?_) rfl (by kernel_rfl) (by kernel_rfl) (by kernel_rfl) (fun _ _ _ h => h) (Or.inl ⟨by rfl, ?_⟩) (by assumption) ?_
  rotate_left
  · intro wq hSw
    try dsimp only at hSw
    go_simp
    try (with_reducible rfl)
  try simp only [Act.put, List.getElem_toArray, List.getElem_cons_succ, List.getElem_cons_zero, List.setIfInBounds_toArray, List.set_cons_zero, List.set_cons_succ]
  refine wpAnyH_done (by kernel_rfl) ?_ _
  go_wp2_with fail
  refine (vnum_any n _).mono ?_
  rintro e w4 ⟨rfl, hb⟩
  have HW4 := Lib.hid (HW3.out.trans (hb.mono HW3.out.size))
  have HR := Lib.hid (HR3.out.onto hb)
  clear hb
  have c0 := HR.out.cell 0
  have c1 := HR.out.cell 1
  have c2 := HR.out.cell 2
  have c3 := HR.out.cell 3
  have c4 := HR.out.cell 4
  have c5 := HR.out.cell 5
  have f0 := HR.out.free 0
  have f1 := HR.out.free 1
  have f2 := HR.out.free 2
  have f3 := HR.out.free 3
  have f4 := HR.out.free 4
  have f5 := HR.out.free 5
  go_wp2_with fail
  refine bodyPost_ret (v := .tuple #[.agg #[.int .i64 2, .bool false, .int .i64 n, .string ⟨#[]⟩, .slice none 0 0, .slice none 0 0], .int .i64 0]) (by simp [results, Tryz.results51, go_sem, c0, c1, c2, c3, c4, c5]) rfl ⟨rfl, ?_⟩
  exact below_iz6 HW4.out (by omega) _ _ _ _ _ _
end Go.Proofs.YtfiahpeajccinaaGreatDoor
namespace Go.Proofs.YtfiahpeajccinaaGreatDoor
open Go.RowKit
open Tk Ex
set_option linter.unusedVariables false
set_option linter.unusedSimpArgs false

set_option maxRecDepth 100000 in
set_option maxHeartbeats 4000000 in
theorem subtract1_over (n N : Int) (p : Nat) (t : TypeId) (nm ky : ByteArray) (w : World) (hp : Blk w p t #[.string nm, .int .i64 N, .string ky]) (hn : In64 n) (hN : In64 N) (h : ¬ In64 (n - N)) :
    Calls Tryz.prog 79 #[.int .i64 n, .pointer (some ⟨p, 0, none⟩)] w fun e w' => e = .returned (.tuple #[.int .i64 0, .int .i64 11]) ∧ w = w' := by
  have c1 := hp.cell 1
  have HC := Lib.hid (W2.sub_over n N w ⟨hn.1, hn.2⟩ ⟨hN.1, hN.2⟩ (fun k => h ⟨k.1, k.2⟩))
  clear hp hn hN h
  go_enter Tryz.func79, Tryz.ntmps79
  go_wp2_with fail
  refine HC.out.mono ?_
  rintro e w' ⟨rfl, rfl⟩
  go_wp2_with fail
  go_ret2
  exact ⟨rfl, rfl⟩
set_option maxRecDepth 100000 in
set_option maxHeartbeats 4000000 in
theorem reck_over (f : Nat) (p : Addr) (n : Int) (w : World) (hen : ∀ args w, (callFunc f args).run Tryz.prog w = .ok (.enter f args) w)
    (hf : ∀ w1, Below w.heap.size w w1 → Calls Tryz.prog f #[.int .i64 n, .pointer (some p)] w1 fun e w' => e = .returned (.tuple #[.int .i64 0, .int .i64 11]) ∧ w1 = w') :
    Calls Tryz.prog 75 #[.agg #[.int .i64 2, .bool false, .int .i64 n, .string ⟨#[]⟩, .slice none 0 0, .slice none 0 0], .func (.func f) #[] #[.pointer (some p)]] w fun e w' => e = .returned (.tuple #[.agg #[.int .i64 0, .bool false, .int .i64 0, .string ⟨#[]⟩, .slice none 0 0, .slice none 0 0], .int .i64 11]) ∧ Below w.heap.size w w' := by
  have HF := Lib.hid hf
  clear hf
  go_enter Tryz.func75, Tryz.ntmps75
  go_upto_region 1 with fail
  refine alloc2_gz (fun W hW hB0 hB1 _ => ?_)
  have HW := Lib.hid hW
  have HR := Lib.hid hB1
  have d0 := hB0.cell 0
  have d1 := hB0.cell 1
  have d2 := hB0.cell 2
  have d3 := hB0.cell 3
  have d4 := hB0.cell 4
  have d5 := hB0.cell 5
  clear hW hB0 hB1
  go_wp2_with fail
  refine (HF.out _ HW.out).mono ?_
  rintro e w2 ⟨rfl, rfl⟩
  clear d0 d1 d2 d3 d4 d5
  have c0 := HR.out.cell 0
  have c1 := HR.out.cell 1
  have c2 := HR.out.cell 2
  have c3 := HR.out.cell 3
  have c4 := HR.out.cell 4
  have c5 := HR.out.cell 5
  have f0 := HR.out.free 0
  have f1 := HR.out.free 1
  have f2 := HR.out.free 2
  have f3 := HR.out.free 3
  have f4 := HR.out.free 4
  have f5 := HR.out.free 5
  go_wp2_with fail
  refine bodyPost_ret (v := .tuple #[.agg #[.int .i64 0, .bool false, .int .i64 0, .string ⟨#[]⟩, .slice none 0 0, .slice none 0 0], .int .i64 11]) (by simp [results, Tryz.results75, go_sem, c0, c1, c2, c3, c4, c5]) rfl ⟨rfl, ?_⟩
  exact below_iz6 HW.out (by omega) _ _ _ _ _ _
set_option maxRecDepth 100000 in
set_option maxHeartbeats 4000000 in
theorem reck_kind (s : ByteArray) (f : Value) (w : World) :
    Calls Tryz.prog 75 #[.agg #[.int .i64 3, .bool false, .int .i64 0, .string s, .slice none 0 0, .slice none 0 0], f] w fun e w' => e = .returned (.tuple #[.agg #[.int .i64 0, .bool false, .int .i64 0, .string ⟨#[]⟩, .slice none 0 0, .slice none 0 0], .int .i64 9]) ∧ Below w.heap.size w w' := by
  go_enter Tryz.func75, Tryz.ntmps75
  go_upto_region 1 with fail
  refine alloc2_gz (fun W hW hB0 hB1 _ => ?_)
  have HW := Lib.hid hW
  have HR := Lib.hid hB1
  have d0 := hB0.cell 0
  have d1 := hB0.cell 1
  have d2 := hB0.cell 2
  have d3 := hB0.cell 3
  have d4 := hB0.cell 4
  have d5 := hB0.cell 5
  clear hW hB0 hB1
  have c0 := HR.out.cell 0
  have c1 := HR.out.cell 1
  have c2 := HR.out.cell 2
  have c3 := HR.out.cell 3
  have c4 := HR.out.cell 4
  have c5 := HR.out.cell 5
  have f0 := HR.out.free 0
  have f1 := HR.out.free 1
  have f2 := HR.out.free 2
  have f3 := HR.out.free 3
  have f4 := HR.out.free 4
  have f5 := HR.out.free 5
  go_wp2_with fail
  refine bodyPost_ret (v := .tuple #[.agg #[.int .i64 0, .bool false, .int .i64 0, .string ⟨#[]⟩, .slice none 0 0, .slice none 0 0], .int .i64 9]) (by simp [results, Tryz.results75, go_sem, c0, c1, c2, c3, c4, c5]) rfl ⟨rfl, ?_⟩
  exact below_iz6 HW.out (by omega) _ _ _ _ _ _
set_option maxRecDepth 100000 in
set_option maxHeartbeats 4000000 in
theorem subtract_over (n : Int) (N : Int) (nm ky : ByteArray) (w : World) (hn : In64 n) (hN : In64 N) (h : ¬ In64 (n - N)) :
    Calls Tryz.prog 40 #[.agg #[.string nm, .int .i64 N, .string ky], .agg #[.int .i64 2, .bool false, .int .i64 n, .string ⟨#[]⟩, .slice none 0 0, .slice none 0 0]] w fun e w' => e = .returned (.tuple #[.agg #[.int .i64 0, .bool false, .int .i64 0, .string ⟨#[]⟩, .slice none 0 0, .slice none 0 0], .int .i64 11]) ∧ Below w.heap.size w w' := by
  have HN := Lib.hid hn
  have HM := Lib.hid hN
  have HS := Lib.hid h
  clear hn hN h
  go_enter Tryz.func40, Tryz.ntmps40
  go_upto_region 1 with fail
  refine alloc3_gz (fun W hW hB0 hB1 hB2 => ?_)
  have HW := Lib.hid hW
  have HB0 := Lib.hid hB0
  have HB2 := Lib.hid hB2
  have d0 := hB1.cell 0
  have d1 := hB1.cell 1
  have d2 := hB1.cell 2
  have d3 := hB1.cell 3
  have d4 := hB1.cell 4
  have d5 := hB1.cell 5
  clear hW hB0 hB1 hB2
  go_wp2_with fail
  refine (reck_over 79 ⟨w.heap.size, 0, none⟩ n W (Go.Proofs.enters_of Tryz.func79 (by kernel_rfl) rfl) (fun w1 hb => subtract1_over n N w.heap.size _ nm ky w1 (HB0.out.onto hb) HN.out HM.out HS.out)).mono ?_
  rintro e w2 ⟨rfl, hb⟩
  have HW2 := Lib.hid (HW.out.trans (hb.mono HW.out.size))
  have HR := Lib.hid (HB2.out.onto hb)
  clear hb d0 d1 d2 d3 d4 d5
  have c0 := HR.out.cell 0
  have c1 := HR.out.cell 1
  have c2 := HR.out.cell 2
  have c3 := HR.out.cell 3
  have c4 := HR.out.cell 4
  have c5 := HR.out.cell 5
  have f0 := HR.out.free 0
  have f1 := HR.out.free 1
  have f2 := HR.out.free 2
  have f3 := HR.out.free 3
  have f4 := HR.out.free 4
  have f5 := HR.out.free 5
  go_wp2_with fail
  refine bodyPost_ret (v := .tuple #[.agg #[.int .i64 0, .bool false, .int .i64 0, .string ⟨#[]⟩, .slice none 0 0, .slice none 0 0], .int .i64 11]) (by simp [results, Tryz.results40, go_sem, c0, c1, c2, c3, c4, c5]) rfl ⟨rfl, ?_⟩
  exact below_iz6 HW2.out (by omega) _ _ _ _ _ _
set_option maxRecDepth 100000 in
set_option maxHeartbeats 4000000 in
theorem subtract_kind (s : ByteArray) (N : Int) (nm ky : ByteArray) (w : World) :
    Calls Tryz.prog 40 #[.agg #[.string nm, .int .i64 N, .string ky], .agg #[.int .i64 3, .bool false, .int .i64 0, .string s, .slice none 0 0, .slice none 0 0]] w fun e w' => e = .returned (.tuple #[.agg #[.int .i64 0, .bool false, .int .i64 0, .string ⟨#[]⟩, .slice none 0 0, .slice none 0 0], .int .i64 9]) ∧ Below w.heap.size w w' := by
  go_enter Tryz.func40, Tryz.ntmps40
  go_upto_region 1 with fail
  refine alloc3_gz (fun W hW hB0 hB1 hB2 => ?_)
  have HW := Lib.hid hW
  have HB0 := Lib.hid hB0
  have HB2 := Lib.hid hB2
  have d0 := hB1.cell 0
  have d1 := hB1.cell 1
  have d2 := hB1.cell 2
  have d3 := hB1.cell 3
  have d4 := hB1.cell 4
  have d5 := hB1.cell 5
  clear hW hB0 hB1 hB2
  go_wp2_with fail
  refine (reck_kind s _ W).mono ?_
  rintro e w2 ⟨rfl, hb⟩
  have HW2 := Lib.hid (HW.out.trans (hb.mono HW.out.size))
  have HR := Lib.hid (HB2.out.onto hb)
  clear hb d0 d1 d2 d3 d4 d5
  have c0 := HR.out.cell 0
  have c1 := HR.out.cell 1
  have c2 := HR.out.cell 2
  have c3 := HR.out.cell 3
  have c4 := HR.out.cell 4
  have c5 := HR.out.cell 5
  have f0 := HR.out.free 0
  have f1 := HR.out.free 1
  have f2 := HR.out.free 2
  have f3 := HR.out.free 3
  have f4 := HR.out.free 4
  have f5 := HR.out.free 5
  go_wp2_with fail
  refine bodyPost_ret (v := .tuple #[.agg #[.int .i64 0, .bool false, .int .i64 0, .string ⟨#[]⟩, .slice none 0 0, .slice none 0 0], .int .i64 9]) (by simp [results, Tryz.results40, go_sem, c0, c1, c2, c3, c4, c5]) rfl ⟨rfl, ?_⟩
  exact below_iz6 HW2.out (by omega) _ _ _ _ _ _
set_option maxRecDepth 100000 in
set_option maxHeartbeats 4000000 in
theorem read_kind (n N : Int) (nm ky : ByteArray) (w : World) :
    Calls Tryz.prog 51 #[.agg #[.string nm, .int .i64 N, .string ky], .agg #[.int .i64 2, .bool false, .int .i64 n, .string ⟨#[]⟩, .slice none 0 0, .slice none 0 0]] w fun e w' => e = .returned (.tuple #[.agg #[.int .i64 0, .bool false, .int .i64 0, .string ⟨#[]⟩, .slice none 0 0, .slice none 0 0], .int .i64 9]) ∧ Below w.heap.size w w' := by
  go_enter Tryz.func51, Tryz.ntmps51
  go_upto_region 1 with fail
  refine alloc3_gz (fun W hW hB0 hB1 hB2 => ?_)
  have HW := Lib.hid hW
  have HR := Lib.hid hB2
  have d0 := hB1.cell 0
  have d1 := hB1.cell 1
  have d2 := hB1.cell 2
  have d3 := hB1.cell 3
  have d4 := hB1.cell 4
  have d5 := hB1.cell 5
  clear hW hB0 hB1 hB2
  have c0 := HR.out.cell 0
  have c1 := HR.out.cell 1
  have c2 := HR.out.cell 2
  have c3 := HR.out.cell 3
  have c4 := HR.out.cell 4
  have c5 := HR.out.cell 5
  have f0 := HR.out.free 0
  have f1 := HR.out.free 1
  have f2 := HR.out.free 2
  have f3 := HR.out.free 3
  have f4 := HR.out.free 4
  have f5 := HR.out.free 5
  go_wp2_with fail
  refine bodyPost_ret (v := .tuple #[.agg #[.int .i64 0, .bool false, .int .i64 0, .string ⟨#[]⟩, .slice none 0 0, .slice none 0 0], .int .i64 9]) (by simp [results, Tryz.results51, go_sem, c0, c1, c2, c3, c4, c5]) rfl ⟨rfl, ?_⟩
  exact below_iz6 HW.out (by omega) _ _ _ _ _ _
end Go.Proofs.YtfiahpeajccinaaGreatDoor
