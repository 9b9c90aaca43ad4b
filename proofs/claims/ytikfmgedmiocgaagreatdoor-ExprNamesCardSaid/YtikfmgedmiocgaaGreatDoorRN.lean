/- A name's tree in the document's words, and that it is the same: contracts. A name's tree in the document's words: contract of the law's Ref. -/
import Derived.Test.YtikfmgedmiocgaaGreatDoorEM
import Derived.Deep.RegionLaw
import Derived.OneCell
import Derived.Test.YtikfmgedmiocgaaGreatDoorEX
namespace Go.Proofs.YtikfmgedmiocgaaGreatDoor
open Go.RowKit
open Tk Ex
set_option linter.unusedVariables false

set_option maxRecDepth 100000 in
set_option maxHeartbeats 4000000 in
theorem ref_zero (A : Option Addr) (c : Nat) (A' : Option Addr) (c' : Nat) (w : World) :
    Calls Tryz.prog 38 #[.agg #[.int .i64 0, .bool false, .int .i64 0, .string ⟨#[]⟩, .slice A 0 c, .slice A' 0 c']] w fun e w' => e = .returned (.agg #[.int .i64 0, .bool false, .int .i64 0, .string ⟨#[]⟩, .slice none 0 0, .slice A' 0 c']) ∧ Below w.heap.size w w' := by
  go_enter Tryz.func38, Tryz.ntmps38
  go_upto_region 1 with fail
  have hW : Below w.heap.size w ((w.alloc (.cells #[.int .i64 0, .bool false, .int .i64 0, .string ⟨#[]⟩, .slice A 0 c, .slice A' 0 c'] 27)).alloc (.cells #[.int .i64 0, .bool false, .int .i64 0, .string ⟨#[]⟩, .slice none 0 0, .slice none 0 0] 40)) := ((Below.refl _ _).alloc (Nat.le_refl _) _).alloc (by simp) _
  have kA : Blk ((w.alloc (.cells #[.int .i64 0, .bool false, .int .i64 0, .string ⟨#[]⟩, .slice A 0 c, .slice A' 0 c'] 27)).alloc (.cells #[.int .i64 0, .bool false, .int .i64 0, .string ⟨#[]⟩, .slice none 0 0, .slice none 0 0] 40)) w.heap.size 27 #[.int .i64 0, .bool false, .int .i64 0, .string ⟨#[]⟩, .slice A 0 c, .slice A' 0 c'] := (Blk.new w _ _).alloc _
  have kB : Blk ((w.alloc (.cells #[.int .i64 0, .bool false, .int .i64 0, .string ⟨#[]⟩, .slice A 0 c, .slice A' 0 c'] 27)).alloc (.cells #[.int .i64 0, .bool false, .int .i64 0, .string ⟨#[]⟩, .slice none 0 0, .slice none 0 0] 40)) (w.heap.size + 1) 40 #[.int .i64 0, .bool false, .int .i64 0, .string ⟨#[]⟩, .slice none 0 0, .slice none 0 0] := by
    have := Blk.new (w.alloc (.cells #[.int .i64 0, .bool false, .int .i64 0, .string ⟨#[]⟩, .slice A 0 c, .slice A' 0 c'] 27)) 40 #[.int .i64 0, .bool false, .int .i64 0, .string ⟨#[]⟩, .slice none 0 0, .slice none 0 0]
    simpa using this
  change Code.wp _ _ _ _ ((w.alloc (.cells #[.int .i64 0, .bool false, .int .i64 0, .string ⟨#[]⟩, .slice A 0 c, .slice A' 0 c'] 27)).alloc (.cells #[.int .i64 0, .bool false, .int .i64 0, .string ⟨#[]⟩, .slice none 0 0, .slice none 0 0] 40))
  generalize ((w.alloc (.cells #[.int .i64 0, .bool false, .int .i64 0, .string ⟨#[]⟩, .slice A 0 c, .slice A' 0 c'] 27)).alloc (.cells #[.int .i64 0, .bool false, .int .i64 0, .string ⟨#[]⟩, .slice none 0 0, .slice none 0 0] 40)) = W at *
  have a0 := kA.cell 0
  have a1 := kA.cell 1
  have a2 := kA.cell 2
  have a3 := kA.cell 3
  have a4 := kA.cell 4
  have a5 := kA.cell 5
  have HW := Lib.hid hW
  have HA := Lib.hid kA
  have HB := Lib.hid kB
  have hs := hW.size
  clear hW kA kB
  go_upto_region 2 with fail
  clear a0 a1 a2 a3 a4 a5
  have hW2 : Below W.heap.size W (W.alloc (.cells #[.int .i64 0, .bool false, .int .i64 0, .string ⟨#[]⟩, .slice none 0 0, .slice A' 0 c'] 40)) := (Below.refl _ _).alloc (Nat.le_refl _) _
  have kC := Blk.new W 40 #[.int .i64 0, .bool false, .int .i64 0, .string ⟨#[]⟩, .slice none 0 0, .slice A' 0 c']
  change Code.wp _ _ _ _ (W.alloc (.cells #[.int .i64 0, .bool false, .int .i64 0, .string ⟨#[]⟩, .slice none 0 0, .slice A' 0 c'] 40))
  have kA := HA.out.onto hW2
  have kB := HB.out.onto hW2
  have HW2 := Lib.hid (HW.out.trans (hW2.mono hs))
  generalize (W.alloc (.cells #[.int .i64 0, .bool false, .int .i64 0, .string ⟨#[]⟩, .slice none 0 0, .slice A' 0 c'] 40)) = W2 at *
  generalize W.heap.size = g at *
  have a4 := kA.cell 4
  have HC := Lib.hid kC
  have HB2 := Lib.hid kB
  clear hW2 kA kB kC HA HB HW
  go_wp2_with fail
  clear a4
  go_loopw [20] (fun x wr => x = .int .i64 0 ∧ wr = W2) (fun _ _ => 0)
  case atStart => exact ⟨rfl, rfl⟩
  case round =>
    obtain ⟨rfl, rfl⟩ := hrel
    have c0 := HC.out.cell 0
    have c1 := HC.out.cell 1
    have c2 := HC.out.cell 2
    have c3 := HC.out.cell 3
    have c4 := HC.out.cell 4
    have c5 := HC.out.cell 5
    have r0 := HB2.out.cell 0
    have r1 := HB2.out.cell 1
    have r2 := HB2.out.cell 2
    have r3 := HB2.out.cell 3
    have r4 := HB2.out.cell 4
    have r5 := HB2.out.cell 5
    have x0 := HB2.out.free 0
    have x1 := HB2.out.free 1
    have x2 := HB2.out.free 2
    have x3 := HB2.out.free 3
    have x4 := HB2.out.free 4
    have x5 := HB2.out.free 5
    go_wp2_with fail
    refine bodyPost_ret (v := .agg #[.int .i64 0, .bool false, .int .i64 0, .string ⟨#[]⟩, .slice none 0 0, .slice A' 0 c']) (by simp [results, Tryz.results38, go_sem, r0, r1, r2, r3, r4, r5]) rfl ⟨rfl, ?_⟩
    have hq : w.heap.size ≤ w.heap.size + 1 := Nat.le_succ _
    exact (((((HW2.out.setCell hq _).setCell hq _).setCell hq _).setCell hq _).setCell hq _).setCell hq _
set_option maxRecDepth 100000 in
set_option maxHeartbeats 4000000 in
theorem rsame_zero (A : Option Addr) (c : Nat) (A' : Option Addr) (c' : Nat) (B : Option Addr) (d : Nat) (B' : Option Addr) (d' : Nat) (w : World) :
    Calls Tryz.prog 37 #[.agg #[.int .i64 0, .bool false, .int .i64 0, .string ⟨#[]⟩, .slice A 0 c, .slice A' 0 c'], .agg #[.int .i64 0, .bool false, .int .i64 0, .string ⟨#[]⟩, .slice B 0 d, .slice B' 0 d']] w fun e w' => e = .returned (.bool true) ∧ Below w.heap.size w w' := by
  go_enter Tryz.func37, Tryz.ntmps37
  go_upto_region 1 with fail
  have hW : Below w.heap.size w ((w.alloc (.cells #[.int .i64 0, .bool false, .int .i64 0, .string ⟨#[]⟩, .slice A 0 c, .slice A' 0 c'] 40)).alloc (.cells #[.int .i64 0, .bool false, .int .i64 0, .string ⟨#[]⟩, .slice B 0 d, .slice B' 0 d'] 40)) := ((Below.refl _ _).alloc (Nat.le_refl _) _).alloc (by simp) _
  have kA : Blk ((w.alloc (.cells #[.int .i64 0, .bool false, .int .i64 0, .string ⟨#[]⟩, .slice A 0 c, .slice A' 0 c'] 40)).alloc (.cells #[.int .i64 0, .bool false, .int .i64 0, .string ⟨#[]⟩, .slice B 0 d, .slice B' 0 d'] 40)) w.heap.size 40 #[.int .i64 0, .bool false, .int .i64 0, .string ⟨#[]⟩, .slice A 0 c, .slice A' 0 c'] := (Blk.new w _ _).alloc _
  have kB : Blk ((w.alloc (.cells #[.int .i64 0, .bool false, .int .i64 0, .string ⟨#[]⟩, .slice A 0 c, .slice A' 0 c'] 40)).alloc (.cells #[.int .i64 0, .bool false, .int .i64 0, .string ⟨#[]⟩, .slice B 0 d, .slice B' 0 d'] 40)) (w.heap.size + 1) 40 #[.int .i64 0, .bool false, .int .i64 0, .string ⟨#[]⟩, .slice B 0 d, .slice B' 0 d'] := by
    have := Blk.new (w.alloc (.cells #[.int .i64 0, .bool false, .int .i64 0, .string ⟨#[]⟩, .slice A 0 c, .slice A' 0 c'] 40)) 40 #[.int .i64 0, .bool false, .int .i64 0, .string ⟨#[]⟩, .slice B 0 d, .slice B' 0 d']
    simpa using this
  change Code.wp _ _ _ _ ((w.alloc (.cells #[.int .i64 0, .bool false, .int .i64 0, .string ⟨#[]⟩, .slice A 0 c, .slice A' 0 c'] 40)).alloc (.cells #[.int .i64 0, .bool false, .int .i64 0, .string ⟨#[]⟩, .slice B 0 d, .slice B' 0 d'] 40))
  generalize ((w.alloc (.cells #[.int .i64 0, .bool false, .int .i64 0, .string ⟨#[]⟩, .slice A 0 c, .slice A' 0 c'] 40)).alloc (.cells #[.int .i64 0, .bool false, .int .i64 0, .string ⟨#[]⟩, .slice B 0 d, .slice B' 0 d'] 40)) = W at *
  have a0 := kA.cell 0
  have a1 := kA.cell 1
  have a2 := kA.cell 2
  have a3 := kA.cell 3
  have a4 := kA.cell 4
  have a5 := kA.cell 5
  have b0 := kB.cell 0
  have b1 := kB.cell 1
  have b2 := kB.cell 2
  have b3 := kB.cell 3
  have b4 := kB.cell 4
  have b5 := kB.cell 5
  have HW := Lib.hid hW
  clear hW kA kB
  go_wp2_with fail
  go_loopw [54] (fun x wr => x = .int .i64 0 ∧ wr = W) (fun _ _ => 0)
  case atStart => exact ⟨rfl, rfl⟩
  case round =>
    obtain ⟨rfl, rfl⟩ := hrel
    go_wp2_with fail
    go_loopw [72] (fun x wr2 => x = .int .i64 0 ∧ wr2 = wr) (fun _ _ => 0)
    case atStart => exact ⟨rfl, rfl⟩
    case round =>
      obtain ⟨rfl, rfl⟩ := hrel
      go_wp2_with fail
      go_ret
      exact ⟨rfl, HW.out⟩
set_option maxRecDepth 100000 in
set_option maxHeartbeats 4000000 in
theorem r8same_leaf (o n : ByteArray) (A : Option Addr) (c : Nat) (A' : Option Addr) (c' : Nat) (P : Option Addr) (q : Nat) (B : Option Addr) (d : Nat) (B' : Option Addr) (d' : Nat) (R : Option Addr) (r : Nat) (w : World) :
    Calls Tryz.prog 12 #[.agg #[.string o, .string n, .int .i64 0, .bool false, .int .i64 0, .string ⟨#[]⟩, .slice A 0 c, .slice A' 0 c', .slice P 0 q], .agg #[.string o, .string n, .int .i64 0, .bool false, .int .i64 0, .string ⟨#[]⟩, .slice B 0 d, .slice B' 0 d', .slice R 0 r]] w fun e w' => e = .returned (.bool true) ∧ Below w.heap.size w w' := by
  go_enter Tryz.func12, Tryz.ntmps12
  go_upto_region 1 with fail
  have hW : Below w.heap.size w ((w.alloc (.cells #[.string o, .string n, .int .i64 0, .bool false, .int .i64 0, .string ⟨#[]⟩, .slice A 0 c, .slice A' 0 c', .slice P 0 q] 43)).alloc (.cells #[.string o, .string n, .int .i64 0, .bool false, .int .i64 0, .string ⟨#[]⟩, .slice B 0 d, .slice B' 0 d', .slice R 0 r] 43)) := ((Below.refl _ _).alloc (Nat.le_refl _) _).alloc (by simp) _
  have kA : Blk ((w.alloc (.cells #[.string o, .string n, .int .i64 0, .bool false, .int .i64 0, .string ⟨#[]⟩, .slice A 0 c, .slice A' 0 c', .slice P 0 q] 43)).alloc (.cells #[.string o, .string n, .int .i64 0, .bool false, .int .i64 0, .string ⟨#[]⟩, .slice B 0 d, .slice B' 0 d', .slice R 0 r] 43)) w.heap.size 43 #[.string o, .string n, .int .i64 0, .bool false, .int .i64 0, .string ⟨#[]⟩, .slice A 0 c, .slice A' 0 c', .slice P 0 q] := (Blk.new w _ _).alloc _
  have kB : Blk ((w.alloc (.cells #[.string o, .string n, .int .i64 0, .bool false, .int .i64 0, .string ⟨#[]⟩, .slice A 0 c, .slice A' 0 c', .slice P 0 q] 43)).alloc (.cells #[.string o, .string n, .int .i64 0, .bool false, .int .i64 0, .string ⟨#[]⟩, .slice B 0 d, .slice B' 0 d', .slice R 0 r] 43)) (w.heap.size + 1) 43 #[.string o, .string n, .int .i64 0, .bool false, .int .i64 0, .string ⟨#[]⟩, .slice B 0 d, .slice B' 0 d', .slice R 0 r] := by
    have := Blk.new (w.alloc (.cells #[.string o, .string n, .int .i64 0, .bool false, .int .i64 0, .string ⟨#[]⟩, .slice A 0 c, .slice A' 0 c', .slice P 0 q] 43)) 43 #[.string o, .string n, .int .i64 0, .bool false, .int .i64 0, .string ⟨#[]⟩, .slice B 0 d, .slice B' 0 d', .slice R 0 r]
    simpa using this
  change Code.wp _ _ _ _ ((w.alloc (.cells #[.string o, .string n, .int .i64 0, .bool false, .int .i64 0, .string ⟨#[]⟩, .slice A 0 c, .slice A' 0 c', .slice P 0 q] 43)).alloc (.cells #[.string o, .string n, .int .i64 0, .bool false, .int .i64 0, .string ⟨#[]⟩, .slice B 0 d, .slice B' 0 d', .slice R 0 r] 43))
  generalize ((w.alloc (.cells #[.string o, .string n, .int .i64 0, .bool false, .int .i64 0, .string ⟨#[]⟩, .slice A 0 c, .slice A' 0 c', .slice P 0 q] 43)).alloc (.cells #[.string o, .string n, .int .i64 0, .bool false, .int .i64 0, .string ⟨#[]⟩, .slice B 0 d, .slice B' 0 d', .slice R 0 r] 43)) = W at *
  have a0 := kA.cell 0
  have a1 := kA.cell 1
  have a2 := kA.cell 2
  have a3 := kA.cell 3
  have a4 := kA.cell 4
  have a5 := kA.cell 5
  have a6 := kA.cell 6
  have a7 := kA.cell 7
  have a8 := kA.cell 8
  have b0 := kB.cell 0
  have b1 := kB.cell 1
  have b2 := kB.cell 2
  have b3 := kB.cell 3
  have b4 := kB.cell 4
  have b5 := kB.cell 5
  have b6 := kB.cell 6
  have b7 := kB.cell 7
  have b8 := kB.cell 8
  have HW := Lib.hid hW
  have HA := Lib.hid kA
  have HB := Lib.hid kB
  have hs := hW.size
  clear hW kA kB
  go_wp2_with fail
  refine (rsame_zero A c A' c' B d B' d' _).mono ?_
  rintro e w2 ⟨rfl, hb2⟩
  have HW2 := Lib.hid (HW.out.trans (hb2.mono hs))
  have kA := HA.out.onto hb2
  have kB := HB.out.onto hb2
  have e8 := kA.cell 8
  have f8 := kB.cell 8
  clear hb2 kA kB a0 a1 a2 a3 a4 a5 a6 a7 a8 b0 b1 b2 b3 b4 b5 b6 b7 b8
  go_wp2_with fail
  go_loopw [38] (fun x wr => x = .int .i64 0 ∧ wr = w2) (fun _ _ => 0)
  case atStart => exact ⟨rfl, rfl⟩
  case round =>
    obtain ⟨rfl, rfl⟩ := hrel
    go_wp2_with fail
    go_ret
    exact ⟨rfl, HW2.out⟩
end Go.Proofs.YtikfmgedmiocgaaGreatDoor
namespace Go.Proofs.YtikfmgedmiocgaaGreatDoor
open Go.RowKit
open Tk Ex
set_option linter.unusedVariables false

set_option maxRecDepth 100000 in
set_option maxHeartbeats 4000000 in
theorem l8ref_leaf (o n : ByteArray) (A : Option Addr) (c : Nat) (A' : Option Addr) (c' : Nat) (P : Option Addr) (q : Nat) (w : World) :
    Calls Tryz.prog 13 #[.agg #[.string o, .string n, .int .i64 0, .bool false, .int .i64 0, .string ⟨#[]⟩, .slice A 0 c, .slice A' 0 c', .slice P 0 q]] w fun e w' => e = .returned (.agg #[.string o, .string n, .int .i64 0, .bool false, .int .i64 0, .string ⟨#[]⟩, .slice none 0 0, .slice A' 0 c', .slice none 0 0]) ∧ Below w.heap.size w w' := by
  go_enter Tryz.func13, Tryz.ntmps13
  go_upto_region 1 with fail
  have hW : Below w.heap.size w ((w.alloc (.cells #[.string o, .string n, .int .i64 0, .bool false, .int .i64 0, .string ⟨#[]⟩, .slice A 0 c, .slice A' 0 c', .slice P 0 q] 30)).alloc (.cells #[.string ⟨#[]⟩, .string ⟨#[]⟩, .int .i64 0, .bool false, .int .i64 0, .string ⟨#[]⟩, .slice none 0 0, .slice none 0 0, .slice none 0 0] 43)) := ((Below.refl _ _).alloc (Nat.le_refl _) _).alloc (by simp) _
  have kA : Blk ((w.alloc (.cells #[.string o, .string n, .int .i64 0, .bool false, .int .i64 0, .string ⟨#[]⟩, .slice A 0 c, .slice A' 0 c', .slice P 0 q] 30)).alloc (.cells #[.string ⟨#[]⟩, .string ⟨#[]⟩, .int .i64 0, .bool false, .int .i64 0, .string ⟨#[]⟩, .slice none 0 0, .slice none 0 0, .slice none 0 0] 43)) w.heap.size 30 #[.string o, .string n, .int .i64 0, .bool false, .int .i64 0, .string ⟨#[]⟩, .slice A 0 c, .slice A' 0 c', .slice P 0 q] := (Blk.new w _ _).alloc _
  have kB : Blk ((w.alloc (.cells #[.string o, .string n, .int .i64 0, .bool false, .int .i64 0, .string ⟨#[]⟩, .slice A 0 c, .slice A' 0 c', .slice P 0 q] 30)).alloc (.cells #[.string ⟨#[]⟩, .string ⟨#[]⟩, .int .i64 0, .bool false, .int .i64 0, .string ⟨#[]⟩, .slice none 0 0, .slice none 0 0, .slice none 0 0] 43)) (w.heap.size + 1) 43 nul9 := by
    have := Blk.new (w.alloc (.cells #[.string o, .string n, .int .i64 0, .bool false, .int .i64 0, .string ⟨#[]⟩, .slice A 0 c, .slice A' 0 c', .slice P 0 q] 30)) 43 nul9
    simpa [nul9] using this
  change Code.wp _ _ _ _ ((w.alloc (.cells #[.string o, .string n, .int .i64 0, .bool false, .int .i64 0, .string ⟨#[]⟩, .slice A 0 c, .slice A' 0 c', .slice P 0 q] 30)).alloc (.cells #[.string ⟨#[]⟩, .string ⟨#[]⟩, .int .i64 0, .bool false, .int .i64 0, .string ⟨#[]⟩, .slice none 0 0, .slice none 0 0, .slice none 0 0] 43))
  generalize ((w.alloc (.cells #[.string o, .string n, .int .i64 0, .bool false, .int .i64 0, .string ⟨#[]⟩, .slice A 0 c, .slice A' 0 c', .slice P 0 q] 30)).alloc (.cells #[.string ⟨#[]⟩, .string ⟨#[]⟩, .int .i64 0, .bool false, .int .i64 0, .string ⟨#[]⟩, .slice none 0 0, .slice none 0 0, .slice none 0 0] 43)) = W at *
  have HW := Lib.hid hW
  have HA := Lib.hid kA
  have HB := Lib.hid kB
  have hs := hW.size
  have HSS := Lib.hid (show ∀ w', Below W.heap.size W w' → (w'.cell? ⟨w.heap.size, 0, none⟩ = some (.string o) ∧ w'.cell? ⟨w.heap.size, 1, none⟩ = some (.string n) ∧ w'.cell? ⟨w.heap.size, 2, none⟩ = some (.int .i64 0) ∧ w'.cell? ⟨w.heap.size, 3, none⟩ = some (.bool false) ∧ w'.cell? ⟨w.heap.size, 4, none⟩ = some (.int .i64 0) ∧ w'.cell? ⟨w.heap.size, 5, none⟩ = some (.string ⟨#[]⟩) ∧ w'.cell? ⟨w.heap.size, 6, none⟩ = some (.slice A 0 c) ∧ w'.cell? ⟨w.heap.size, 7, none⟩ = some (.slice A' 0 c')) from fun w' hb => by
    have k := kA.onto hb
    exact ⟨k.cell 0, k.cell 1, k.cell 2, k.cell 3, k.cell 4, k.cell 5, k.cell 6, k.cell 7⟩)
  have hgs := kA.lt
  generalize hg : w.heap.size = g at *
  have HG := Lib.hid hg
  clear hW kA kB hg
  refine wp_region_held_drew (S := fun w' => (w'.cell? ⟨g, 0, none⟩ = some (.string o) ∧ w'.cell? ⟨g, 1, none⟩ = some (.string n) ∧ w'.cell? ⟨g, 2, none⟩ = some (.int .i64 0) ∧ w'.cell? ⟨g, 3, none⟩ = some (.bool false) ∧ w'.cell? ⟨g, 4, none⟩ = some (.int .i64 0) ∧ w'.cell? ⟨g, 5, none⟩ = some (.string ⟨#[]⟩) ∧ w'.cell? ⟨g, 6, none⟩ = some (.slice A 0 c) ∧ w'.cell? ⟨g, 7, none⟩ = some (.slice A' 0 c'))) (by kernel_rfl) ?_ (fun hHeld => ?_)
  · exact HSS.out _ (Below.refl _ _).drew
  refine wpAnyH_take (i := 0) (v := ?_) rfl (by kernel_rfl) (by kernel_rfl) (by kernel_rfl) (fun _ _ _ h => h) (Or.inl ⟨by rfl, ?_⟩) (by assumption) ?_
  rotate_left
  · intro wq hSw
    try dsimp only at hSw
    go_simp
    try (with_reducible rfl)
  try simp only [Act.put, List.getElem_toArray, List.getElem_cons_zero, List.setIfInBounds_toArray, List.set_cons_zero, List.set_cons_succ]
  refine wpAnyH_take (i := 1) (v := ?_) rfl (by kernel_rfl) (by kernel_rfl) (by kernel_rfl) (fun _ _ _ h => h) (Or.inl ⟨by rfl, ?_⟩) (by assumption) ?_
  rotate_left
  · intro wq hSw
    try dsimp only at hSw
    go_simp
    try (with_reducible rfl)
  try simp only [Act.put, List.getElem_toArray, List.getElem_cons_succ, List.getElem_cons_zero, List.setIfInBounds_toArray, List.set_cons_zero, List.set_cons_succ]
  refine wpAnyH_take (i := 2) (v := ?_) rfl (by kernel_rfl) (by kernel_rfl) (by kernel_rfl) (fun _ _ _ h => h) (Or.inl ⟨by rfl, ?_⟩) (by assumption) ?_
  rotate_left
  · intro wq hSw
    try dsimp only at hSw
    go_simp
    try (with_reducible rfl)
  try simp only [Act.put, List.getElem_toArray, List.getElem_cons_succ, List.getElem_cons_zero, List.setIfInBounds_toArray, List.set_cons_zero, List.set_cons_succ]
  refine wpAnyH_take (i := 3) (v := ?_) rfl (by kernel_rfl) (by kernel_rfl) (by kernel_rfl) (fun _ _ _ h => h) (Or.inl ⟨by rfl, ?_⟩) (by assumption) ?_
  rotate_left
  · intro wq hSw
    try dsimp only at hSw
    go_simp
    try (with_reducible rfl)
  try simp only [Act.put, List.getElem_toArray, List.getElem_cons_succ, List.getElem_cons_zero, List.setIfInBounds_toArray, List.set_cons_zero, List.set_cons_succ]
  refine wpAnyH_take (i := 4) (v := ?_) rfl (by kernel_rfl) (by kernel_rfl) (by kernel_rfl) (fun _ _ _ h => h) (Or.inl ⟨by rfl, ?_⟩) (by assumption) ?_
  rotate_left
  · intro wq hSw
    try dsimp only at hSw
    go_simp
    try (with_reducible rfl)
  try simp only [Act.put, List.getElem_toArray, List.getElem_cons_succ, List.getElem_cons_zero, List.setIfInBounds_toArray, List.set_cons_zero, List.set_cons_succ]
  refine wpAnyH_take (i := 5) (v := ?_) rfl (by kernel_rfl) (by kernel_rfl) (by kernel_rfl) (fun _ _ _ h => h) (Or.inl ⟨by rfl, ?_⟩) (by assumption) ?_
  rotate_left
  · intro wq hSw
    try dsimp only at hSw
    go_simp
    try (with_reducible rfl)
  try simp only [Act.put, List.getElem_toArray, List.getElem_cons_succ, List.getElem_cons_zero, List.setIfInBounds_toArray, List.set_cons_zero, List.set_cons_succ]
  have HD := Lib.hid (show Below W.heap.size W W.drew from (Below.refl _ _).drew)
  refine wpAnyH_ready (rs := [6, 8]) (by kernel_rfl) (by simp) ?_
  refine AllReadyH.cons rfl (fun K0 hK => ?_) (AllReadyH.cons rfl (fun K0 hK => ?_) AllReadyH.nil)
  · go_simp
    refine (ref_zero A c A' c' _).mono ?_
    rintro e w2 ⟨rfl, hb2⟩
    have H2 := Lib.hid (HD.out.trans hb2)
    clear hb2
    go_wp2_with fail
    refine hK.out _ _ ?_ (fun hHeld => ?_)
    · exact HSS.out _ H2.out
    clear hK K0
    try simp only [Act.put, List.getElem_toArray, List.getElem_cons_succ, List.getElem_cons_zero, List.setIfInBounds_toArray, List.set_cons_zero, List.set_cons_succ]
    refine wpAnyH_take (i := 7) (v := ?_) rfl (by kernel_rfl) (by kernel_rfl) (by kernel_rfl) (fun _ _ _ h => h) (Or.inl ⟨by rfl, ?_⟩) (by assumption) ?_
    rotate_left
    · intro wq hSw
      try dsimp only at hSw
      go_simp
      try (with_reducible rfl)
    try simp only [Act.put, List.getElem_toArray, List.getElem_cons_succ, List.getElem_cons_zero, List.setIfInBounds_toArray, List.set_cons_zero, List.set_cons_succ]
    refine wpAnyH_ready (rs := [8]) (by kernel_rfl) (by simp) ?_
    refine AllReadyH.cons rfl (fun K0 hK => ?_) AllReadyH.nil
    go_simp
    have H3 := Lib.hid (show Below W.heap.size W (w2.alloc (.cells #[.string ⟨#[]⟩, .string ⟨#[]⟩, .int .i64 0, .bool false, .int .i64 0, .string ⟨#[]⟩, .slice none 0 0, .slice none 0 0, .slice none 0 0] 43)) from H2.out.alloc H2.out.size _)
    have K3 := Lib.hid (show Blk (w2.alloc (.cells #[.string ⟨#[]⟩, .string ⟨#[]⟩, .int .i64 0, .bool false, .int .i64 0, .string ⟨#[]⟩, .slice none 0 0, .slice none 0 0, .slice none 0 0] 43)) w2.heap.size 43 nul9 from Blk.new w2 _ _)
    have HQ := Lib.hid (show W.heap.size ≤ w2.heap.size from H2.out.size)
    refine hK.out _ _ ?_ (fun hHeld => ?_)
    · exact HSS.out _ H3.out
    clear hK K0
    try simp only [Act.put, List.getElem_toArray, List.getElem_cons_succ, List.getElem_cons_zero, List.setIfInBounds_toArray, List.set_cons_zero, List.set_cons_succ]
    generalize (w2.alloc (.cells #[.string ⟨#[]⟩, .string ⟨#[]⟩, .int .i64 0, .bool false, .int .i64 0, .string ⟨#[]⟩, .slice none 0 0, .slice none 0 0, .slice none 0 0] 43)) = W3 at *
    generalize w2.heap.size = Q at *
    obtain ⟨y0, z0⟩ : ∃ u, W3.cell? ⟨Q, 0, none⟩ = some u := ⟨.string ⟨#[]⟩, K3.out.cell 0⟩
    obtain ⟨y1, z1⟩ : ∃ u, W3.cell? ⟨Q, 1, none⟩ = some u := ⟨.string ⟨#[]⟩, K3.out.cell 1⟩
    obtain ⟨y2, z2⟩ : ∃ u, W3.cell? ⟨Q, 2, none⟩ = some u := ⟨.int .i64 0, K3.out.cell 2⟩
    obtain ⟨y3, z3⟩ : ∃ u, W3.cell? ⟨Q, 3, none⟩ = some u := ⟨.bool false, K3.out.cell 3⟩
    obtain ⟨y4, z4⟩ : ∃ u, W3.cell? ⟨Q, 4, none⟩ = some u := ⟨.int .i64 0, K3.out.cell 4⟩
    obtain ⟨y5, z5⟩ : ∃ u, W3.cell? ⟨Q, 5, none⟩ = some u := ⟨.string ⟨#[]⟩, K3.out.cell 5⟩
    obtain ⟨y6, z6⟩ : ∃ u, W3.cell? ⟨Q, 6, none⟩ = some u := ⟨.slice none 0 0, K3.out.cell 6⟩
    obtain ⟨y7, z7⟩ : ∃ u, W3.cell? ⟨Q, 7, none⟩ = some u := ⟨.slice none 0 0, K3.out.cell 7⟩
    obtain ⟨y8, z8⟩ : ∃ u, W3.cell? ⟨Q, 8, none⟩ = some u := ⟨.slice none 0 0, K3.out.cell 8⟩
    have x0 := K3.out.free 0
    have x1 := K3.out.free 1
    have x2 := K3.out.free 2
    have x3 := K3.out.free 3
    have x4 := K3.out.free 4
    have x5 := K3.out.free 5
    have x6 := K3.out.free 6
    have x7 := K3.out.free 7
    have x8 := K3.out.free 8
    have hqs := K3.out.lt
    refine wpAnyH_ready (rs := [9]) (by kernel_rfl) (by simp) ?_
    refine AllReadyH.cons rfl (fun K0 hK => ?_) AllReadyH.nil
    go_simp
    have HF := Lib.hid (show Blk (((((((((W3.setCell ⟨Q, 0, none⟩ (.string o)).setCell ⟨Q, 1, none⟩ (.string n)).setCell ⟨Q, 2, none⟩ (.int .i64 0)).setCell ⟨Q, 3, none⟩ (.bool false)).setCell ⟨Q, 4, none⟩ (.int .i64 0)).setCell ⟨Q, 5, none⟩ (.string ⟨#[]⟩)).setCell ⟨Q, 6, none⟩ (.slice none 0 0)).setCell ⟨Q, 7, none⟩ (.slice A' 0 c')).setCell ⟨Q, 8, none⟩ (.slice none 0 0)) Q 43 #[.string o, .string n, .int .i64 0, .bool false, .int .i64 0, .string ⟨#[]⟩, .slice none 0 0, .slice A' 0 c', .slice none 0 0] from put9_blk K3.out _ _ _ _ _ _ _ _ _)
    have HFB := Lib.hid (put9_below (o := 0) H3.out HQ.out (.string o) (.string n) (.int .i64 0) (.bool false) (.int .i64 0) (.string ⟨#[]⟩) (.slice none 0 0) (.slice A' 0 c') (.slice none 0 0))
    generalize (((((((((W3.setCell ⟨Q, 0, none⟩ (.string o)).setCell ⟨Q, 1, none⟩ (.string n)).setCell ⟨Q, 2, none⟩ (.int .i64 0)).setCell ⟨Q, 3, none⟩ (.bool false)).setCell ⟨Q, 4, none⟩ (.int .i64 0)).setCell ⟨Q, 5, none⟩ (.string ⟨#[]⟩)).setCell ⟨Q, 6, none⟩ (.slice none 0 0)).setCell ⟨Q, 7, none⟩ (.slice A' 0 c')).setCell ⟨Q, 8, none⟩ (.slice none 0 0)) = WF at *
    refine hK.out _ _ ?_ (fun hHeld => ?_)
    · exact HSS.out _ HFB.out
    clear hK K0 z0 x0 z1 x1 z2 x2 z3 x3 z4 x4 z5 x5 z6 x6 z7 x7 z8 x8
    try simp only [Act.put, List.getElem_toArray, List.getElem_cons_succ, List.getElem_cons_zero, List.setIfInBounds_toArray, List.set_cons_zero, List.set_cons_succ]
    refine wpAnyH_done (by kernel_rfl) ?_ _
    have kA := HA.out.onto HFB.out
    have kB := HB.out.onto HFB.out
    have a8 := kA.cell 8
    have HBF := Lib.hid kB
    have HWF := Lib.hid (HW.out.trans (HFB.out.mono hs))
    clear kA kB
    go_wp2_with fail
    clear a8
    go_loopw [17] (fun x wr => x = .int .i64 0 ∧ wr = WF) (fun _ _ => 0)
    case atStart => exact ⟨rfl, rfl⟩
    case round =>
      obtain ⟨rfl, rfl⟩ := hrel
      have c0 := HF.out.cell 0
      have c1 := HF.out.cell 1
      have c2 := HF.out.cell 2
      have c3 := HF.out.cell 3
      have c4 := HF.out.cell 4
      have c5 := HF.out.cell 5
      have c6 := HF.out.cell 6
      have c7 := HF.out.cell 7
      have c8 := HF.out.cell 8
      obtain ⟨y0, z0⟩ : ∃ u, wr.cell? ⟨g + 1, 0, none⟩ = some u := ⟨_, HBF.out.cell 0⟩
      have x0 := HBF.out.free 0
      obtain ⟨y1, z1⟩ : ∃ u, wr.cell? ⟨g + 1, 1, none⟩ = some u := ⟨_, HBF.out.cell 1⟩
      have x1 := HBF.out.free 1
      obtain ⟨y2, z2⟩ : ∃ u, wr.cell? ⟨g + 1, 2, none⟩ = some u := ⟨_, HBF.out.cell 2⟩
      have x2 := HBF.out.free 2
      obtain ⟨y3, z3⟩ : ∃ u, wr.cell? ⟨g + 1, 3, none⟩ = some u := ⟨_, HBF.out.cell 3⟩
      have x3 := HBF.out.free 3
      obtain ⟨y4, z4⟩ : ∃ u, wr.cell? ⟨g + 1, 4, none⟩ = some u := ⟨_, HBF.out.cell 4⟩
      have x4 := HBF.out.free 4
      obtain ⟨y5, z5⟩ : ∃ u, wr.cell? ⟨g + 1, 5, none⟩ = some u := ⟨_, HBF.out.cell 5⟩
      have x5 := HBF.out.free 5
      obtain ⟨y6, z6⟩ : ∃ u, wr.cell? ⟨g + 1, 6, none⟩ = some u := ⟨_, HBF.out.cell 6⟩
      have x6 := HBF.out.free 6
      obtain ⟨y7, z7⟩ : ∃ u, wr.cell? ⟨g + 1, 7, none⟩ = some u := ⟨_, HBF.out.cell 7⟩
      have x7 := HBF.out.free 7
      obtain ⟨y8, z8⟩ : ∃ u, wr.cell? ⟨g + 1, 8, none⟩ = some u := ⟨_, HBF.out.cell 8⟩
      have x8 := HBF.out.free 8
      go_wp2_with fail
      have HF2 := Lib.hid (show Blk (((((((((wr.setCell ⟨(g + 1), 0, none⟩ (.string o)).setCell ⟨(g + 1), 1, none⟩ (.string n)).setCell ⟨(g + 1), 2, none⟩ (.int .i64 0)).setCell ⟨(g + 1), 3, none⟩ (.bool false)).setCell ⟨(g + 1), 4, none⟩ (.int .i64 0)).setCell ⟨(g + 1), 5, none⟩ (.string ⟨#[]⟩)).setCell ⟨(g + 1), 6, none⟩ (.slice none 0 0)).setCell ⟨(g + 1), 7, none⟩ (.slice A' 0 c')).setCell ⟨(g + 1), 8, none⟩ (.slice none 0 0)) (g + 1) 43 #[.string o, .string n, .int .i64 0, .bool false, .int .i64 0, .string ⟨#[]⟩, .slice none 0 0, .slice A' 0 c', .slice none 0 0] from put9_blk HBF.out _ _ _ _ _ _ _ _ _)
      have HFB2 := Lib.hid (put9_below (o := 0) HWF.out (show g ≤ g + 1 from Nat.le_succ g) (.string o) (.string n) (.int .i64 0) (.bool false) (.int .i64 0) (.string ⟨#[]⟩) (.slice none 0 0) (.slice A' 0 c') (.slice none 0 0))
      clear z0 x0 z1 x1 z2 x2 z3 x3 z4 x4 z5 x5 z6 x6 z7 x7 z8 x8 c0 c1 c2 c3 c4 c5 c6 c7 c8
      generalize (((((((((wr.setCell ⟨(g + 1), 0, none⟩ (.string o)).setCell ⟨(g + 1), 1, none⟩ (.string n)).setCell ⟨(g + 1), 2, none⟩ (.int .i64 0)).setCell ⟨(g + 1), 3, none⟩ (.bool false)).setCell ⟨(g + 1), 4, none⟩ (.int .i64 0)).setCell ⟨(g + 1), 5, none⟩ (.string ⟨#[]⟩)).setCell ⟨(g + 1), 6, none⟩ (.slice none 0 0)).setCell ⟨(g + 1), 7, none⟩ (.slice A' 0 c')).setCell ⟨(g + 1), 8, none⟩ (.slice none 0 0)) = WZ at *
      have c0 := HF2.out.cell 0
      have c1 := HF2.out.cell 1
      have c2 := HF2.out.cell 2
      have c3 := HF2.out.cell 3
      have c4 := HF2.out.cell 4
      have c5 := HF2.out.cell 5
      have c6 := HF2.out.cell 6
      have c7 := HF2.out.cell 7
      have c8 := HF2.out.cell 8
      refine bodyPost_ret (v := .agg #[.string o, .string n, .int .i64 0, .bool false, .int .i64 0, .string ⟨#[]⟩, .slice none 0 0, .slice A' 0 c', .slice none 0 0]) (by simp [results, Tryz.results13, go_sem, c0, c1, c2, c3, c4, c5, c6, c7, c8]) rfl ⟨rfl, ?_⟩
      rw [HG.out]
      exact HFB2.out
  · go_simp
    have H3 := Lib.hid (show Below W.heap.size W (W.alloc (.cells #[.string ⟨#[]⟩, .string ⟨#[]⟩, .int .i64 0, .bool false, .int .i64 0, .string ⟨#[]⟩, .slice none 0 0, .slice none 0 0, .slice none 0 0] 43)).drew from ((Below.refl _ _).alloc (Nat.le_refl _) _).drew)
    have K3 := Lib.hid (show Blk (W.alloc (.cells #[.string ⟨#[]⟩, .string ⟨#[]⟩, .int .i64 0, .bool false, .int .i64 0, .string ⟨#[]⟩, .slice none 0 0, .slice none 0 0, .slice none 0 0] 43)).drew W.heap.size 43 nul9 from Blk.new W _ _)
    have HQ := Lib.hid (show W.heap.size ≤ W.heap.size from Nat.le_refl _)
    refine hK.out _ _ ?_ (fun hHeld => ?_)
    · exact HSS.out _ H3.out
    clear hK K0
    try simp only [Act.put, List.getElem_toArray, List.getElem_cons_succ, List.getElem_cons_zero, List.setIfInBounds_toArray, List.set_cons_zero, List.set_cons_succ]
    generalize (W.alloc (.cells #[.string ⟨#[]⟩, .string ⟨#[]⟩, .int .i64 0, .bool false, .int .i64 0, .string ⟨#[]⟩, .slice none 0 0, .slice none 0 0, .slice none 0 0] 43)).drew = W2 at *
    obtain ⟨Q, hQ⟩ : ∃ Q, Q = W.heap.size := ⟨_, rfl⟩
    rw [← hQ] at K3
    have HQ := Lib.hid (show W.heap.size ≤ Q from Nat.le_of_eq hQ.symm)
    rw [← hQ]
    clear hQ
    refine wpAnyH_ready (rs := [6]) (by kernel_rfl) (by simp) ?_
    refine AllReadyH.cons rfl (fun K0 hK => ?_) AllReadyH.nil
    go_simp
    refine (ref_zero A c A' c' _).mono ?_
    rintro e W3 ⟨rfl, hb2⟩
    have K4 := Lib.hid (K3.out.onto hb2)
    have H4 := Lib.hid (H3.out.trans (hb2.mono H3.out.size))
    clear hb2 K3 H3
    go_wp2_with fail
    refine hK.out _ _ ?_ (fun hHeld => ?_)
    · exact HSS.out _ H4.out
    clear hK K0
    try simp only [Act.put, List.getElem_toArray, List.getElem_cons_succ, List.getElem_cons_zero, List.setIfInBounds_toArray, List.set_cons_zero, List.set_cons_succ]
    refine wpAnyH_take (i := 7) (v := ?_) rfl (by kernel_rfl) (by kernel_rfl) (by kernel_rfl) (fun _ _ _ h => h) (Or.inl ⟨by rfl, ?_⟩) (by assumption) ?_
    rotate_left
    · intro wq hSw
      try dsimp only at hSw
      go_simp
      try (with_reducible rfl)
    try simp only [Act.put, List.getElem_toArray, List.getElem_cons_succ, List.getElem_cons_zero, List.setIfInBounds_toArray, List.set_cons_zero, List.set_cons_succ]
    obtain ⟨y0, z0⟩ : ∃ u, W3.cell? ⟨Q, 0, none⟩ = some u := ⟨.string ⟨#[]⟩, K4.out.cell 0⟩
    obtain ⟨y1, z1⟩ : ∃ u, W3.cell? ⟨Q, 1, none⟩ = some u := ⟨.string ⟨#[]⟩, K4.out.cell 1⟩
    obtain ⟨y2, z2⟩ : ∃ u, W3.cell? ⟨Q, 2, none⟩ = some u := ⟨.int .i64 0, K4.out.cell 2⟩
    obtain ⟨y3, z3⟩ : ∃ u, W3.cell? ⟨Q, 3, none⟩ = some u := ⟨.bool false, K4.out.cell 3⟩
    obtain ⟨y4, z4⟩ : ∃ u, W3.cell? ⟨Q, 4, none⟩ = some u := ⟨.int .i64 0, K4.out.cell 4⟩
    obtain ⟨y5, z5⟩ : ∃ u, W3.cell? ⟨Q, 5, none⟩ = some u := ⟨.string ⟨#[]⟩, K4.out.cell 5⟩
    obtain ⟨y6, z6⟩ : ∃ u, W3.cell? ⟨Q, 6, none⟩ = some u := ⟨.slice none 0 0, K4.out.cell 6⟩
    obtain ⟨y7, z7⟩ : ∃ u, W3.cell? ⟨Q, 7, none⟩ = some u := ⟨.slice none 0 0, K4.out.cell 7⟩
    obtain ⟨y8, z8⟩ : ∃ u, W3.cell? ⟨Q, 8, none⟩ = some u := ⟨.slice none 0 0, K4.out.cell 8⟩
    have x0 := K4.out.free 0
    have x1 := K4.out.free 1
    have x2 := K4.out.free 2
    have x3 := K4.out.free 3
    have x4 := K4.out.free 4
    have x5 := K4.out.free 5
    have x6 := K4.out.free 6
    have x7 := K4.out.free 7
    have x8 := K4.out.free 8
    have hqs := K4.out.lt
    refine wpAnyH_ready (rs := [9]) (by kernel_rfl) (by simp) ?_
    refine AllReadyH.cons rfl (fun K0 hK => ?_) AllReadyH.nil
    go_simp
    have HF := Lib.hid (show Blk (((((((((W3.setCell ⟨Q, 0, none⟩ (.string o)).setCell ⟨Q, 1, none⟩ (.string n)).setCell ⟨Q, 2, none⟩ (.int .i64 0)).setCell ⟨Q, 3, none⟩ (.bool false)).setCell ⟨Q, 4, none⟩ (.int .i64 0)).setCell ⟨Q, 5, none⟩ (.string ⟨#[]⟩)).setCell ⟨Q, 6, none⟩ (.slice none 0 0)).setCell ⟨Q, 7, none⟩ (.slice A' 0 c')).setCell ⟨Q, 8, none⟩ (.slice none 0 0)) Q 43 #[.string o, .string n, .int .i64 0, .bool false, .int .i64 0, .string ⟨#[]⟩, .slice none 0 0, .slice A' 0 c', .slice none 0 0] from put9_blk K4.out _ _ _ _ _ _ _ _ _)
    have HFB := Lib.hid (put9_below (o := 0) H4.out HQ.out (.string o) (.string n) (.int .i64 0) (.bool false) (.int .i64 0) (.string ⟨#[]⟩) (.slice none 0 0) (.slice A' 0 c') (.slice none 0 0))
    generalize (((((((((W3.setCell ⟨Q, 0, none⟩ (.string o)).setCell ⟨Q, 1, none⟩ (.string n)).setCell ⟨Q, 2, none⟩ (.int .i64 0)).setCell ⟨Q, 3, none⟩ (.bool false)).setCell ⟨Q, 4, none⟩ (.int .i64 0)).setCell ⟨Q, 5, none⟩ (.string ⟨#[]⟩)).setCell ⟨Q, 6, none⟩ (.slice none 0 0)).setCell ⟨Q, 7, none⟩ (.slice A' 0 c')).setCell ⟨Q, 8, none⟩ (.slice none 0 0)) = WF at *
    refine hK.out _ _ ?_ (fun hHeld => ?_)
    · exact HSS.out _ HFB.out
    clear hK K0 z0 x0 z1 x1 z2 x2 z3 x3 z4 x4 z5 x5 z6 x6 z7 x7 z8 x8
    try simp only [Act.put, List.getElem_toArray, List.getElem_cons_succ, List.getElem_cons_zero, List.setIfInBounds_toArray, List.set_cons_zero, List.set_cons_succ]
    refine wpAnyH_done (by kernel_rfl) ?_ _
    have kA := HA.out.onto HFB.out
    have kB := HB.out.onto HFB.out
    have a8 := kA.cell 8
    have HBF := Lib.hid kB
    have HWF := Lib.hid (HW.out.trans (HFB.out.mono hs))
    clear kA kB
    go_wp2_with fail
    clear a8
    go_loopw [17] (fun x wr => x = .int .i64 0 ∧ wr = WF) (fun _ _ => 0)
    case atStart => exact ⟨rfl, rfl⟩
    case round =>
      obtain ⟨rfl, rfl⟩ := hrel
      have c0 := HF.out.cell 0
      have c1 := HF.out.cell 1
      have c2 := HF.out.cell 2
      have c3 := HF.out.cell 3
      have c4 := HF.out.cell 4
      have c5 := HF.out.cell 5
      have c6 := HF.out.cell 6
      have c7 := HF.out.cell 7
      have c8 := HF.out.cell 8
      obtain ⟨y0, z0⟩ : ∃ u, wr.cell? ⟨g + 1, 0, none⟩ = some u := ⟨_, HBF.out.cell 0⟩
      have x0 := HBF.out.free 0
      obtain ⟨y1, z1⟩ : ∃ u, wr.cell? ⟨g + 1, 1, none⟩ = some u := ⟨_, HBF.out.cell 1⟩
      have x1 := HBF.out.free 1
      obtain ⟨y2, z2⟩ : ∃ u, wr.cell? ⟨g + 1, 2, none⟩ = some u := ⟨_, HBF.out.cell 2⟩
      have x2 := HBF.out.free 2
      obtain ⟨y3, z3⟩ : ∃ u, wr.cell? ⟨g + 1, 3, none⟩ = some u := ⟨_, HBF.out.cell 3⟩
      have x3 := HBF.out.free 3
      obtain ⟨y4, z4⟩ : ∃ u, wr.cell? ⟨g + 1, 4, none⟩ = some u := ⟨_, HBF.out.cell 4⟩
      have x4 := HBF.out.free 4
      obtain ⟨y5, z5⟩ : ∃ u, wr.cell? ⟨g + 1, 5, none⟩ = some u := ⟨_, HBF.out.cell 5⟩
      have x5 := HBF.out.free 5
      obtain ⟨y6, z6⟩ : ∃ u, wr.cell? ⟨g + 1, 6, none⟩ = some u := ⟨_, HBF.out.cell 6⟩
      have x6 := HBF.out.free 6
      obtain ⟨y7, z7⟩ : ∃ u, wr.cell? ⟨g + 1, 7, none⟩ = some u := ⟨_, HBF.out.cell 7⟩
      have x7 := HBF.out.free 7
      obtain ⟨y8, z8⟩ : ∃ u, wr.cell? ⟨g + 1, 8, none⟩ = some u := ⟨_, HBF.out.cell 8⟩
      have x8 := HBF.out.free 8
      go_wp2_with fail
      have HF2 := Lib.hid (show Blk (((((((((wr.setCell ⟨(g + 1), 0, none⟩ (.string o)).setCell ⟨(g + 1), 1, none⟩ (.string n)).setCell ⟨(g + 1), 2, none⟩ (.int .i64 0)).setCell ⟨(g + 1), 3, none⟩ (.bool false)).setCell ⟨(g + 1), 4, none⟩ (.int .i64 0)).setCell ⟨(g + 1), 5, none⟩ (.string ⟨#[]⟩)).setCell ⟨(g + 1), 6, none⟩ (.slice none 0 0)).setCell ⟨(g + 1), 7, none⟩ (.slice A' 0 c')).setCell ⟨(g + 1), 8, none⟩ (.slice none 0 0)) (g + 1) 43 #[.string o, .string n, .int .i64 0, .bool false, .int .i64 0, .string ⟨#[]⟩, .slice none 0 0, .slice A' 0 c', .slice none 0 0] from put9_blk HBF.out _ _ _ _ _ _ _ _ _)
      have HFB2 := Lib.hid (put9_below (o := 0) HWF.out (show g ≤ g + 1 from Nat.le_succ g) (.string o) (.string n) (.int .i64 0) (.bool false) (.int .i64 0) (.string ⟨#[]⟩) (.slice none 0 0) (.slice A' 0 c') (.slice none 0 0))
      clear z0 x0 z1 x1 z2 x2 z3 x3 z4 x4 z5 x5 z6 x6 z7 x7 z8 x8 c0 c1 c2 c3 c4 c5 c6 c7 c8
      generalize (((((((((wr.setCell ⟨(g + 1), 0, none⟩ (.string o)).setCell ⟨(g + 1), 1, none⟩ (.string n)).setCell ⟨(g + 1), 2, none⟩ (.int .i64 0)).setCell ⟨(g + 1), 3, none⟩ (.bool false)).setCell ⟨(g + 1), 4, none⟩ (.int .i64 0)).setCell ⟨(g + 1), 5, none⟩ (.string ⟨#[]⟩)).setCell ⟨(g + 1), 6, none⟩ (.slice none 0 0)).setCell ⟨(g + 1), 7, none⟩ (.slice A' 0 c')).setCell ⟨(g + 1), 8, none⟩ (.slice none 0 0)) = WZ at *
      have c0 := HF2.out.cell 0
      have c1 := HF2.out.cell 1
      have c2 := HF2.out.cell 2
      have c3 := HF2.out.cell 3
      have c4 := HF2.out.cell 4
      have c5 := HF2.out.cell 5
      have c6 := HF2.out.cell 6
      have c7 := HF2.out.cell 7
      have c8 := HF2.out.cell 8
      refine bodyPost_ret (v := .agg #[.string o, .string n, .int .i64 0, .bool false, .int .i64 0, .string ⟨#[]⟩, .slice none 0 0, .slice A' 0 c', .slice none 0 0]) (by simp [results, Tryz.results13, go_sem, c0, c1, c2, c3, c4, c5, c6, c7, c8]) rfl ⟨rfl, ?_⟩
      rw [HG.out]
      exact HFB2.out
end Go.Proofs.YtikfmgedmiocgaaGreatDoor
