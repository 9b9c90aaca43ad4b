/- Truth, Number, Text, and the law's fixed fact. The values of one token, and what is none: contracts of the program's reader. What begins no value, or lies too deep: contracts of the program's reader. The value that begins with a token, where none stands within it: contract of the program's reader. -/
import Derived.Test.YtgblenoaeanogaaGreatDoorMG
import Derived.Test.YtgblenoaeanogaaGreatDoorMF
import Derived.Deep.RegionLaw
set_option linter.unusedVariables false
set_option maxRecDepth 100000
set_option maxHeartbeats 8000000
open Go.Lib (hid)
namespace Go.Proofs.YtgblenoaeanogaaGreatDoor
open Go.RowKit
def T.ofBool (b : Bool) : T := .mk 1 b 0 ⟨#[]⟩ [] []
def T.ofNum (n : Int) : T := .mk 2 false n ⟨#[]⟩ [] []
def T.ofStr (s : ByteArray) : T := .mk 3 false 0 s [] []
theorem TV.leaf (w : World) (S : Nat → Prop) {t : T} (h1 : t.items = []) (h2 : t.keys = []) : TV w S t none 0 none 0 :=
 TV.of (by rw [h1]; exact Nat.le_refl _) (by rw [h2]; exact Nat.le_refl _) (fun h => absurd h1 h) (fun h => absurd h2 h)
theorem T.leaf_all {P : T → Prop} {t : T} (h : P t) (h1 : t.items = []) : T.All P t := .mk t h fun x hx => by rw [h1] at hx; cases hx
theorem truth_any (b : Bool) (w : World) : Calls Tryz.prog 79 #[.bool b] w fun e w' => e = .returned ((T.ofBool b).agg none 0 none 0) ∧ Below w.heap.size w w' := by
 go_enter Tryz.func79, Tryz.ntmps79
 go_wp2_with fail
 exact bodyPost_ret (v := (T.ofBool b).agg none 0 none 0) (by simp [results, Tryz.results79, go_sem, T.ofBool, T.agg, T.kind, T.tr, T.num, T.str, T.items, T.keys]) rfl ⟨rfl, (Below.refl _ _).alloc (Nat.le_refl _) _⟩
theorem number_any (n : Int) (w : World) : Calls Tryz.prog 21 #[.int .i64 n] w fun e w' => e = .returned ((T.ofNum n).agg none 0 none 0) ∧ Below w.heap.size w w' := by
 go_enter Tryz.func21, Tryz.ntmps21
 go_wp2_with fail
 exact bodyPost_ret (v := (T.ofNum n).agg none 0 none 0) (by simp [results, Tryz.results21, go_sem, T.ofNum, T.agg, T.kind, T.tr, T.num, T.str, T.items, T.keys]) rfl ⟨rfl, (Below.refl _ _).alloc (Nat.le_refl _) _⟩
def sa : ByteArray := ⟨#[97]⟩
def sb : ByteArray := ⟨#[98]⟩
open Go.RowKit
open Tk
theorem from_null (t : Tok) (r : Nat) (w : World) (hk : t.kind = 6) :
 Calls Tryz.prog 62 #[.pointer (some ⟨r, 0, none⟩), .agg #[.int .i64 t.kind, .string t.text, .int .i64 t.num, .int .i64 t.at_, .int .i64 t.fin]] w fun e w' => e = .returned (.tuple #[T.zero.agg none 0 none 0, .int .i64 0, .int .i64 0]) ∧ Below w.heap.size w w' := by
 obtain ⟨k, s, n, a, f⟩ := t
 dsimp only at hk ⊢
 subst hk
 go_enter Tryz.func62, Tryz.ntmps62
 go_wp2_with fail
 exact bodyPost_ret (v := .tuple #[T.zero.agg none 0 none 0, .int .i64 0, .int .i64 0]) (by simp [results, Tryz.results62, go_sem, T.zero, T.agg, T.kind, T.tr, T.num, T.str, T.items, T.keys]) rfl ⟨rfl, ((Below.refl _ _).alloc (Nat.le_refl _) _).alloc (by simp) _⟩
theorem from_num (t : Tok) (r : Nat) (w : World) (hk : t.kind = 3) :
 Calls Tryz.prog 62 #[.pointer (some ⟨r, 0, none⟩), .agg #[.int .i64 t.kind, .string t.text, .int .i64 t.num, .int .i64 t.at_, .int .i64 t.fin]] w fun e w' => e = .returned (.tuple #[(T.ofNum t.num).agg none 0 none 0, .int .i64 0, .int .i64 0]) ∧ Below w.heap.size w w' := by
 obtain ⟨k, s, n, a, f⟩ := t
 dsimp only at hk ⊢
 subst hk
 have HC := hid (fun w => number_any n w)
 generalize (T.ofNum n) = v at *
 go_enter Tryz.func62, Tryz.ntmps62
 have hW0 : Below w.heap.size w (w.alloc (.cells #[.int .i64 3, .string s, .int .i64 n, .int .i64 a, .int .i64 f] 99)) := (Below.refl _ _).alloc (Nat.le_refl _) _
 have hB0 : Blk (w.alloc (.cells #[.int .i64 3, .string s, .int .i64 n, .int .i64 a, .int .i64 f] 99)) w.heap.size 99 #[.int .i64 3, .string s, .int .i64 n, .int .i64 a, .int .i64 f] := Blk.new w _ _
 have hB1 : Blk ((w.alloc (.cells #[.int .i64 3, .string s, .int .i64 n, .int .i64 a, .int .i64 f] 99)).alloc (.cells #[.int .i64 0, .bool false, .int .i64 0, .string ⟨#[]⟩, .slice none 0 0, .slice none 0 0] 43)) (w.heap.size + 1) 43 #[.int .i64 0, .bool false, .int .i64 0, .string ⟨#[]⟩, .slice none 0 0, .slice none 0 0] := by
  have := Blk.new (w.alloc (.cells #[.int .i64 3, .string s, .int .i64 n, .int .i64 a, .int .i64 f] 99)) 43 #[.int .i64 0, .bool false, .int .i64 0, .string ⟨#[]⟩, .slice none 0 0, .slice none 0 0]
  rwa [show (w.alloc (.cells #[.int .i64 3, .string s, .int .i64 n, .int .i64 a, .int .i64 f] 99)).heap.size = w.heap.size + 1 by simp] at this
 have hB2 : Blk ((w.alloc (.cells #[.int .i64 3, .string s, .int .i64 n, .int .i64 a, .int .i64 f] 99)).alloc (.cells #[.int .i64 0, .bool false, .int .i64 0, .string ⟨#[]⟩, .slice none 0 0, .slice none 0 0] 43)) w.heap.size 99 #[.int .i64 3, .string s, .int .i64 n, .int .i64 a, .int .i64 f] := hB0.alloc _
 have hW : Below w.heap.size w ((w.alloc (.cells #[.int .i64 3, .string s, .int .i64 n, .int .i64 a, .int .i64 f] 99)).alloc (.cells #[.int .i64 0, .bool false, .int .i64 0, .string ⟨#[]⟩, .slice none 0 0, .slice none 0 0] 43)) := hW0.alloc (by simp) _
 go_wp2_with fail
 change Calls _ _ _ ((w.alloc (.cells #[.int .i64 3, .string s, .int .i64 n, .int .i64 a, .int .i64 f] 99)).alloc (.cells #[.int .i64 0, .bool false, .int .i64 0, .string ⟨#[]⟩, .slice none 0 0, .slice none 0 0] 43)) _
 generalize ((w.alloc (.cells #[.int .i64 3, .string s, .int .i64 n, .int .i64 a, .int .i64 f] 99)).alloc (.cells #[.int .i64 0, .bool false, .int .i64 0, .string ⟨#[]⟩, .slice none 0 0, .slice none 0 0] 43)) = W at *
 clear hB0 hW0
 refine (HC.out _).mono ?_
 rintro e w2 ⟨rfl, hb⟩
 have hB := hB1.on hb hB1.lt
 have hL := hW.trans (hb.mono hW.size)
 clear hB1 hB2 hW HC hb
 have hB1 := hB
 clear hB
 have r0 : w2.cell? ⟨w.heap.size + 1, 0, none⟩ = some (.int .i64 0) := hB1.cell 0
 have r1 : w2.cell? ⟨w.heap.size + 1, 1, none⟩ = some (.bool false) := hB1.cell 1
 have r2 : w2.cell? ⟨w.heap.size + 1, 2, none⟩ = some (.int .i64 0) := hB1.cell 2
 have r3 : w2.cell? ⟨w.heap.size + 1, 3, none⟩ = some (.string ⟨#[]⟩) := hB1.cell 3
 have r4 : w2.cell? ⟨w.heap.size + 1, 4, none⟩ = some (.slice none 0 0) := hB1.cell 4
 have r5 : w2.cell? ⟨w.heap.size + 1, 5, none⟩ = some (.slice none 0 0) := hB1.cell 5
 have x0 := hB1.free 0
 have x1 := hB1.free 1
 have x2 := hB1.free 2
 have x3 := hB1.free 3
 have x4 := hB1.free 4
 have x5 := hB1.free 5
 have HL := hid hL
 have HF := hid hB1
 clear hL hB1
 unfold T.agg
 go_wp2_with fail
 have hF := res_put (w := w2) (g := w.heap.size + 1) HF.out rfl v none 0 none 0
 have hL2 : Below w.heap.size w ((((((w2.setCell ⟨w.heap.size + 1, 0, none⟩ (.int .i64 v.kind)).setCell ⟨w.heap.size + 1, 1, none⟩ (.bool v.tr)).setCell ⟨w.heap.size + 1, 2, none⟩ (.int .i64 v.num)).setCell ⟨w.heap.size + 1, 3, none⟩ (.string v.str)).setCell ⟨w.heap.size + 1, 4, none⟩ (.slice none v.items.length 0)).setCell ⟨w.heap.size + 1, 5, none⟩ (.slice none v.keys.length 0)) := (((((HL.out.setCell (Nat.le_succ _) _).setCell (Nat.le_succ _) _).setCell (Nat.le_succ _) _).setCell (Nat.le_succ _) _).setCell (Nat.le_succ _) _).setCell (Nat.le_succ _) _
 change Blk ((((((w2.setCell ⟨w.heap.size + 1, 0, none⟩ (.int .i64 v.kind)).setCell ⟨w.heap.size + 1, 1, none⟩ (.bool v.tr)).setCell ⟨w.heap.size + 1, 2, none⟩ (.int .i64 v.num)).setCell ⟨w.heap.size + 1, 3, none⟩ (.string v.str)).setCell ⟨w.heap.size + 1, 4, none⟩ (.slice none v.items.length 0)).setCell ⟨w.heap.size + 1, 5, none⟩ (.slice none v.keys.length 0)) _ _ _ at hF
 generalize ((((((w2.setCell ⟨w.heap.size + 1, 0, none⟩ (.int .i64 v.kind)).setCell ⟨w.heap.size + 1, 1, none⟩ (.bool v.tr)).setCell ⟨w.heap.size + 1, 2, none⟩ (.int .i64 v.num)).setCell ⟨w.heap.size + 1, 3, none⟩ (.string v.str)).setCell ⟨w.heap.size + 1, 4, none⟩ (.slice none v.items.length 0)).setCell ⟨w.heap.size + 1, 5, none⟩ (.slice none v.keys.length 0)) = V at *
 have m0 : V.cell? ⟨w.heap.size + 1, 0, none⟩ = some (.int .i64 v.kind) := hF.cell 0
 have m1 : V.cell? ⟨w.heap.size + 1, 1, none⟩ = some (.bool v.tr) := hF.cell 1
 have m2 : V.cell? ⟨w.heap.size + 1, 2, none⟩ = some (.int .i64 v.num) := hF.cell 2
 have m3 : V.cell? ⟨w.heap.size + 1, 3, none⟩ = some (.string v.str) := hF.cell 3
 have m4 : V.cell? ⟨w.heap.size + 1, 4, none⟩ = some (.slice none v.items.length 0) := hF.cell 4
 have m5 : V.cell? ⟨w.heap.size + 1, 5, none⟩ = some (.slice none v.keys.length 0) := hF.cell 5
 refine bodyPost_ret (v := .tuple #[v.agg none 0 none 0, .int .i64 0, .int .i64 0]) (by simp [results, Tryz.results62, go_sem, T.agg, m0, m1, m2, m3, m4, m5]) rfl ?_
 exact ⟨rfl, hL2⟩
theorem vtext_any6 (s : ByteArray) (w : World) : Calls Tryz.prog 80 #[.string s] w fun e w' => e = .returned ((T.ofStr s).agg none 0 none 0) ∧ Below w.heap.size w w' := by
 go_enter Tryz.func80, Tryz.ntmps80
 go_wp2_with fail
 exact bodyPost_ret (v := (T.ofStr s).agg none 0 none 0) (by simp [results, Tryz.results80, go_sem, T.ofStr, T.agg, T.kind, T.tr, T.num, T.str, T.items, T.keys]) rfl ⟨rfl, (Below.refl _ _).alloc (Nat.le_refl _) _⟩
theorem from_str (t : Tok) (r : Nat) (w : World) (hk : t.kind = 2) :
 Calls Tryz.prog 62 #[.pointer (some ⟨r, 0, none⟩), .agg #[.int .i64 t.kind, .string t.text, .int .i64 t.num, .int .i64 t.at_, .int .i64 t.fin]] w fun e w' => e = .returned (.tuple #[(T.ofStr t.text).agg none 0 none 0, .int .i64 0, .int .i64 0]) ∧ Below w.heap.size w w' := by
 obtain ⟨k, s, n, a, f⟩ := t
 dsimp only at hk ⊢
 subst hk
 have HC := hid (fun w => vtext_any6 s w)
 generalize (T.ofStr s) = v at *
 go_enter Tryz.func62, Tryz.ntmps62
 have hW0 : Below w.heap.size w (w.alloc (.cells #[.int .i64 2, .string s, .int .i64 n, .int .i64 a, .int .i64 f] 99)) := (Below.refl _ _).alloc (Nat.le_refl _) _
 have hB0 : Blk (w.alloc (.cells #[.int .i64 2, .string s, .int .i64 n, .int .i64 a, .int .i64 f] 99)) w.heap.size 99 #[.int .i64 2, .string s, .int .i64 n, .int .i64 a, .int .i64 f] := Blk.new w _ _
 have hB1 : Blk ((w.alloc (.cells #[.int .i64 2, .string s, .int .i64 n, .int .i64 a, .int .i64 f] 99)).alloc (.cells #[.int .i64 0, .bool false, .int .i64 0, .string ⟨#[]⟩, .slice none 0 0, .slice none 0 0] 43)) (w.heap.size + 1) 43 #[.int .i64 0, .bool false, .int .i64 0, .string ⟨#[]⟩, .slice none 0 0, .slice none 0 0] := by
  have := Blk.new (w.alloc (.cells #[.int .i64 2, .string s, .int .i64 n, .int .i64 a, .int .i64 f] 99)) 43 #[.int .i64 0, .bool false, .int .i64 0, .string ⟨#[]⟩, .slice none 0 0, .slice none 0 0]
  rwa [show (w.alloc (.cells #[.int .i64 2, .string s, .int .i64 n, .int .i64 a, .int .i64 f] 99)).heap.size = w.heap.size + 1 by simp] at this
 have hB2 : Blk ((w.alloc (.cells #[.int .i64 2, .string s, .int .i64 n, .int .i64 a, .int .i64 f] 99)).alloc (.cells #[.int .i64 0, .bool false, .int .i64 0, .string ⟨#[]⟩, .slice none 0 0, .slice none 0 0] 43)) w.heap.size 99 #[.int .i64 2, .string s, .int .i64 n, .int .i64 a, .int .i64 f] := hB0.alloc _
 have hW : Below w.heap.size w ((w.alloc (.cells #[.int .i64 2, .string s, .int .i64 n, .int .i64 a, .int .i64 f] 99)).alloc (.cells #[.int .i64 0, .bool false, .int .i64 0, .string ⟨#[]⟩, .slice none 0 0, .slice none 0 0] 43)) := hW0.alloc (by simp) _
 go_wp2_with fail
 change Calls _ _ _ ((w.alloc (.cells #[.int .i64 2, .string s, .int .i64 n, .int .i64 a, .int .i64 f] 99)).alloc (.cells #[.int .i64 0, .bool false, .int .i64 0, .string ⟨#[]⟩, .slice none 0 0, .slice none 0 0] 43)) _
 generalize ((w.alloc (.cells #[.int .i64 2, .string s, .int .i64 n, .int .i64 a, .int .i64 f] 99)).alloc (.cells #[.int .i64 0, .bool false, .int .i64 0, .string ⟨#[]⟩, .slice none 0 0, .slice none 0 0] 43)) = W at *
 clear hB0 hW0
 refine (HC.out _).mono ?_
 rintro e w2 ⟨rfl, hb⟩
 have hB := hB1.on hb hB1.lt
 have hL := hW.trans (hb.mono hW.size)
 clear hB1 hB2 hW HC hb
 have hB1 := hB
 clear hB
 have r0 : w2.cell? ⟨w.heap.size + 1, 0, none⟩ = some (.int .i64 0) := hB1.cell 0
 have r1 : w2.cell? ⟨w.heap.size + 1, 1, none⟩ = some (.bool false) := hB1.cell 1
 have r2 : w2.cell? ⟨w.heap.size + 1, 2, none⟩ = some (.int .i64 0) := hB1.cell 2
 have r3 : w2.cell? ⟨w.heap.size + 1, 3, none⟩ = some (.string ⟨#[]⟩) := hB1.cell 3
 have r4 : w2.cell? ⟨w.heap.size + 1, 4, none⟩ = some (.slice none 0 0) := hB1.cell 4
 have r5 : w2.cell? ⟨w.heap.size + 1, 5, none⟩ = some (.slice none 0 0) := hB1.cell 5
 have x0 := hB1.free 0
 have x1 := hB1.free 1
 have x2 := hB1.free 2
 have x3 := hB1.free 3
 have x4 := hB1.free 4
 have x5 := hB1.free 5
 have HL := hid hL
 have HF := hid hB1
 clear hL hB1
 unfold T.agg
 go_wp2_with fail
 have hF := res_put (w := w2) (g := w.heap.size + 1) HF.out rfl v none 0 none 0
 have hL2 : Below w.heap.size w ((((((w2.setCell ⟨w.heap.size + 1, 0, none⟩ (.int .i64 v.kind)).setCell ⟨w.heap.size + 1, 1, none⟩ (.bool v.tr)).setCell ⟨w.heap.size + 1, 2, none⟩ (.int .i64 v.num)).setCell ⟨w.heap.size + 1, 3, none⟩ (.string v.str)).setCell ⟨w.heap.size + 1, 4, none⟩ (.slice none v.items.length 0)).setCell ⟨w.heap.size + 1, 5, none⟩ (.slice none v.keys.length 0)) := (((((HL.out.setCell (Nat.le_succ _) _).setCell (Nat.le_succ _) _).setCell (Nat.le_succ _) _).setCell (Nat.le_succ _) _).setCell (Nat.le_succ _) _).setCell (Nat.le_succ _) _
 change Blk ((((((w2.setCell ⟨w.heap.size + 1, 0, none⟩ (.int .i64 v.kind)).setCell ⟨w.heap.size + 1, 1, none⟩ (.bool v.tr)).setCell ⟨w.heap.size + 1, 2, none⟩ (.int .i64 v.num)).setCell ⟨w.heap.size + 1, 3, none⟩ (.string v.str)).setCell ⟨w.heap.size + 1, 4, none⟩ (.slice none v.items.length 0)).setCell ⟨w.heap.size + 1, 5, none⟩ (.slice none v.keys.length 0)) _ _ _ at hF
 generalize ((((((w2.setCell ⟨w.heap.size + 1, 0, none⟩ (.int .i64 v.kind)).setCell ⟨w.heap.size + 1, 1, none⟩ (.bool v.tr)).setCell ⟨w.heap.size + 1, 2, none⟩ (.int .i64 v.num)).setCell ⟨w.heap.size + 1, 3, none⟩ (.string v.str)).setCell ⟨w.heap.size + 1, 4, none⟩ (.slice none v.items.length 0)).setCell ⟨w.heap.size + 1, 5, none⟩ (.slice none v.keys.length 0)) = V at *
 have m0 : V.cell? ⟨w.heap.size + 1, 0, none⟩ = some (.int .i64 v.kind) := hF.cell 0
 have m1 : V.cell? ⟨w.heap.size + 1, 1, none⟩ = some (.bool v.tr) := hF.cell 1
 have m2 : V.cell? ⟨w.heap.size + 1, 2, none⟩ = some (.int .i64 v.num) := hF.cell 2
 have m3 : V.cell? ⟨w.heap.size + 1, 3, none⟩ = some (.string v.str) := hF.cell 3
 have m4 : V.cell? ⟨w.heap.size + 1, 4, none⟩ = some (.slice none v.items.length 0) := hF.cell 4
 have m5 : V.cell? ⟨w.heap.size + 1, 5, none⟩ = some (.slice none v.keys.length 0) := hF.cell 5
 refine bodyPost_ret (v := .tuple #[v.agg none 0 none 0, .int .i64 0, .int .i64 0]) (by simp [results, Tryz.results62, go_sem, T.agg, m0, m1, m2, m3, m4, m5]) rfl ?_
 exact ⟨rfl, hL2⟩
theorem from_true (t : Tok) (r : Nat) (w : World) (hk : t.kind = 4) :
 Calls Tryz.prog 62 #[.pointer (some ⟨r, 0, none⟩), .agg #[.int .i64 t.kind, .string t.text, .int .i64 t.num, .int .i64 t.at_, .int .i64 t.fin]] w fun e w' => e = .returned (.tuple #[(T.ofBool true).agg none 0 none 0, .int .i64 0, .int .i64 0]) ∧ Below w.heap.size w w' := by
 obtain ⟨k, s, n, a, f⟩ := t
 dsimp only at hk ⊢
 subst hk
 have HC := hid (fun w => truth_any true w)
 generalize (T.ofBool true) = v at *
 go_enter Tryz.func62, Tryz.ntmps62
 have hW0 : Below w.heap.size w (w.alloc (.cells #[.int .i64 4, .string s, .int .i64 n, .int .i64 a, .int .i64 f] 99)) := (Below.refl _ _).alloc (Nat.le_refl _) _
 have hB0 : Blk (w.alloc (.cells #[.int .i64 4, .string s, .int .i64 n, .int .i64 a, .int .i64 f] 99)) w.heap.size 99 #[.int .i64 4, .string s, .int .i64 n, .int .i64 a, .int .i64 f] := Blk.new w _ _
 have hB1 : Blk ((w.alloc (.cells #[.int .i64 4, .string s, .int .i64 n, .int .i64 a, .int .i64 f] 99)).alloc (.cells #[.int .i64 0, .bool false, .int .i64 0, .string ⟨#[]⟩, .slice none 0 0, .slice none 0 0] 43)) (w.heap.size + 1) 43 #[.int .i64 0, .bool false, .int .i64 0, .string ⟨#[]⟩, .slice none 0 0, .slice none 0 0] := by
  have := Blk.new (w.alloc (.cells #[.int .i64 4, .string s, .int .i64 n, .int .i64 a, .int .i64 f] 99)) 43 #[.int .i64 0, .bool false, .int .i64 0, .string ⟨#[]⟩, .slice none 0 0, .slice none 0 0]
  rwa [show (w.alloc (.cells #[.int .i64 4, .string s, .int .i64 n, .int .i64 a, .int .i64 f] 99)).heap.size = w.heap.size + 1 by simp] at this
 have hB2 : Blk ((w.alloc (.cells #[.int .i64 4, .string s, .int .i64 n, .int .i64 a, .int .i64 f] 99)).alloc (.cells #[.int .i64 0, .bool false, .int .i64 0, .string ⟨#[]⟩, .slice none 0 0, .slice none 0 0] 43)) w.heap.size 99 #[.int .i64 4, .string s, .int .i64 n, .int .i64 a, .int .i64 f] := hB0.alloc _
 have hW : Below w.heap.size w ((w.alloc (.cells #[.int .i64 4, .string s, .int .i64 n, .int .i64 a, .int .i64 f] 99)).alloc (.cells #[.int .i64 0, .bool false, .int .i64 0, .string ⟨#[]⟩, .slice none 0 0, .slice none 0 0] 43)) := hW0.alloc (by simp) _
 go_wp2_with fail
 change Calls _ _ _ ((w.alloc (.cells #[.int .i64 4, .string s, .int .i64 n, .int .i64 a, .int .i64 f] 99)).alloc (.cells #[.int .i64 0, .bool false, .int .i64 0, .string ⟨#[]⟩, .slice none 0 0, .slice none 0 0] 43)) _
 generalize ((w.alloc (.cells #[.int .i64 4, .string s, .int .i64 n, .int .i64 a, .int .i64 f] 99)).alloc (.cells #[.int .i64 0, .bool false, .int .i64 0, .string ⟨#[]⟩, .slice none 0 0, .slice none 0 0] 43)) = W at *
 clear hB0 hW0
 refine (HC.out _).mono ?_
 rintro e w2 ⟨rfl, hb⟩
 have hB := hB1.on hb hB1.lt
 have hL := hW.trans (hb.mono hW.size)
 clear hB1 hB2 hW HC hb
 have hB1 := hB
 clear hB
 have r0 : w2.cell? ⟨w.heap.size + 1, 0, none⟩ = some (.int .i64 0) := hB1.cell 0
 have r1 : w2.cell? ⟨w.heap.size + 1, 1, none⟩ = some (.bool false) := hB1.cell 1
 have r2 : w2.cell? ⟨w.heap.size + 1, 2, none⟩ = some (.int .i64 0) := hB1.cell 2
 have r3 : w2.cell? ⟨w.heap.size + 1, 3, none⟩ = some (.string ⟨#[]⟩) := hB1.cell 3
 have r4 : w2.cell? ⟨w.heap.size + 1, 4, none⟩ = some (.slice none 0 0) := hB1.cell 4
 have r5 : w2.cell? ⟨w.heap.size + 1, 5, none⟩ = some (.slice none 0 0) := hB1.cell 5
 have x0 := hB1.free 0
 have x1 := hB1.free 1
 have x2 := hB1.free 2
 have x3 := hB1.free 3
 have x4 := hB1.free 4
 have x5 := hB1.free 5
 have HL := hid hL
 have HF := hid hB1
 clear hL hB1
 unfold T.agg
 go_wp2_with fail
 have hF := res_put (w := w2) (g := w.heap.size + 1) HF.out rfl v none 0 none 0
 have hL2 : Below w.heap.size w ((((((w2.setCell ⟨w.heap.size + 1, 0, none⟩ (.int .i64 v.kind)).setCell ⟨w.heap.size + 1, 1, none⟩ (.bool v.tr)).setCell ⟨w.heap.size + 1, 2, none⟩ (.int .i64 v.num)).setCell ⟨w.heap.size + 1, 3, none⟩ (.string v.str)).setCell ⟨w.heap.size + 1, 4, none⟩ (.slice none v.items.length 0)).setCell ⟨w.heap.size + 1, 5, none⟩ (.slice none v.keys.length 0)) := (((((HL.out.setCell (Nat.le_succ _) _).setCell (Nat.le_succ _) _).setCell (Nat.le_succ _) _).setCell (Nat.le_succ _) _).setCell (Nat.le_succ _) _).setCell (Nat.le_succ _) _
 change Blk ((((((w2.setCell ⟨w.heap.size + 1, 0, none⟩ (.int .i64 v.kind)).setCell ⟨w.heap.size + 1, 1, none⟩ (.bool v.tr)).setCell ⟨w.heap.size + 1, 2, none⟩ (.int .i64 v.num)).setCell ⟨w.heap.size + 1, 3, none⟩ (.string v.str)).setCell ⟨w.heap.size + 1, 4, none⟩ (.slice none v.items.length 0)).setCell ⟨w.heap.size + 1, 5, none⟩ (.slice none v.keys.length 0)) _ _ _ at hF
 generalize ((((((w2.setCell ⟨w.heap.size + 1, 0, none⟩ (.int .i64 v.kind)).setCell ⟨w.heap.size + 1, 1, none⟩ (.bool v.tr)).setCell ⟨w.heap.size + 1, 2, none⟩ (.int .i64 v.num)).setCell ⟨w.heap.size + 1, 3, none⟩ (.string v.str)).setCell ⟨w.heap.size + 1, 4, none⟩ (.slice none v.items.length 0)).setCell ⟨w.heap.size + 1, 5, none⟩ (.slice none v.keys.length 0)) = V at *
 have m0 : V.cell? ⟨w.heap.size + 1, 0, none⟩ = some (.int .i64 v.kind) := hF.cell 0
 have m1 : V.cell? ⟨w.heap.size + 1, 1, none⟩ = some (.bool v.tr) := hF.cell 1
 have m2 : V.cell? ⟨w.heap.size + 1, 2, none⟩ = some (.int .i64 v.num) := hF.cell 2
 have m3 : V.cell? ⟨w.heap.size + 1, 3, none⟩ = some (.string v.str) := hF.cell 3
 have m4 : V.cell? ⟨w.heap.size + 1, 4, none⟩ = some (.slice none v.items.length 0) := hF.cell 4
 have m5 : V.cell? ⟨w.heap.size + 1, 5, none⟩ = some (.slice none v.keys.length 0) := hF.cell 5
 refine bodyPost_ret (v := .tuple #[v.agg none 0 none 0, .int .i64 0, .int .i64 0]) (by simp [results, Tryz.results62, go_sem, T.agg, m0, m1, m2, m3, m4, m5]) rfl ?_
 exact ⟨rfl, hL2⟩
theorem from_false (t : Tok) (r : Nat) (w : World) (hk : t.kind = 5) :
 Calls Tryz.prog 62 #[.pointer (some ⟨r, 0, none⟩), .agg #[.int .i64 t.kind, .string t.text, .int .i64 t.num, .int .i64 t.at_, .int .i64 t.fin]] w fun e w' => e = .returned (.tuple #[(T.ofBool false).agg none 0 none 0, .int .i64 0, .int .i64 0]) ∧ Below w.heap.size w w' := by
 obtain ⟨k, s, n, a, f⟩ := t
 dsimp only at hk ⊢
 subst hk
 have HC := hid (fun w => truth_any false w)
 generalize (T.ofBool false) = v at *
 go_enter Tryz.func62, Tryz.ntmps62
 have hW0 : Below w.heap.size w (w.alloc (.cells #[.int .i64 5, .string s, .int .i64 n, .int .i64 a, .int .i64 f] 99)) := (Below.refl _ _).alloc (Nat.le_refl _) _
 have hB0 : Blk (w.alloc (.cells #[.int .i64 5, .string s, .int .i64 n, .int .i64 a, .int .i64 f] 99)) w.heap.size 99 #[.int .i64 5, .string s, .int .i64 n, .int .i64 a, .int .i64 f] := Blk.new w _ _
 have hB1 : Blk ((w.alloc (.cells #[.int .i64 5, .string s, .int .i64 n, .int .i64 a, .int .i64 f] 99)).alloc (.cells #[.int .i64 0, .bool false, .int .i64 0, .string ⟨#[]⟩, .slice none 0 0, .slice none 0 0] 43)) (w.heap.size + 1) 43 #[.int .i64 0, .bool false, .int .i64 0, .string ⟨#[]⟩, .slice none 0 0, .slice none 0 0] := by
  have := Blk.new (w.alloc (.cells #[.int .i64 5, .string s, .int .i64 n, .int .i64 a, .int .i64 f] 99)) 43 #[.int .i64 0, .bool false, .int .i64 0, .string ⟨#[]⟩, .slice none 0 0, .slice none 0 0]
  rwa [show (w.alloc (.cells #[.int .i64 5, .string s, .int .i64 n, .int .i64 a, .int .i64 f] 99)).heap.size = w.heap.size + 1 by simp] at this
 have hB2 : Blk ((w.alloc (.cells #[.int .i64 5, .string s, .int .i64 n, .int .i64 a, .int .i64 f] 99)).alloc (.cells #[.int .i64 0, .bool false, .int .i64 0, .string ⟨#[]⟩, .slice none 0 0, .slice none 0 0] 43)) w.heap.size 99 #[.int .i64 5, .string s, .int .i64 n, .int .i64 a, .int .i64 f] := hB0.alloc _
 have hW : Below w.heap.size w ((w.alloc (.cells #[.int .i64 5, .string s, .int .i64 n, .int .i64 a, .int .i64 f] 99)).alloc (.cells #[.int .i64 0, .bool false, .int .i64 0, .string ⟨#[]⟩, .slice none 0 0, .slice none 0 0] 43)) := hW0.alloc (by simp) _
 go_wp2_with fail
 change Calls _ _ _ ((w.alloc (.cells #[.int .i64 5, .string s, .int .i64 n, .int .i64 a, .int .i64 f] 99)).alloc (.cells #[.int .i64 0, .bool false, .int .i64 0, .string ⟨#[]⟩, .slice none 0 0, .slice none 0 0] 43)) _
 generalize ((w.alloc (.cells #[.int .i64 5, .string s, .int .i64 n, .int .i64 a, .int .i64 f] 99)).alloc (.cells #[.int .i64 0, .bool false, .int .i64 0, .string ⟨#[]⟩, .slice none 0 0, .slice none 0 0] 43)) = W at *
 clear hB0 hW0
 refine (HC.out _).mono ?_
 rintro e w2 ⟨rfl, hb⟩
 have hB := hB1.on hb hB1.lt
 have hL := hW.trans (hb.mono hW.size)
 clear hB1 hB2 hW HC hb
 have hB1 := hB
 clear hB
 have r0 : w2.cell? ⟨w.heap.size + 1, 0, none⟩ = some (.int .i64 0) := hB1.cell 0
 have r1 : w2.cell? ⟨w.heap.size + 1, 1, none⟩ = some (.bool false) := hB1.cell 1
 have r2 : w2.cell? ⟨w.heap.size + 1, 2, none⟩ = some (.int .i64 0) := hB1.cell 2
 have r3 : w2.cell? ⟨w.heap.size + 1, 3, none⟩ = some (.string ⟨#[]⟩) := hB1.cell 3
 have r4 : w2.cell? ⟨w.heap.size + 1, 4, none⟩ = some (.slice none 0 0) := hB1.cell 4
 have r5 : w2.cell? ⟨w.heap.size + 1, 5, none⟩ = some (.slice none 0 0) := hB1.cell 5
 have x0 := hB1.free 0
 have x1 := hB1.free 1
 have x2 := hB1.free 2
 have x3 := hB1.free 3
 have x4 := hB1.free 4
 have x5 := hB1.free 5
 have HL := hid hL
 have HF := hid hB1
 clear hL hB1
 unfold T.agg
 go_wp2_with fail
 have hF := res_put (w := w2) (g := w.heap.size + 1) HF.out rfl v none 0 none 0
 have hL2 : Below w.heap.size w ((((((w2.setCell ⟨w.heap.size + 1, 0, none⟩ (.int .i64 v.kind)).setCell ⟨w.heap.size + 1, 1, none⟩ (.bool v.tr)).setCell ⟨w.heap.size + 1, 2, none⟩ (.int .i64 v.num)).setCell ⟨w.heap.size + 1, 3, none⟩ (.string v.str)).setCell ⟨w.heap.size + 1, 4, none⟩ (.slice none v.items.length 0)).setCell ⟨w.heap.size + 1, 5, none⟩ (.slice none v.keys.length 0)) := (((((HL.out.setCell (Nat.le_succ _) _).setCell (Nat.le_succ _) _).setCell (Nat.le_succ _) _).setCell (Nat.le_succ _) _).setCell (Nat.le_succ _) _).setCell (Nat.le_succ _) _
 change Blk ((((((w2.setCell ⟨w.heap.size + 1, 0, none⟩ (.int .i64 v.kind)).setCell ⟨w.heap.size + 1, 1, none⟩ (.bool v.tr)).setCell ⟨w.heap.size + 1, 2, none⟩ (.int .i64 v.num)).setCell ⟨w.heap.size + 1, 3, none⟩ (.string v.str)).setCell ⟨w.heap.size + 1, 4, none⟩ (.slice none v.items.length 0)).setCell ⟨w.heap.size + 1, 5, none⟩ (.slice none v.keys.length 0)) _ _ _ at hF
 generalize ((((((w2.setCell ⟨w.heap.size + 1, 0, none⟩ (.int .i64 v.kind)).setCell ⟨w.heap.size + 1, 1, none⟩ (.bool v.tr)).setCell ⟨w.heap.size + 1, 2, none⟩ (.int .i64 v.num)).setCell ⟨w.heap.size + 1, 3, none⟩ (.string v.str)).setCell ⟨w.heap.size + 1, 4, none⟩ (.slice none v.items.length 0)).setCell ⟨w.heap.size + 1, 5, none⟩ (.slice none v.keys.length 0)) = V at *
 have m0 : V.cell? ⟨w.heap.size + 1, 0, none⟩ = some (.int .i64 v.kind) := hF.cell 0
 have m1 : V.cell? ⟨w.heap.size + 1, 1, none⟩ = some (.bool v.tr) := hF.cell 1
 have m2 : V.cell? ⟨w.heap.size + 1, 2, none⟩ = some (.int .i64 v.num) := hF.cell 2
 have m3 : V.cell? ⟨w.heap.size + 1, 3, none⟩ = some (.string v.str) := hF.cell 3
 have m4 : V.cell? ⟨w.heap.size + 1, 4, none⟩ = some (.slice none v.items.length 0) := hF.cell 4
 have m5 : V.cell? ⟨w.heap.size + 1, 5, none⟩ = some (.slice none v.keys.length 0) := hF.cell 5
 refine bodyPost_ret (v := .tuple #[v.agg none 0 none 0, .int .i64 0, .int .i64 0]) (by simp [results, Tryz.results62, go_sem, T.agg, m0, m1, m2, m3, m4, m5]) rfl ?_
 exact ⟨rfl, hL2⟩
open Go.RowKit
open Tk
theorem ismark_f (t : Tok) (x : ByteArray) (h : ¬ (t.kind = 1 ∧ t.text = x)) (w : World) : Calls Tryz.prog 81 #[.agg #[.int .i64 t.kind, .string t.text, .int .i64 t.num, .int .i64 t.at_, .int .i64 t.fin], .string x] w fun e w' => e = .returned (.bool false) ∧ Below w.heap.size w w' := by
 have := ismark_any t x w
 rwa [show (t.kind == 1 && decide (t.text = x)) = false by simpa [Bool.and_eq_false_iff] using h] at this
theorem ismark_t (t : Tok) (x : ByteArray) (h : t.kind = 1 ∧ t.text = x) (w : World) : Calls Tryz.prog 81 #[.agg #[.int .i64 t.kind, .string t.text, .int .i64 t.num, .int .i64 t.at_, .int .i64 t.fin], .string x] w fun e w' => e = .returned (.bool true) ∧ Below w.heap.size w w' := by
 have := ismark_any t x w
 rwa [show (t.kind == 1 && decide (t.text = x)) = true by simpa using h] at this
theorem from_form (t : Tok) (r : Nat) (w : World) (h6 : t.kind ≠ 6) (h5 : t.kind ≠ 5) (h4 : t.kind ≠ 4) (h3 : t.kind ≠ 3) (h2 : t.kind ≠ 2) (hl : ¬ (t.kind = 1 ∧ t.text = ⟨#[91]⟩)) (hc : ¬ (t.kind = 1 ∧ t.text = ⟨#[123]⟩)) :
 Calls Tryz.prog 62 #[.pointer (some ⟨r, 0, none⟩), .agg #[.int .i64 t.kind, .string t.text, .int .i64 t.num, .int .i64 t.at_, .int .i64 t.fin]] w fun e w' => e = .returned (.tuple #[T.zero.agg none 0 none 0, .int .i64 t.at_, .int .i64 1]) ∧ Below w.heap.size w w' := by
 have HL := hid (ismark_f t _ hl)
 have HC := hid (ismark_f t _ hc)
 obtain ⟨k, s, n, a, f⟩ := t
 dsimp only at *
 clear hl hc
 have u6 : (k == 6) = false := by simpa using h6
 have u5 : (k == 5) = false := by simpa using h5
 have u4 : (k == 4) = false := by simpa using h4
 have u3 : (k == 3) = false := by simpa using h3
 have u2 : (k == 2) = false := by simpa using h2
 go_enter Tryz.func62, Tryz.ntmps62
 have hW0 : Below w.heap.size w (w.alloc (.cells #[.int .i64 k, .string s, .int .i64 n, .int .i64 a, .int .i64 f] 99)) := (Below.refl _ _).alloc (Nat.le_refl _) _
 have hB0 : Blk (w.alloc (.cells #[.int .i64 k, .string s, .int .i64 n, .int .i64 a, .int .i64 f] 99)) w.heap.size 99 #[.int .i64 k, .string s, .int .i64 n, .int .i64 a, .int .i64 f] := Blk.new w _ _
 have hB1 : Blk ((w.alloc (.cells #[.int .i64 k, .string s, .int .i64 n, .int .i64 a, .int .i64 f] 99)).alloc (.cells #[.int .i64 0, .bool false, .int .i64 0, .string ⟨#[]⟩, .slice none 0 0, .slice none 0 0] 43)) (w.heap.size + 1) 43 #[.int .i64 0, .bool false, .int .i64 0, .string ⟨#[]⟩, .slice none 0 0, .slice none 0 0] := by
  have := Blk.new (w.alloc (.cells #[.int .i64 k, .string s, .int .i64 n, .int .i64 a, .int .i64 f] 99)) 43 #[.int .i64 0, .bool false, .int .i64 0, .string ⟨#[]⟩, .slice none 0 0, .slice none 0 0]
  rwa [show (w.alloc (.cells #[.int .i64 k, .string s, .int .i64 n, .int .i64 a, .int .i64 f] 99)).heap.size = w.heap.size + 1 by simp] at this
 have hB2 : Blk ((w.alloc (.cells #[.int .i64 k, .string s, .int .i64 n, .int .i64 a, .int .i64 f] 99)).alloc (.cells #[.int .i64 0, .bool false, .int .i64 0, .string ⟨#[]⟩, .slice none 0 0, .slice none 0 0] 43)) w.heap.size 99 #[.int .i64 k, .string s, .int .i64 n, .int .i64 a, .int .i64 f] := hB0.alloc _
 have hW : Below w.heap.size w ((w.alloc (.cells #[.int .i64 k, .string s, .int .i64 n, .int .i64 a, .int .i64 f] 99)).alloc (.cells #[.int .i64 0, .bool false, .int .i64 0, .string ⟨#[]⟩, .slice none 0 0, .slice none 0 0] 43)) := hW0.alloc (by simp) _
 have HB1 := hid hB1
 have HB2 := hid hB2
 have HW := hid hW
 clear hB0 hW0 hB1 hB2 hW
 go_wp2_with fail
 change Calls _ _ _ ((w.alloc (.cells #[.int .i64 k, .string s, .int .i64 n, .int .i64 a, .int .i64 f] 99)).alloc (.cells #[.int .i64 0, .bool false, .int .i64 0, .string ⟨#[]⟩, .slice none 0 0, .slice none 0 0] 43)) _
 generalize ((w.alloc (.cells #[.int .i64 k, .string s, .int .i64 n, .int .i64 a, .int .i64 f] 99)).alloc (.cells #[.int .i64 0, .bool false, .int .i64 0, .string ⟨#[]⟩, .slice none 0 0, .slice none 0 0] 43)) = W at *
 refine (HL.out _).mono ?_
 rintro e w2 ⟨rfl, hb⟩
 have hB2 := HB2.out.on hb HB2.out.lt
 have p0 : w2.cell? ⟨w.heap.size, 0, none⟩ = some (.int .i64 k) := hB2.cell 0
 have p1 : w2.cell? ⟨w.heap.size, 1, none⟩ = some (.string s) := hB2.cell 1
 have p2 : w2.cell? ⟨w.heap.size, 2, none⟩ = some (.int .i64 n) := hB2.cell 2
 have p3 : w2.cell? ⟨w.heap.size, 3, none⟩ = some (.int .i64 a) := hB2.cell 3
 have p4 : w2.cell? ⟨w.heap.size, 4, none⟩ = some (.int .i64 f) := hB2.cell 4
 have HB2' := hid hB2
 have HB1' := hid (HB1.out.on hb HB1.out.lt)
 have HW' := hid (HW.out.trans (hb.mono HW.out.size))
 clear hb hB2 HB1 HB2 HW
 go_wp2_with fail
 refine (HC.out _).mono ?_
 rintro e w3 ⟨rfl, hb⟩
 have hB2 := HB2'.out.on hb HB2'.out.lt
 have hB1 := HB1'.out.on hb HB1'.out.lt
 have HWW := hid (HW'.out.trans (hb.mono HW'.out.size))
 clear p0 p1 p2 p3 p4 hb HB1' HB2' HW' HL HC
 have p0 : w3.cell? ⟨w.heap.size, 0, none⟩ = some (.int .i64 k) := hB2.cell 0
 have p1 : w3.cell? ⟨w.heap.size, 1, none⟩ = some (.string s) := hB2.cell 1
 have p2 : w3.cell? ⟨w.heap.size, 2, none⟩ = some (.int .i64 n) := hB2.cell 2
 have p3 : w3.cell? ⟨w.heap.size, 3, none⟩ = some (.int .i64 a) := hB2.cell 3
 have p4 : w3.cell? ⟨w.heap.size, 4, none⟩ = some (.int .i64 f) := hB2.cell 4
 have q0 : w3.cell? ⟨w.heap.size + 1, 0, none⟩ = some (.int .i64 0) := hB1.cell 0
 have q1 : w3.cell? ⟨w.heap.size + 1, 1, none⟩ = some (.bool false) := hB1.cell 1
 have q2 : w3.cell? ⟨w.heap.size + 1, 2, none⟩ = some (.int .i64 0) := hB1.cell 2
 have q3 : w3.cell? ⟨w.heap.size + 1, 3, none⟩ = some (.string ⟨#[]⟩) := hB1.cell 3
 have q4 : w3.cell? ⟨w.heap.size + 1, 4, none⟩ = some (.slice none 0 0) := hB1.cell 4
 have q5 : w3.cell? ⟨w.heap.size + 1, 5, none⟩ = some (.slice none 0 0) := hB1.cell 5
 have x0 := hB1.free 0
 have x1 := hB1.free 1
 have x2 := hB1.free 2
 have x3 := hB1.free 3
 have x4 := hB1.free 4
 have x5 := hB1.free 5
 have HF := hid hB1
 clear hB1 hB2
 go_wp2_with fail
 go_region
 go_wp2_with fail
 have hF := res_put (w := w3) (g := w.heap.size + 1) HF.out rfl T.zero none 0 none 0
 have hL2 : Below w.heap.size w ((((((w3.setCell ⟨w.heap.size + 1, 0, none⟩ (.int .i64 0)).setCell ⟨w.heap.size + 1, 1, none⟩ (.bool false)).setCell ⟨w.heap.size + 1, 2, none⟩ (.int .i64 0)).setCell ⟨w.heap.size + 1, 3, none⟩ (.string ⟨#[]⟩)).setCell ⟨w.heap.size + 1, 4, none⟩ (.slice none 0 0)).setCell ⟨w.heap.size + 1, 5, none⟩ (.slice none 0 0)) := (((((HWW.out.setCell (Nat.le_succ _) _).setCell (Nat.le_succ _) _).setCell (Nat.le_succ _) _).setCell (Nat.le_succ _) _).setCell (Nat.le_succ _) _).setCell (Nat.le_succ _) _
 change Blk ((((((w3.setCell ⟨w.heap.size + 1, 0, none⟩ (.int .i64 0)).setCell ⟨w.heap.size + 1, 1, none⟩ (.bool false)).setCell ⟨w.heap.size + 1, 2, none⟩ (.int .i64 0)).setCell ⟨w.heap.size + 1, 3, none⟩ (.string ⟨#[]⟩)).setCell ⟨w.heap.size + 1, 4, none⟩ (.slice none 0 0)).setCell ⟨w.heap.size + 1, 5, none⟩ (.slice none 0 0)) _ _ _ at hF
 generalize ((((((w3.setCell ⟨w.heap.size + 1, 0, none⟩ (.int .i64 0)).setCell ⟨w.heap.size + 1, 1, none⟩ (.bool false)).setCell ⟨w.heap.size + 1, 2, none⟩ (.int .i64 0)).setCell ⟨w.heap.size + 1, 3, none⟩ (.string ⟨#[]⟩)).setCell ⟨w.heap.size + 1, 4, none⟩ (.slice none 0 0)).setCell ⟨w.heap.size + 1, 5, none⟩ (.slice none 0 0)) = V at *
 have m0 : V.cell? ⟨w.heap.size + 1, 0, none⟩ = some (.int .i64 0) := hF.cell 0
 have m1 : V.cell? ⟨w.heap.size + 1, 1, none⟩ = some (.bool false) := hF.cell 1
 have m2 : V.cell? ⟨w.heap.size + 1, 2, none⟩ = some (.int .i64 0) := hF.cell 2
 have m3 : V.cell? ⟨w.heap.size + 1, 3, none⟩ = some (.string ⟨#[]⟩) := hF.cell 3
 have m4 : V.cell? ⟨w.heap.size + 1, 4, none⟩ = some (.slice none 0 0) := hF.cell 4
 have m5 : V.cell? ⟨w.heap.size + 1, 5, none⟩ = some (.slice none 0 0) := hF.cell 5
 refine bodyPost_ret (v := .tuple #[T.zero.agg none 0 none 0, .int .i64 a, .int .i64 1]) (by simp [results, Tryz.results62, go_sem, T.agg, T.zero, T.kind, T.tr, T.num, T.str, T.items, T.keys, m0, m1, m2, m3, m4, m5]) rfl ?_
 exact ⟨rfl, hL2.drew⟩
theorem from_deep1 (t : Tok) (r b : Nat) (w : World) (hr : Blk w r 77 #[.pointer (some ⟨b, 0, none⟩), .int .i64 0]) (h6 : t.kind ≠ 6) (h5 : t.kind ≠ 5) (h4 : t.kind ≠ 4) (h3 : t.kind ≠ 3) (h2 : t.kind ≠ 2) (hl : t.kind = 1 ∧ t.text = ⟨#[91]⟩) :
 Calls Tryz.prog 62 #[.pointer (some ⟨r, 0, none⟩), .agg #[.int .i64 t.kind, .string t.text, .int .i64 t.num, .int .i64 t.at_, .int .i64 t.fin]] w fun e w' => e = .returned (.tuple #[T.zero.agg none 0 none 0, .int .i64 t.at_, .int .i64 6]) ∧ Below w.heap.size w w' := by
 have HL := hid (ismark_t t _ hl)
 obtain ⟨k, s, n, a, f⟩ := t
 dsimp only at *
 clear hl
 have u6 : (k == 6) = false := by simpa using h6
 have u5 : (k == 5) = false := by simpa using h5
 have u4 : (k == 4) = false := by simpa using h4
 have u3 : (k == 3) = false := by simpa using h3
 have u2 : (k == 2) = false := by simpa using h2
 go_enter Tryz.func62, Tryz.ntmps62
 have hW0 : Below w.heap.size w (w.alloc (.cells #[.int .i64 k, .string s, .int .i64 n, .int .i64 a, .int .i64 f] 99)) := (Below.refl _ _).alloc (Nat.le_refl _) _
 have hB0 : Blk (w.alloc (.cells #[.int .i64 k, .string s, .int .i64 n, .int .i64 a, .int .i64 f] 99)) w.heap.size 99 #[.int .i64 k, .string s, .int .i64 n, .int .i64 a, .int .i64 f] := Blk.new w _ _
 have hB1 : Blk ((w.alloc (.cells #[.int .i64 k, .string s, .int .i64 n, .int .i64 a, .int .i64 f] 99)).alloc (.cells #[.int .i64 0, .bool false, .int .i64 0, .string ⟨#[]⟩, .slice none 0 0, .slice none 0 0] 43)) (w.heap.size + 1) 43 #[.int .i64 0, .bool false, .int .i64 0, .string ⟨#[]⟩, .slice none 0 0, .slice none 0 0] := by
  have := Blk.new (w.alloc (.cells #[.int .i64 k, .string s, .int .i64 n, .int .i64 a, .int .i64 f] 99)) 43 #[.int .i64 0, .bool false, .int .i64 0, .string ⟨#[]⟩, .slice none 0 0, .slice none 0 0]
  rwa [show (w.alloc (.cells #[.int .i64 k, .string s, .int .i64 n, .int .i64 a, .int .i64 f] 99)).heap.size = w.heap.size + 1 by simp] at this
 have hB2 : Blk ((w.alloc (.cells #[.int .i64 k, .string s, .int .i64 n, .int .i64 a, .int .i64 f] 99)).alloc (.cells #[.int .i64 0, .bool false, .int .i64 0, .string ⟨#[]⟩, .slice none 0 0, .slice none 0 0] 43)) w.heap.size 99 #[.int .i64 k, .string s, .int .i64 n, .int .i64 a, .int .i64 f] := hB0.alloc _
 have hW : Below w.heap.size w ((w.alloc (.cells #[.int .i64 k, .string s, .int .i64 n, .int .i64 a, .int .i64 f] 99)).alloc (.cells #[.int .i64 0, .bool false, .int .i64 0, .string ⟨#[]⟩, .slice none 0 0, .slice none 0 0] 43)) := hW0.alloc (by simp) _
 have HB1 := hid hB1
 have HB2 := hid hB2
 have HW := hid hW
 have HR := hid (hr.on hW hr.lt)
 clear hr
 clear hB0 hW0 hB1 hB2 hW
 go_wp2_with fail
 change Calls _ _ _ ((w.alloc (.cells #[.int .i64 k, .string s, .int .i64 n, .int .i64 a, .int .i64 f] 99)).alloc (.cells #[.int .i64 0, .bool false, .int .i64 0, .string ⟨#[]⟩, .slice none 0 0, .slice none 0 0] 43)) _
 generalize ((w.alloc (.cells #[.int .i64 k, .string s, .int .i64 n, .int .i64 a, .int .i64 f] 99)).alloc (.cells #[.int .i64 0, .bool false, .int .i64 0, .string ⟨#[]⟩, .slice none 0 0, .slice none 0 0] 43)) = W at *
 refine (HL.out _).mono ?_
 rintro e w2 ⟨rfl, hb⟩
 have hB2 := HB2.out.on hb HB2.out.lt
 have hB1 := HB1.out.on hb HB1.out.lt
 have HWW := hid (HW.out.trans (hb.mono HW.out.size))
 have hR := HR.out.on hb HR.out.lt
 have y0 : w2.cell? ⟨r, 0, none⟩ = some (.pointer (some ⟨b, 0, none⟩)) := hR.cell 0
 have y1 : w2.cell? ⟨r, 1, none⟩ = some (.int .i64 0) := hR.cell 1
 clear hb HB1 HB2 HW HL HR hR
 have p0 : w2.cell? ⟨w.heap.size, 0, none⟩ = some (.int .i64 k) := hB2.cell 0
 have p1 : w2.cell? ⟨w.heap.size, 1, none⟩ = some (.string s) := hB2.cell 1
 have p2 : w2.cell? ⟨w.heap.size, 2, none⟩ = some (.int .i64 n) := hB2.cell 2
 have p3 : w2.cell? ⟨w.heap.size, 3, none⟩ = some (.int .i64 a) := hB2.cell 3
 have p4 : w2.cell? ⟨w.heap.size, 4, none⟩ = some (.int .i64 f) := hB2.cell 4
 have q0 : w2.cell? ⟨w.heap.size + 1, 0, none⟩ = some (.int .i64 0) := hB1.cell 0
 have q1 : w2.cell? ⟨w.heap.size + 1, 1, none⟩ = some (.bool false) := hB1.cell 1
 have q2 : w2.cell? ⟨w.heap.size + 1, 2, none⟩ = some (.int .i64 0) := hB1.cell 2
 have q3 : w2.cell? ⟨w.heap.size + 1, 3, none⟩ = some (.string ⟨#[]⟩) := hB1.cell 3
 have q4 : w2.cell? ⟨w.heap.size + 1, 4, none⟩ = some (.slice none 0 0) := hB1.cell 4
 have q5 : w2.cell? ⟨w.heap.size + 1, 5, none⟩ = some (.slice none 0 0) := hB1.cell 5
 have x0 := hB1.free 0
 have x1 := hB1.free 1
 have x2 := hB1.free 2
 have x3 := hB1.free 3
 have x4 := hB1.free 4
 have x5 := hB1.free 5
 have HF := hid hB1
 clear hB1 hB2
 go_wp2_with fail
 go_region
 go_wp2_with fail
 have hF := res_put (w := w2) (g := w.heap.size + 1) HF.out rfl T.zero none 0 none 0
 have hL2 : Below w.heap.size w ((((((w2.setCell ⟨w.heap.size + 1, 0, none⟩ (.int .i64 0)).setCell ⟨w.heap.size + 1, 1, none⟩ (.bool false)).setCell ⟨w.heap.size + 1, 2, none⟩ (.int .i64 0)).setCell ⟨w.heap.size + 1, 3, none⟩ (.string ⟨#[]⟩)).setCell ⟨w.heap.size + 1, 4, none⟩ (.slice none 0 0)).setCell ⟨w.heap.size + 1, 5, none⟩ (.slice none 0 0)) := (((((HWW.out.setCell (Nat.le_succ _) _).setCell (Nat.le_succ _) _).setCell (Nat.le_succ _) _).setCell (Nat.le_succ _) _).setCell (Nat.le_succ _) _).setCell (Nat.le_succ _) _
 change Blk ((((((w2.setCell ⟨w.heap.size + 1, 0, none⟩ (.int .i64 0)).setCell ⟨w.heap.size + 1, 1, none⟩ (.bool false)).setCell ⟨w.heap.size + 1, 2, none⟩ (.int .i64 0)).setCell ⟨w.heap.size + 1, 3, none⟩ (.string ⟨#[]⟩)).setCell ⟨w.heap.size + 1, 4, none⟩ (.slice none 0 0)).setCell ⟨w.heap.size + 1, 5, none⟩ (.slice none 0 0)) _ _ _ at hF
 generalize ((((((w2.setCell ⟨w.heap.size + 1, 0, none⟩ (.int .i64 0)).setCell ⟨w.heap.size + 1, 1, none⟩ (.bool false)).setCell ⟨w.heap.size + 1, 2, none⟩ (.int .i64 0)).setCell ⟨w.heap.size + 1, 3, none⟩ (.string ⟨#[]⟩)).setCell ⟨w.heap.size + 1, 4, none⟩ (.slice none 0 0)).setCell ⟨w.heap.size + 1, 5, none⟩ (.slice none 0 0)) = V at *
 have m0 : V.cell? ⟨w.heap.size + 1, 0, none⟩ = some (.int .i64 0) := hF.cell 0
 have m1 : V.cell? ⟨w.heap.size + 1, 1, none⟩ = some (.bool false) := hF.cell 1
 have m2 : V.cell? ⟨w.heap.size + 1, 2, none⟩ = some (.int .i64 0) := hF.cell 2
 have m3 : V.cell? ⟨w.heap.size + 1, 3, none⟩ = some (.string ⟨#[]⟩) := hF.cell 3
 have m4 : V.cell? ⟨w.heap.size + 1, 4, none⟩ = some (.slice none 0 0) := hF.cell 4
 have m5 : V.cell? ⟨w.heap.size + 1, 5, none⟩ = some (.slice none 0 0) := hF.cell 5
 refine bodyPost_ret (v := .tuple #[T.zero.agg none 0 none 0, .int .i64 a, .int .i64 6]) (by simp [results, Tryz.results62, go_sem, T.agg, T.zero, T.kind, T.tr, T.num, T.str, T.items, T.keys, m0, m1, m2, m3, m4, m5]) rfl ?_
 exact ⟨rfl, hL2.drew⟩
theorem from_deep2 (t : Tok) (r b : Nat) (w : World) (hr : Blk w r 77 #[.pointer (some ⟨b, 0, none⟩), .int .i64 0]) (h6 : t.kind ≠ 6) (h5 : t.kind ≠ 5) (h4 : t.kind ≠ 4) (h3 : t.kind ≠ 3) (h2 : t.kind ≠ 2) (hl : ¬ (t.kind = 1 ∧ t.text = ⟨#[91]⟩)) (hc : t.kind = 1 ∧ t.text = ⟨#[123]⟩) :
 Calls Tryz.prog 62 #[.pointer (some ⟨r, 0, none⟩), .agg #[.int .i64 t.kind, .string t.text, .int .i64 t.num, .int .i64 t.at_, .int .i64 t.fin]] w fun e w' => e = .returned (.tuple #[T.zero.agg none 0 none 0, .int .i64 t.at_, .int .i64 6]) ∧ Below w.heap.size w w' := by
 have HL := hid (ismark_f t _ hl)
 have HC := hid (ismark_t t _ hc)
 obtain ⟨k, s, n, a, f⟩ := t
 dsimp only at *
 clear hl hc
 have u6 : (k == 6) = false := by simpa using h6
 have u5 : (k == 5) = false := by simpa using h5
 have u4 : (k == 4) = false := by simpa using h4
 have u3 : (k == 3) = false := by simpa using h3
 have u2 : (k == 2) = false := by simpa using h2
 go_enter Tryz.func62, Tryz.ntmps62
 have hW0 : Below w.heap.size w (w.alloc (.cells #[.int .i64 k, .string s, .int .i64 n, .int .i64 a, .int .i64 f] 99)) := (Below.refl _ _).alloc (Nat.le_refl _) _
 have hB0 : Blk (w.alloc (.cells #[.int .i64 k, .string s, .int .i64 n, .int .i64 a, .int .i64 f] 99)) w.heap.size 99 #[.int .i64 k, .string s, .int .i64 n, .int .i64 a, .int .i64 f] := Blk.new w _ _
 have hB1 : Blk ((w.alloc (.cells #[.int .i64 k, .string s, .int .i64 n, .int .i64 a, .int .i64 f] 99)).alloc (.cells #[.int .i64 0, .bool false, .int .i64 0, .string ⟨#[]⟩, .slice none 0 0, .slice none 0 0] 43)) (w.heap.size + 1) 43 #[.int .i64 0, .bool false, .int .i64 0, .string ⟨#[]⟩, .slice none 0 0, .slice none 0 0] := by
  have := Blk.new (w.alloc (.cells #[.int .i64 k, .string s, .int .i64 n, .int .i64 a, .int .i64 f] 99)) 43 #[.int .i64 0, .bool false, .int .i64 0, .string ⟨#[]⟩, .slice none 0 0, .slice none 0 0]
  rwa [show (w.alloc (.cells #[.int .i64 k, .string s, .int .i64 n, .int .i64 a, .int .i64 f] 99)).heap.size = w.heap.size + 1 by simp] at this
 have hB2 : Blk ((w.alloc (.cells #[.int .i64 k, .string s, .int .i64 n, .int .i64 a, .int .i64 f] 99)).alloc (.cells #[.int .i64 0, .bool false, .int .i64 0, .string ⟨#[]⟩, .slice none 0 0, .slice none 0 0] 43)) w.heap.size 99 #[.int .i64 k, .string s, .int .i64 n, .int .i64 a, .int .i64 f] := hB0.alloc _
 have hW : Below w.heap.size w ((w.alloc (.cells #[.int .i64 k, .string s, .int .i64 n, .int .i64 a, .int .i64 f] 99)).alloc (.cells #[.int .i64 0, .bool false, .int .i64 0, .string ⟨#[]⟩, .slice none 0 0, .slice none 0 0] 43)) := hW0.alloc (by simp) _
 have HB1 := hid hB1
 have HB2 := hid hB2
 have HW := hid hW
 have HR := hid (hr.on hW hr.lt)
 clear hr
 clear hB0 hW0 hB1 hB2 hW
 go_wp2_with fail
 change Calls _ _ _ ((w.alloc (.cells #[.int .i64 k, .string s, .int .i64 n, .int .i64 a, .int .i64 f] 99)).alloc (.cells #[.int .i64 0, .bool false, .int .i64 0, .string ⟨#[]⟩, .slice none 0 0, .slice none 0 0] 43)) _
 generalize ((w.alloc (.cells #[.int .i64 k, .string s, .int .i64 n, .int .i64 a, .int .i64 f] 99)).alloc (.cells #[.int .i64 0, .bool false, .int .i64 0, .string ⟨#[]⟩, .slice none 0 0, .slice none 0 0] 43)) = W at *
 refine (HL.out _).mono ?_
 rintro e w2 ⟨rfl, hb⟩
 have hB2 := HB2.out.on hb HB2.out.lt
 have p0 : w2.cell? ⟨w.heap.size, 0, none⟩ = some (.int .i64 k) := hB2.cell 0
 have p1 : w2.cell? ⟨w.heap.size, 1, none⟩ = some (.string s) := hB2.cell 1
 have p2 : w2.cell? ⟨w.heap.size, 2, none⟩ = some (.int .i64 n) := hB2.cell 2
 have p3 : w2.cell? ⟨w.heap.size, 3, none⟩ = some (.int .i64 a) := hB2.cell 3
 have p4 : w2.cell? ⟨w.heap.size, 4, none⟩ = some (.int .i64 f) := hB2.cell 4
 have HB2' := hid hB2
 have HB1' := hid (HB1.out.on hb HB1.out.lt)
 have HR' := hid (HR.out.on hb HR.out.lt)
 have HW' := hid (HW.out.trans (hb.mono HW.out.size))
 clear hb hB2 HB1 HB2 HW HR
 go_wp2_with fail
 refine (HC.out _).mono ?_
 rintro e w3 ⟨rfl, hb⟩
 have hB2 := HB2'.out.on hb HB2'.out.lt
 have hB1 := HB1'.out.on hb HB1'.out.lt
 have HWW := hid (HW'.out.trans (hb.mono HW'.out.size))
 have hR := HR'.out.on hb HR'.out.lt
 have y0 : w3.cell? ⟨r, 0, none⟩ = some (.pointer (some ⟨b, 0, none⟩)) := hR.cell 0
 have y1 : w3.cell? ⟨r, 1, none⟩ = some (.int .i64 0) := hR.cell 1
 clear p0 p1 p2 p3 p4 hb HB1' HB2' HW' HL HC HR' hR
 have p0 : w3.cell? ⟨w.heap.size, 0, none⟩ = some (.int .i64 k) := hB2.cell 0
 have p1 : w3.cell? ⟨w.heap.size, 1, none⟩ = some (.string s) := hB2.cell 1
 have p2 : w3.cell? ⟨w.heap.size, 2, none⟩ = some (.int .i64 n) := hB2.cell 2
 have p3 : w3.cell? ⟨w.heap.size, 3, none⟩ = some (.int .i64 a) := hB2.cell 3
 have p4 : w3.cell? ⟨w.heap.size, 4, none⟩ = some (.int .i64 f) := hB2.cell 4
 have q0 : w3.cell? ⟨w.heap.size + 1, 0, none⟩ = some (.int .i64 0) := hB1.cell 0
 have q1 : w3.cell? ⟨w.heap.size + 1, 1, none⟩ = some (.bool false) := hB1.cell 1
 have q2 : w3.cell? ⟨w.heap.size + 1, 2, none⟩ = some (.int .i64 0) := hB1.cell 2
 have q3 : w3.cell? ⟨w.heap.size + 1, 3, none⟩ = some (.string ⟨#[]⟩) := hB1.cell 3
 have q4 : w3.cell? ⟨w.heap.size + 1, 4, none⟩ = some (.slice none 0 0) := hB1.cell 4
 have q5 : w3.cell? ⟨w.heap.size + 1, 5, none⟩ = some (.slice none 0 0) := hB1.cell 5
 have x0 := hB1.free 0
 have x1 := hB1.free 1
 have x2 := hB1.free 2
 have x3 := hB1.free 3
 have x4 := hB1.free 4
 have x5 := hB1.free 5
 have HF := hid hB1
 clear hB1 hB2
 go_wp2_with fail
 go_region
 go_wp2_with fail
 have hF := res_put (w := w3) (g := w.heap.size + 1) HF.out rfl T.zero none 0 none 0
 have hL2 : Below w.heap.size w ((((((w3.setCell ⟨w.heap.size + 1, 0, none⟩ (.int .i64 0)).setCell ⟨w.heap.size + 1, 1, none⟩ (.bool false)).setCell ⟨w.heap.size + 1, 2, none⟩ (.int .i64 0)).setCell ⟨w.heap.size + 1, 3, none⟩ (.string ⟨#[]⟩)).setCell ⟨w.heap.size + 1, 4, none⟩ (.slice none 0 0)).setCell ⟨w.heap.size + 1, 5, none⟩ (.slice none 0 0)) := (((((HWW.out.setCell (Nat.le_succ _) _).setCell (Nat.le_succ _) _).setCell (Nat.le_succ _) _).setCell (Nat.le_succ _) _).setCell (Nat.le_succ _) _).setCell (Nat.le_succ _) _
 change Blk ((((((w3.setCell ⟨w.heap.size + 1, 0, none⟩ (.int .i64 0)).setCell ⟨w.heap.size + 1, 1, none⟩ (.bool false)).setCell ⟨w.heap.size + 1, 2, none⟩ (.int .i64 0)).setCell ⟨w.heap.size + 1, 3, none⟩ (.string ⟨#[]⟩)).setCell ⟨w.heap.size + 1, 4, none⟩ (.slice none 0 0)).setCell ⟨w.heap.size + 1, 5, none⟩ (.slice none 0 0)) _ _ _ at hF
 generalize ((((((w3.setCell ⟨w.heap.size + 1, 0, none⟩ (.int .i64 0)).setCell ⟨w.heap.size + 1, 1, none⟩ (.bool false)).setCell ⟨w.heap.size + 1, 2, none⟩ (.int .i64 0)).setCell ⟨w.heap.size + 1, 3, none⟩ (.string ⟨#[]⟩)).setCell ⟨w.heap.size + 1, 4, none⟩ (.slice none 0 0)).setCell ⟨w.heap.size + 1, 5, none⟩ (.slice none 0 0)) = V at *
 have m0 : V.cell? ⟨w.heap.size + 1, 0, none⟩ = some (.int .i64 0) := hF.cell 0
 have m1 : V.cell? ⟨w.heap.size + 1, 1, none⟩ = some (.bool false) := hF.cell 1
 have m2 : V.cell? ⟨w.heap.size + 1, 2, none⟩ = some (.int .i64 0) := hF.cell 2
 have m3 : V.cell? ⟨w.heap.size + 1, 3, none⟩ = some (.string ⟨#[]⟩) := hF.cell 3
 have m4 : V.cell? ⟨w.heap.size + 1, 4, none⟩ = some (.slice none 0 0) := hF.cell 4
 have m5 : V.cell? ⟨w.heap.size + 1, 5, none⟩ = some (.slice none 0 0) := hF.cell 5
 refine bodyPost_ret (v := .tuple #[T.zero.agg none 0 none 0, .int .i64 a, .int .i64 6]) (by simp [results, Tryz.results62, go_sem, T.agg, T.zero, T.kind, T.tr, T.num, T.str, T.items, T.keys, m0, m1, m2, m3, m4, m5]) rfl ?_
 exact ⟨rfl, hL2.drew⟩
open Go.RowKit
open Tk
def FromGives (res : Rd.Res) (b : Nat) (s : ByteArray) (w : World) (e : Ending) (w' : World) : Prop := match res with
 | .out => True
 | .err p c => e = .returned (.tuple #[T.zero.agg none 0 none 0, .int .i64 p, .int .i64 c]) ∧ Aside b w w'
 | .val v fin => ∃ A c A' c', e = .returned (.tuple #[v.agg A c A' c', .int .i64 0, .int .i64 0]) ∧ TV w' (fun q => w.heap.size ≤ q ∧ q < w'.heap.size) v A c A' c' ∧ Aside b w w' ∧ Lx w' b s fin
theorem FromGives.leaf {v : T} {fin b : Nat} {s : ByteArray} {w w' : World} (h1 : v.items = []) (h2 : v.keys = []) (hl : Lx w b s fin) (hb : Below w.heap.size w w') : FromGives (.val v fin) b s w (.returned (.tuple #[v.agg none 0 none 0, .int .i64 0, .int .i64 0])) w' :=
 ⟨none, 0, none, 0, rfl, TV.leaf _ _ h1 h2, Aside.of hb, Blk.on hl hb (Blk.lt hl)⟩
theorem FromGives.bad {p : Nat} {c : Int} {b : Nat} {s : ByteArray} {w w' : World} (hb : Below w.heap.size w w') : FromGives (.err p c) b s w (.returned (.tuple #[T.zero.agg none 0 none 0, .int .i64 p, .int .i64 c])) w' :=
 ⟨rfl, Aside.of hb⟩
theorem from_leaf (O : List (ByteArray × T) → T) (s : ByteArray) (n room : Nat) (t : Tok) (r b : Nat) (w : World) (hr : Blk w r 77 #[.pointer (some ⟨b, 0, none⟩), .int .i64 room]) (hl : Lx w b s t.fin) (h : (Rd.isM t 91 ∨ Rd.isM t 123) → room = 0) :
 Calls Tryz.prog 62 #[.pointer (some ⟨r, 0, none⟩), .agg #[.int .i64 t.kind, .string t.text, .int .i64 t.num, .int .i64 t.at_, .int .i64 t.fin]] w (FromGives (Rd.fromF O s (n + 1) room t) b s w) := by
 have h91 : Tk.one 91 = ⟨#[91]⟩ := rfl
 have h123 : Tk.one 123 = ⟨#[123]⟩ := rfl
 unfold Rd.fromF
 by_cases h6 : t.kind = 6
 ·
  rw [if_pos h6]
  refine (from_null t r w h6).mono ?_
  rintro e w' ⟨rfl, hb⟩
  exact FromGives.leaf (v := Rd.nulT) rfl rfl hl hb
 rw [if_neg h6]
 by_cases h4 : t.kind = 4
 ·
  rw [if_pos (.inl h4), show (t.kind == 4) = true by simp [h4]]
  refine (from_true t r w h4).mono ?_
  rintro e w' ⟨rfl, hb⟩
  exact FromGives.leaf (v := Rd.truT true) rfl rfl hl hb
 by_cases h5 : t.kind = 5
 ·
  rw [if_pos (.inr h5), show (t.kind == 4) = false by simp [h5]]
  refine (from_false t r w h5).mono ?_
  rintro e w' ⟨rfl, hb⟩
  exact FromGives.leaf (v := Rd.truT false) rfl rfl hl hb
 rw [if_neg (show ¬ (t.kind = 4 ∨ t.kind = 5) from fun k => k.elim h4 h5)]
 by_cases h3 : t.kind = 3
 ·
  rw [if_pos h3]
  refine (from_num t r w h3).mono ?_
  rintro e w' ⟨rfl, hb⟩
  exact FromGives.leaf (v := Rd.numT t.num) rfl rfl hl hb
 rw [if_neg h3]
 by_cases h2 : t.kind = 2
 ·
  rw [if_pos h2]
  refine (from_str t r w h2).mono ?_
  rintro e w' ⟨rfl, hb⟩
  exact FromGives.leaf (v := Rd.strT t.text) rfl rfl hl hb
 rw [if_neg h2]
 by_cases hm : ¬ Rd.isM t 91 ∧ ¬ Rd.isM t 123
 ·
  rw [if_pos hm]
  refine (from_form t r w h6 h5 h4 h3 h2 (by rw [← h91]; exact hm.1) (by rw [← h123]; exact hm.2)).mono ?_
  rintro e w' ⟨rfl, hb⟩
  exact FromGives.bad hb
 rw [if_neg hm]
 by_cases k1 : Rd.isM t 91
 ·
  obtain rfl := h (.inl k1)
  rw [if_pos rfl]
  refine (from_deep1 t r b w hr h6 h5 h4 h3 h2 (by rw [← h91]; exact k1)).mono ?_
  rintro e w' ⟨rfl, hb⟩
  exact FromGives.bad hb
 ·
  have k2 : Rd.isM t 123 := Classical.byContradiction fun k2 => hm ⟨k1, k2⟩
  obtain rfl := h (.inr k2)
  rw [if_pos rfl]
  refine (from_deep2 t r b w hr h6 h5 h4 h3 h2 (by rw [← h91]; exact k1) (by rw [← h123]; exact k2)).mono ?_
  rintro e w' ⟨rfl, hb⟩
  exact FromGives.bad hb
end Go.Proofs.YtgblenoaeanogaaGreatDoor
