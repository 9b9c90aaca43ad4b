/- Truth, Number, Text, and the law's fixed fact. -/
import Derived.Test.YtleikaiokoahdaaObject
namespace Go.Proofs.Ytleikaiokoahdaa
open Go.RowKit

def T.ofBool (b : Bool) : T := .mk 1 b 0 ⟨#[]⟩ [] []
def T.ofNum (n : Int) : T := .mk 2 false n ⟨#[]⟩ [] []
def T.ofStr (s : ByteArray) : T := .mk 3 false 0 s [] []
theorem TV.leaf (w : World) (S : Nat → Prop) {t : T} (h1 : t.items = []) (h2 : t.keys = []) : TV w S t none 0 none 0 :=
  TV.of (by rw [h1]; exact Nat.le_refl _) (by rw [h2]; exact Nat.le_refl _) (fun h => absurd h1 h) (fun h => absurd h2 h)
theorem T.leaf_all {P : T → Prop} {t : T} (h : P t) (h1 : t.items = []) : T.All P t := .mk t h fun x hx => by rw [h1] at hx; cases hx
theorem number_any (n : Int) (w : World) : Calls Try.prog 15 #[.int .i64 n] w fun e w' => e = .returned ((T.ofNum n).agg none 0 none 0) ∧ Below w.heap.size w w' := by
  go_enter Try.func15, Try.ntmps15
  go_wp2_with fail
  exact bodyPost_ret (v := (T.ofNum n).agg none 0 none 0) (by simp [results, Try.results15, go_sem, T.ofNum, T.agg, T.kind, T.tr, T.num, T.str, T.items, T.keys]) rfl ⟨rfl, (Below.refl _ _).alloc (Nat.le_refl _) _⟩
def sa : ByteArray := ⟨#[97]⟩
def sb : ByteArray := ⟨#[98]⟩
theorem srt_ba : srt [sb, sa] = [sa, sb] := by
  have h : ¬ (([98] : List UInt8) ≤ [97]) := by decide
  simp [srt, sa, sb, List.mergeSort, h]
def abT : T := .mk 5 false 0 ⟨#[]⟩ [T.ofNum 2, T.ofNum 1] [sa, sb]
theorem obj_ba : objT [sb, sa] [T.ofNum 1, T.ofNum 2] = abT := by
  unfold objT placed
  rw [srt_ba]
  rfl
set_option maxRecDepth 100000 in
set_option maxHeartbeats 2000000 in
theorem awake_any (w : World) : Calls Try.prog 5 #[] w fun e w' => e = .returned (.bool true) ∧ Below w.heap.size w w' := by
  go_enter Try.func5, Try.ntmps5
  go_wp2_with fail
  refine (number_any 1 _).mono ?_
  rintro e w1 ⟨rfl, hb1⟩
  have h1 : Below w.heap.size w w1 := ((Below.refl _ w).alloc (Nat.le_refl _) _).trans (hb1.mono (by simp))
  have k1 : Blk w1 w.heap.size 9 #[.string sb, .string sa] := (Blk.new w _ _).onto hb1
  have H1 := Lib.hid h1
  have K1 := Lib.hid k1
  clear hb1 h1 k1
  rw [show (T.ofNum 1).agg none 0 none 0 = .agg #[.int .i64 2, .bool false, .int .i64 1, .string ⟨#[]⟩, .slice none 0 0, .slice none 0 0] from rfl]
  go_wp2_with fail
  refine (number_any 2 _).mono ?_
  rintro e w2 ⟨rfl, hb2⟩
  have H2 := Lib.hid (H1.out.trans (hb2.mono H1.out.size))
  have K2 := Lib.hid (K1.out.onto hb2)
  have hlt : w.heap.size < w2.heap.size := K2.out.lt
  clear hb2
  rw [show (T.ofNum 2).agg none 0 none 0 = .agg #[.int .i64 2, .bool false, .int .i64 2, .string ⟨#[]⟩, .slice none 0 0, .slice none 0 0] from rfl]
  go_wp2_with fail
  have hW : Below w.heap.size w (w2.alloc (.cells #[.int .i64 2, .bool false, .int .i64 1, .string ⟨#[]⟩, .slice none 0 0, .slice none 0 0, .int .i64 2, .bool false, .int .i64 2, .string ⟨#[]⟩, .slice none 0 0, .slice none 0 0] 34)) := H2.out.alloc H2.out.size _
  have kS := K2.out.alloc (.cells #[.int .i64 2, .bool false, .int .i64 1, .string ⟨#[]⟩, .slice none 0 0, .slice none 0 0, .int .i64 2, .bool false, .int .i64 2, .string ⟨#[]⟩, .slice none 0 0, .slice none 0 0] 34)
  have kV := Blk.new w2 34 #[.int .i64 2, .bool false, .int .i64 1, .string ⟨#[]⟩, .slice none 0 0, .slice none 0 0, .int .i64 2, .bool false, .int .i64 2, .string ⟨#[]⟩, .slice none 0 0, .slice none 0 0]
  refine (object_ok [sb, sa] [T.ofNum 1, T.ofNum 2] (some ⟨w.heap.size, 0, none⟩) 2 (some ⟨w2.heap.size, 0, none⟩) 2 _ (by decide) rfl ?_ ?_ ?_ ?_ ?_ ?_).mono ?_
  · intro _
    refine ⟨w.heap.size, 0, rfl, kS.lt, fun i s hs => ?_⟩
    rw [Nat.zero_add, kS.cell]
    match i, hs with
    | 0, hs => injection hs with hs; subst hs; rfl
    | 1, hs => injection hs with hs; subst hs; rfl
  · intro s hs
    simp only [List.mem_cons, List.not_mem_nil, or_false] at hs
    rcases hs with rfl | rfl
    · exact okText_one 98 (by decide)
    · exact okText_one 97 (by decide)
  · decide
  · decide
  · intro x hx
    simp only [List.mem_cons, List.not_mem_nil, or_false] at hx
    rcases hx with rfl | rfl <;> exact T.leaf_all (by decide) rfl
  · intro _
    refine ⟨w2.heap.size, 0, rfl, kV.lt, fun i x hx => ?_⟩
    match i, hx with
    | 0, hx => injection hx with hx; subst hx; exact ⟨none, 0, none, 0, ⟨kV.cell 0, kV.cell 1, kV.cell 2, kV.cell 3, kV.cell 4, kV.cell 5⟩, TV.leaf _ _ rfl rfl⟩
    | 1, hx => injection hx with hx; subst hx; exact ⟨none, 0, none, 0, ⟨kV.cell 6, kV.cell 7, kV.cell 8, kV.cell 9, kV.cell 10, kV.cell 11⟩, TV.leaf _ _ rfl rfl⟩
  rintro e w3 ⟨⟨B, d, B', d', rfl, ht⟩, hb3⟩
  rw [obj_ba] at ht ⊢
  have H3 := Lib.hid (hW.trans (hb3.mono hW.size))
  clear hb3 hW kS kV
  obtain ⟨b, o, rfl, hb, hi⟩ := ht.row (by intro h; cases h)
  obtain ⟨b', o', rfl, hb', hk⟩ := ht.keys (by intro h; cases h)
  have c0 : w3.cell? ⟨b', o', none⟩ = some (.string ⟨#[97]⟩) := hk 0 sa rfl
  obtain ⟨_, _, _, _, h6, _⟩ := hi 0 (T.ofNum 2) rfl
  have c2 : w3.cell? ⟨b, o + 2, none⟩ = some (.int .i64 2) := h6.2.2.1
  clear hi hk h6 ht
  rw [show abT.agg (some ⟨b, o, none⟩) d (some ⟨b', o', none⟩) d' = .agg #[.int .i64 5, .bool false, .int .i64 0, .string ⟨#[]⟩, .slice (some ⟨b, o, none⟩) 2 d, .slice (some ⟨b', o', none⟩) 2 d'] from rfl]
  go_wp2_with fail
  go_ret
  exact ⟨rfl, H3.out.alloc H3.out.size _⟩
end Go.Proofs.Ytleikaiokoahdaa
