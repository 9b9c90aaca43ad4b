/- Truth, Number, Text, and the law's fixed fact. -/
import Derived.Test.YtgiapdmoiaiofaaDoorObject
namespace Go.Proofs.YtgiapdmoiaiofaaDoor
open Go.RowKit

def T.ofBool (b : Bool) : T := .mk 1 b 0 ⟨#[]⟩ [] []
def T.ofNum (n : Int) : T := .mk 2 false n ⟨#[]⟩ [] []
def T.ofStr (s : ByteArray) : T := .mk 3 false 0 s [] []
theorem TV.leaf (w : World) (S : Nat → Prop) {t : T} (h1 : t.items = []) (h2 : t.keys = []) : TV w S t none 0 none 0 :=
  TV.of (by rw [h1]; exact Nat.le_refl _) (by rw [h2]; exact Nat.le_refl _) (fun h => absurd h1 h) (fun h => absurd h2 h)
theorem T.leaf_all {P : T → Prop} {t : T} (h : P t) (h1 : t.items = []) : T.All P t := .mk t h fun x hx => by rw [h1] at hx; cases hx
theorem number_any (n : Int) (w : World) : Calls Tryd.prog 17 #[.int .i64 n] w fun e w' => e = .returned ((T.ofNum n).agg none 0 none 0) ∧ Below w.heap.size w w' := by
  go_enter Tryd.func17, Tryd.ntmps17
  go_wp2_with fail
  exact bodyPost_ret (v := (T.ofNum n).agg none 0 none 0) (by simp [results, Tryd.results17, go_sem, T.ofNum, T.agg, T.kind, T.tr, T.num, T.str, T.items, T.keys]) rfl ⟨rfl, (Below.refl _ _).alloc (Nat.le_refl _) _⟩
theorem text_any (s : ByteArray) (w : World) : Calls Tryd.prog 10 #[.string s] w fun e w' => e = .returned ((T.ofStr s).agg none 0 none 0) ∧ Below w.heap.size w w' := by
  go_enter Tryd.func10, Tryd.ntmps10
  go_wp2_with fail
  exact bodyPost_ret (v := (T.ofStr s).agg none 0 none 0) (by simp [results, Tryd.results10, go_sem, T.ofStr, T.agg, T.kind, T.tr, T.num, T.str, T.items, T.keys]) rfl ⟨rfl, (Below.refl _ _).alloc (Nat.le_refl _) _⟩

def sa : ByteArray := ⟨#[97]⟩
def sb : ByteArray := ⟨#[98]⟩
theorem srt_ba : srt [sb, sa] = [sa, sb] := by
  have h : ¬ (([98] : List UInt8) ≤ [97]) := by decide
  simp [srt, sa, sb, List.mergeSort, h]
def abT : T := .mk 5 false 0 ⟨#[]⟩ [T.ofNum 2, T.ofNum 1] [sa, sb]
theorem obj_ba : objT [sb, sa] [T.ofNum 1, T.ofNum 2] = abT := by
  unfold objT placed
  rw [srt_ba]
  rfl
end Go.Proofs.YtgiapdmoiaiofaaDoor
