/- Find and Item: contracts. -/
import Derived.Test.YtgiapdmoiaiofaaDoorCopy
import Derived.Test.YtgiapdmoiaiofaaDoorTexts
import Derived.Test.YtgiapdmoiaiofaaDoorSorted
import Derived.Test.YtgiapdmoiaiofaaDoorObject
namespace Go.Proofs.YtgiapdmoiaiofaaDoor
open Go.RowKit

theorem bytes_eq {a b : ByteArray} (h : a.toList = b.toList) : a = b := by
  rcases sl_tri a b with h1 | h1 | h1
  · unfold sl at h1; rw [h] at h1; have := sl_irrefl b; unfold sl at this; rw [this] at h1; cases h1
  · exact h1
  · unfold sl at h1; rw [h] at h1; have := sl_irrefl b; unfold sl at this; rw [this] at h1; cases h1
theorem search_no (l : List ByteArray) (g o c : Nat) (s : ByteArray) (w : World) (hl : l.length ≤ 100000) (hn : ∀ (i : Nat) (x : ByteArray), l[i]? = some x → x ≠ s) (hc : ∀ (i : Nat) (x : ByteArray), l[i]? = some x → w.cell? ⟨g, o + i, none⟩ = some (.string x)) :
    Calls Tryd.prog 33 #[.slice (some ⟨g, o, none⟩) l.length c, .string s] w fun e w' => (∃ p : Nat, e = .returned (.tuple #[.int .i64 p, .bool false])) ∧ ∃ q, w' = w.drewN q := by
  have hget : ∀ (i : Nat) (x : ByteArray), l[i]? = some x → l.getD i s = x := fun i x hi => by rw [List.getD_eq_getElem?_getD, hi]; rfl
  have := Tryd.slices_BinarySearch_string g o l.length c (fun t => l.getD t s) s w (by omega) (fun j hj => by rw [hget j _ (List.getElem?_eq_getElem hj)]; exact hc j _ (List.getElem?_eq_getElem hj))
  generalize Lib.bsGo (fun t => Op.bytesLess (l.getD t s).toList s.toList) l.length 0 l.length = k at this
  have hf : ¬ (k < l.length ∧ l.getD k s = s) := by
    rintro ⟨h1, h2⟩
    exact hn _ _ (List.getElem?_eq_getElem h1) ((hget _ _ (List.getElem?_eq_getElem h1)).symm.trans h2)
  refine this.mono fun e w' ⟨he, hw⟩ => ⟨⟨k, ?_⟩, hw⟩
  rw [he, decide_eq_false hf]
set_option maxRecDepth 100000 in
set_option maxHeartbeats 2000000 in
theorem search_nil (A : Option Addr) (c : Nat) (s : ByteArray) (w : World) :
    Calls Tryd.prog 33 #[.slice A 0 c, .string s] w fun e w' => (∃ p : Nat, e = .returned (.tuple #[.int .i64 p, .bool false])) ∧ ∃ q, w' = w.drewN q := by
  go_enter Tryd.func33, Tryd.ntmps33
  go_wp2_with fail
  go_loopw [7, 8] (fun i j wr => i = .int .i64 0 ∧ j = .int .i64 0 ∧ wr = w) (fun _ _ _ => 0)
  case atStart => exact ⟨rfl, rfl, rfl⟩
  case round =>
    obtain ⟨rfl, rfl, rfl⟩ := hrel
    go_wp2_with fail
    exact bodyPost_ret (v := .tuple #[.int .i64 0, .bool false]) (by simp [results, Tryd.results33, go_sem]) rfl ⟨⟨0, rfl⟩, 0, rfl⟩
end Go.Proofs.YtgiapdmoiaiofaaDoor
