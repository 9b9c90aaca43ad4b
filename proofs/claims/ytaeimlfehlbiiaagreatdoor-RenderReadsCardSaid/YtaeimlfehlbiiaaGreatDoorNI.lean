/- Find and Item: contracts. -/
import Derived.Test.YtaeimlfehlbiiaaGreatDoorMG
namespace Go.Proofs.YtaeimlfehlbiiaaGreatDoor
open Go.RowKit
theorem bytes_eq {a b : ByteArray} (h : a.toList = b.toList) : a = b := by
 rcases sl_tri a b with h1 | h1 | h1
 · unfold sl at h1; rw [h] at h1; have := sl_irrefl b; unfold sl at this; rw [this] at h1; cases h1
 · exact h1
 · unfold sl at h1; rw [h] at h1; have := sl_irrefl b; unfold sl at this; rw [this] at h1; cases h1
end Go.Proofs.YtaeimlfehlbiiaaGreatDoor
