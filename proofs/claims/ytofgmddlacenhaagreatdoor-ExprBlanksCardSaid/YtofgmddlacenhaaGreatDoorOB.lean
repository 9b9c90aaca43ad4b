/- A slice of bytes, handed to a law, opened. -/
import Derived.Test.YtofgmddlacenhaaGreatDoorEX
import Derived.Deep.Slices
import Derived.Deep.Fields
import Derived.ChangeSame
import Derived.SliceStrings
import Derived.ChangeSlices
import Derived.Lib.SmallJoins
import Derived.ChangeMaps5
set_option linter.unusedVariables false
set_option maxRecDepth 100000
set_option maxHeartbeats 8000000
open Go.Lib (hid)
namespace Go.Proofs.YtofgmddlacenhaaGreatDoor
open Go.RowKit Go.ChangeShapes Go.WideShapes Go.Deep
def Bytes8 (w : World) (S : Nat → Prop) (A : Option Addr) (m : Nat) : Prop := ∀ j, j < m → ∃ (b o : Nat) (d : Int), A = some ⟨b, o, none⟩ ∧ S b ∧ 0 ≤ d ∧ d < 256 ∧ w.cell? ⟨b, o + j, none⟩ = some (.int .u8 d)
theorem Bytes8.keep {w w' : World} {S : Nat → Prop} {A : Option Addr} {m : Nat} (h : Bytes8 w S A m) (hk : Keeps S w w') : Bytes8 w' S A m := fun j hj => by
 obtain ⟨b, o, d, e, hs, h0, h1, hc⟩ := h j hj
 exact ⟨b, o, d, e, hs, h0, h1, (hk.cell hs _).trans hc⟩
theorem Bytes8.wide {w : World} {S S' : Nat → Prop} {A : Option Addr} {m : Nat} (h : Bytes8 w S A m) (hs : ∀ b, S b → S' b) : Bytes8 w S' A m := fun j hj => by
 obtain ⟨b, o, d, e, h0, r⟩ := h j hj
 exact ⟨b, o, d, e, hs b h0, r⟩
theorem bytes8_onw {w w' : World} {A : Option Addr} {m : Nat} (h : Bytes8 w (· < w.heap.size) A m) (hb : Below w.heap.size w w') : Bytes8 w' (· < w'.heap.size) A m :=
 (h.keep (.of_below hb)).wide fun b hb' => Nat.lt_of_lt_of_le hb' hb.size
theorem add_litB (b o i : Nat) : (⟨b, o, none⟩ : Addr).add i = ⟨b, o + i, none⟩ := by unfold Addr.add; split <;> simp_all
section
variable {H : Type} {enc : TypeId × Value → H} {w : World} {spare : Nat → Bool} {held : Bool}
theorem spot_noneB {a : Addr} {v : Value} (h : w.cell? (a.add 0) = some v) : ∃ b o, a = ⟨b, o, none⟩ ∧ b < w.heap.size := by
 obtain ⟨b, o, spot⟩ := a
 have hs : spot = none := by simpa [Addr.add] using World.cell?_spot h
 subst hs
 rw [add_litB] at h
 exact ⟨b, o, rfl, World.block_lt_of_cell? (w := w) (a := ⟨b, o + 0, none⟩) h⟩
theorem bytes_open {A : Option Addr} {n c fuel : Nat} {x : DataW H × List MemPlace} (h : DataW.trod enc Tryz.prog w 0 spare held fuel 53 [.slice A n c] = some x) :
 n ≤ c ∧ c ≤ maxLen ∧ Bytes8 w (· < w.heap.size) A n := by
 rcases open_ints Tryz.underlying53 Tryz.underlying5 (by kernel_rfl) h with ⟨hcs, _⟩ | ⟨a, len, cap, zs, hcs, _, hl, hm, hz, _, hcell, hwz⟩
 ·
  simp at hcs
  obtain ⟨rfl, rfl, rfl⟩ := hcs
  exact ⟨Nat.le_refl _, Nat.zero_le _, fun j hj => absurd hj (by omega)⟩
 ·
  simp at hcs
  obtain ⟨rfl, rfl, rfl⟩ := hcs
  have hle : n ≤ zs.length := by rw [hz]; split <;> omega
  refine ⟨hl, hm, fun j hj => ?_⟩
  have h1 := hcell j (by omega)
  obtain ⟨b, o, rfl, hb⟩ := spot_noneB (hcell 0 (by omega))
  rw [add_litB] at h1
  have hw := hwz (zs.getD j 0) (by rw [List.getD_eq_getElem?_getD, List.getElem?_eq_getElem (by omega)]; exact List.getElem_mem _)
  have e0 : IntKind.u8.min = 0 := rfl
  have e1 : IntKind.u8.max = 255 := rfl
  simp only [Lit.wf, decide_eq_true_eq, Bool.and_eq_true] at hw
  exact ⟨b, o, _, rfl, hb, by omega, by omega, h1⟩
end
end Go.Proofs.YtofgmddlacenhaaGreatDoor
