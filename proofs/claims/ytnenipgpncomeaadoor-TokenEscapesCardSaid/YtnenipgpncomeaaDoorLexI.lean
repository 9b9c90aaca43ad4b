/- Behind the blanks: the contract. -/
import Derived.Test.YtnenipgpncomeaaDoorLexC
import Derived.Shelf.Strings.SlTrimAscii
import Derived.Deep.QuietTactic
import Derived.BigQuiet
import Derived.WalkSmall
import Derived.KernelRfl
import Derived.Deep.RegionHeld3
import Derived.Deep.DeepCutAuto
import Derived.Below
namespace Go.Proofs.YtnenipgpncomeaaDoor
open Go.RowKit
open Tk
set_option linter.unusedVariables false

def blankB : ByteArray := ⟨#[32, 9, 10, 13]⟩
theorem blank_has (c : UInt8) : blankB.data.toList.contains c = isBl c.toNat := by
  show List.contains [32, 9, 10, 13] c = _
  have key : ∀ k : UInt8, (c == k) = (c.toNat == k.toNat) := by
    intro k
    by_cases h : c = k
    · rw [h]; simp
    · have : c.toNat ≠ k.toNat := fun e => h (UInt8.toNat_inj.1 e)
      rw [beq_eq_false_iff_ne.2 h, beq_eq_false_iff_ne.2 this]
  simp only [List.contains_cons, List.contains_nil, key, Bool.or_false, isBl]
  simp [Bool.or_assoc]
theorem trim_span (s : ByteArray) (i : Nat) (hi : i ≤ s.size) : Lib.trimLeftS (s.extract i s.size).data.toList blankB.data.toList = s.data.toList.drop (span isBl s i) := by
  rw [show (s.extract i s.size).data.toList = (s.data.toList.drop i).take (s.size - i) from sub_list s i s.size]
  rw [List.take_of_length_le (by rw [List.length_drop, size_toList]; exact Nat.le_refl _)]
  have h1 := span_ge isBl s i
  have h2 := span_le isBl hi
  have hg : ∀ (k : Nat) (b : UInt8), s.data.toList[k]? = some b → b.toNat = bt s k := by
    intro k b hk
    unfold bt
    rw [List.getD_eq_getElem?_getD, hk]; rfl
  rw [Lib.trimLeftS_drop _ _ (span isBl s i - i) (by rw [List.length_drop, size_toList]; omega) ?_ ?_, List.drop_drop]
  · congr 1; omega
  · intro j b hj hb
    rw [List.getElem?_drop] at hb
    rw [blank_has, hg _ _ hb]
    exact span_in (i := i) (by omega) (by omega)
  · intro b hb
    rw [List.getElem?_drop, show i + (span isBl s i - i) = span isBl s i by omega] at hb
    rw [blank_has, hg _ _ hb]
    apply span_out
    rcases Nat.lt_or_ge (span isBl s i) s.size with h | h
    · exact h
    · rw [List.getElem?_eq_none (by rw [size_toList]; exact h)] at hb; cases hb
theorem trim_any (s : ByteArray) (i : Nat) (hi : i ≤ s.size) (w : World) :
    Calls Tryd.prog 24 #[.string (s.extract i s.size), .string blankB] w fun e w' => e = .returned (.string ⟨(s.data.toList.drop (span isBl s i)).toArray⟩) ∧ Below w.heap.size w w' := by
  have h := Any.strings_TrimLeft_laid Tryd.lays161 (by kernel_rfl) (s.extract i s.size) blankB w (by decide) (by
    intro j b hj
    have : b ∈ [32, 9, 10, 13] := List.mem_of_getElem? hj
    simp at this
    rcases this with rfl | rfl | rfl | rfl <;> decide)
  rw [trim_span s i hi] at h
  exact h
set_option maxRecDepth 100000 in
set_option maxHeartbeats 2000000 in
theorem blanks_any5 (b : Nat) (s : ByteArray) (i : Nat) (w : World) (hs : s.size ≤ 1000000) (hc : w.cell? ⟨b, 0, none⟩ = some (.string s)) (hc2 : w.cell? ⟨b, 1, none⟩ = some (.int .i64 i)) (hi : i ≤ s.size) : Calls Tryd.prog 21 #[.pointer (some ⟨b, 0, none⟩)] w fun e w' => e = .returned (.int .i64 (span isBl s i : Nat)) ∧ Below w.heap.size w w' := by
  have i2 : (0 : Int) ≤ (i : Int) := by omega
  have i1 : (i : Int) ≤ (s.size : Int) := by omega
  have hz := span_le isBl hi
  have HC := Lib.hid (fun w1 : World => trim_any s i hi w1)
  have hsz : (⟨(s.data.toList.drop (span isBl s i)).toArray⟩ : ByteArray).size = s.size - span isBl s i := by
    show (s.data.toList.drop (span isBl s i)).toArray.size = _
    rw [List.size_toArray, List.length_drop, size_toList]
  generalize (⟨(s.data.toList.drop (span isBl s i)).toArray⟩ : ByteArray) = t at *
  generalize span isBl s i = q at *
  have hbl : b < w.heap.size := by
    rcases Nat.lt_or_ge b w.heap.size with h | h
    · exact h
    · unfold World.cell? at hc; rw [Array.getElem?_eq_none h] at hc; cases hc
  go_enter Tryd.func21, Tryd.ntmps21
  go_wp2_with fail
  have HBW := Lib.hid (Below.refl w.heap.size w)
  have e1 : IntKind.i64.wrap ((s.size : Int) - (t.size : Int)) = (q : Int) := by rw [hsz]; rw [IntWalk.i64_in _ (by omega)]; omega
  clear hz hsz
  go_region_held3 (fun w' => w'.cell? ⟨b, 0, none⟩ = some (.string s) ∧ w'.cell? ⟨b, 1, none⟩ = some (.int .i64 i))
    (go_keep)
    (first
      | (go_at_call 24; refine (HC.out _).mono ?_
         rintro e w2 ⟨rfl, hb2⟩
         have hb3 : Below w.heap.size w w2 := (Below.refl w.heap.size w).drew.trans hb2
         have k0 : w2.cell? ⟨b, 0, none⟩ = some (.string s) := (hb3.cell (p := ⟨b, 0, none⟩) hbl).trans hc
         have k1 : w2.cell? ⟨b, 1, none⟩ = some (.int .i64 i) := (hb3.cell (p := ⟨b, 1, none⟩) hbl).trans hc2
         have HB3 := Lib.hid hb3
         clear hb2 hb3))
  go_wp2_with fail
  go_ret
  exact ⟨rfl, HB3.out⟩
end Go.Proofs.YtnenipgpncomeaaDoor
