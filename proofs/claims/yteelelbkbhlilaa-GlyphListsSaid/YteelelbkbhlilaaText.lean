/- Contract of glyph.Text: the text of points, or none. -/
import Derived.Test.YteelelbkbhlilaaPoints2
namespace Go.Proofs.Yteelelbkbhlilaa
open Go.RowKit
open Pl

/-- what Text answers -/
def TextPost (l : List Int) (w : World) (e : Ending) (w' : World) : Prop :=
  (((∀ x ∈ l, pt x = true) ∧ e = .returned (.tuple #[.string ⟨(flat l).toArray⟩, .bool true])) ∨ ((∃ x ∈ l, pt x = false) ∧ e = .returned (.tuple #[.string ByteArray.empty, .bool false]))) ∧ Below w.heap.size w w'

set_option maxRecDepth 100000 in
set_option maxHeartbeats 4000000 in
theorem text_any (l : List Int) (A : Option Addr) (c : Nat) (w : World) (hl : l.length ≤ 100000) (hr : Reads w w.heap.size A l) :
    Calls Try.prog 20 #[.slice A l.length c] w (TextPost l w) := by
  have hb0 : Lib.IsBuilderF 54 5 w.heap.size w.heap.size (Lib.byteCells (flat (l.take 0))) (w.alloc (.cells #[.pointer none, .slice none 0 0] 54)) :=
    Lib.IsBuilderF.of (Lib.fresh_isBuilder 54 5 w)
  have Hb0 := Lib.hid hb0
  have Hr := Lib.hid hr
  clear hb0 hr
  go_enter Try.func20, Try.ntmps20
  go_wp2_with fail
  go_loopw [9] (fun i wr => ∃ k : Nat, k ≤ l.length ∧ i = .int .i64 k ∧ (∀ j, j < k → pt (l.getD j 0) = true) ∧ Lib.IsBuilderF 54 5 w.heap.size w.heap.size (Lib.byteCells (flat (l.take k))) wr ∧ Below w.heap.size w wr) (fun i _ => l.length - (intOf i).toNat)
  case atStart => exact ⟨0, Nat.zero_le _, rfl, fun j h => absurd h (by omega), Hb0.out, (Below.refl _ _).alloc (Nat.le_refl _) _⟩
  case round =>
    obtain ⟨k, hk, rfl, hpts, hI, hbel⟩ := hrel
    have Hpts := Lib.hid hpts
    have HI := Lib.hid hI
    have Hbel := Lib.hid hbel
    clear hpts hI
    by_cases hlt : k < l.length
    · have t1 : decide (k < l.length) = true := decide_eq_true hlt
      have t1' : decide ((k : Int) < (l.length : Int)) = true := decide_eq_true (by omega)
      obtain ⟨b, o, hA, hbw, hc⟩ := Hr.out (by intro e; subst e; simp at hlt)
      have cell := (hbel.cell (p := ⟨b, o + k, none⟩) (by exact hbw)).trans (hc k hlt)
      subst hA
      have hmem : l.getD k 0 ∈ l := by rw [List.getD_eq_getElem?_getD, List.getElem?_eq_getElem hlt]; exact List.getElem_mem hlt
      have Hflat := Lib.hid (flat_take_succ l k hlt)
      cases hp : pt (l.getD k 0) with
      | false =>
        have hfin : ∀ W : World, Below w.heap.size w W → TextPost l w (.returned (.tuple #[.string ByteArray.empty, .bool false])) W := fun W hW => ⟨.inr ⟨⟨_, hmem, hp⟩, rfl⟩, hW⟩
        have Hfin := Lib.hid hfin
        have Hp := Lib.hid hp
        clear hfin hc hbel hp hmem
        generalize l.getD k 0 = x at *
        go_wp2_with fail
        refine (gis_no x _ Hp.out).mono ?_
        rintro e w' ⟨rfl, rfl⟩
        go_wp2_with fail
        go_ret2
        exact Hfin.out _ Hbel.out
      | true =>
        have Hpts' : Hid (∀ j, j < k + 1 → pt (l.getD j 0) = true) := Lib.hid (by
          intro j hj
          by_cases hjk : j < k
          · exact Hpts.out j hjk
          · obtain rfl : k = j := by omega
            exact hp)
        have hfl : (flat (l.take k)).length ≤ 400000 := by
          have h1 := len4 (l.take k)
          rw [List.length_take] at h1
          omega
        have hx := (pt_iff _).1 hp
        have hx0 : 0 ≤ l.getD k 0 := by omega
        have hx1 : l.getD k 0 ≤ 1114111 := by omega
        have Hp := Lib.hid hp
        have Hsz := Lib.hid hbel.size
        clear hc hbel hp hmem hx
        generalize l.getD k 0 = x at *
        go_wp2_with fail
        refine (gis_yes x _ Hp.out).mono ?_
        rintro e w' ⟨rfl, rfl⟩
        go_wp2_with fail
        refine (Try.Builder_WriteRune_k w.heap.size w.heap.size _ x (by omega) (by omega) _ HI.out (by rw [Lib.byteCells_length]; omega) Hsz.out).mono ?_
        rintro e w1 ⟨rfl, h1, b1, k1⟩
        have H1 := Lib.hid h1
        have B1 := Lib.hid (Hbel.out.trans b1)
        clear h1 b1 k1
        go_wp2_with fail
        go_roundw
        case rel =>
          refine ⟨k + 1, by omega, by go_num, Hpts'.out, ?_, B1.out⟩
          rw [Hflat.out, Lib.byteCells_append, Lib.byteCells_encodeRune]
          exact Or.inr H1.out
        case measure => simp [intOf]; omega
    · obtain rfl : l.length = k := by omega
      have t1 : decide (l.length < l.length) = false := decide_eq_false (by omega)
      have hfin : ∀ W : World, Below w.heap.size w W → TextPost l w (.returned (.tuple #[.string ⟨(flat l).toArray⟩, .bool true])) W := fun W hW => ⟨.inl ⟨fun x hx => by
        obtain ⟨i, hi, rfl⟩ := List.getElem_of_mem hx
        have := Hpts.out i hi
        rwa [List.getD_eq_getElem?_getD, List.getElem?_eq_getElem hi] at this, rfl⟩, hW⟩
      have Hfin := Lib.hid hfin
      have hI := HI.out
      rw [List.take_length] at hI
      have HI' := Lib.hid hI
      have Hsz := Lib.hid hbel.size
      clear hfin hI hbel
      go_wp2_with fail
      refine (Try.Builder_String_any_k w.heap.size w.heap.size (flat l) _ HI'.out Hsz.out).mono ?_
      rintro e w1 ⟨rfl, _, b1, _⟩
      have B1 := Lib.hid (Hbel.out.trans b1)
      clear b1
      go_wp2_with fail
      go_ret2
      exact Hfin.out _ B1.out

theorem text_good (l : List Int) (A : Option Addr) (c : Nat) (S : ByteArray) (w : World) (hl : l.length ≤ 100000) (hr : Reads w w.heap.size A l) (hp : ∀ x ∈ l, pt x = true) (hS : S = ⟨(flat l).toArray⟩) :
    Calls Try.prog 20 #[.slice A l.length c] w fun e w' => e = .returned (.tuple #[.string S, .bool true]) ∧ Below w.heap.size w w' := by
  refine (text_any l A c w hl hr).mono ?_
  rintro e w' ⟨⟨_, rfl⟩ | ⟨⟨x, hx, hf⟩, _⟩, hb⟩
  · exact ⟨by rw [hS], hb⟩
  · rw [hp x hx] at hf; cases hf
theorem text_bad (l : List Int) (A : Option Addr) (c : Nat) (w : World) (hl : l.length ≤ 100000) (hr : Reads w w.heap.size A l) (hp : ∃ x ∈ l, pt x = false) :
    Calls Try.prog 20 #[.slice A l.length c] w fun e w' => e = .returned (.tuple #[.string ByteArray.empty, .bool false]) ∧ Below w.heap.size w w' := by
  refine (text_any l A c w hl hr).mono ?_
  rintro e w' ⟨⟨h, _⟩ | ⟨_, rfl⟩, hb⟩
  · obtain ⟨x, hx, hf⟩ := hp
    rw [h x hx] at hf; cases hf
  · exact ⟨rfl, hb⟩
end Go.Proofs.Yteelelbkbhlilaa
