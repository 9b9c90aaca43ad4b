/- Contracts of glyph.Points, and of the reference's Points and Valid. -/
import Derived.Test.YtnenipgpncomeaaGreatDoorRefText
namespace Go.Proofs.YtnenipgpncomeaaGreatDoor
open Go.RowKit
open Pl

theorem getD_take_succ (l : List Int) (k : Nat) (h : k < l.length) : l.take (k + 1) = l.take k ++ [l.getD k 0] := by
  rw [List.take_succ_eq_append_getElem h]; simp [List.getElem?_eq_getElem h]
theorem Reads.below {w w' : World} {B B' : Nat} {A : Option Addr} {l : List Int} (h : Reads w B A l) (hb : Below B' w w') (hB : B ≤ B') : Reads w' B A l := by
  intro hn
  obtain ⟨b, o, e, hlt, hc⟩ := h hn
  exact ⟨b, o, e, hlt, fun i hi => (hb.cell (p := ⟨b, o + i, none⟩) (by show b < B'; omega)).trans (hc i hi)⟩
theorem Reads.more {w : World} {B B' : Nat} {A : Option Addr} {l : List Int} (h : Reads w B A l) (hB : B ≤ B') : Reads w B' A l := by
  intro hn
  obtain ⟨b, o, e, hlt, hc⟩ := h hn
  exact ⟨b, o, e, by omega, hc⟩
theorem own_reads {w : World} {base : Nat} {v : Value} {l : List Int} (h : w.ownsRow base 3 1 v l.length (l.map (Value.int .i64))) : ∃ A c, v = .slice A l.length c ∧ Reads w w.heap.size A l := by
  rcases h.2 with ⟨rfl, h0⟩ | ⟨g, cap, cur, rfl, hb, hh, _⟩
  · obtain rfl : l = [] := List.eq_nil_of_length_eq_zero h0
    exact ⟨none, 0, rfl, fun hn => absurd rfl hn⟩
  · refine ⟨_, _, rfl, fun _ => ⟨g, 0, rfl, (Array.getElem?_eq_some_iff.1 hh).1, fun i hi => ?_⟩⟩
    have := h.cells (g := g) rfl i (.int .i64 (l.getD i 0)) (by simp [List.getElem?_eq_getElem hi])
    have hadd : (⟨g, 0, none⟩ : Addr).add i = ⟨g, 0 + i, none⟩ := by unfold Addr.add; split <;> simp_all
    rwa [hadd] at this

/-- a slice of the ints l, readable, is handed back beside something else -/
def GivesRow (l : List Int) (x : Value) (w : World) (e : Ending) (w' : World) : Prop :=
  ∃ A c, e = .returned (.tuple #[.slice A l.length c, x]) ∧ Reads w' w'.heap.size A l ∧ Below w.heap.size w w'

end Go.Proofs.YtnenipgpncomeaaGreatDoor
