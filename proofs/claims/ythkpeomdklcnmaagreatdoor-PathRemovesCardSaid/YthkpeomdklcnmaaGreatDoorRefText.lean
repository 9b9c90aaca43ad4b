/- Contract of the reference's Text: the bytes of any points, one behind the other. -/
import Derived.Test.YthkpeomdklcnmaaGreatDoorRef
import Derived.Laws.IdiomStrings
import Derived.Laws.BytesArg
import Derived.OwnWalk
namespace Go.Proofs.YthkpeomdklcnmaaGreatDoor
open Go.RowKit
open Pl

theorem info5 : (Tryz.prog.info? 5).map (fun i => (i.zero, i.size, i.bytes)) = some (some (.int .u8 0), 1, 1) := by kernel_rfl
theorem info3 : (Tryz.prog.info? 3).map (fun i => (i.zero, i.size, i.bytes)) = some (some (.int .i64 0), 1, 8) := by kernel_rfl

/-- a slice value whose elements are the ints l, in blocks below B -/
def Reads (w : World) (B : Nat) (A : Option Addr) (l : List Int) : Prop :=
  l ≠ [] → ∃ b o, A = some ⟨b, o, none⟩ ∧ b < B ∧ ∀ i, i < l.length → w.cell? ⟨b, o + i, none⟩ = some (.int .i64 (l.getD i 0))

/-- a row that the call owns, and a block of another element type, are two -/
theorem own_ne {w : World} {base : Nat} {e t : TypeId} {size n : Nat} {v : Value} {xs : List Value} {g : Nat} {cs : Array Value} {fz : Nat × Nat}
    (h : w.ownsRow base e size v n xs) (hg : w.heap[g]? = some (.cells cs t fz)) (hne : e ≠ t) : some g ≠ v.ownBlock := by
  rcases h.2 with ⟨rfl, _⟩ | ⟨g', cap, cur, rfl, _, hh, _⟩
  · simp [Value.ownBlock]
  · intro he
    have e1 : g = g' := by simpa [Value.ownBlock] using he
    rw [e1, hh] at hg
    injection hg with hg
    injection hg with _ h2 _
    exact hne h2

theorem conv_owned {w : World} {base : Nat} {v : Value} {L : List UInt8} (h : w.ownsRow base 5 1 v L.length (Lib.byteCells L)) :
    (convert 49 9 v).run Tryz.prog w = .ok (.string ⟨L.toArray⟩) w := by
  rcases h.2 with ⟨rfl, h0⟩ | ⟨g, cap, cur, rfl, _, hh, _⟩
  · obtain rfl : L = [] := List.eq_nil_of_length_eq_zero h0
    rw [run_convert_bytes_nil w 49 5 Tryz.underlying49 Tryz.underlying5 0 0 9 Tryz.underlying9]
    rfl
  · exact run_convert_bytes_back w 49 9 5 ⟨g, 0, none⟩ cap L Tryz.underlying49 Tryz.underlying5 Tryz.underlying9 fun j hj => h.cells (g := g) rfl j _ (by simp [Lib.byteCells, List.getElem?_eq_getElem hj])

/-- Bytes, its new row told whole -/
theorem bytes_blk (n : Int) (w : World) (h : pt n = true) : Calls Tryz.prog 65 #[.int .i64 n] w fun e w' =>
    ∃ b, e = .returned (.slice (some ⟨b, 0, none⟩) (Lib.encodeRuneZ n).length (Lib.encodeRuneZ n).length) ∧ w'.heap[b]? = some (.cells (ints (Lib.encodeRuneZ n)) 3 (0, 0)) ∧ w.heap.size < w'.heap.size ∧ Below w.heap.size w w' := by
  refine (bytes_any n w h).mono ?_
  rintro e w' ⟨rfl, rfl⟩
  exact ⟨w.heap.size, rfl, heap_alloc_new w _, by simp, (Below.refl _ _).alloc (Nat.le_refl _) _⟩

theorem blk_cell {E : List Int} {w : World} {b j : Nat} (h : w.heap[b]? = some (.cells (ints E) 3 (0, 0))) (hj : j < E.length) : w.cell? ⟨b, j, none⟩ = some (.int .i64 (E.getD j 0)) := by
  rw [cell_of_row w b j _ 3 (0, 0) h]
  simp [ints, List.getElem?_eq_getElem hj]

theorem flat_take_succ (l : List Int) (k : Nat) (h : k < l.length) : flat (l.take (k + 1)) = flat (l.take k) ++ Lib.encodeRune (l.getD k 0) := by
  rw [List.take_succ_eq_append_getElem h, flat_append]
  simp [flat, List.getElem?_eq_getElem h]
theorem enc_take_succ (x : Int) (j : Nat) (h : j < (Lib.encodeRuneZ x).length) :
    Lib.byteCells ((Lib.encodeRune x).take (j + 1)) = Lib.byteCells ((Lib.encodeRune x).take j) ++ [.int .u8 ((Lib.encodeRuneZ x).getD j 0)] := by
  have hb := Lib.encodeRuneZ_byte x _ (List.getElem_mem h)
  rw [List.take_succ_eq_append_getElem (by simpa [Lib.encodeRune] using h), Lib.byteCells_append]
  congr 1
  simp only [Lib.byteCells, Lib.encodeRune, List.getElem_map, List.map_cons, List.map_nil]
  rw [b8 _ hb.1 hb.2, List.getD_eq_getElem?_getD, List.getElem?_eq_getElem h]
  simp only [Option.getD_some]
  rw [Int.toNat_of_nonneg hb.1]

theorem len4 (l : List Int) : (flat l).length ≤ 4 * l.length := by
  induction l with
  | nil => simp [flat]
  | cons x l ih => rw [flat_cons, List.length_append, List.length_cons]; have := (enc_len x).2; omega

end Go.Proofs.YthkpeomdklcnmaaGreatDoor
