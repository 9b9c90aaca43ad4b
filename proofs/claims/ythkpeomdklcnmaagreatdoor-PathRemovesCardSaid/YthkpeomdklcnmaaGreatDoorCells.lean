/- Contracts whose arguments' cells are written out, as a walk has them. -/
import Derived.Test.YthkpeomdklcnmaaGreatDoorOpen
import Derived.Test.YthkpeomdklcnmaaGreatDoorReal
import Derived.Test.YthkpeomdklcnmaaGreatDoorRefv
import Derived.Test.YthkpeomdklcnmaaGreatDoorSizes
import Derived.Test.YthkpeomdklcnmaaGreatDoorSameYes
import Derived.Test.YthkpeomdklcnmaaGreatDoorSameNo
import Derived.Test.YthkpeomdklcnmaaGreatDoorItem
import Derived.Test.YthkpeomdklcnmaaGreatDoorCopy
namespace Go.Proofs.YthkpeomdklcnmaaGreatDoor
open Go.RowKit

set_option maxRecDepth 100000
theorem real_cells (t : T) (A : Option Addr) (c : Nat) (A' : Option Addr) (c' : Nat) (w : World) (ht : t.size ≤ 100000) (hs : t.Small) (hv : TV w (· < w.heap.size) t A c A' c') :
    Calls Tryz.prog 8 #[.agg #[.int .i64 t.kind, .bool t.tr, .int .i64 t.num, .string t.str, .slice A t.items.length c, .slice A' t.keys.length c']] w (GivesT t w) := real_any t A c A' c' w ht hs hv
theorem ref_cells (B0 : Nat) (t : T) (A : Option Addr) (c : Nat) (A' : Option Addr) (c' : Nat) (w : World) (ht : t.size ≤ 100000) (hB : B0 ≤ w.heap.size) (hv : TV w (· < B0) t A c A' c') :
    Calls Tryz.prog 11 #[.agg #[.int .i64 t.kind, .bool t.tr, .int .i64 t.num, .string t.str, .slice A t.items.length c, .slice A' t.keys.length c']] w (GivesR B0 t w) := ref_any B0 t A c A' c' w ht hB hv
theorem copy_cells (t : T) (A : Option Addr) (c : Nat) (A' : Option Addr) (c' : Nat) (w : World) (ht : t.size ≤ 100000) (hs : t.Small) (hv : TV w (· < w.heap.size) t A c A' c') :
    Calls Tryz.prog 24 #[.agg #[.int .i64 t.kind, .bool t.tr, .int .i64 t.num, .string t.str, .slice A t.items.length c, .slice A' t.keys.length c']] w (GivesOwn t w) := copy_any t A c A' c' w ht hs hv
theorem rsame_cells (t : T) (A : Option Addr) (c : Nat) (A' : Option Addr) (c' : Nat) (B : Option Addr) (d : Nat) (B' : Option Addr) (d' : Nat) (w : World) (ht : t.size ≤ 100000) (hs : t.Small) (hv : TV w (· < w.heap.size) t A c A' c') (hu : TV w (· < w.heap.size) t B d B' d') :
    Calls Tryz.prog 10 #[.agg #[.int .i64 t.kind, .bool t.tr, .int .i64 t.num, .string t.str, .slice A t.items.length c, .slice A' t.keys.length c'], .agg #[.int .i64 t.kind, .bool t.tr, .int .i64 t.num, .string t.str, .slice B t.items.length d, .slice B' t.keys.length d']] w fun e w' => e = .returned (.bool true) ∧ Below w.heap.size w w' := rsame_yes t A c A' c' B d B' d' w ht hs hv hu
theorem rsame_not (t u : T) (A : Option Addr) (c : Nat) (A' : Option Addr) (c' : Nat) (B : Option Addr) (d : Nat) (B' : Option Addr) (d' : Nat) (w : World) (hne : t ≠ u) (ht : t.size ≤ 100000) (hs : t.Small) (hv : TV w (· < w.heap.size) t A c A' c') (hu : TV w (· < w.heap.size) u B d B' d') :
    Calls Tryz.prog 10 #[.agg #[.int .i64 t.kind, .bool t.tr, .int .i64 t.num, .string t.str, .slice A t.items.length c, .slice A' t.keys.length c'], .agg #[.int .i64 u.kind, .bool u.tr, .int .i64 u.num, .string u.str, .slice B u.items.length d, .slice B' u.keys.length d']] w fun e w' => e = .returned (.bool false) ∧ Below w.heap.size w w' := rsame_no t u A c A' c' B d B' d' w hne ht hs hv hu
/-- how a call ends that gives the zero value -/
def GivesZ (w : World) (e : Ending) (w' : World) : Prop := ∃ (B : Option Addr) (d : Nat) (B' : Option Addr) (d' : Nat), e = .returned (.agg #[.int .i64 0, .bool false, .int .i64 0, .string ⟨#[]⟩, .slice B 0 d, .slice B' 0 d']) ∧ TV w' (· < w'.heap.size) T.zero B d B' d' ∧ Below w.heap.size w w'
theorem zero_small : T.zero.Small := T.leaf_all (Nat.zero_le _) rfl
theorem ref_zero (w : World) : Calls Tryz.prog 11 #[.agg #[.int .i64 0, .bool false, .int .i64 0, .string ⟨#[]⟩, .slice none 0 0, .slice none 0 0]] w (GivesZ w) := by
  refine (ref_any w.heap.size T.zero none 0 none 0 w (show 1 ≤ 100000 by omega) (Nat.le_refl _) (TV.leaf _ _ rfl rfl)).mono ?_
  rintro e w' ⟨B, d, B', d', rfl, hv, hb⟩
  have hsz := hb.size
  exact ⟨B, d, B', d', rfl, hv.wide fun b hb' => by show b < w'.heap.size; omega, hb⟩
theorem rsame_zero (B : Option Addr) (d : Nat) (B' : Option Addr) (d' : Nat) (w : World) (hv : TV w (· < w.heap.size) T.zero B d B' d') :
    Calls Tryz.prog 10 #[.agg #[.int .i64 0, .bool false, .int .i64 0, .string ⟨#[]⟩, .slice B 0 d, .slice B' 0 d'], .agg #[.int .i64 0, .bool false, .int .i64 0, .string ⟨#[]⟩, .slice none 0 0, .slice none 0 0]] w fun e w' => e = .returned (.bool true) ∧ Below w.heap.size w w' :=
  rsame_yes T.zero B d B' d' none 0 none 0 w (show 1 ≤ 100000 by omega) zero_small hv (TV.leaf _ _ rfl rfl)
theorem rfind_cells (t : T) (A : Option Addr) (c : Nat) (A' : Option Addr) (c' : Nat) (q : ByteArray) (p : Nat) (w : World) (hl : t.keys.length ≤ 100000) (hr : SReads w (· < w.heap.size) A' t.keys) (hp : p ≤ t.keys.length) (hb : ∀ (i : Nat) (x : ByteArray), i < p → t.keys[i]? = some x → x ≠ q) (he : p < t.keys.length → t.keys[p]? = some q) (r : Int) (h1 : p < t.keys.length → r = p) (h2 : p = t.keys.length → r = -1) :
    Calls Tryz.prog 43 #[.agg #[.int .i64 t.kind, .bool t.tr, .int .i64 t.num, .string t.str, .slice A t.items.length c, .slice A' t.keys.length c'], .string q] w fun e w' => e = .returned (.int .i64 r) ∧ Below w.heap.size w w' := rfind_any t A c A' c' q p w hl hr hp hb he r h1 h2
def GivesItem (x : T) (w : World) (e : Ending) (w' : World) : Prop := ∃ (B : Option Addr) (d : Nat) (B' : Option Addr) (d' : Nat), e = .returned (.tuple #[.agg #[.int .i64 x.kind, .bool x.tr, .int .i64 x.num, .string x.str, .slice B x.items.length d, .slice B' x.keys.length d'], .bool true]) ∧ TV w' (· < w'.heap.size) x B d B' d' ∧ Below w.heap.size w w'
end Go.Proofs.YthkpeomdklcnmaaGreatDoor
