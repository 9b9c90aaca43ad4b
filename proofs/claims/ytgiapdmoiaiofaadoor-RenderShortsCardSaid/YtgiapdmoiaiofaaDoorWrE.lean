/- The writer: truths, numbers, nothing; what stays: contracts. -/
import Derived.Test.YtgiapdmoiaiofaaDoorWrD
import Derived.Test.YtgiapdmoiaiofaaDoorTxt
import Derived.Lib.LaidTab
import Derived.Outline
namespace Go.Proofs.YtgiapdmoiaiofaaDoor
open Go.RowKit
set_option linter.unusedVariables false

theorem gPow : Tryd.prog.globalNamed "internal/strconv.uint64pow10" = some 1 := by kernel_rfl
/-- the library's table lies below B -/
def Tab (B : Nat) (w : World) : Prop := 1 < B ∧ Lib.TabIs Tryd.prog w "internal/strconv.uint64pow10" .u64 Lib.pow10Tab
theorem Tab.on {B : Nat} {w w' : World} (h : Tab B w) (hb : Below B w w') : Tab B w' := by
  obtain ⟨h1, h2⟩ := h
  refine ⟨h1, ?_⟩
  unfold Lib.TabIs World.var? at h2 ⊢
  rw [gPow] at h2 ⊢
  simp only [Option.bind_some] at h2 ⊢
  rw [hb.block _ h1]
  exact h2
theorem tab_of {w : World} (h : Lib.TabIs Tryd.prog w "internal/strconv.uint64pow10" .u64 Lib.pow10Tab) : Tab w.heap.size w := by
  refine ⟨?_, h⟩
  unfold Lib.TabIs World.var? at h
  rw [gPow] at h
  simp only [Option.bind_some] at h
  rcases Nat.lt_or_ge 1 w.heap.size with hl | hl
  · exact hl
  · rw [Array.getElem?_eq_none hl] at h; cases h
theorem Tab.raise {B B' : Nat} {w : World} (h : Tab B w) (hB : B ≤ B') : Tab B' w := ⟨Nat.lt_of_lt_of_le h.1 hB, h.2⟩
/-- a call that writes x -/
def Wrote (B b : Nat) (l x : List UInt8) (c2 c3 c4 c5 : Value) (w : World) (e : Ending) (w' : World) : Prop := e = .returned (.tuple #[]) ∧ Wr B b (l ++ x) c2 c3 c4 c5 w' ∧ Kept B b w w'
set_option maxRecDepth 100000 in
theorem nothing_any (b : Nat) (w : World) : Calls Tryd.prog 21 #[.pointer (some ⟨b, 0, none⟩)] w fun e w' => e = .returned (.tuple #[]) ∧ w = w' := by
  go_enter Tryd.func21, Tryd.ntmps21
  go_wp2
  go_end0
  exact ⟨rfl, rfl⟩
set_option maxRecDepth 100000 in
set_option maxHeartbeats 2000000 in
theorem wtext_any (n : Int) (w : World) (h0 : -9223372036854775808 ≤ n) (h1 : n ≤ 9223372036854775807) (ht : Lib.TabIs Tryd.prog w "internal/strconv.uint64pow10" .u64 Lib.pow10Tab) :
    Calls Tryd.prog 40 #[.int .i64 n] w fun e w' => e = .returned (.string ⟨(Lib.itoa n).toArray⟩) ∧ Below w.heap.size w w' := by
  have Ht := Lib.hid ht
  clear ht
  go_enter Tryd.func40, Tryd.ntmps40
  go_wp2_with fail
  refine (Tryd.strconv_FormatInt_10 n h0 h1 w Ht.out).mono ?_
  rintro e w2 ⟨rfl, k, os, hw⟩
  have Hb := Lib.hid (show Below w.heap.size w w2 by rw [hw]; exact ⟨rfl, rfl, rfl, by show w.heap.size ≤ (w.heap ++ os).size; rw [Array.size_append]; omega, fun j hj => by show (w.heap ++ os)[j]? = w.heap[j]?; exact Array.getElem?_append_left hj⟩)
  clear hw
  go_wp2_with fail
  go_ret
  exact ⟨rfl, Hb.out⟩
set_option maxRecDepth 100000 in
set_option maxHeartbeats 2000000 in
theorem truth_any7 (B b : Nat) (l : List UInt8) (c2 c3 c4 c5 : Value) (t : Bool) (w : World) (h : Wr B b l c2 c3 c4 c5 w) (hlen : l.length ≤ 700000) (hBw : B ≤ w.heap.size) :
    Calls Tryd.prog 39 #[.pointer (some ⟨b, 0, none⟩), .bool t] w (Wrote B b l (if t then [116, 114, 117, 101] else [102, 97, 108, 115, 101]) c2 c3 c4 c5 w) := by
  have H := Lib.hid h
  clear h
  cases t with
  | true =>
    go_enter Tryd.func39, Tryd.ntmps39
    go_wp2_with fail
    refine (wstr_any B b l c2 c3 c4 c5 ⟨#[116, 114, 117, 101]⟩ _ H.out (by show l.length + 4 ≤ 900000; omega) hBw).mono ?_
    rintro e w1 ⟨rfl, h1, k1⟩
    have H1 := Lib.hid h1
    have K1 := Lib.hid k1
    clear h1 k1
    go_wp2_with fail
    go_end0
    exact ⟨rfl, H1.out, K1.out⟩
  | false =>
    go_enter Tryd.func39, Tryd.ntmps39
    go_wp2_with fail
    refine (wstr_any B b l c2 c3 c4 c5 ⟨#[102, 97, 108, 115, 101]⟩ _ H.out (by show l.length + 5 ≤ 900000; omega) hBw).mono ?_
    rintro e w1 ⟨rfl, h1, k1⟩
    have H1 := Lib.hid h1
    have K1 := Lib.hid k1
    clear h1 k1
    go_wp2_with fail
    go_end0
    exact ⟨rfl, H1.out, K1.out⟩
/-- how deep it is, is a cell of its own -/
theorem Wr.deep {B b : Nat} {l : List UInt8} {c2 c3 c4 c5 : Value} {w : World} (h : Wr B b l c2 c3 c4 c5 w) (v : Value) : Wr B b l c2 c3 c4 v (w.setCell ⟨b, 5, none⟩ v) ∧ Kept B b w (w.setCell ⟨b, 5, none⟩ v) := by
  obtain ⟨hB, p, x, hp, hb, hown⟩ := h
  refine ⟨⟨hB, p, x, hp, hb.set_ 5 v, ?_⟩, (Below.refl _ _).setCell (p := ⟨b, 5, none⟩) hB _, (Lib.OthersKept.refl _ _ _).setCell ⟨b, 5, none⟩ rfl _⟩
  exact hown.kept (row := some b) ⟨rfl, rfl, rfl, by simp [World.setCell], fun k _ hk => Below.heap_setCell _ _ _ _ (fun e => hk (by simp [e]))⟩ (Or.inr (own_far8 hown hb (by decide)))
theorem Wr.cells {B b : Nat} {l : List UInt8} {c2 c3 c4 c5 : Value} {w : World} (h : Wr B b l c2 c3 c4 c5 w) : w.cell? ⟨b, 2, none⟩ = some c2 ∧ w.cell? ⟨b, 3, none⟩ = some c3 ∧ w.cell? ⟨b, 5, none⟩ = some c5 ∧ w.frozen? ⟨b, 5, none⟩ = false := by
  obtain ⟨hB, p, x, hp, hb, hown⟩ := h
  exact ⟨hb.cell 2, hb.cell 3, hb.cell 5, hb.free 5⟩
theorem Kept.onTV {B b : Nat} {u v : World} (h : Kept B b u v) {t : T} {A : Option Addr} {c : Nat} {A' : Option Addr} {c' : Nat} (hv : TV u (· < B) t A c A' c') : TV v (· < B) t A c A' c' := hv.under h.1
end Go.Proofs.YtgiapdmoiaiofaaDoor
