/- All, told by what it answers; the fixed fact of layer 5. -/
import Derived.Test.YtnenipgpncomeaaDoorLexN
import Derived.Outline
namespace Go.Proofs.YtnenipgpncomeaaDoor
open Go.RowKit
open Tk
open Pl
set_option linter.unusedVariables false

/-- a token's five cells -/
def TokAt (w : World) (b i : Nat) (t : Tok) : Prop := w.cell? ⟨b, 5 * i, none⟩ = some (.int .i64 t.kind) ∧ w.cell? ⟨b, 5 * i + 1, none⟩ = some (.string t.text) ∧ w.cell? ⟨b, 5 * i + 2, none⟩ = some (.int .i64 t.num) ∧ w.cell? ⟨b, 5 * i + 3, none⟩ = some (.int .i64 t.at_) ∧ w.cell? ⟨b, 5 * i + 4, none⟩ = some (.int .i64 t.fin)
theorem all_toks (s : ByteArray) (w : World) (hs : s.size ≤ 90000) (hr : RangeErr w) {l : List Tok} {n : Nat} (h : all s 0 [] = .toks l) (hn : l.length = n) (h0 : 0 < n) :
    Calls Tryd.prog 8 #[.string s] w fun e w' => ∃ b c, e = .returned (.tuple #[.slice (some ⟨b, 0, none⟩) n c, .int .i64 0, .int .i64 0]) ∧ n ≤ c ∧ b < w'.heap.size ∧ (∀ i t, l[i]? = some t → TokAt w' b i t) ∧ Below w.heap.size w w' := by
  have := all_any5 s w hs hr
  rw [h] at this
  refine this.mono ?_
  rintro e w' ⟨⟨A, c, rfl, hc, hrd⟩, hb⟩
  obtain ⟨b, rfl, hlt, hcell⟩ := hrd (by intro hl; rw [hl] at hn; simp at hn; omega)
  exact ⟨b, c, by rw [hn], by omega, hlt, hcell, hb⟩
theorem all_err5 (s : ByteArray) (w : World) (hs : s.size ≤ 90000) (hr : RangeErr w) {p : Nat} {c : Int} (h : all s 0 [] = .bad p c) :
    Calls Tryd.prog 8 #[.string s] w fun e w' => e = .returned (.tuple #[.slice none 0 0, .int .i64 p, .int .i64 c]) ∧ Below w.heap.size w w' := by
  have := all_any5 s w hs hr
  rw [h] at this
  exact this
theorem all_01 : all ⟨#[48, 49]⟩ 0 [] = .toks [⟨3, nix, 0, 0, 1⟩, ⟨3, nix, 1, 1, 2⟩, ⟨0, nix, 0, 2, 2⟩] := by rfl
set_option maxRecDepth 100000 in
set_option maxHeartbeats 4000000 in
theorem awake5_any (w : World) (hr : RangeErr w) : Calls Tryd.prog 7 #[] w fun e w' => e = .returned (.bool true) ∧ Below w.heap.size w w' := by
  have HR := Lib.hid hr
  clear hr
  go_enter Tryd.func7, Tryd.ntmps7
  go_wp2_with fail
  refine (all_toks ⟨#[48, 49]⟩ _ (by decide) HR.out all_01 (n := 3) rfl (by decide)).mono ?_
  rintro e w1 ⟨b, c, rfl, hc, hlt, hcell, hb⟩
  have k0 : w1.cell? ⟨b, 0, none⟩ = some (.int .i64 3) := (hcell 0 _ rfl).1
  have k7 : w1.cell? ⟨b, 7, none⟩ = some (.int .i64 1) := (hcell 1 _ rfl).2.2.1
  have k8 : w1.cell? ⟨b, 8, none⟩ = some (.int .i64 1) := (hcell 1 _ rfl).2.2.2.1
  have HB := Lib.hid hb
  clear hb hcell
  go_wp2_with fail
  go_ret
  exact ⟨rfl, HB.out⟩
end Go.Proofs.YtnenipgpncomeaaDoor
