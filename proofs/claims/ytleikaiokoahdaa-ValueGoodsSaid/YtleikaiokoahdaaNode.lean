/- A node by value, opened. -/
import Derived.Test.YtleikaiokoahdaaOpen
import Derived.WideShapes
import Derived.ChangeShapes
namespace Go.Proofs.Ytleikaiokoahdaa
open Go.RowKit Go.ChangeShapes Go.WideShapes Go.Deep
set_option linter.constructorNameAsVariable false

section
variable {H : Type} {enc : TypeId × Value → H} {w : World} {spare : Nat → Bool} {held : Bool}
/-- what is known of a node that came in by value -/
def IsNode (k n : Int) (s : ByteArray) (mi mk : Nat) : Prop := 0 ≤ k ∧ k < 256 ∧ -9223372036854775808 ≤ n ∧ n ≤ 9223372036854775807 ∧ s.size ≤ maxLen ∧ mi ≤ maxLen ∧ mk ≤ maxLen
set_option maxRecDepth 100000 in
theorem node_open {r : Reach} {b0 : Nat} {v : Value} {d : DataW H} {p : List MemPlace} (hv : Value.okWide Try.prog w r b0 26 v) (h : DataW.Trod enc Try.prog w 0 spare held 26 v d p) :
    ∃ (k n : Int) (s : ByteArray) (I : Option Addr) (mi ci : Nat) (K : Option Addr) (mk ck : Nat), v = .agg #[.int .u8 k, .int .i64 n, .string s, .slice I mi ci, .slice K mk ck] ∧ IsNode k n s mi mk := by
  have hC : Try.prog.cellsOf 26 = 5 := by kernel_rfl
  obtain ⟨cs, rfl, hsz⟩ := okWide_struct Try.underlying26 hv
  obtain ⟨l⟩ := cs
  match l, hsz.trans hC with
  | [c0, c1, c2, c3, c4], _ =>
    obtain ⟨fuel, hf⟩ := h
    obtain ⟨xs, m, _, _, _, hlen, hg⟩ := DataW.trod_struct Try.underlying26 hf
    have g0 := hg 0 _ rfl
    have g1 := hg 1 _ rfl
    have g2 := hg 2 _ rfl
    have g3 := hg 3 _ rfl
    have g4 := hg 4 _ rfl
    match xs, hlen with
    | [y0, y1, y2, y3, y4], _ =>
      have s0 : Try.prog.cellsOf 5 = 1 := by kernel_rfl
      have s1 : Try.prog.cellsOf 2 = 1 := by kernel_rfl
      have s2 : Try.prog.cellsOf 9 = 1 := by kernel_rfl
      have s3 : Try.prog.cellsOf 23 = 1 := by kernel_rfl
      have s4 : Try.prog.cellsOf 24 = 1 := by kernel_rfl
      have g0 : DataW.trod enc Try.prog w 0 spare held m 5 (([c0, c1, c2, c3, c4].drop 0).take (Try.prog.cellsOf 5)) = some y0 := g0
      rw [s0] at g0
      have g1 : DataW.trod enc Try.prog w 0 spare held m 2 (([c0, c1, c2, c3, c4].drop 1).take (Try.prog.cellsOf 2)) = some y1 := g1
      rw [s1] at g1
      have g2 : DataW.trod enc Try.prog w 0 spare held m 9 (([c0, c1, c2, c3, c4].drop 2).take (Try.prog.cellsOf 9)) = some y2 := g2
      rw [s2] at g2
      have g3 : DataW.trod enc Try.prog w 0 spare held m 23 (([c0, c1, c2, c3, c4].drop 3).take (Try.prog.cellsOf 23)) = some y3 := g3
      rw [s3] at g3
      have g4 : DataW.trod enc Try.prog w 0 spare held m 24 (([c0, c1, c2, c3, c4].drop 4).take (Try.prog.cellsOf 24)) = some y4 := g4
      rw [s4] at g4
      obtain ⟨k, e0, _, w0⟩ := DataW.trod_int Try.underlying5 (show DataW.trod enc Try.prog w 0 spare held m 5 [c0] = some y0 from g0)
      obtain ⟨n, e1, _, w1⟩ := DataW.trod_int Try.underlying2 (show DataW.trod enc Try.prog w 0 spare held m 2 [c1] = some y1 from g1)
      obtain ⟨s, e2, _, hs⟩ := DataW.trod_string Try.underlying9 (show DataW.trod enc Try.prog w 0 spare held m 9 [c2] = some y2 from g2)
      obtain ⟨I, mi, ci, rfl⟩ := slice_cell Try.underlying23 (show DataW.trod enc Try.prog w 0 spare held m 23 [c3] = some y3 from g3)
      obtain ⟨K, mk, ck, rfl⟩ := slice_cell Try.underlying24 (show DataW.trod enc Try.prog w 0 spare held m 24 [c4] = some y4 from g4)
      obtain ⟨hb1, hb2, _⟩ := bytes_open (show DataW.trod enc Try.prog w 0 spare held m 23 [.slice I mi ci] = some y3 from g3)
      obtain ⟨hk1, hk2, _⟩ := strs_open (show DataW.trod enc Try.prog w 0 spare held m 24 [.slice K mk ck] = some y4 from g4)
      injection e0 with e0 _
      injection e1 with e1 _
      injection e2 with e2 _
      subst e0 e1 e2
      have q0 : IntKind.u8.min = 0 := rfl
      have q1 : IntKind.u8.max = 255 := rfl
      have q2 : IntKind.i64.min = -9223372036854775808 := rfl
      have q3 : IntKind.i64.max = 9223372036854775807 := rfl
      simp only [Lit.wf, decide_eq_true_eq, Bool.and_eq_true] at w0 w1
      exact ⟨k, n, s, I, mi, ci, K, mk, ck, rfl, by omega, by omega, by omega, by omega, hs, by omega, by omega⟩
end
end Go.Proofs.Ytleikaiokoahdaa
