/- Arguments of layer 12's laws, opened: rows of numbers, rows of such rows, a source's numbers. -/
import Derived.Test.YtkccciacngjhfaaDwA
import Derived.Deep.Slices
import Derived.Deep.Fields
import Derived.ChangeSame
import Derived.ChangeSlices
import Derived.WideShapes
import Derived.ChangeShapes
namespace Go.Proofs.Ytkccciacngjhfaa
open Go.RowKit Go.ChangeShapes Go.WideShapes Go.Deep
set_option linter.constructorNameAsVariable false

section
variable {H : Type} {enc : TypeId × Value → H} {w : World} {spare : Nat → Bool} {held : Bool}
theorem row_open {P : Program} {t e : TypeId} {k : IntKind} {fuel : Nat} {a : Option Addr} {n c : Nat} {x : DataW H × List MemPlace} (ht : P.underlying t = some (.slice e)) (he : P.underlying e = some (.int k)) (hc : P.cellsOf e = 1)
    (h : DataW.trod enc P w 0 spare held fuel t [.slice a n c] = some x) :
    ∃ l : List Int, n = l.length ∧ n ≤ c ∧ n ≤ maxLen ∧ (a = none → c = 0 ∧ l = []) ∧ (∀ y ∈ l, (Lit.int k y).wf = true) ∧
      (l ≠ [] → ∃ b o, a = some ⟨b, o, none⟩ ∧ b < w.heap.size ∧ ∀ i, i < l.length → w.cell? ⟨b, o + i, none⟩ = some (.int k (l.getD i 0))) := by
  rcases open_ints ht he hc h with ⟨hcs, _⟩ | ⟨ad, l, c', zs, hcs, _, hl, hm, hz, _, hcell, hwz⟩
  · simp at hcs
    obtain ⟨rfl, rfl, rfl⟩ := hcs
    exact ⟨[], rfl, Nat.le_refl _, Nat.zero_le _, fun _ => ⟨rfl, rfl⟩, (fun y hy => nomatch hy), fun h => absurd rfl h⟩
  · simp at hcs
    obtain ⟨rfl, rfl, rfl⟩ := hcs
    have hzl : n ≤ zs.length := by rw [hz]; split <;> omega
    have hlen : (zs.take n).length = n := by rw [List.length_take]; omega
    refine ⟨zs.take n, hlen.symm, hl, by omega, (fun h => nomatch h), fun y hy => hwz y (List.mem_of_mem_take hy), fun hne => ?_⟩
    have hpos : 0 < n := by
      rcases Nat.eq_zero_or_pos n with h | h
      · subst h; simp at hne
      · exact h
    obtain ⟨b, off, spot⟩ := ad
    have hc0 := hcell 0 (by omega)
    have hspot : spot = none := by simpa [Addr.add] using World.cell?_spot hc0
    subst hspot
    have hadd : ∀ i, (⟨b, off, none⟩ : Addr).add i = ⟨b, off + i, none⟩ := by intro i; unfold Addr.add; split <;> simp_all
    refine ⟨b, off, rfl, ?_, fun i hi => ?_⟩
    · rw [hadd] at hc0
      exact World.block_lt_of_cell? (w := w) (a := ⟨b, off + 0, none⟩) hc0
    · rw [hlen] at hi
      have := hcell i (by omega)
      rw [hadd] at this
      rw [this]
      congr 2
      rw [List.getD_eq_getElem?_getD, List.getD_eq_getElem?_getD, List.getElem?_take, if_pos (by omega)]
theorem in64_wf {z : Int} (h : (Lit.int .i64 z).wf = true) : -9223372036854775808 ≤ z ∧ z ≤ 9223372036854775807 := by
  have q2 : IntKind.i64.min = -9223372036854775808 := rfl
  have q3 : IntKind.i64.max = 9223372036854775807 := rfl
  simp only [Lit.wf, decide_eq_true_eq, Bool.and_eq_true] at h
  omega
theorem in8_wf {z : Int} (h : (Lit.int .u8 z).wf = true) : 0 ≤ z ∧ z ≤ 255 := by
  have q2 : IntKind.u8.min = 0 := rfl
  have q3 : IntKind.u8.max = 255 := rfl
  simp only [Lit.wf, decide_eq_true_eq, Bool.and_eq_true] at h
  omega
/-- a slice cell's value is a slice -/
theorem slc_cell {P : Program} {fuel : Nat} {t e : TypeId} {cv : Value} {x : DataW H × List MemPlace} (ht : P.underlying t = some (.slice e)) (h : DataW.trod enc P w 0 spare held fuel t [cv] = some x) : ∃ a n c, cv = .slice a n c := by
  rcases open_slice ht h with ⟨h0, _⟩ | ⟨a, len, cap, _, _, _, _, h0, _⟩
  · injection h0 with h0; exact ⟨_, _, _, h0⟩
  · injection h0 with h0; exact ⟨_, _, _, h0⟩
set_option maxRecDepth 100000 in
theorem play_open {r : Reach} {b0 : Nat} {v : Value} {d : DataW H} {p : List MemPlace} (hv : Value.okWide Try.prog w r b0 30 v) (h : DataW.Trod enc Try.prog w 0 spare held 30 v d p) :
    ∃ (A : Option Addr) (l : List Int) (c : Nat) (z : Int) (m : Bool), v = .agg #[.slice A l.length c, .int .i64 z, .bool m] ∧ (A = none → c = 0 ∧ l = []) ∧ RI w w.heap.size A l ∧ -9223372036854775808 ≤ z ∧ z ≤ 9223372036854775807 := by
  have hC : Try.prog.cellsOf 30 = 3 := by kernel_rfl
  obtain ⟨cs, rfl, hsz⟩ := okWide_struct Try.underlying30 hv
  obtain ⟨l⟩ := cs
  match l, hsz.trans hC with
  | [c0, c1, c2], _ =>
    obtain ⟨fuel, hf⟩ := h
    obtain ⟨xs, m, _, _, _, hlen, hg⟩ := DataW.trod_struct Try.underlying30 hf
    have g0 := hg 0 _ rfl
    have g1 := hg 1 _ rfl
    have g2 := hg 2 _ rfl
    match xs, hlen with
    | [y0, y1, y2], _ =>
      have s0 : Try.prog.cellsOf 22 = 1 := by kernel_rfl
      have s1 : Try.prog.cellsOf 2 = 1 := by kernel_rfl
      have s2 : Try.prog.cellsOf 4 = 1 := by kernel_rfl
      have g0 : DataW.trod enc Try.prog w 0 spare held m 22 (([c0, c1, c2].drop 0).take (Try.prog.cellsOf 22)) = some y0 := g0
      rw [s0] at g0
      have g1 : DataW.trod enc Try.prog w 0 spare held m 2 (([c0, c1, c2].drop 1).take (Try.prog.cellsOf 2)) = some y1 := g1
      rw [s1] at g1
      have g2 : DataW.trod enc Try.prog w 0 spare held m 4 (([c0, c1, c2].drop 2).take (Try.prog.cellsOf 4)) = some y2 := g2
      rw [s2] at g2
      obtain ⟨A, n, c, rfl⟩ := slc_cell Try.underlying22 (show DataW.trod enc Try.prog w 0 spare held m 22 [c0] = some y0 from g0)
      obtain ⟨l, rfl, _, _, hnil, _, hr⟩ := row_open Try.underlying22 Try.underlying3 (by kernel_rfl) (show DataW.trod enc Try.prog w 0 spare held m 22 [.slice A n c] = some y0 from g0)
      obtain ⟨z, e1, _, w1⟩ := DataW.trod_int Try.underlying2 (show DataW.trod enc Try.prog w 0 spare held m 2 [c1] = some y1 from g1)
      obtain ⟨q, e2, _⟩ := DataW.trod_bool Try.underlying4 (show DataW.trod enc Try.prog w 0 spare held m 4 [c2] = some y2 from g2)
      injection e1 with e1 _
      injection e2 with e2 _
      subst e1 e2
      exact ⟨A, l, c, z, q, rfl, hnil, hr, in64_wf w1⟩
/-- rows of rows of numbers -/
def RII (w : World) (B : Nat) (A : Option Addr) (n : Nat) : Prop :=
  ∀ i, i < n → ∃ (b o : Nat) (Ai : Option Addr) (li : List Int) (ci : Nat), A = some ⟨b, o, none⟩ ∧ b < B ∧ w.cell? ⟨b, o + i, none⟩ = some (.slice Ai li.length ci) ∧ li.length ≤ ci ∧ li.length ≤ maxLen ∧ RI w B Ai li ∧ ∀ y ∈ li, -9223372036854775808 ≤ y ∧ y ≤ 9223372036854775807
theorem rii_open {fuel : Nat} {a : Option Addr} {n c : Nat} {x : DataW H × List MemPlace} (h : DataW.trod enc Try.prog w 0 spare held fuel 43 [.slice a n c] = some x) : n ≤ c ∧ n ≤ maxLen ∧ RII w w.heap.size a n := by
  have hC : Try.prog.cellsOf 22 = 1 := by kernel_rfl
  rcases open_slice Try.underlying43 h with ⟨h0, _⟩ | ⟨ad, len, cap, m, k, D, Pl, hcs, _, hl, hm, hmm, _, hi⟩
  · simp at h0
    obtain ⟨rfl, rfl, rfl⟩ := h0
    exact ⟨Nat.le_refl _, Nat.zero_le _, fun i hi => by omega⟩
  · simp at hcs
    obtain ⟨rfl, rfl, rfl⟩ := hcs
    refine ⟨hl, by omega, fun i hin => ?_⟩
    obtain ⟨b, off, spot⟩ := ad
    have hspot : spot = none := by
      obtain ⟨cs', hc, _⟩ := hi 0 (by rw [hmm]; split <;> omega)
      rw [hC] at hc
      obtain ⟨_, hcl, hat⟩ := World.cells?_some hc
      have h1 := hat 0 (by omega)
      rw [List.getElem?_eq_getElem (by omega)] at h1
      simpa [Addr.add] using World.cell?_spot h1
    subst hspot
    obtain ⟨cs', hc, ht'⟩ := hi i (by rw [hmm]; split <;> omega)
    rw [hC] at hc
    obtain ⟨_, hcl, hat⟩ := World.cells?_some hc
    match cs', hcl with
    | [cv], _ =>
      have h1 := hat 0 (by omega)
      obtain ⟨Ai, ni, ci, rfl⟩ := slc_cell Try.underlying22 ht'
      obtain ⟨l, rfl, hlc, hmx, _, hw, hr⟩ := row_open Try.underlying22 Try.underlying3 (by kernel_rfl) ht'
      have hx : w.cell? ⟨b, off + i, none⟩ = some (.slice Ai l.length ci) := by
        rw [Go.Deep.add_add, Nat.mul_one, Nat.add_zero] at h1
        have hadd : ∀ i, (⟨b, off, none⟩ : Addr).add i = ⟨b, off + i, none⟩ := by intro i; unfold Addr.add; split <;> simp_all
        rw [hadd] at h1
        exact h1
      exact ⟨b, off, Ai, l, ci, rfl, World.block_lt_of_cell? (w := w) (a := ⟨b, off + i, none⟩) hx, hx, hlc, hmx, hr, fun y hy => in64_wf (hw y hy)⟩
end
end Go.Proofs.Ytkccciacngjhfaa
