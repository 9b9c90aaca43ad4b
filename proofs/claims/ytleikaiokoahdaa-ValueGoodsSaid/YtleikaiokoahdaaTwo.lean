/- A drawn region that appends a row, and one element more, to an empty row: what holds whatever has come up. -/
import Derived.Test.YtleikaiokoahdaaInv
import Derived.Test.YtleikaiokoahdaaApp
namespace Go.Proofs.Ytleikaiokoahdaa
open Go.RowKit

structure Two (W : World) (e : TypeId) (sz n : Nat) (news cx : List Value) (i0 i3 i6 i7 : Nat) (l : Nat → Bool) (x : Nat → Value) (w : World) : Prop where
  bel : Below W.heap.size W w
  e0 : l i0 = true → l i3 = false → w.ownsRow W.heap.size e sz (x i0) 0 []
  e3 : l i3 = true → l i7 = false → ∃ K c, x i3 = .slice K n c ∧ w.ownsRow W.heap.size e sz (.slice K n c) n news
  e6 : l i6 = true → ∃ g, x i6 = .slice (some ⟨g, 0, none⟩) 1 1 ∧ Blk w g e cx.toArray
  n0 : l i0 = true → l i6 = true → l i3 = false → ∀ g, x i6 = .slice (some ⟨g, 0, none⟩) 1 1 → some g ≠ (x i0).ownBlock
  n3 : l i3 = true → l i6 = true → l i7 = false → ∀ g, x i6 = .slice (some ⟨g, 0, none⟩) 1 1 → some g ≠ (x i3).ownBlock
  e7 : l i7 = true → ∃ K c, x i7 = .slice K (n + 1) c ∧ w.ownsRow W.heap.size e sz (.slice K (n + 1) c) (n + 1) (news ++ cx)
  d3 : l i3 = true → l i0 = true
  d7 : l i7 = true → l i3 = true ∧ l i6 = true
section
variable {W : World} {e : TypeId} {sz n : Nat} {news cx : List Value} {i0 i3 i6 i7 : Nat} {l : Nat → Bool} {x : Nat → Value} {w : World}
theorem Two.start (hsz : Below W.heap.size W w) : Two W e sz n news cx i0 i3 i6 i7 (fun _ => false) x w :=
  ⟨hsz, nofun, nofun, nofun, nofun, nofun, nofun, nofun, nofun⟩
theorem Two.pure (h : Two W e sz n news cx i0 i3 i6 i7 l x w) {j : Nat} (v : Value) (hj : j ≠ i0 ∧ j ≠ i3 ∧ j ≠ i6 ∧ j ≠ i7) : Two W e sz n news cx i0 i3 i6 i7 (upd l j true) (upd x j v) w := by
  obtain ⟨h0, h3, h6, h7⟩ := hj
  have a0 := upd_ne l true h0.symm; have a3 := upd_ne l true h3.symm; have a6 := upd_ne l true h6.symm; have a7 := upd_ne l true h7.symm
  have b0 := upd_ne x v h0.symm; have b3 := upd_ne x v h3.symm; have b6 := upd_ne x v h6.symm; have b7 := upd_ne x v h7.symm
  constructor
  · exact h.bel
  · rw [a0, a3, b0]; exact h.e0
  · rw [a3, a7, b3]; exact h.e3
  · rw [a6, b6]; exact h.e6
  · rw [a0, a6, a3, b6, b0]; exact h.n0
  · rw [a3, a6, a7, b6, b3]; exact h.n3
  · rw [a7, b7]; exact h.e7
  · rw [a3, a0]; exact h.d3
  · rw [a7, a3, a6]; exact h.d7
theorem own_alloc {base sz n : Nat} {v : Value} {xs : List Value} (h : w.ownsRow base e sz v n xs) (o : Obj) : (w.alloc o).ownsRow base e sz v n xs := h.alloc o
theorem Two.empty (h : Two W e sz n news cx i0 i3 i6 i7 l x w) (hl : l i0 = false) (hne : i0 ≠ i3 ∧ i0 ≠ i6 ∧ i0 ≠ i7) : Two W e sz n news cx i0 i3 i6 i7 (upd l i0 true) (upd x i0 (.slice (some ⟨w.heap.size, 0, none⟩) 0 0)) (w.alloc (.cells #[] e)) := by
  obtain ⟨h3, h6, h7⟩ := hne
  have l3 : l i3 = false := by cases hh : l i3 with | false => rfl | true => have := h.d3 hh; rw [hl] at this; cases this
  have l7 : l i7 = false := by cases hh : l i7 with | false => rfl | true => have := (h.d7 hh).1; rw [l3] at this; cases this
  have a3 := upd_ne l true h3.symm; have a6 := upd_ne l true h6.symm; have a7 := upd_ne l true h7.symm
  have b3 := upd_ne x (.slice (some ⟨w.heap.size, 0, none⟩) 0 0) h3.symm; have b6 := upd_ne x (.slice (some ⟨w.heap.size, 0, none⟩) 0 0) h6.symm; have b7 := upd_ne x (.slice (some ⟨w.heap.size, 0, none⟩) 0 0) h7.symm
  constructor
  · exact h.bel.alloc h.bel.size _
  · intro _ _; rw [upd_at]; exact World.ownsRow_lit w #[] 0 h.bel.size (Nat.zero_le _) (by simp)
  · rw [a3, l3]; nofun
  · rw [a6, b6]; intro k; obtain ⟨g, hg, hb⟩ := h.e6 k; exact ⟨g, hg, hb.alloc _⟩
  · rw [a6, b6, upd_at, upd_at]; intro _ k _ g hg he
    obtain ⟨g', hg', hb⟩ := h.e6 k
    rw [hg] at hg'
    have e1 : g = g' := by injection hg' with q _ _; injection q with q; injection q
    have e2 : some g = some w.heap.size := he
    injection e2 with e2
    have := hb.lt
    omega
  · rw [a3, l3]; nofun
  · rw [a7, l7]; nofun
  · intro _; exact upd_at _ _ _
  · rw [a7, l7]; nofun
theorem own_lt {base : Nat} {v : Value} {m : Nat} {xs : List Value} (h : w.ownsRow base e sz v m xs) {b : Nat} (hb : v.ownBlock = some b) : b < w.heap.size := (h.lt b hb).2
theorem Two.lit (h : Two W e sz n news cx i0 i3 i6 i7 l x w) (hl : l i6 = false) (hne : i6 ≠ i0 ∧ i6 ≠ i3 ∧ i6 ≠ i7) : Two W e sz n news cx i0 i3 i6 i7 (upd l i6 true) (upd x i6 (.slice (some ⟨w.heap.size, 0, none⟩) 1 1)) (w.alloc (.cells cx.toArray e)) := by
  obtain ⟨h0, h3, h7⟩ := hne
  have l7 : l i7 = false := by cases hh : l i7 with | false => rfl | true => have := (h.d7 hh).2; rw [hl] at this; cases this
  have a0 := upd_ne l true h0.symm; have a3 := upd_ne l true h3.symm; have a7 := upd_ne l true h7.symm
  have b0 := upd_ne x (.slice (some ⟨w.heap.size, 0, none⟩) 1 1) h0.symm; have b3 := upd_ne x (.slice (some ⟨w.heap.size, 0, none⟩) 1 1) h3.symm; have b7 := upd_ne x (.slice (some ⟨w.heap.size, 0, none⟩) 1 1) h7.symm
  have hg : ∀ g, Value.slice (some ⟨w.heap.size, 0, none⟩) 1 1 = .slice (some ⟨g, 0, none⟩) 1 1 → g = w.heap.size := fun g e => by
    injection e with e _ _; injection e with e; injection e with e _; exact e.symm
  constructor
  · exact h.bel.alloc h.bel.size _
  · rw [a0, a3, b0]; intro k k3; exact own_alloc (h.e0 k k3) _
  · rw [a3, a7, b3]; intro k k7; obtain ⟨K, c, e1, e2⟩ := h.e3 k k7; exact ⟨K, c, e1, own_alloc e2 _⟩
  · intro _; rw [upd_at]; exact ⟨_, rfl, Blk.new w _ _⟩
  · rw [a0, a3, b0, upd_at, upd_at]; intro k _ k3 g he ho
    have := own_lt (h.e0 k k3) ho.symm
    have := hg g he
    omega
  · rw [a3, a7, b3, upd_at, upd_at]; intro k _ k7 g he ho
    obtain ⟨K, c, e1, e2⟩ := h.e3 k k7
    rw [e1] at ho
    have := own_lt e2 ho.symm
    have := hg g he
    omega
  · rw [a7, l7]; nofun
  · rw [a3, a0]; exact h.d3
  · rw [a7, l7]; nofun
theorem Two.app1 (h : Two W e sz n news cx i0 i3 i6 i7 l x w) (hl : l i3 = false) (h0 : l i0 = true) (hne : i3 ≠ i0 ∧ i3 ≠ i6 ∧ i3 ≠ i7) {K : Option Addr} {c : Nat} {w' : World}
    (ho : w'.ownsRow W.heap.size e sz (.slice K n c) n news) (hg : w.grownBy w' (x i0).ownBlock) (hat : (Value.slice K n c).ownBlock = (x i0).ownBlock ∨ (Value.slice K n c).ownBlock = some w.heap.size) : Two W e sz n news cx i0 i3 i6 i7 (upd l i3 true) (upd x i3 (.slice K n c)) w' := by
  obtain ⟨k0, k6, k7⟩ := hne
  have l7 : l i7 = false := by cases hh : l i7 with | false => rfl | true => have := (h.d7 hh).1; rw [hl] at this; cases this
  have a0 := upd_ne l true k0.symm; have a6 := upd_ne l true k6.symm; have a7 := upd_ne l true k7.symm
  have b0 := upd_ne x (.slice K n c) k0.symm; have b6 := upd_ne x (.slice K n c) k6.symm; have b7 := upd_ne x (.slice K n c) k7.symm
  constructor
  · exact h.bel.grown hg h.bel.size (fun k hk => ((h.e0 h0 hl).lt k hk).1)
  · rw [upd_at]; intro _ k; cases k
  · intro _ _; rw [upd_at]; exact ⟨K, c, rfl, ho⟩
  · rw [a6, b6]; intro k; obtain ⟨g, hg', hb⟩ := h.e6 k; exact ⟨g, hg', (hg.block g hb.lt (h.n0 h0 k hl g hg')).trans hb⟩
  · rw [upd_at]; intro _ _ k; cases k
  · rw [a6, b6, upd_at, upd_at]; intro _ k _ g he
    obtain ⟨g', hg', hb⟩ := h.e6 k
    rcases hat with hat | hat
    · rw [hat]; exact h.n0 h0 k hl g he
    · rw [hat]; intro e2
      rw [he] at hg'
      injection hg' with hg' _ _; injection hg' with hg'; injection hg' with hg' _
      have := hb.lt
      injection e2 with e2
      omega
  · rw [a7, l7]; nofun
  · intro _; rw [a0]; exact h0
  · rw [a7, l7]; nofun
theorem Two.app2 (h : Two W e sz n news cx i0 i3 i6 i7 l x w) (hl : l i7 = false) (h3 : l i3 = true) (h6 : l i6 = true) (hne : i7 ≠ i0 ∧ i7 ≠ i3 ∧ i7 ≠ i6) {K : Option Addr} {c : Nat} {w' : World}
    (ho : w'.ownsRow W.heap.size e sz (.slice K (n + 1) c) (n + 1) (news ++ cx)) (hg : w.grownBy w' (x i3).ownBlock) : Two W e sz n news cx i0 i3 i6 i7 (upd l i7 true) (upd x i7 (.slice K (n + 1) c)) w' := by
  obtain ⟨k0, k3, k6⟩ := hne
  have a0 := upd_ne l true k0.symm; have a3 := upd_ne l true k3.symm; have a6 := upd_ne l true k6.symm
  have b0 := upd_ne x (.slice K (n + 1) c) k0.symm; have b3 := upd_ne x (.slice K (n + 1) c) k3.symm; have b6 := upd_ne x (.slice K (n + 1) c) k6.symm
  obtain ⟨K3, c3, e1, e2⟩ := h.e3 h3 hl
  constructor
  · exact h.bel.grown hg h.bel.size (fun k hk => by rw [e1] at hk; exact (e2.lt k hk).1)
  · rw [a0, a3, h3]; nofun
  · rw [upd_at]; intro _ k; cases k
  · rw [a6, b6]; intro k; obtain ⟨g, hg', hb⟩ := h.e6 k; exact ⟨g, hg', (hg.block g hb.lt (h.n3 h3 k hl g hg')).trans hb⟩
  · rw [a3, h3]; nofun
  · rw [upd_at]; intro _ _ k; cases k
  · intro _; rw [upd_at]; exact ⟨K, c, rfl, ho⟩
  · rw [a3, a0]; exact h.d3
  · intro _; rw [a3, a6]; exact ⟨h3, h6⟩
/-- .. beside the values of the operations that only read, and what the last store leaves -/
def TwoI (W : World) (e : TypeId) (sz n : Nat) (news cx : List Value) (i0 i3 i6 i7 s : Nat) (vals : List (Nat × Value)) (F : World → Prop) (l : Nat → Bool) (x : Nat → Value) (w : World) : Prop :=
  (l s = false → Two W e sz n news cx i0 i3 i6 i7 l x w ∧ ∀ p ∈ vals, l p.1 = true → x p.1 = p.2) ∧ (l s = true → (∀ i, i < s → l i = true) ∧ F w)
variable {s : Nat} {vals : List (Nat × Value)} {F : World → Prop}
theorem TwoI.early (h : TwoI W e sz n news cx i0 i3 i6 i7 s vals F l x w) {i : Nat} (hi : i < s) (hl : l i = false) : l s = false ∧ Two W e sz n news cx i0 i3 i6 i7 l x w ∧ ∀ p ∈ vals, l p.1 = true → x p.1 = p.2 := by
  cases hs : l s with
  | false => exact ⟨rfl, h.1 hs⟩
  | true => have := (h.2 hs).1 i hi; rw [hl] at this; cases this
theorem TwoI.pre {j : Nat} {v : Value} (hj : j ≠ s) (hs : l s = false) (h : Two W e sz n news cx i0 i3 i6 i7 (upd l j true) (upd x j v) w) (hv : ∀ p ∈ vals, l p.1 = true → x p.1 = p.2) (hjv : ∀ p ∈ vals, p.1 = j → p.2 = v) : TwoI W e sz n news cx i0 i3 i6 i7 s vals F (upd l j true) (upd x j v) w := by
  refine ⟨fun _ => ⟨h, fun p hp hl => ?_⟩, fun k => by rw [upd_ne l true hj.symm, hs] at k; cases k⟩
  by_cases he : p.1 = j
  · rw [he, upd_at]; exact (hjv p hp he).symm
  · rw [upd_ne x v he]; rw [upd_ne l true he] at hl; exact hv p hp hl
theorem TwoI.last {v : Value} (hall : ∀ i, i < s → l i = true) {w' : World} (hF : F w') : TwoI W e sz n news cx i0 i3 i6 i7 s vals F (upd l s true) (upd x s v) w' :=
  ⟨(fun k => by rw [upd_at] at k; cases k), fun _ => ⟨(fun i hi => by rw [upd_ne l true (by omega)]; exact hall i hi), hF⟩⟩
theorem TwoI.done (h : TwoI W e sz n news cx i0 i3 i6 i7 s vals F l x w) (hs : l s = true) : F w := (h.2 hs).2
end
end Go.Proofs.Ytleikaiokoahdaa
