/- A place within a value that lies in rows of its own: what is stored there makes of the whole. -/
import Derived.Test.YthkpeomdklcnmaaGreatDoorSets
import Derived.Test.YthkpeomdklcnmaaGreatDoorOwn
import Derived.Outline
namespace Go.Proofs.YthkpeomdklcnmaaGreatDoor
open Go.RowKit
set_option linter.unusedVariables false

/-- at (b, o) stands y, whose rows are blocks lo to hi: a value x stored there makes of t (in box g0, its rows blocks LO to HI) the value in which x stands where p leads to, if pj is what is left of p -/
def Zip (g0 LO HI : Nat) (w : World) (t : T) (p : List ByteArray) (y : T) (pj : List ByteArray) (lo hi b o : Nat) : Prop :=
  ∃ F : T → T, (∀ x z, Sets y pj x z → Sets t p x (F z)) ∧
    ∀ (W : World) (x : T) (C : Option Addr) (f : Nat) (C' : Option Addr) (f' : Nat),
      (∀ k, (k = g0 ∨ (LO ≤ k ∧ k < HI)) → ¬ (lo ≤ k ∧ k < hi) → k ≠ b → W.heap[k]? = w.heap[k]?) →
      (∀ i, (i < o ∨ o + 6 ≤ i) → W.cell? ⟨b, i, none⟩ = w.cell? ⟨b, i, none⟩) →
      HI ≤ W.heap.size → Six W b o x C f C' f' → TV W (fun k => LO ≤ k ∧ k < W.heap.size) x C f C' f' →
      ∃ D e D' e', Six W g0 0 (F x) D e D' e' ∧ TV W (fun k => LO ≤ k ∧ k < W.heap.size) (F x) D e D' e'
theorem zip_start (g0 LO HI : Nat) (w : World) (t : T) (p : List ByteArray) : Zip g0 LO HI w t p t p LO HI g0 0 :=
  ⟨fun z => z, fun x z h => h, fun W x C f C' f' _ _ _ h6 hv => ⟨C, f, C', f', h6, hv⟩⟩
theorem Zip.onto {g0 LO HI : Nat} {w w' : World} {t : T} {p : List ByteArray} {y : T} {pj : List ByteArray} {lo hi b o : Nat} (h : Zip g0 LO HI w t p y pj lo hi b o) (hg : g0 < w.heap.size) (hH : HI ≤ w.heap.size) (hbl : b < w.heap.size) (hb : Below w.heap.size w w') : Zip g0 LO HI w' t p y pj lo hi b o := by
  obtain ⟨F, h1, h2⟩ := h
  refine ⟨F, h1, fun W x C f C' f' a1 a2 a3 a4 a5 => h2 W x C f C' f' (fun k hk hn hne => ?_) (fun i hi => ?_) a3 a4 a5⟩
  · have hlt : k < w.heap.size := by rcases hk with rfl | hk <;> omega
    exact (a1 k hk hn hne).trans (hb.block k hlt)
  · exact (a2 i hi).trans (hb.cell (p := ⟨b, i, none⟩) hbl)
theorem zip_step {g0 LO HI : Nat} {w : World} {t : T} {p : List ByteArray} {y : T} {q : ByteArray} {pj : List ByteArray} {lo hi b o : Nat} {A : Option Addr} {c : Nat} {A' : Option Addr} {c' : Nat} {k : Nat} {z : T}
    (h : Zip g0 LO HI w t p y (q :: pj) lo hi b o) (h6 : Six w b o y A c A' c') (ho : Own w lo hi y A c A' c') (hb : b < lo ∨ hi ≤ b) (hbg : b = g0 ∨ (LO ≤ b ∧ b < HI)) (hLO : LO ≤ lo) (hHI : hi ≤ HI) (hq : IsAt y q k) (hz : y.items[k]? = some z) :
    ∃ g lo' hi' B d B' d', A = some ⟨g, 0, none⟩ ∧ Six w g (k * 6) z B d B' d' ∧ Own w lo' hi' z B d B' d' ∧ (∃ cs, Blk w g 34 cs ∧ k * 6 + 6 ≤ cs.size) ∧ (g < lo' ∨ hi' ≤ g) ∧ (LO ≤ g ∧ g < HI) ∧ LO ≤ lo' ∧ hi' ≤ HI ∧ Zip g0 LO HI w t p z pj lo' hi' g (k * 6) := by
  cases ho with
  | mk _ _ _ _ _ _ _ hf hA hc hA' hc' l1 l2 hrow hlo hmono hhi hkey hin =>
    have hkl := lt_of_get hz
    have hne : y.items ≠ [] := by intro e; rw [e] at hz; simp at hz
    obtain ⟨g, cs, hAe, g1, g2, g3, g4, g5⟩ := hrow hne
    have hup := up_to hmono y.items.length (Nat.le_refl _)
    have hk0 := up_to hmono k (by omega) 0 (by omega)
    have hk1 := hmono k hkl
    have hkn := hup (k + 1) (by omega)
    refine ⟨g, hf k, hf (k + 1), hA k, hc k, hA' k, hc' k, hAe, g5 k z hz, hin k z hz, ⟨cs, g3, by omega⟩, .inl (by omega), by omega, by omega, by omega, ?_⟩
    obtain ⟨F, f1, f2⟩ := h
    refine ⟨fun x => F (y.with_ k x), fun x r hr => f1 x _ ⟨k, z, r, hq, hz, hr, rfl⟩, fun W x C f C' f' a1 a2 a3 a4 a5 => ?_⟩
    have hW : ∀ m, (m = g0 ∨ (LO ≤ m ∧ m < HI)) → ¬ (lo ≤ m ∧ m < hi) → W.heap[m]? = w.heap[m]? := fun m hm hn => a1 m hm (fun hh => hn ⟨by omega, by omega⟩) (fun e => hn ⟨by omega, by omega⟩)
    have hbW := hW b hbg (by omega)
    refine f2 W (y.with_ k x) A c A' c' (fun m hm hn _ => hW m hm hn) (fun i _ => World.cell?_of_block hbW) a3 ?_ ?_
    · have := h6.on_blk hbW
      unfold Six at this ⊢
      rw [with_len]
      exact this
    · refine TV.of (by rw [with_len]; exact l1) l2 (fun _ => ⟨g, 0, hAe, ⟨by omega, by omega⟩, fun i u hu => ?_⟩) ?_
      · by_cases hik : i = k
        · subst hik
          rw [with_at x hkl] at hu
          injection hu with hu
          subst hu
          exact ⟨C, f, C', f', by rw [Nat.zero_add]; exact a4, a5⟩
        · rw [with_off x hik] at hu
          have hil := lt_of_get hu
          have hi1 := hmono i hil
          have hi0 := up_to hmono i (by omega) 0 (by omega)
          have hin2 := hup (i + 1) (by omega)
          refine ⟨hA i, hc i, hA' i, hc' i, ?_, ?_⟩
          · obtain ⟨b0, b1, b2, b3, b4, b5⟩ := g5 i u hu
            have far : ∀ j, j < 6 → i * 6 + j < k * 6 ∨ k * 6 + 6 ≤ i * 6 + j := fun j hj => by omega
            rw [Nat.zero_add]
            exact ⟨(a2 _ (far 0 (by omega))).trans b0, (a2 _ (far 1 (by omega))).trans b1, (a2 _ (far 2 (by omega))).trans b2, (a2 _ (far 3 (by omega))).trans b3, (a2 _ (far 4 (by omega))).trans b4, (a2 _ (far 5 (by omega))).trans b5⟩
          · have hsep : hf (i + 1) ≤ hf k ∨ hf (k + 1) ≤ hf i := by
              rcases Nat.lt_or_ge i k with hlt | hge
              · exact .inl (up_to hmono k (by omega) (i + 1) (by omega))
              · exact .inr (up_to hmono i (by omega) (k + 1) (by omega))
            exact ((hin i u hu).tv.keep fun m hm => a1 m (.inr ⟨by omega, by omega⟩) (fun hh => by omega) (by omega)).wide fun m hm => ⟨by omega, by omega⟩
      · intro hkn'
        obtain ⟨kg, kcs, e1, e2, e3, e4, e5, e6⟩ := hkey hkn'
        refine ⟨kg, 0, e1, ⟨by omega, by omega⟩, fun i s hs => ?_⟩
        have hb1 : W.heap[kg]? = w.heap[kg]? := a1 kg (.inr ⟨by omega, by omega⟩) (fun hh => by omega) (by omega)
        have : Blk W kg 9 kcs := hb1.trans e4
        rw [Nat.zero_add, this.cell]
        exact e6 i s hs
end Go.Proofs.YthkpeomdklcnmaaGreatDoor
