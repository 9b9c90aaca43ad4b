/- The tokens of a text, one behind the other: plain mathematics. -/
import Derived.Test.YtnenipgpncomeaaGreatDoorTokAll
namespace Go.Proofs.YtnenipgpncomeaaGreatDoor.Tk
open Pl

/-- l are the tokens from i on -/
def Chn (s : ByteArray) : Nat → List Tok → Prop
  | _, [] => False
  | i, t :: m => next s i = .tok t ∧ ((t.kind = 0 ∧ m = []) ∨ (t.kind ≠ 0 ∧ Chn s t.fin m))
theorem allF_ch {s : ByteArray} : ∀ n i acc l, allF s n i acc = .toks l → ∃ m, l = acc ++ m ∧ Chn s i m := by
  intro n
  induction n with
  | zero => intro i acc l h; unfold allF at h; cases h
  | succ n ih =>
    intro i acc l h
    unfold allF at h
    split at h
    · rename_i t ht
      split at h
      · rename_i hk
        injection h with h
        exact ⟨[t], h.symm, ht, .inl ⟨hk, rfl⟩⟩
      · rename_i hk
        obtain ⟨m, e, hm⟩ := ih _ _ _ h
        exact ⟨t :: m, by rw [e]; simp, ht, .inr ⟨hk, hm⟩⟩
    · cases h
theorem all_ch {s : ByteArray} {l : List Tok} (h : all s 0 [] = .toks l) : Chn s 0 l := by
  obtain ⟨m, e, hm⟩ := allF_ch _ _ _ _ h
  rw [List.nil_append] at e
  rw [e]; exact hm
theorem ch_len {s : ByteArray} : ∀ (l : List Tok) (i : Nat), i ≤ s.size → Chn s i l → 0 < l.length ∧ l.length ≤ s.size + 1 - i := by
  intro l
  induction l with
  | nil => intro i _ h; exact h.elim
  | cons t m ih =>
    intro i hi h
    obtain ⟨h1, h2⟩ := h
    obtain ⟨-, a, b, c, -, e⟩ := next_tok hi h1
    refine ⟨Nat.succ_pos _, ?_⟩
    rw [List.length_cons]
    rcases h2 with ⟨_, rfl⟩ | ⟨hk, hm⟩
    · simp; omega
    · have := (ih _ c hm).2
      have := e hk
      omega
/-- the chain at its k-th token -/
theorem ch_at {s : ByteArray} : ∀ (l : List Tok) (i k : Nat), i ≤ s.size → k < l.length → Chn s i l → ∃ j t, l[k]? = some t ∧ (k = 0 → j = i) ∧ j ≤ s.size ∧ next s j = .tok t ∧ (k + 1 < l.length → t.kind ≠ 0) ∧ (k + 1 = l.length → t.kind = 0) ∧ (0 < k → ∃ u, l[k - 1]? = some u ∧ j = u.fin) := by
  intro l
  induction l with
  | nil => intro i k _ h; simp at h
  | cons t m ih =>
    intro i k hi hk h
    obtain ⟨h1, h2⟩ := h
    cases k with
    | zero =>
      refine ⟨i, t, rfl, fun _ => rfl, hi, h1, ?_, ?_, fun h => absurd h (by omega)⟩
      · intro hm
        rcases h2 with ⟨_, rfl⟩ | ⟨hk, _⟩
        · simp at hm
        · exact hk
      · intro hm
        rcases h2 with ⟨hk, _⟩ | ⟨_, hc⟩
        · exact hk
        · have := (ch_len m _ (next_tok hi h1).2.2.2.1 hc).1
          rw [List.length_cons] at hm; omega
    | succ k =>
      rcases h2 with ⟨_, rfl⟩ | ⟨hk0, hc⟩
      · simp at hk
      · have hf := (next_tok hi h1).2.2.2.1
        obtain ⟨j, u, e1, e2, e3, e4, e5, e6, e7⟩ := ih t.fin k hf (by simpa using hk) hc
        refine ⟨j, u, by simpa using e1, fun h => by omega, e3, e4, fun h => e5 (by simpa using h), fun h => e6 (by simpa using h), fun _ => ?_⟩
        cases k with
        | zero => exact ⟨t, rfl, e2 rfl⟩
        | succ k =>
          obtain ⟨v, h8, h9⟩ := e7 (by omega)
          exact ⟨v, by simpa using h8, h9⟩
end Go.Proofs.YtnenipgpncomeaaGreatDoor.Tk
