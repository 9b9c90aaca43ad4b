/- All tokens of a text: plain mathematics. -/
import Derived.Test.YtnenipgpncomeaaDoorTokNum
namespace Go.Proofs.YtnenipgpncomeaaDoor.Tk
open Pl

theorem strF_pts {s : ByteArray} : ∀ n p acc l e, p ≤ s.size → strF s n p acc = .pts l e → p < e ∧ e ≤ s.size ∧ ((∀ x ∈ acc, pt x = true) → ∀ x ∈ l, pt x = true) := by
  intro n
  induction n with
  | zero => intro p acc l e _ h; unfold strF at h; cases h
  | succ n ih =>
    intro p acc l e hp h
    unfold strF at h
    split at h
    · rename_i h34
      injection h with h1 h2
      subst h1 h2
      have := lt_of_bt (s := s) (i := p) (by omega)
      exact ⟨by omega, by omega, fun h => h⟩
    · split at h
      · rename_i m e' hc
        obtain ⟨h1, h2, h3⟩ := chAt_pt hc
        obtain ⟨a, b, c⟩ := ih _ _ _ _ h3 h
        refine ⟨by omega, b, fun hq => c fun x hx => ?_⟩
        rcases List.mem_append.1 hx with hx | hx
        · exact hq x hx
        · obtain rfl := List.mem_singleton.1 hx; exact h1
      · cases h
/-- where a token stands -/
theorem ansAt_tok {s : ByteArray} {a : Nat} {t : Tok} (ha : a ≤ s.size) (h : ansAt s a = .tok t) : t.at_ = a ∧ a ≤ t.fin ∧ t.fin ≤ s.size ∧ (t.kind = 0 → a = s.size ∧ t.fin = s.size ∧ t.text = nix ∧ t.num = 0) ∧ (t.kind ≠ 0 → a < t.fin) := by
  unfold ansAt at h
  split at h
  · injection h with h; subst h
    exact ⟨rfl, Nat.le_refl _, ha, fun _ => ⟨by omega, by show a = s.size; omega, rfl, rfl⟩, fun h => absurd rfl h⟩
  · rename_i hl
    split at h
    · injection h with h; subst h
      exact ⟨rfl, Nat.le_succ _, by show a + 1 ≤ s.size; omega, (fun h => absurd (show (1 : Int) = 0 from h) (by decide)), fun _ => Nat.lt_succ_self a⟩
    · split at h
      · unfold strAns at h
        split at h
        · rename_i l e hs
          injection h with h; subst h
          obtain ⟨h1, h2, _⟩ := strF_pts _ _ _ _ _ (by omega) hs
          exact ⟨rfl, by show a ≤ e; omega, h2, (fun h => absurd (show (2 : Int) = 0 from h) (by decide)), fun _ => by show a < e; omega⟩
        · cases h
      · split at h
        · unfold numAns at h
          split at h
          · cases h
          · rename_i hb
            obtain ⟨_, h2, h3⟩ := num_form (s := s) (a := a) (by simpa using hb)
            split at h
            · cases h
            · split at h
              · cases h
              · split at h
                · cases h
                · split at h
                  · injection h with h; subst h
                    exact ⟨rfl, Nat.le_of_lt h3, h2, (fun h => absurd (show (3 : Int) = 0 from h) (by decide)), fun _ => h3⟩
                  · cases h
        · split at h
          · rename_i hw
            unfold wordAns at h
            split at h
            · rename_i he
              injection h with h; subst h
              have h5 : a + (wordOf (bt s a)).length ≤ s.size := by
                rw [← he]
                refine wordE_size _ _ ?_ ha
                intro c hc
                rcases hw with hw | hw | hw <;> rw [hw] at hc <;> simp [wordOf] at hc <;> omega
              have h6 : 0 < (wordOf (bt s a)).length := by rcases hw with hw | hw | hw <;> rw [hw] <;> decide
              refine ⟨rfl, Nat.le_add_right _ _, h5, (fun h => ?_), (fun _ => by show a < a + _; omega)⟩
              have : kindOf (bt s a) = 0 := h
              rcases hw with hw | hw | hw <;> rw [hw] at this <;> cases this
            · cases h
          · cases h
theorem next_tok {s : ByteArray} {i : Nat} {t : Tok} (hi : i ≤ s.size) (h : next s i = .tok t) : t.at_ = span isBl s i ∧ i ≤ t.at_ ∧ t.at_ ≤ t.fin ∧ t.fin ≤ s.size ∧ (t.kind = 0 → t.at_ = s.size ∧ t.fin = s.size ∧ t.text = nix ∧ t.num = 0) ∧ (t.kind ≠ 0 → i < t.fin) := by
  have h1 := span_le isBl hi
  have h2 := span_ge isBl s i
  obtain ⟨a, b, c, d, e⟩ := ansAt_tok h1 h
  refine ⟨a, by omega, by omega, c, fun hk => ⟨by have := (d hk).1; omega, (d hk).2⟩, fun hk => by have := e hk; omega⟩
/-- all tokens, or the first error -/
inductive Al where
  | toks (l : List Tok)
  | bad (p : Nat) (c : Int)
def allF (s : ByteArray) : Nat → Nat → List Tok → Al
  | 0, _, _ => .bad 0 1
  | n + 1, i, acc => match next s i with
    | .tok t => if t.kind = 0 then .toks (acc ++ [t]) else allF s n t.fin (acc ++ [t])
    | .err p c => .bad p c
def all (s : ByteArray) (i : Nat) (acc : List Tok) : Al := allF s (s.size + 1 - i) i acc
theorem allF_same (s : ByteArray) : ∀ n m i acc, s.size + 1 - i ≤ n → s.size + 1 - i ≤ m → i ≤ s.size → allF s n i acc = allF s m i acc := by
  intro n
  induction n with
  | zero => intro m i acc h1 h2 h3; omega
  | succ n ih =>
    intro m i acc h1 h2 h3
    obtain ⟨m, rfl⟩ : ∃ k, m = k + 1 := ⟨m - 1, by omega⟩
    unfold allF
    split
    · rename_i t ht
      obtain ⟨_, h4, h5, h6, _, h7⟩ := next_tok h3 ht
      split
      · rfl
      · rename_i hk
        have := h7 hk
        exact ih m _ _ (by omega) (by omega) h6
    · rfl
theorem all_end {s : ByteArray} {i : Nat} {acc : List Tok} {t : Tok} (hi : i ≤ s.size) (h : next s i = .tok t) (hk : t.kind = 0) : all s i acc = .toks (acc ++ [t]) := by
  unfold all
  obtain ⟨n, hn⟩ : ∃ n, s.size + 1 - i = n + 1 := ⟨s.size - i, by omega⟩
  rw [hn]; simp [allF, h, hk]
theorem all_more {s : ByteArray} {i : Nat} {acc : List Tok} {t : Tok} (hi : i ≤ s.size) (h : next s i = .tok t) (hk : t.kind ≠ 0) : all s i acc = all s t.fin (acc ++ [t]) := by
  obtain ⟨_, h4, h5, h6, _, h7⟩ := next_tok hi h
  have := h7 hk
  have e1 : all s i acc = allF s (s.size + 1 - i) i acc := rfl
  obtain ⟨n, hn⟩ : ∃ n, s.size + 1 - i = n + 1 := ⟨s.size - i, by omega⟩
  rw [e1, hn]
  unfold allF
  rw [h]
  show (if t.kind = 0 then _ else _) = _
  rw [if_neg hk]
  exact allF_same s n _ _ _ (by omega) (Nat.le_refl _) h6
theorem all_bad {s : ByteArray} {i : Nat} {acc : List Tok} {p : Nat} {c : Int} (hi : i ≤ s.size) (h : next s i = .err p c) : all s i acc = .bad p c := by
  unfold all
  obtain ⟨n, hn⟩ : ∃ n, s.size + 1 - i = n + 1 := ⟨s.size - i, by omega⟩
  rw [hn]; simp [allF, h]
end Go.Proofs.YtnenipgpncomeaaDoor.Tk
