/- What is read lies no deeper than there was room: plain mathematics. -/
import Derived.Test.YtaeimlfehlbiiaaGreatDoorMT
import Derived.Test.YtaeimlfehlbiiaaGreatDoorOZ
import Derived.Outline
namespace Go.Proofs.YtaeimlfehlbiiaaGreatDoor.Rd
open Tk Pl
set_option linter.unusedVariables false
theorem depths_le {r : Nat} : ∀ {l : List T}, (∀ x ∈ l, x.depth ≤ r) → T.depths l ≤ r
 | [], _ => by simp [T.depths]
 | x :: l, h => by
  have h1 := h x (List.mem_cons_self)
  have h2 := depths_le (l := l) fun y hy => h y (List.mem_cons_of_mem _ hy)
  simp only [T.depths]; omega
theorem deep_box {v : T} {r : Nat} (h : ∀ x ∈ v.items, x.depth ≤ r) : v.depth ≤ r + 1 := by
 cases v with
 | mk k tr nn s l ks =>
  have hl := depths_le (l := l) h
  unfold T.depth
  split <;> omega
theorem deep_ob {m : List (ByteArray × T)} {r : Nat} (hn : (m.map Prod.fst).Nodup) (h : ∀ x ∈ m, x.2.depth ≤ r) : (Ob m).depth ≤ r + 1 := deep_box fun x hx => by
 obtain ⟨y, hy, rfl⟩ := List.mem_map.1 ((Ob_items hn).mem_iff.1 hx)
 exact h y hy
theorem leaf0 {v : T} (h4 : v.kind ≠ 4) (h5 : v.kind ≠ 5) : v.depth = 0 := by
 cases v with
 | mk k tr nn s l ks =>
  have h4' : k ≠ 4 := h4
  have h5' : k ≠ 5 := h5
  unfold T.depth
  simp [h4', h5']
theorem from_deep (s : ByteArray) : ∀ n, (∀ room t v e, fromF Ob s n room t = .val v e → v.depth ≤ room) ∧ (∀ room t acc v e, (∀ x ∈ acc, x.depth ≤ room) → itemsF Ob s n room t acc = .val v e → v.depth ≤ room + 1) ∧ (∀ room t acc v e, (acc.map Prod.fst).Nodup → (∀ x ∈ acc, x.2.depth ≤ room) → membsF Ob s n room t acc = .val v e → v.depth ≤ room + 1) := by
 intro n
 induction n with
 | zero => exact ⟨fun _ _ _ _ h => (by rw [fromF] at h; cases h), fun _ _ _ _ _ _ h => (by rw [itemsF] at h; cases h), fun _ _ _ _ _ _ _ h => (by rw [membsF] at h; cases h)⟩
 | succ n ih =>
  obtain ⟨ih1, ih2, ih3⟩ := ih
  refine ⟨fun room t v e h => ?_, fun room t acc v e ha h => ?_, fun room t acc v e hnd ha h => ?_⟩
  ·
   rw [fromF] at h
   split at h
   · injection h with h1 h2; subst h1; rw [leaf0 (by decide) (by decide)]; exact Nat.zero_le _
   split at h
   · injection h with h1 h2; subst h1; rw [leaf0 (v := truT (t.kind == 4)) (show (1 : Int) ≠ 4 by decide) (show (1 : Int) ≠ 5 by decide)]; exact Nat.zero_le _
   split at h
   · injection h with h1 h2; subst h1; rw [leaf0 (v := numT t.num) (show (2 : Int) ≠ 4 by decide) (show (2 : Int) ≠ 5 by decide)]; exact Nat.zero_le _
   split at h
   · injection h with h1 h2; subst h1; rw [leaf0 (v := strT t.text) (show (3 : Int) ≠ 4 by decide) (show (3 : Int) ≠ 5 by decide)]; exact Nat.zero_le _
   split at h
   · cases h
   split at h
   · cases h
   rename_i hr0
   obtain ⟨r, rfl⟩ : ∃ r, room = r + 1 := ⟨room - 1, by omega⟩
   split at h
   · cases h
   split at h
   ·
    split at h
    · injection h with h1 h2; subst h1; exact deep_box (by intro x hx; cases hx)
    · exact ih2 _ _ _ _ _ (by simp) h
   ·
    split at h
    · injection h with h1 h2; subst h1; exact deep_ob (by simp) (by simp)
    · exact ih3 _ _ _ _ _ (by simp) (by simp) h
  ·
   rw [itemsF] at h
   split at h
   · cases h
   · cases h
   rename_i x a hx
   have g1 := ih1 _ _ _ _ hx
   have ha2 : ∀ y ∈ acc ++ [x], y.depth ≤ room := fun y hy => by
    rcases List.mem_append.1 hy with hy | hy
    · exact ha y hy
    · obtain rfl := List.mem_singleton.1 hy; exact g1
   split at h
   · cases h
   split at h
   · injection h with h1 h2; subst h1; exact deep_box ha2
   split at h
   · cases h
   split at h
   · cases h
   exact ih2 _ _ _ _ _ ha2 h
  ·
   rw [membsF] at h
   split at h
   · cases h
   split at h
   · cases h
   rename_i hno
   have hnd2 : ∀ x : T, ((acc ++ [(t.text, x)]).map Prod.fst).Nodup := fun x => by
    rw [List.map_append, List.nodup_append]
    refine ⟨hnd, by simp, fun a ha b hb => ?_⟩
    have : b = t.text := by simpa using hb
    subst this
    intro hab
    exact hno (hasK_iff.2 (hab ▸ ha))
   split at h
   · cases h
   split at h
   · cases h
   split at h
   · cases h
   split at h
   · cases h
   · cases h
   rename_i x a hx
   have g1 := ih1 _ _ _ _ hx
   have ha2 : ∀ y ∈ acc ++ [(t.text, x)], y.2.depth ≤ room := fun y hy => by
    rcases List.mem_append.1 hy with hy | hy
    · exact ha y hy
    · obtain rfl := List.mem_singleton.1 hy; exact g1
   split at h
   · cases h
   split at h
   · injection h with h1 h2; subst h1; exact deep_ob (hnd2 x) ha2
   split at h
   · cases h
   split at h
   · cases h
   exact ih3 _ _ _ _ _ (hnd2 x) ha2 h
theorem whole_deep {s : ByteArray} {room : Nat} {v : T} {p : Nat} (h : whole Ob s room = .val v p) : v.depth ≤ room := by
 unfold whole at h
 split at h
 · cases h
 split at h
 · cases h
 · cases h
 rename_i x e hx
 have g := (from_deep s _).1 _ _ _ _ hx
 split at h
 · cases h
 split at h
 · injection h with h1 h2; subst h1; exact g
 · cases h
end Go.Proofs.YtaeimlfehlbiiaaGreatDoor.Rd
