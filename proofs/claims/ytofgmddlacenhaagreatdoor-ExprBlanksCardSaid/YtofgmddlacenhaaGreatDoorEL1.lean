/- Two texts that are read alike, place by place: plain mathematics. More blanks where blanks stand: an expression's text is read alike: plain mathematics. -/
import Derived.Test.YtofgmddlacenhaaGreatDoorEA
set_option linter.unusedVariables false
set_option maxRecDepth 100000
set_option maxHeartbeats 8000000
open Go.Lib (hid)
namespace Go.Proofs.YtofgmddlacenhaaGreatDoor.Ex
open Tk
def Sign (t : ByteArray) : Prop := (∃ n, t ∈ sg n) ∨ t ∈ [notB, minusB, opnB, clsB, dotB, osqB, csqB, commaB]
structure Like (s s' : ByteArray) (R : Nat → Nat → Prop) : Prop where
 le : ∀ i i', R i i' → i ≤ s.size
 stands : ∀ i i' t, R i i' → Sign t → stands s' i' t = stands s i t
 past : ∀ i i' t, R i i' → Sign t → Ex.stands s i t = true → R (past s i t) (past s' i' t)
 dg : ∀ i i', R i i' → isDg (bt s' (bl s' i')) = isDg (bt s (bl s i))
 lt : ∀ i i', R i i' → isLt (bt s' (bl s' i')) = isLt (bt s (bl s i))
 quo : ∀ i i', R i i' → (bt s' (bl s' i') = 34 ↔ bt s (bl s i) = 34)
 num : ∀ i i' e p, R i i' → num s (bl s i) = .ok e p → ∃ p', num s' (bl s' i') = .ok e p' ∧ R p p'
 strs : ∀ i i' e p, R i i' → bt s (bl s i) = 34 → strs s (bl s i) = .ok e p → ∃ p', Ex.strs s' (bl s' i') = .ok e p' ∧ R p p'
 key : ∀ i i' x e p, R i i' → key s x i = .ok e p → ∃ p', Ex.key s' x i' = .ok e p' ∧ R p p'
 word : ∀ i i', R i i' → isLt (bt s (bl s i)) = true → wd s' i' = wd s i ∧ R (wE s (bl s i)) (wE s' (bl s' i'))
theorem up_ok' {o : ByteArray} {r : Res} {e : E} {p : Nat} (h : up o r = .ok e p) : ∃ e1, r = .ok e1 p ∧ e = .mk o nix Rd.nulT [e1] := by
 cases r with
 | ok x q => injection h with h1 h2; subst h2; exact ⟨x, rfl, h1.symm⟩
 | err q c => cases h
 | out => cases h
theorem like_all {s s' : ByteArray} {R : Nat → Nat → Prop} (h : Like s s' R) : ∀ f,
 (∀ n i i' e p, n ≤ 8 → R i i' → lev s f n i = .ok e p → ∀ g, f ≤ g → ∃ p', lev s' g n i' = .ok e p' ∧ R p p') ∧
 (∀ n x i i' e p, R i i' → chn s f n x i = .ok e p → ∀ g, f ≤ g → ∃ p', chn s' g n x i' = .ok e p' ∧ R p p') ∧
 (∀ x i i' e p, R i i' → prt s f x i = .ok e p → ∀ g, f ≤ g → ∃ p', prt s' g x i' = .ok e p' ∧ R p p') ∧
 (∀ w acc i i' e p, R i i' → cal s f w acc i = .ok e p → ∀ g, f ≤ g → ∃ p', cal s' g w acc i' = .ok e p' ∧ R p p') := by
 have sN : Sign notB := .inr (by simp)
 have sM : Sign minusB := .inr (by simp)
 have sO : Sign opnB := .inr (by simp)
 have sC : Sign clsB := .inr (by simp)
 have sD : Sign dotB := .inr (by simp)
 have sQ : Sign osqB := .inr (by simp)
 have sR : Sign csqB := .inr (by simp)
 have sK : Sign commaB := .inr (by simp)
 intro f
 induction f with
 | zero => exact ⟨fun n i i' e p _ _ k => (by rw [lev] at k; cases k), fun n x i i' e p _ k => (by rw [chn] at k; cases k), fun x i i' e p _ k => (by rw [prt] at k; cases k), fun w acc i i' e p _ k => (by rw [cal] at k; cases k)⟩
 | succ f ih =>
  obtain ⟨ih1, ih2, ih3, ih4⟩ := ih
  refine ⟨fun n i i' e p hn hi k g hg => ?_, fun n x i i' e p hi k g hg => ?_, fun x i i' e p hi k g hg => ?_, fun w acc i i' e p hi k g hg => ?_⟩
  ·
   obtain ⟨g, rfl⟩ : ∃ q, g = q + 1 := ⟨g - 1, by omega⟩
   have hg' : f ≤ g := by omega
   rw [lev] at k ⊢
   by_cases n2 : n = 2
   ·
    subst n2
    rw [if_pos rfl] at k ⊢
    rw [h.stands _ _ _ hi sN]
    by_cases h1 : stands s i notB = true
    ·
     rw [if_pos h1] at k ⊢
     obtain ⟨e1, k1, k2⟩ := up_ok' k
     obtain ⟨p', k3, k4⟩ := ih1 2 _ _ _ _ (by omega) (h.past _ _ _ hi sN h1) k1 g hg'
     exact ⟨p', by rw [k3, k2]; rfl, k4⟩
    ·
     rw [if_neg h1] at k ⊢
     exact ih1 3 _ _ _ _ (by omega) hi k g hg'
   rw [if_neg n2] at k ⊢
   by_cases n6 : n = 6
   ·
    subst n6
    rw [if_pos rfl] at k ⊢
    rw [h.stands _ _ _ hi sM]
    by_cases h1 : stands s i minusB = true
    ·
     rw [if_pos h1] at k ⊢
     obtain ⟨e1, k1, k2⟩ := up_ok' k
     obtain ⟨p', k3, k4⟩ := ih1 6 _ _ _ _ (by omega) (h.past _ _ _ hi sM h1) k1 g hg'
     exact ⟨p', by rw [k3, k2]; rfl, k4⟩
    ·
     rw [if_neg h1] at k ⊢
     exact ih1 7 _ _ _ _ (by omega) hi k g hg'
   rw [if_neg n6] at k ⊢
   by_cases n7 : n = 7
   ·
    subst n7
    rw [if_pos rfl] at k ⊢
    cases hx : lev s f 8 i with
    | err q c => rw [hx] at k; cases k
    | out => rw [hx] at k; cases k
    | ok y q =>
     rw [hx] at k
     obtain ⟨p', k3, k4⟩ := ih1 8 _ _ _ _ (by omega) hi hx g hg'
     rw [k3]
     exact ih3 _ _ _ _ _ k4 k g hg'
   rw [if_neg n7] at k ⊢
   by_cases n8 : n = 8
   ·
    subst n8
    rw [if_pos rfl] at k ⊢
    rw [h.dg _ _ hi, h.lt _ _ hi, h.stands _ _ _ hi sO]
    by_cases h1 : isDg (bt s (bl s i)) = true
    ·
     rw [if_pos h1] at k ⊢
     exact h.num _ _ _ _ hi k
    rw [if_neg h1] at k ⊢
    by_cases h2 : bt s (bl s i) = 34
    ·
     rw [if_pos h2] at k
     rw [if_pos ((h.quo _ _ hi).2 h2)]
     exact h.strs _ _ _ _ hi h2 k
    rw [if_neg h2] at k
    rw [if_neg (fun q => h2 ((h.quo _ _ hi).1 q))]
    by_cases h3 : isLt (bt s (bl s i)) = true
    ·
     obtain ⟨w1, w2⟩ := h.word _ _ hi h3
     rw [w1, h.stands _ _ _ w2 sO]
     rw [if_pos h3] at k ⊢
     by_cases h4 : isWord (wd s i) = true
     ·
      rw [if_pos h4] at k ⊢
      by_cases h5 : eqb (wd s i) trueB = true
      · rw [if_pos h5] at k ⊢; injection k with k1 k2; subst k1; subst k2; exact ⟨_, rfl, w2⟩
      rw [if_neg h5] at k ⊢
      by_cases h5 : eqb (wd s i) falseB = true
      · rw [if_pos h5] at k ⊢; injection k with k1 k2; subst k1; subst k2; exact ⟨_, rfl, w2⟩
      rw [if_neg h5] at k ⊢
      by_cases h5 : eqb (wd s i) nullB = true
      · rw [if_pos h5] at k ⊢; injection k with k1 k2; subst k1; subst k2; exact ⟨_, rfl, w2⟩
      rw [if_neg h5] at k ⊢
      by_cases h5 : eqb (wd s i) thisB = true
      · rw [if_pos h5] at k ⊢; injection k with k1 k2; subst k1; subst k2; exact ⟨_, rfl, w2⟩
      rw [if_neg h5] at k; cases k
     rw [if_neg h4] at k ⊢
     by_cases h5 : 0 < argsN (wd s i)
     ·
      rw [if_pos h5] at k ⊢
      by_cases h6 : stands s (wE s (bl s i)) opnB = true
      ·
       rw [if_pos h6] at k ⊢
       exact ih4 _ _ _ _ _ _ (h.past _ _ _ w2 sO h6) k g hg'
      · rw [if_neg h6] at k; cases k
     ·
      rw [if_neg h5] at k ⊢
      injection k with k1 k2; subst k1; subst k2; exact ⟨_, rfl, w2⟩
    rw [if_neg h3] at k ⊢
    by_cases h4 : stands s i opnB = true
    ·
     rw [if_pos h4] at k ⊢
     cases hx : lev s f 0 (past s i opnB) with
     | err q c => rw [hx] at k; cases k
     | out => rw [hx] at k; cases k
     | ok y q =>
      rw [hx] at k
      obtain ⟨p', k3, k4⟩ := ih1 0 _ _ _ _ (by omega) (h.past _ _ _ hi sO h4) hx g hg'
      rw [k3]
      dsimp only at k ⊢
      rw [h.stands _ _ _ k4 sC]
      by_cases h5 : stands s q clsB = true
      ·
       rw [if_pos h5] at k ⊢
       injection k with k1 k2; subst k1; subst k2
       exact ⟨_, rfl, h.past _ _ _ k4 sC h5⟩
      · rw [if_neg h5] at k; cases k
    · rw [if_neg h4] at k; cases k
   rw [if_neg n8] at k ⊢
   cases hx : lev s f (n + 1) i with
   | err q c => rw [hx] at k; cases k
   | out => rw [hx] at k; cases k
   | ok y q =>
    rw [hx] at k
    obtain ⟨p', k3, k4⟩ := ih1 (n + 1) _ _ _ _ (by omega) hi hx g hg'
    rw [k3]
    exact ih2 _ _ _ _ _ _ k4 k g hg'
  ·
   obtain ⟨g, rfl⟩ : ∃ q, g = q + 1 := ⟨g - 1, by omega⟩
   have hg' : f ≤ g := by omega
   rw [chn] at k ⊢
   have hbt : btw s' n i' = btw s n i := by
    unfold btw
    have key : ∀ l : List ByteArray, (∀ t ∈ l, Ex.stands s' i' t = Ex.stands s i t) → l.find? (Ex.stands s' i') = l.find? (Ex.stands s i) := by
     intro l
     induction l with
     | nil => intro _; rfl
     | cons x l ihl => intro hl; rw [List.find?_cons, List.find?_cons, hl x List.mem_cons_self, ihl (fun t ht => hl t (List.mem_cons_of_mem _ ht))]
    exact key _ fun t ht => h.stands _ _ _ hi (.inl ⟨n, ht⟩)
   rw [hbt]
   cases hb : btw s n i with
   | none =>
    rw [hb] at k
    dsimp only at k ⊢
    injection k with k1 k2; subst k1; subst k2; exact ⟨_, rfl, hi⟩
   | some o =>
    rw [hb] at k
    dsimp only at k ⊢
    obtain ⟨b1, b2⟩ := btw_some hb
    have hn8 := sg_lt b1
    cases hx : lev s f (n + 1) (past s i o) with
    | err q c => rw [hx] at k; cases k
    | out => rw [hx] at k; cases k
    | ok y q =>
     rw [hx] at k
     obtain ⟨p', k3, k4⟩ := ih1 (n + 1) _ _ _ _ (by omega) (h.past _ _ _ hi (.inl ⟨n, b1⟩) b2) hx g hg'
     rw [k3]
     dsimp only at k ⊢
     by_cases n3 : n = 3
     · rw [if_pos n3] at k ⊢; injection k with k1 k2; subst k1; subst k2; exact ⟨_, rfl, k4⟩
     ·
      rw [if_neg n3] at k ⊢
      exact ih2 _ _ _ _ _ _ k4 k g hg'
  ·
   obtain ⟨g, rfl⟩ : ∃ q, g = q + 1 := ⟨g - 1, by omega⟩
   have hg' : f ≤ g := by omega
   rw [prt] at k ⊢
   rw [h.stands _ _ _ hi sD, h.stands _ _ _ hi sQ]
   by_cases h1 : stands s i dotB = true
   ·
    rw [if_pos h1] at k ⊢
    cases hx : key s x (past s i dotB) with
    | err q c => rw [hx] at k; cases k
    | out => rw [hx] at k; cases k
    | ok y q =>
     rw [hx] at k
     obtain ⟨p', k3, k4⟩ := h.key _ _ _ _ _ (h.past _ _ _ hi sD h1) hx
     rw [k3]
     exact ih3 _ _ _ _ _ k4 k g hg'
   rw [if_neg h1] at k ⊢
   by_cases h2 : stands s i osqB = true
   ·
    rw [if_pos h2] at k ⊢
    cases hx : lev s f 0 (past s i osqB) with
    | err q c => rw [hx] at k; cases k
    | out => rw [hx] at k; cases k
    | ok y q =>
     rw [hx] at k
     obtain ⟨p', k3, k4⟩ := ih1 0 _ _ _ _ (by omega) (h.past _ _ _ hi sQ h2) hx g hg'
     rw [k3]
     dsimp only at k ⊢
     rw [h.stands _ _ _ k4 sR]
     by_cases h3 : stands s q csqB = true
     ·
      rw [if_pos h3] at k ⊢
      exact ih3 _ _ _ _ _ (h.past _ _ _ k4 sR h3) k g hg'
     · rw [if_neg h3] at k; cases k
   ·
    rw [if_neg h2] at k ⊢
    injection k with k1 k2; subst k1; subst k2; exact ⟨_, rfl, hi⟩
  ·
   obtain ⟨g, rfl⟩ : ∃ q, g = q + 1 := ⟨g - 1, by omega⟩
   have hg' : f ≤ g := by omega
   rw [cal] at k ⊢
   cases hx : lev s f 0 i with
   | err q c => rw [hx] at k; cases k
   | out => rw [hx] at k; cases k
   | ok y q =>
    rw [hx] at k
    obtain ⟨p', k3, k4⟩ := ih1 0 _ _ _ _ (by omega) hi hx g hg'
    rw [k3]
    dsimp only at k ⊢
    rw [h.stands _ _ _ k4 sC, h.stands _ _ _ k4 sK]
    by_cases h1 : stands s q clsB = true
    ·
     rw [if_pos h1] at k ⊢
     split at k
     · cases k
     ·
      rename_i h2
      rw [if_neg h2]
      injection k with k1 k2; subst k1; subst k2
      exact ⟨_, rfl, h.past _ _ _ k4 sC h1⟩
    ·
     rw [if_neg h1] at k ⊢
     by_cases h2 : stands s q commaB = true
     ·
      rw [if_pos h2] at k ⊢
      split at k
      ·
       rename_i h4
       rw [if_pos h4]
       exact ih4 _ _ _ _ _ _ (h.past _ _ _ k4 sK h2) k g hg'
      · cases k
     · rw [if_neg h2] at k; cases k
end Go.Proofs.YtofgmddlacenhaaGreatDoor.Ex
namespace Go.Proofs.YtofgmddlacenhaaGreatDoor.Ex
open Tk Pl
inductive Blow : Bool → List UInt8 → List UInt8 → Prop
 | nil {bs : List UInt8} (hb : ∀ c ∈ bs, isBl c.toNat = true) : Blow false [] bs
 | raw {c : UInt8} {g r r' : List UInt8} (hc : c ≠ 34) (hg : g = [] ∨ isBl c.toNat = true) (hb : ∀ x ∈ g, isBl x.toNat = true) (h : Blow false r r') : Blow false (c :: r) (c :: (g ++ r'))
 | opn {r r' : List UInt8} (h : Blow true r r') : Blow false (34 :: r) (34 :: r')
 | cls {r r' : List UInt8} (h : Blow false r r') : Blow true (34 :: r) (34 :: r')
 | esc {c : UInt8} {r r' : List UInt8} (h : Blow true r r') : Blow true (92 :: c :: r) (92 :: c :: r')
 | inn {c : UInt8} {r r' : List UInt8} (h1 : c ≠ 34) (h2 : c ≠ 92) (h : Blow true r r') : Blow true (c :: r) (c :: r')
theorem dropc {s : ByteArray} {i : Nat} {c : UInt8} {r : List UInt8} (h : s.data.toList.drop i = c :: r) : i < s.size ∧ bt s i = c.toNat ∧ r = s.data.toList.drop (i + 1) := by
 have hi : i < s.size := by
  rcases Nat.lt_or_ge i s.size with h1 | h1
  · exact h1
  · rw [List.drop_of_length_le (by rw [size_toList]; exact h1)] at h; cases h
 have h2 := drop_cons hi
 rw [h] at h2
 injection h2 with h3 h4
 exact ⟨hi, by rw [← bt_at s i hi, h3], h4⟩
theorem drop_nil {s : ByteArray} {i : Nat} (hi : i ≤ s.size) (h : s.data.toList.drop i = []) : i = s.size := by
 have := congrArg List.length h
 rw [List.length_drop, size_toList] at this
 simp at this
 omega
theorem bl_skip {s : ByteArray} : ∀ (bs : List UInt8) (i : Nat) (L : List UInt8), (∀ c ∈ bs, isBl c.toNat = true) → s.data.toList.drop i = bs ++ L → bl s i = bl s (i + bs.length) ∧ s.data.toList.drop (i + bs.length) = L
 | [], i, L, _, h => ⟨rfl, h⟩
 | c :: bs, i, L, hb, h => by
  obtain ⟨h1, h2, h3⟩ := dropc h
  obtain ⟨k1, k2⟩ := bl_skip bs (i + 1) L (fun x hx => hb x (List.mem_cons_of_mem _ hx)) h3.symm
  have e : i + (c :: bs).length = i + 1 + bs.length := by rw [List.length_cons]; omega
  rw [e]
  refine ⟨?_, k2⟩
  rw [← k1]
  exact span_yes h1 (by rw [h2]; exact hb c List.mem_cons_self)
def At (s s' : ByteArray) (i i' : Nat) : Prop := i ≤ s.size ∧ i' ≤ s'.size ∧ Blow false (s.data.toList.drop i) (s'.data.toList.drop i')
def Cor (s s' : ByteArray) (i i' : Nat) : Prop := i ≤ s.size ∧ i' ≤ s'.size ∧ ∃ bs L', (∀ c ∈ bs, isBl c.toNat = true) ∧ s'.data.toList.drop i' = bs ++ L' ∧ Blow false (s.data.toList.drop i) L'
theorem At.cor {s s' : ByteArray} {i i' : Nat} (h : At s s' i i') : Cor s s' i i' := ⟨h.1, h.2.1, [], _, fun c hc => absurd hc (by simp), rfl, h.2.2⟩
theorem Cor.bl {s s' : ByteArray} : ∀ n i i', s.size - i = n → Cor s s' i i' → At s s' (bl s i) (bl s' i') ∧ bt s' (Ex.bl s' i') = bt s (Ex.bl s i) := by
 intro n
 induction n with
 | zero =>
  intro i i' hn h
  obtain ⟨h1, h2, bs, L', hb, hd, hw⟩ := h
  obtain rfl : i = s.size := by omega
  obtain ⟨k1, k2⟩ := bl_skip bs i' L' hb hd
  have e1 : Ex.bl s s.size = s.size := span_end (Nat.le_refl _)
  have e0 : s.data.toList.drop s.size = [] := List.drop_of_length_le (by rw [size_toList]; exact Nat.le_refl _)
  rw [e0] at hw
  cases hw with
  | nil hb' =>
   obtain ⟨k3, k4⟩ := bl_skip L' (i' + bs.length) [] hb' (by rw [k2, List.append_nil])
   have hle : i' + bs.length + L'.length = s'.size := by
    have := congrArg List.length hd
    rw [List.length_drop, size_toList, List.length_append] at this
    omega
   have e2 : Ex.bl s' i' = s'.size := by rw [k1, k3, hle]; exact span_end (Nat.le_refl _)
   rw [e1, e2]
   refine ⟨⟨Nat.le_refl _, Nat.le_refl _, ?_⟩, by rw [bt_end (Nat.le_refl _), bt_end (Nat.le_refl _)]⟩
   rw [e0, List.drop_of_length_le (by rw [size_toList]; exact Nat.le_refl _)]
   exact .nil (fun c hc => absurd hc (by simp))
 | succ n ih =>
  intro i i' hn h
  obtain ⟨h1, h2, bs, L', hb, hd, hw⟩ := h
  obtain ⟨k1, k2⟩ := bl_skip bs i' L' hb hd
  rw [k1]
  have hi : i < s.size := by omega
  have hdi := drop_cons hi
  rw [hdi] at hw
  have hbt := bt_at s i hi
  have hj : i' + bs.length ≤ s'.size := by
   have := congrArg List.length hd
   rw [List.length_drop, size_toList, List.length_append] at this
   omega
  generalize i' + bs.length = j at *
  generalize hc : s[i] = c at *
  cases hw with
  | raw hq hg hgb hr =>
   rename_i g r'
   obtain ⟨j1, j2, j3⟩ := dropc k2
   cases hcb : isBl c.toNat with
   | true =>
    have e1 : Ex.bl s i = Ex.bl s (i + 1) := span_yes hi (by rw [← hbt]; exact hcb)
    have e2 : Ex.bl s' j = Ex.bl s' (j + 1) := span_yes j1 (by rw [j2]; exact hcb)
    rw [e1, e2]
    exact ih (i + 1) (j + 1) (by omega) ⟨by omega, by omega, g, r', hgb, j3.symm, hr⟩
   | false =>
    have e1 : Ex.bl s i = i := span_no (by rw [← hbt]; exact hcb)
    have e2 : Ex.bl s' j = j := span_no (by rw [j2]; exact hcb)
    rw [e1, e2]
    refine ⟨⟨by omega, hj, ?_⟩, by rw [j2, ← hbt]⟩
    rw [hdi, k2]
    exact .raw hq hg hgb hr
  | opn hr =>
   rename_i r'
   obtain ⟨j1, j2, j3⟩ := dropc k2
   have e1 : Ex.bl s i = i := span_no (by rw [← hbt]; decide)
   have e2 : Ex.bl s' j = j := span_no (by rw [j2]; decide)
   rw [e1, e2]
   refine ⟨⟨by omega, hj, ?_⟩, by rw [j2, ← hbt]⟩
   rw [hdi, k2]
   exact .opn hr
theorem Cor.at_ {s s' : ByteArray} {i i' : Nat} (h : Cor s s' i i') : At s s' (Ex.bl s i) (Ex.bl s' i') ∧ bt s' (Ex.bl s' i') = bt s (Ex.bl s i) := Cor.bl _ i i' rfl h
theorem At.told {α : Type} {s s' : ByteArray} {i i' : Nat} (h : At s s' i i') (P : Nat → α) (hp : ∀ c, isBl c = true → P c = P 0) : P (bt s' i') = P (bt s i) := by
 obtain ⟨h1, h2, hw⟩ := h
 generalize hL : s.data.toList.drop i = L at hw
 generalize hL' : s'.data.toList.drop i' = L' at hw
 cases hw with
 | nil hb =>
  obtain rfl := drop_nil h1 hL
  rw [bt_end (Nat.le_refl s.size)]
  cases L' with
  | nil => rw [drop_nil h2 hL', bt_end (Nat.le_refl _)]
  | cons c r => rw [(dropc hL').2.1]; exact hp _ (hb c List.mem_cons_self)
 | raw hq hg hgb hr => rw [(dropc hL).2.1, (dropc hL').2.1]
 | opn hr => rw [(dropc hL).2.1, (dropc hL').2.1]
theorem At.span {s s' : ByteArray} {P : Nat → Bool} (hP : ∀ c, P c = true → isBl c = false ∧ c ≠ 34) (h0 : P 0 = false) : ∀ n i i', s.size - i = n → At s s' i i' →
 ∃ k, Tk.span P s i = i + k ∧ Tk.span P s' i' = i' + k ∧ At s s' (i + k) (i' + k) ∧ (s.data.toList.drop i).take k = (s'.data.toList.drop i').take k := by
 have hpb : ∀ c, isBl c = true → P c = P 0 := fun c hc => by
  rw [h0]
  cases hx : P c with
  | false => rfl
  | true => rw [(hP c hx).1] at hc; cases hc
 intro n
 induction n with
 | zero =>
  intro i i' hn h
  have ht := h.told P hpb
  obtain ⟨h1, h2, hw⟩ := h
  obtain rfl : i = s.size := by omega
  rw [bt_end (Nat.le_refl s.size), h0] at ht
  exact ⟨0, span_end (Nat.le_refl _), span_no ht, ⟨h1, h2, hw⟩, rfl⟩
 | succ n ih =>
  intro i i' hn h
  have ht := h.told P hpb
  cases hx : P (bt s i) with
  | false =>
   rw [hx] at ht
   exact ⟨0, span_no hx, span_no ht, h, rfl⟩
  | true =>
   rw [hx] at ht
   obtain ⟨h1, h2, hw⟩ := h
   have hi : i < s.size := by omega
   have hdi := drop_cons hi
   have hbt := bt_at s i hi
   generalize hL' : s'.data.toList.drop i' = L' at hw
   rw [hdi] at hw
   generalize hc : s[i] = c at *
   rw [← hbt] at hx
   obtain ⟨p1, p2⟩ := hP _ hx
   cases hw with
   | raw hq hg hgb hr =>
    rename_i g r'
    rcases hg with rfl | hg
    ·
     obtain ⟨j1, j2, j3⟩ := dropc hL'
     rw [List.nil_append] at hL' j3
     obtain ⟨k, k1, k2, k3, k4⟩ := ih (i + 1) (i' + 1) (by omega) ⟨by omega, by omega, by rw [← j3]; exact hr⟩
     refine ⟨k + 1, ?_, ?_, ?_, ?_⟩
     · rw [span_yes hi (by rw [← hbt]; exact hx), k1]; omega
     · rw [span_yes j1 (by rw [j2]; exact hx), k2]; omega
     · rw [show i + (k + 1) = i + 1 + k by omega, show i' + (k + 1) = i' + 1 + k by omega]; exact k3
     · rw [hdi, List.nil_append, List.take_succ_cons, List.take_succ_cons, k4, ← j3]
    · rw [p1] at hg; cases hg
   | opn hr => exact absurd rfl p2
theorem At.sub {s s' : ByteArray} {i i' k : Nat} (h : (s.data.toList.drop i).take k = (s'.data.toList.drop i').take k) : Tk.sub s' i' (i' + k) = Tk.sub s i (i + k) := by
 refine ba_ext ?_
 rw [sub_list, sub_list, Nat.add_sub_cancel_left, Nat.add_sub_cancel_left, h]
def Plain (l : List UInt8) : Prop := ∀ c ∈ l, isBl c.toNat = false ∧ c ≠ 34
theorem blow_pre : ∀ (t L L' : List UInt8), Plain t → Blow false L L' → t.isPrefixOf L' = t.isPrefixOf L ∧ (t.isPrefixOf L = true → Blow false (L.drop t.length) (L'.drop t.length))
 | [], L, L', _, h => ⟨rfl, fun _ => h⟩
 | c :: t, L, L', hp, h => by
  obtain ⟨c1, c2⟩ := hp c List.mem_cons_self
  have hp' : Plain t := fun x hx => hp x (List.mem_cons_of_mem _ hx)
  cases h with
  | nil hb =>
   refine ⟨?_, fun k => by simp [List.isPrefixOf] at k⟩
   cases L' with
   | nil => rfl
   | cons d r =>
    have hd := hb d List.mem_cons_self
    have : (c == d) = false := by
     rw [beq_eq_false_iff_ne]
     intro e
     rw [e] at c1; rw [c1] at hd; cases hd
    simp [List.isPrefixOf, this]
  | raw hq hg hgb hr =>
   rename_i d g r r'
   by_cases e : c = d
   ·
    subst e
    rcases hg with rfl | hg
    ·
     obtain ⟨k1, k2⟩ := blow_pre t r r' hp' hr
     rw [List.nil_append]
     refine ⟨by simp [List.isPrefixOf, k1], fun k => ?_⟩
     simp only [List.length_cons, List.drop_succ_cons]
     refine k2 ?_
     simpa [List.isPrefixOf] using k
    · rw [c1] at hg; cases hg
   ·
    have : (c == d) = false := beq_eq_false_iff_ne.2 e
    exact ⟨by simp [List.isPrefixOf, this], fun k => by simp [List.isPrefixOf, this] at k⟩
  | opn hr =>
   have : (c == 34) = false := beq_eq_false_iff_ne.2 c2
   exact ⟨by simp [List.isPrefixOf, this], fun k => by simp [List.isPrefixOf, this] at k⟩
theorem sign_plain {t : ByteArray} (h : Sign t) : Plain t.data.toList := by
 have key : ∀ t ∈ [orB, andB, eqB, neB, leB, geB, ltB, gtB, plusB, minusB, starB, slashB, remB, notB, minusB, opnB, clsB, dotB, osqB, csqB, commaB], Plain t.data.toList := by
  intro t ht
  simp only [List.mem_cons, List.not_mem_nil, or_false] at ht
  rcases ht with rfl | rfl | rfl | rfl | rfl | rfl | rfl | rfl | rfl | rfl | rfl | rfl | rfl | rfl | rfl | rfl | rfl | rfl | rfl | rfl | rfl <;> (unfold Plain; decide)
 rcases h with ⟨n, hn⟩ | h
 ·
  refine key t ?_
  unfold sg at hn
  split at hn
  all_goals simp only [List.mem_cons, List.not_mem_nil, or_false] at hn
  all_goals (try rcases hn with rfl | rfl | rfl | rfl | rfl | rfl)
  all_goals (try rcases hn with rfl | rfl | rfl)
  all_goals (try rcases hn with rfl | rfl)
  all_goals (try subst hn)
  all_goals first
   | simp
   | exact absurd hn (by simp)
 ·
  refine key t ?_
  simp only [List.mem_cons, List.not_mem_nil, or_false] at h ⊢
  rcases h with h | h | h | h | h | h | h | h <;> simp [h]
theorem goes_plain (c : Nat) (h : goes c = true) : isBl c = false ∧ c ≠ 34 := by
 unfold goes isIn at h
 simp only [Bool.or_eq_true, beq_iff_eq] at h
 constructor
 ·
  cases hb : isBl c with
  | false => rfl
  | true =>
   rw [isBl_iff] at hb
   rcases h with (h | h) | h
   · rw [isLt_iff] at h; omega
   · omega
   · rw [isDg_iff] at h; omega
 ·
  rintro rfl
  rcases h with (h | h) | h
  · rw [isLt_iff] at h; omega
  · omega
  · rw [isDg_iff] at h; omega
theorem dg_plain (c : Nat) (h : isDg c = true) : isBl c = false ∧ c ≠ 34 := goes_plain c (by unfold goes; rw [h, Bool.or_true])
theorem At.word {s s' : ByteArray} {i i' : Nat} (h : At s s' i i') (hl : isLt (bt s i) = true) (hl' : isLt (bt s' i') = true) : Tk.sub s' i' (wE s' i') = Tk.sub s i (wE s i) ∧ At s s' (wE s i) (wE s' i') := by
 obtain ⟨k, k1, k2, k3, k4⟩ := At.span goes_plain (by decide) _ i i' rfl h
 have e1 : wE s i = i + k := by unfold wE; rw [if_pos hl, k1]
 have e2 : wE s' i' = i' + k := by unfold wE; rw [if_pos hl', k2]
 rw [e1, e2]
 exact ⟨At.sub k4, k3⟩
theorem Cor.wd {s s' : ByteArray} {i i' : Nat} (h : Cor s s' i i') (hl : isLt (bt s (Ex.bl s i)) = true) : Ex.wd s' i' = Ex.wd s i ∧ At s s' (wE s (Ex.bl s i)) (wE s' (Ex.bl s' i')) := by
 obtain ⟨h1, h2⟩ := h.at_
 exact h1.word hl (by rw [h2]; exact hl)
theorem Cor.stands {s s' : ByteArray} {i i' : Nat} (h : Cor s s' i i') {t : ByteArray} (ht : Sign t) : Ex.stands s' i' t = Ex.stands s i t := by
 obtain ⟨h1, h2⟩ := h.at_
 unfold Ex.stands
 rw [h2]
 split
 · rename_i hl; rw [(h.wd hl).1]
 · exact (blow_pre _ _ _ (sign_plain ht) h1.2.2).1
theorem Cor.past {s s' : ByteArray} {i i' : Nat} (h : Cor s s' i i') {t : ByteArray} (ht : Sign t) (hs : Ex.stands s i t = true) : At s s' (Ex.past s i t) (Ex.past s' i' t) := by
 obtain ⟨h1, h2⟩ := h.at_
 have hs' : Ex.stands s' i' t = true := by rw [h.stands ht]; exact hs
 cases hl : isLt (bt s (Ex.bl s i)) with
 | true =>
  rw [(stands_word h.1 hl hs).2, (stands_word h.2.1 (by rw [h2]; exact hl) hs').2]
  exact (h.wd hl).2
 | false =>
  have hh : has s (Ex.bl s i) t = true := by
   unfold Ex.stands at hs
   rw [if_neg (by rw [hl]; decide)] at hs
   exact hs
  have hb := (blow_pre _ _ _ (sign_plain ht) h1.2.2).2 hh
  rw [List.drop_drop, List.drop_drop] at hb
  have q1 := (stands_le h.1 hs).2
  have q2 := (stands_le h.2.1 hs').2
  exact ⟨q1, q2, hb⟩
theorem At.num {s s' : ByteArray} {a a' : Nat} (h : At s s' a a') (hb : bt s' a' = bt s a) {e : E} {p : Nat} (hn : num s a = .ok e p) : ∃ p', Ex.num s' a' = .ok e p' ∧ At s s' p p' := by
 obtain ⟨k, k1, k2, k3, k4⟩ := At.span dg_plain (by decide) _ a a' rfl h
 unfold Ex.num at hn ⊢
 rw [k1] at hn
 rw [k2, hb, At.sub k4, k3.told goes (by intro c hc; cases hx : goes c with
  | false => rfl
  | true => rw [(goes_plain c hx).1] at hc; cases hc)]
 split at hn
 · cases hn
 ·
  rename_i h1
  rw [if_neg (by omega)]
  split at hn
  ·
   rename_i h4
   rw [if_pos h4]
   split at hn
   · cases hn
   ·
    rename_i h5
    rw [if_neg h5]
    injection hn with h6 h7
    subst h6; subst h7
    exact ⟨_, rfl, k3⟩
  · cases hn
end Go.Proofs.YtofgmddlacenhaaGreatDoor.Ex
