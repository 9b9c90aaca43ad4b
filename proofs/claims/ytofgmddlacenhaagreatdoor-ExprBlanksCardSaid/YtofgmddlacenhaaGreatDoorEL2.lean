/- More blanks where blanks stand: within a string the bytes stay as they are: plain mathematics. More blanks where blanks stand: strings: plain mathematics. More blanks where blanks stand: an expression's text is read alike: plain mathematics. -/
import Derived.Test.YtofgmddlacenhaaGreatDoorEL1
set_option linter.unusedVariables false
set_option maxRecDepth 100000
set_option maxHeartbeats 8000000
open Go.Lib (hid)
namespace Go.Proofs.YtofgmddlacenhaaGreatDoor.Ex
open Tk Pl
def Qt (s s' : ByteArray) (i i' : Nat) : Prop := i ≤ s.size ∧ i' ≤ s'.size ∧ Blow true (s.data.toList.drop i) (s'.data.toList.drop i')
theorem dropl {s : ByteArray} {i : Nat} (hi : i < s.size) : ∃ c, s.data.toList.drop i = c :: s.data.toList.drop (i + 1) ∧ bt s i = c.toNat := by
 have h := drop_cons hi
 obtain ⟨h1, h2, h3⟩ := dropc h
 exact ⟨_, h, h2⟩
theorem Qt.step {s s' : ByteArray} {i i' : Nat} (h : Qt s s' i i') (hi : i < s.size) (h1 : bt s i ≠ 34) (h2 : bt s i ≠ 92) : i' < s'.size ∧ bt s' i' = bt s i ∧ Qt s s' (i + 1) (i' + 1) := by
 obtain ⟨c, hc, hb⟩ := dropl hi
 obtain ⟨k1, k2, k3⟩ := h
 rw [hc] at k3
 generalize hL : s'.data.toList.drop i' = L at k3
 generalize hM : s.data.toList.drop (i + 1) = M at k3
 cases k3 with
 | cls h => exact absurd hb h1
 | esc h => exact absurd hb h2
 | inn h3 h4 h =>
  obtain ⟨m1, m2, m3⟩ := dropc hL
  refine ⟨m1, by rw [m2, hb], by omega, by omega, ?_⟩
  rw [hM, ← m3]; exact h
theorem Qt.stop {s s' : ByteArray} {i i' : Nat} (h : Qt s s' i i') (hi : i < s.size) (h1 : bt s i = 34) : i' < s'.size ∧ bt s' i' = 34 ∧ At s s' (i + 1) (i' + 1) := by
 obtain ⟨c, hc, hb⟩ := dropl hi
 obtain ⟨k1, k2, k3⟩ := h
 rw [hc] at k3
 have e : c = 34 := UInt8.toNat_inj.mp (by rw [← hb, h1]; rfl)
 subst e
 generalize hL : s'.data.toList.drop i' = L at k3
 generalize hM : s.data.toList.drop (i + 1) = M at k3
 cases k3 with
 | cls h =>
  obtain ⟨m1, m2, m3⟩ := dropc hL
  refine ⟨m1, by rw [m2]; rfl, by omega, by omega, ?_⟩
  rw [hM, ← m3]; exact h
 | inn h3 h4 h => exact absurd rfl h3
theorem Qt.slash {s s' : ByteArray} {i i' : Nat} (h : Qt s s' i i') (hi : i < s.size) (h1 : bt s i = 92) : i + 1 < s.size ∧ i' + 1 < s'.size ∧ bt s' i' = 92 ∧ bt s' (i' + 1) = bt s (i + 1) ∧ Qt s s' (i + 2) (i' + 2) := by
 obtain ⟨c, hc, hb⟩ := dropl hi
 obtain ⟨k1, k2, k3⟩ := h
 rw [hc] at k3
 have e : c = 92 := UInt8.toNat_inj.mp (by rw [← hb, h1]; rfl)
 subst e
 generalize hL : s'.data.toList.drop i' = L at k3
 generalize hM : s.data.toList.drop (i + 1) = M at k3
 cases k3 with
 | esc h =>
  obtain ⟨m1, m2, m3⟩ := dropc hL
  obtain ⟨n1, n2, n3⟩ := dropc hM
  obtain ⟨o1, o2, o3⟩ := dropc m3.symm
  refine ⟨n1, o1, by rw [m2]; rfl, by rw [o2, n2], by omega, by omega, ?_⟩
  rw [show i + 2 = i + 1 + 1 by omega, show i' + 2 = i' + 1 + 1 by omega, ← n3, ← o3]; exact h
 | inn h3 h4 h => exact absurd rfl h4
theorem Qt.go {s s' : ByteArray} : ∀ (n : Nat) {i i' : Nat}, Qt s s' i i' → (∀ j, j < n → i + j < s.size ∧ bt s (i + j) ≠ 34 ∧ bt s (i + j) ≠ 92) → (∀ j, j < n → i' + j < s'.size ∧ bt s' (i' + j) = bt s (i + j)) ∧ Qt s s' (i + n) (i' + n)
 | 0, i, i', h, _ => ⟨fun j hj => absurd hj (by omega), h⟩
 | n + 1, i, i', h, hj => by
  obtain ⟨a1, a2, a3⟩ := hj 0 (by omega)
  obtain ⟨k1, k2, k3⟩ := h.step a1 a2 a3
  obtain ⟨m1, m2⟩ := Qt.go n k3 (fun j h0 => by
   have := hj (j + 1) (by omega)
   rw [show i + 1 + j = i + (j + 1) by omega]; exact this)
  refine ⟨fun j h0 => ?_, by rw [show i + (n + 1) = i + 1 + n by omega, show i' + (n + 1) = i' + 1 + n by omega]; exact m2⟩
  rcases Nat.eq_zero_or_pos j with h1 | h1
  · subst h1; exact ⟨k1, k2⟩
  ·
   have := m1 (j - 1) (by omega)
   rw [show i' + 1 + (j - 1) = i' + j by omega, show i + 1 + (j - 1) = i + j by omega] at this
   exact this
end Go.Proofs.YtofgmddlacenhaaGreatDoor.Ex
namespace Go.Proofs.YtofgmddlacenhaaGreatDoor.Ex
open Tk Pl
theorem hex_ok {c : Nat} (h : 0 ≤ hexOf c) : c ≠ 34 ∧ c ≠ 92 := by
 refine ⟨?_, ?_⟩ <;> intro e <;> subst e <;> revert h <;> decide
theorem Qt.fourF {s s' : ByteArray} : ∀ k {i i' : Nat} n, Qt s s' i i' → 0 ≤ (Tk.fourF s k i n).1 → (Tk.fourF s k i n).2 = i + k ∧ Tk.fourF s' k i' n = ((Tk.fourF s k i n).1, i' + k) ∧ Qt s s' (i + k) (i' + k) := by
 intro k
 induction k with
 | zero => intro i i' n h _; exact ⟨rfl, rfl, h⟩
 | succ k ih =>
  intro i i' n h h0
  simp only [Tk.fourF] at h0 ⊢
  by_cases h1 : hexOf (Tk.bt s i) < 0
  · rw [if_pos h1] at h0; exact absurd (show (0 : Int) ≤ -1 from h0) (by decide)
  ·
   have hi : i < s.size := by
    rcases Nat.lt_or_ge i s.size with h2 | h2
    · exact h2
    · exact absurd (hexOf_end h2) (by omega)
   obtain ⟨a1, a2⟩ := hex_ok (c := bt s i) (by omega)
   obtain ⟨k1, k2, k3⟩ := h.step hi a1 a2
   rw [if_neg h1] at h0 ⊢
   rw [k2, if_neg h1]
   obtain ⟨m1, m2, m3⟩ := ih _ k3 h0
   rw [show i + (k + 1) = i + 1 + k by omega, show i' + (k + 1) = i' + 1 + k by omega]
   exact ⟨m1, m2, m3⟩
theorem low_ge {n : Int} (h : isLow n = true) : 0 ≤ n := by simp [isLow] at h; omega
theorem Qt.uni {s s' : ByteArray} {p p' : Nat} {n : Int} {e : Nat} (h : Qt s s' (p + 2) (p' + 2)) (hc : uniCh s p = .pt n e) : ∃ k, e = p + k ∧ uniCh s' p' = .pt n (p' + k) ∧ Qt s s' (p + k) (p' + k) := by
 unfold uniCh at hc ⊢
 unfold four at hc ⊢
 split at hc
 · cases hc
 ·
  rename_i h0
  obtain ⟨k1, k2, k3⟩ := h.fourF 4 0 (by omega)
  rw [k2, if_neg h0]
  split at hc
  ·
   rename_i h1
   rw [if_pos h1]
   injection hc with h2 h3
   subst h2; subst h3
   exact ⟨6, by omega, by rw [show p' + 2 + 4 = p' + 6 by omega], by rw [show p + 6 = p + 2 + 4 by omega, show p' + 6 = p' + 2 + 4 by omega]; exact k3⟩
  ·
   rename_i h1
   rw [if_neg h1]
   split at hc
   ·
    rename_i h2
    obtain ⟨a1, a2, a3, a4⟩ := h2
    have b6 : p + 6 < s.size := lt_of_bt (by rw [a2]; decide)
    rw [show p + 2 + 4 = p + 6 by omega, show p' + 2 + 4 = p' + 6 by omega] at k3
    obtain ⟨m1, m2, m3, m4, m5⟩ := k3.slash b6 a2
    rw [show p + 6 + 2 = p + 8 by omega, show p' + 6 + 2 = p' + 8 by omega] at m5
    rw [show p + 6 + 1 = p + 7 by omega, show p' + 6 + 1 = p' + 7 by omega] at m4
    obtain ⟨o1, o2, o3⟩ := m5.fourF 4 0 (low_ge a4)
    rw [o2, if_pos ⟨a1, m3, m4.trans a3, a4⟩]
    injection hc with h2 h3
    subst h2; subst h3
    exact ⟨12, rfl, rfl, by rw [show p + 12 = p + 8 + 4 by omega, show p' + 12 = p' + 8 + 4 by omega]; exact o3⟩
   · cases hc
theorem peel : ∀ (M : List UInt8) {X L' : List UInt8}, Blow true (M ++ X) L' → (∀ c ∈ M, c ≠ 34 ∧ c ≠ 92) → ∃ X', L' = M ++ X' ∧ Blow true X X'
 | [], X, L', h, _ => ⟨L', rfl, h⟩
 | c :: M, X, L', h, hc => by
  obtain ⟨h1, h2⟩ := hc c List.mem_cons_self
  rw [List.cons_append] at h
  generalize hY : M ++ X = Y at h
  cases h with
  | cls h => exact absurd rfl h1
  | esc h => exact absurd rfl h2
  | inn h3 h4 h =>
   subst hY
   obtain ⟨X', e, hX⟩ := peel M h (fun c hm => hc c (List.mem_cons_of_mem _ hm))
   exact ⟨X', by rw [e]; rfl, hX⟩
theorem encM {x : Nat} (h : x ≠ 34 ∧ x ≠ 92) : ∀ c ∈ Lib.encodeRune (x : Int), c ≠ 34 ∧ c ≠ 92 := by
 intro c hc
 have key : c.toNat ≠ 34 ∧ c.toNat ≠ 92 := by
  unfold Lib.encodeRune at hc
  obtain ⟨z, hz, rfl⟩ := List.mem_map.1 hc
  have key : (0 ≤ z ∧ z < 256 ∧ z ≠ 34 ∧ z ≠ 92) → (z.toNat.toUInt8).toNat ≠ 34 ∧ (z.toNat.toUInt8).toNat ≠ 92 := fun hh => by
   have : (z.toNat.toUInt8).toNat = z.toNat := by simp; omega
   omega
  apply key
  unfold Lib.encodeRuneZ at hz
  split at hz
  · simp at hz; omega
  split at hz
  · simp at hz; omega
  split at hz
  · simp at hz; omega
  split at hz
  · simp at hz; omega
  · simp at hz; omega
 exact ⟨fun e => key.1 (by rw [e]; rfl), fun e => key.2 (by rw [e]; rfl)⟩
theorem first_ok {L : List UInt8} (h : ok L = true) {c : UInt8} {r : List UInt8} (hL : L = c :: r) (h1 : c.toNat ≠ 34) (h2 : c.toNat ≠ 92) : (decL L).1 ≠ 34 ∧ (decL L).1 ≠ 92 := by
 obtain ⟨_, hb, _⟩ := enc_of_ok L h
 refine ⟨fun e => ?_, fun e => ?_⟩
 ·
  rw [e, hL, show Lib.encodeRune ((34 : Nat) : Int) = [34] by rfl] at hb
  injection hb with h3 h4
  exact h1 (by rw [h3]; rfl)
 ·
  rw [e, hL, show Lib.encodeRune ((92 : Nat) : Int) = [92] by rfl] at hb
  injection hb with h3 h4
  exact h2 (by rw [h3]; rfl)
theorem Qt.rawc {s s' : ByteArray} {p p' : Nat} {n : Int} {e : Nat} (h : Qt s s' p p') (hp : p < s.size) (h1 : bt s p ≠ 34) (h2 : bt s p ≠ 92) (hc : rawCh s p = .pt n e) : ∃ k, e = p + k ∧ rawCh s' p' = .pt n (p' + k) ∧ Qt s s' (p + k) (p' + k) := by
 unfold rawCh at hc ⊢
 split at hc
 ·
  rename_i hok
  injection hc with e1 e2
  subst e1; subst e2
  obtain ⟨a1, a2, a3⟩ := h
  obtain ⟨c, hcd, hb⟩ := dropl hp
  obtain ⟨f1, f2⟩ := first_ok hok hcd (by rw [← hb]; exact h1) (by rw [← hb]; exact h2)
  have hM := encM (x := (decL (s.data.toList.drop p)).1) ⟨f1, f2⟩
  obtain ⟨g1, g2, g3⟩ := enc_of_ok _ hok
  generalize hx : (decL (s.data.toList.drop p)).1 = x at *
  generalize hm : (decL (s.data.toList.drop p)).2 = m at *
  rw [g2] at a3
  obtain ⟨X', hX, hw⟩ := peel _ a3 hM
  obtain ⟨o1, o2⟩ := ok_of_enc (x : Int) X' g1
  rw [hX, if_pos o2, o1, g3]
  have l1 := congrArg List.length g2
  rw [List.length_append, g3, List.length_drop, size_toList] at l1
  have l2 := congrArg List.length hX
  rw [List.length_append, g3, List.length_drop, size_toList] at l2
  have d1 : s'.data.toList.drop (p' + m) = X' := by
   rw [← List.drop_drop, hX, ← g3, List.drop_left]
  refine ⟨m, rfl, by simp, by omega, by omega, ?_⟩
  rw [d1, ← List.drop_drop]; exact hw
 · cases hc
theorem Qt.ch {s s' : ByteArray} {p p' : Nat} {n : Int} {e : Nat} (h : Qt s s' p p') (h1 : bt s p ≠ 34) (hc : chAt s p = .pt n e) : ∃ k, e = p + k ∧ chAt s' p' = .pt n (p' + k) ∧ Qt s s' (p + k) (p' + k) := by
 unfold chAt at hc
 by_cases h0 : s.size ≤ p ∨ Tk.bt s p < 32
 · rw [if_pos h0] at hc; cases hc
 ·
  have hp : p < s.size := by omega
  rw [if_neg h0] at hc
  by_cases h2 : Tk.bt s p = 92
  ·
   rw [if_pos h2] at hc
   obtain ⟨m1, m2, m3, m4, m5⟩ := h.slash hp h2
   unfold chAt
   rw [if_neg (by omega), if_pos m3]
   unfold escCh at hc ⊢
   rw [m4]
   cases hs : shortOf (Tk.bt s (p + 1)) with
   | some m =>
    rw [hs] at hc
    dsimp only at hc ⊢
    injection hc with h6 h7
    subst h6; subst h7
    exact ⟨2, rfl, rfl, m5⟩
   | none =>
    rw [hs] at hc
    dsimp only at hc ⊢
    split at hc
    ·
     rename_i h6
     rw [if_pos h6]
     exact m5.uni hc
    · cases hc
  ·
   rw [if_neg h2] at hc
   obtain ⟨k1, k2, k3⟩ := h.step hp h1 h2
   unfold chAt
   rw [if_neg (by omega), if_neg (by omega)]
   exact h.rawc hp h1 h2 hc
theorem Qt.strF {s s' : ByteArray} : ∀ n p p' acc l e, Qt s s' p p' → Tk.strF s n p acc = .pts l e → ∀ m, n ≤ m → ∃ k, e = p + k ∧ Tk.strF s' m p' acc = .pts l (p' + k) ∧ At s s' (p + k) (p' + k) := by
 intro n
 induction n with
 | zero => intro p p' acc l e _ h0; cases h0
 | succ n ih =>
  intro p p' acc l e hq h0 m hm
  obtain ⟨m, rfl⟩ : ∃ k, m = k + 1 := ⟨m - 1, by omega⟩
  rw [Tk.strF] at h0 ⊢
  by_cases h1 : Tk.bt s p = 34
  ·
   rw [if_pos h1] at h0
   have hp : p < s.size := lt_of_bt (by rw [h1]; decide)
   obtain ⟨m1, m2, m3⟩ := hq.stop hp h1
   rw [if_pos m2]
   injection h0 with h2 h3
   subst h2; subst h3
   exact ⟨1, rfl, rfl, m3⟩
  ·
   rw [if_neg h1] at h0
   cases hc : chAt s p with
   | bad q c => rw [hc] at h0; cases h0
   | pt k q =>
    rw [hc] at h0
    obtain ⟨k0, e0, c0, q0⟩ := hq.ch h1 hc
    have hp : p < s.size := by
     rcases Nat.lt_or_ge p s.size with h2 | h2
     · exact h2
     · unfold chAt at hc; rw [if_pos (.inl h2)] at hc; cases hc
    have h34 : Tk.bt s' p' ≠ 34 := by
     by_cases h2 : Tk.bt s p = 92
     · rw [(hq.slash hp h2).2.2.1]; decide
     · rw [(hq.step hp h1 h2).2.1]; exact h1
    rw [if_neg h34, c0]
    subst e0
    obtain ⟨k2, e2, c2, q2⟩ := ih _ _ _ l e q0 h0 m (by omega)
    exact ⟨k0 + k2, by omega, by rw [← Nat.add_assoc]; exact c2, by rw [← Nat.add_assoc, ← Nat.add_assoc]; exact q2⟩
end Go.Proofs.YtofgmddlacenhaaGreatDoor.Ex
namespace Go.Proofs.YtofgmddlacenhaaGreatDoor.Ex
open Tk Pl
theorem blow_len {b : Bool} {L L' : List UInt8} (h : Blow b L L') : L.length ≤ L'.length := by
 induction h with
 | nil hb => simp
 | raw hc hg hb h ih => simp only [List.length_cons, List.length_append]; omega
 | opn h ih => simp only [List.length_cons]; omega
 | cls h ih => simp only [List.length_cons]; omega
 | esc h ih => simp only [List.length_cons]; omega
 | inn h1 h2 h ih => simp only [List.length_cons]; omega
theorem Qt.len {s s' : ByteArray} {i i' : Nat} (h : Qt s s' i i') : s.size - i ≤ s'.size - i' := by
 have := blow_len h.2.2
 rw [List.length_drop, List.length_drop, size_toList, size_toList] at this
 exact this
theorem At.opn {s s' : ByteArray} {i i' : Nat} (h : At s s' i i') (hb : bt s i = 34) : Qt s s' (i + 1) (i' + 1) := by
 have hi : i < s.size := lt_of_bt (by rw [hb]; decide)
 obtain ⟨c, hcd, hb'⟩ := dropl hi
 obtain ⟨h1, h2, hw⟩ := h
 have e : c = 34 := UInt8.toNat_inj.mp (by rw [← hb', hb]; rfl)
 subst e
 rw [hcd] at hw
 generalize hL : s'.data.toList.drop i' = L at hw
 generalize hM : s.data.toList.drop (i + 1) = M at hw
 cases hw with
 | raw hc hg hgb hr => exact absurd rfl hc
 | opn hr =>
  obtain ⟨m1, m2, m3⟩ := dropc hL
  refine ⟨by omega, by omega, ?_⟩
  rw [hM, ← m3]; exact hr
theorem At.str {s s' : ByteArray} {a a' : Nat} (h : At s s' a a') (hb : bt s a = 34) {t : Tok} (ht : strAns s a = .tok t) : ∃ t', strAns s' a' = .tok t' ∧ t'.text = t.text ∧ At s s' t.fin t'.fin := by
 have hq := h.opn hb
 have hl := hq.len
 have hq1 := hq.1
 have hq2 := hq.2.1
 unfold strAns at ht ⊢
 cases hs : Tk.str s (a + 1) [] with
 | bad q c => rw [hs] at ht; cases ht
 | pts l e =>
  rw [hs] at ht
  injection ht with ht
  subst ht
  unfold Tk.str at hs ⊢
  obtain ⟨k, k1, k2, k3⟩ := Qt.strF _ _ _ _ _ _ hq hs (s'.size + 1 - (a' + 1)) (by omega)
  rw [k2]
  exact ⟨_, rfl, rfl, by subst k1; exact k3⟩
theorem At.strs {s s' : ByteArray} {a a' : Nat} (h : At s s' a a') (hb : bt s a = 34) {e : E} {p : Nat} (hs : strs s a = .ok e p) : ∃ p', Ex.strs s' a' = .ok e p' ∧ At s s' p p' := by
 unfold Ex.strs at hs ⊢
 cases ht : strAns s a with
 | err q c => rw [ht] at hs; cases hs
 | tok t =>
  rw [ht] at hs
  obtain ⟨t', k1, k2, k3⟩ := h.str hb ht
  rw [k1]
  dsimp only at hs ⊢
  injection hs with h1 h2
  subst h1; subst h2
  exact ⟨_, by rw [k2], k3⟩
theorem Cor.key {s s' : ByteArray} {i i' : Nat} (h : Cor s s' i i') {x e : E} {p : Nat} (hk : key s x i = .ok e p) : ∃ p', Ex.key s' x i' = .ok e p' ∧ At s s' p p' := by
 obtain ⟨ha, hb⟩ := h.at_
 unfold Ex.key at hk ⊢
 rw [hb]
 by_cases h1 : Tk.bt s (Ex.bl s i) = 34
 ·
  rw [if_pos h1] at hk ⊢
  cases ht : strAns s (Ex.bl s i) with
  | err q c => rw [ht] at hk; cases hk
  | tok t =>
   rw [ht] at hk
   obtain ⟨t', k1, k2, k3⟩ := ha.str h1 ht
   rw [k1]
   dsimp only at hk ⊢
   injection hk with h2 h3
   subst h2; subst h3
   exact ⟨_, by rw [k2], k3⟩
 ·
  rw [if_neg h1] at hk ⊢
  by_cases h2 : isLt (Tk.bt s (Ex.bl s i)) = true
  ·
   rw [if_pos h2] at hk ⊢
   obtain ⟨w1, w2⟩ := h.wd h2
   injection hk with h3 h4
   subst h3; subst h4
   exact ⟨_, by rw [w1], w2⟩
  · rw [if_neg h2] at hk; cases hk
theorem cor_like (s s' : ByteArray) : Like s s' (Cor s s') where
 le i i' h := h.1
 stands i i' t h ht := h.stands ht
 past i i' t h ht hs := (h.past ht hs).cor
 dg i i' h := by rw [h.at_.2]
 lt i i' h := by rw [h.at_.2]
 quo i i' h := by rw [h.at_.2]
 num i i' e p h hn := by
  obtain ⟨p', k1, k2⟩ := h.at_.1.num h.at_.2 hn
  exact ⟨p', k1, k2.cor⟩
 strs i i' e p h hb hs := by
  obtain ⟨p', k1, k2⟩ := h.at_.1.strs hb hs
  exact ⟨p', k1, k2.cor⟩
 key i i' x e p h hk := by
  obtain ⟨p', k1, k2⟩ := h.key hk
  exact ⟨p', k1, k2.cor⟩
 word i i' h hl := ⟨(h.wd hl).1, (h.wd hl).2.cor⟩
end Go.Proofs.YtofgmddlacenhaaGreatDoor.Ex
