/- An expression's text, and a bracket behind it, within another text: plain mathematics. What is read of an expression's text is read of it within another one: plain mathematics. Brackets about expressions, and a sign between two: plain mathematics. -/
import Derived.Test.YtofgmddlacenhaaGreatDoorEA
set_option linter.unusedVariables false
set_option maxRecDepth 100000
set_option maxHeartbeats 8000000
open Go.Lib (hid)
namespace Go.Proofs.YtofgmddlacenhaaGreatDoor.Ex
open Tk Pl
def Emb (s s' : ByteArray) (d : Nat) : Prop := ∃ r : List UInt8, s'.data.toList.drop d = s.data.toList ++ (41 : UInt8) :: r
section
variable {s s' : ByteArray} {d : Nat}
theorem Emb.drop (h : Emb s s' d) {i : Nat} (hi : i ≤ s.size) : ∃ r : List UInt8, s'.data.toList.drop (i + d) = s.data.toList.drop i ++ (41 : UInt8) :: r := by
 obtain ⟨r, h⟩ := h
 refine ⟨r, ?_⟩
 rw [Nat.add_comm i d, ← List.drop_drop, h, List.drop_append_of_le_length (by rw [size_toList]; exact hi)]
theorem bt_drop (s : ByteArray) (i : Nat) : bt s i = ((s.data.toList.drop i).getD 0 0).toNat := by
 unfold bt
 rw [List.getD_eq_getElem?_getD, List.getD_eq_getElem?_getD, List.getElem?_drop, Nat.add_zero]
theorem Emb.bt (h : Emb s s' d) {i : Nat} (hi : i < s.size) : bt s' (i + d) = bt s i := by
 obtain ⟨r, hr⟩ := h.drop (Nat.le_of_lt hi)
 rw [bt_drop, bt_drop, hr]
 have : 0 < (s.data.toList.drop i).length := by rw [List.length_drop, size_toList]; omega
 rw [List.getD_eq_getElem?_getD, List.getD_eq_getElem?_getD, List.getElem?_append_left this]
theorem Emb.end_ (h : Emb s s' d) : Tk.bt s' (s.size + d) = 41 := by
 obtain ⟨r, hr⟩ := h.drop (Nat.le_refl _)
 rw [bt_drop, hr, List.drop_of_length_le (by rw [size_toList]; exact Nat.le_refl _)]
 rfl
theorem Emb.lt (h : Emb s s' d) : s.size + d < s'.size := lt_of_bt (by rw [h.end_]; decide)
theorem Emb.told {α : Type} (h : Emb s s' d) {i : Nat} (hi : i ≤ s.size) (P : Nat → α) (h0 : P 41 = P 0) : P (Tk.bt s' (i + d)) = P (Tk.bt s i) := by
 rcases Nat.lt_or_ge i s.size with h1 | h1
 · rw [h.bt h1]
 ·
  obtain rfl : i = s.size := by omega
  rw [h.end_, bt_end (Nat.le_refl _), h0]
theorem Emb.span (h : Emb s s' d) {P : Nat → Bool} (h41 : P 41 = false) {i : Nat} (hi : i ≤ s.size) : Tk.span P s' (i + d) = Tk.span P s i + d := by
 have key : ∀ n i, s.size - i = n → i ≤ s.size → Tk.span P s' (i + d) = Tk.span P s i + d := by
  intro n
  induction n with
  | zero =>
   intro i h1 h2
   obtain rfl : i = s.size := by omega
   rw [span_end (Nat.le_refl _), span_no (by rw [h.end_]; exact h41)]
  | succ n ih =>
   intro i h1 h2
   have h3 : i < s.size := by omega
   cases hp : P (Tk.bt s i) with
   | true =>
    rw [span_yes h3 hp, span_yes (by have := h.lt; omega) (by rw [h.bt h3]; exact hp), show i + d + 1 = (i + 1) + d by omega, ih (i + 1) (by omega) (by omega)]
   | false => rw [span_no hp, span_no (by rw [h.bt h3]; exact hp)]
 exact key _ i rfl hi
theorem Emb.sub (h : Emb s s' d) {a b : Nat} (hab : a ≤ b) (hb : b ≤ s.size) : Tk.sub s' (a + d) (b + d) = Tk.sub s a b := by
 obtain ⟨r, hr⟩ := h.drop (Nat.le_trans hab hb)
 refine ba_ext ?_
 rw [sub_list, sub_list, hr, show b + d - (a + d) = b - a by omega, List.take_append_of_le_length (by rw [List.length_drop, size_toList]; omega)]
theorem pre_app : ∀ (t l r : List UInt8), (41 : UInt8) ∉ t → t.isPrefixOf (l ++ 41 :: r) = t.isPrefixOf l
 | [], l, r, _ => rfl
 | c :: t, [], r, h => by
  have : (c == 41) = false := by rw [beq_eq_false_iff_ne]; intro e; exact h (by rw [e]; exact List.mem_cons_self)
  simp [List.isPrefixOf, this]
 | c :: t, x :: l, r, h => by
  have := pre_app t l r (fun k => h (List.mem_cons_of_mem _ k))
  simp [List.isPrefixOf, this]
theorem pre_more : ∀ (t l r : List UInt8), t.isPrefixOf l = true → t.isPrefixOf (l ++ r) = true
 | [], l, r, _ => rfl
 | c :: t, [], r, h => by simp [List.isPrefixOf] at h
 | c :: t, x :: l, r, h => by
  simp only [List.isPrefixOf, List.cons_append, Bool.and_eq_true] at h ⊢
  exact ⟨h.1, pre_more t l r h.2⟩
theorem Emb.bl (h : Emb s s' d) {i : Nat} (hi : i ≤ s.size) : bl s' (i + d) = bl s i + d := h.span (by decide) hi
theorem Emb.wE (h : Emb s s' d) {a : Nat} (ha : a ≤ s.size) : wE s' (a + d) = wE s a + d := by
 unfold Ex.wE
 rw [h.told ha isLt (by decide)]
 split
 · exact h.span (by decide) ha
 · rfl
theorem Emb.wd (h : Emb s s' d) {i : Nat} (hi : i ≤ s.size) : wd s' (i + d) = wd s i := by
 unfold Ex.wd
 rw [h.bl hi, h.wE (bl_le hi)]
 exact h.sub (wE_ge _ _) (wE_le (bl_le hi))
theorem Emb.stands (h : Emb s s' d) {i : Nat} (hi : i ≤ s.size) {t : ByteArray} (ht : (41 : UInt8) ∉ t.data.toList) : stands s' (i + d) t = stands s i t := by
 unfold Ex.stands
 rw [h.bl hi, h.told (bl_le hi) isLt (by decide), h.wd hi]
 split
 · rfl
 ·
  unfold has
  obtain ⟨r, hr⟩ := h.drop (bl_le hi)
  rw [hr, pre_app _ _ _ ht]
theorem Emb.yes (h : Emb s s' d) {i : Nat} (hi : i ≤ s.size) {t : ByteArray} (ht : Ex.stands s i t = true) : Ex.stands s' (i + d) t = true := by
 unfold Ex.stands at ht ⊢
 rw [h.bl hi, h.told (bl_le hi) isLt (by decide), h.wd hi]
 split at ht
 · rename_i h1; rw [if_pos h1]; exact ht
 ·
  rename_i h1
  rw [if_neg h1]
  unfold has at ht ⊢
  obtain ⟨r, hr⟩ := h.drop (bl_le hi)
  rw [hr]
  exact pre_more _ _ _ ht
theorem Emb.past (h : Emb s s' d) {i : Nat} (hi : i ≤ s.size) (t : ByteArray) : past s' (i + d) t = past s i t + d := by
 unfold Ex.past
 rw [h.bl hi]; omega
theorem sg_no {n : Nat} {t : ByteArray} (h : t ∈ sg n) : (41 : UInt8) ∉ t.data.toList := by
 unfold sg at h
 split at h
 all_goals simp only [List.mem_cons, List.not_mem_nil, or_false] at h
 all_goals (try rcases h with rfl | rfl | rfl | rfl | rfl | rfl)
 all_goals (try rcases h with rfl | rfl | rfl)
 all_goals (try rcases h with rfl | rfl)
 all_goals (try subst h)
 all_goals first
  | decide
  | exact absurd h (by simp)
theorem find_congr {α : Type} {f g : α → Bool} : ∀ l : List α, (∀ t ∈ l, f t = g t) → l.find? f = l.find? g
 | [], _ => rfl
 | x :: l, h => by
  rw [List.find?_cons, List.find?_cons, h x List.mem_cons_self, find_congr l (fun t ht => h t (List.mem_cons_of_mem _ ht))]
theorem Emb.btw (h : Emb s s' d) {i : Nat} (hi : i ≤ s.size) (n : Nat) : btw s' n (i + d) = btw s n i := find_congr _ fun t ht => h.stands hi (sg_no ht)
theorem Emb.num (h : Emb s s' d) {a : Nat} (ha : a ≤ s.size) {e : E} {p : Nat} (hn : num s a = .ok e p) : num s' (a + d) = .ok e (p + d) := by
 unfold Ex.num at hn ⊢
 have hq : Tk.span isDg s a ≤ s.size := span_le _ ha
 rw [h.span (by decide) ha, h.sub (span_ge _ _ _) hq, h.told hq goes (by decide)]
 split at hn
 · cases hn
 ·
  rename_i h1
  rw [if_neg (by
   rintro ⟨h2, h3⟩
   refine h1 ⟨?_, by omega⟩
   have := h.told ha (fun c => decide (c = 48)) (by decide)
   simp only [h2, decide_true] at this
   exact of_decide_eq_true this.symm)]
  split at hn
  ·
   rename_i h4
   rw [if_pos h4]
   split at hn
   · cases hn
   ·
    rename_i h5
    rw [if_neg h5]
    injection hn with h6 h7
    subst h6; subst h7; rfl
  · cases hn
theorem Emb.fourF (h : Emb s s' d) : ∀ k i n, 0 ≤ (Tk.fourF s k i n).1 → Tk.fourF s' k (i + d) n = ((Tk.fourF s k i n).1, (Tk.fourF s k i n).2 + d) := by
 intro k
 induction k with
 | zero => intro i n _; rfl
 | succ k ih =>
  intro i n h0
  simp only [Tk.fourF] at h0 ⊢
  by_cases h1 : hexOf (Tk.bt s i) < 0
  · rw [if_pos h1] at h0; exact absurd (show (0 : Int) ≤ -1 from h0) (by decide)
  ·
   have hi : i < s.size := by
    rcases Nat.lt_or_ge i s.size with h2 | h2
    · exact h2
    · exact absurd (hexOf_end h2) (by omega)
   rw [if_neg h1] at h0
   rw [h.bt hi, if_neg h1, if_neg h1, show i + d + 1 = (i + 1) + d by omega]
   exact ih _ _ h0
theorem isLow_ge {n : Int} (h : isLow n = true) : 0 ≤ n := by simp [isLow] at h; omega
theorem Emb.uni (h : Emb s s' d) {p : Nat} {n : Int} {e : Nat} (hc : uniCh s p = .pt n e) : uniCh s' (p + d) = .pt n (e + d) := by
 unfold uniCh at hc ⊢
 unfold four at hc ⊢
 split at hc
 · cases hc
 ·
  rename_i h0
  rw [show p + d + 2 = (p + 2) + d by omega, show p + d + 8 = (p + 8) + d by omega, show p + d + 6 = (p + 6) + d by omega, show p + d + 7 = (p + 7) + d by omega, h.fourF 4 (p + 2) 0 (by omega), if_neg h0]
  split at hc
  ·
   rename_i h1
   rw [if_pos h1]
   injection hc with h2 h3
   subst h2; subst h3; rfl
  ·
   rename_i h1
   rw [if_neg h1]
   split at hc
   ·
    rename_i h2
    obtain ⟨k1, k2, k3, k4⟩ := h2
    rw [h.fourF 4 (p + 8) 0 (isLow_ge k4)]
    have b6 : p + 6 < s.size := lt_of_bt (by rw [k2]; decide)
    have b7 : p + 7 < s.size := lt_of_bt (by rw [k3]; decide)
    rw [if_pos ⟨k1, by rw [h.bt b6]; exact k2, by rw [h.bt b7]; exact k3, k4⟩]
    injection hc with h2 h3
    subst h2; subst h3
    rw [show p + d + 12 = p + 12 + d by omega]
   · cases hc
theorem ok_app {L R : List UInt8} (h : ok L = true) : ok (L ++ R) = true ∧ decL (L ++ R) = decL L := by
 obtain ⟨h1, h2, h3⟩ := enc_of_ok L h
 have h4 := ok_of_enc ((decL L).1 : Int) (L.drop (decL L).2 ++ R) h1
 rw [← List.append_assoc, ← h2] at h4
 refine ⟨h4.2, h4.1.trans ?_⟩
 rw [h3, Int.toNat_natCast]
theorem Emb.ch (h : Emb s s' d) {p : Nat} {n : Int} {e : Nat} (hc : chAt s p = .pt n e) : chAt s' (p + d) = .pt n (e + d) := by
 unfold chAt at hc ⊢
 by_cases h1 : s.size ≤ p ∨ Tk.bt s p < 32
 · rw [if_pos h1] at hc; cases hc
 ·
  have hp : p < s.size := by omega
  have hl := h.lt
  rw [if_neg h1] at hc
  rw [h.bt hp, if_neg (by omega)]
  by_cases h2 : Tk.bt s p = 92
  ·
   rw [if_pos h2] at hc ⊢
   unfold escCh at hc ⊢
   have h3 : Tk.bt s' (p + d + 1) = Tk.bt s (p + 1) ∨ s.size ≤ p + 1 := by
    rcases Nat.lt_or_ge (p + 1) s.size with h3 | h3
    · exact .inl (by rw [show p + d + 1 = (p + 1) + d by omega]; exact h.bt h3)
    · exact .inr h3
   have h4 : p + 1 < s.size := by
    refine lt_of_bt (fun h0 => ?_)
    rw [h0] at hc
    simp [shortOf] at hc
   have h5 : Tk.bt s' (p + d + 1) = Tk.bt s (p + 1) := by
    rcases h3 with h3 | h3
    · exact h3
    · omega
   rw [h5]
   cases hs : shortOf (Tk.bt s (p + 1)) with
   | some m =>
    rw [hs] at hc
    dsimp only at hc ⊢
    injection hc with h6 h7
    subst h6; subst h7
    rw [show p + d + 2 = p + 2 + d by omega]
   | none =>
    rw [hs] at hc
    dsimp only at hc ⊢
    split at hc
    ·
     rename_i h6
     rw [if_pos h6]
     exact h.uni hc
    · cases hc
  ·
   rw [if_neg h2] at hc ⊢
   unfold rawCh at hc ⊢
   obtain ⟨r, hr⟩ := h.drop (Nat.le_of_lt hp)
   rw [hr]
   split at hc
   ·
    rename_i h3
    obtain ⟨h4, h5⟩ := ok_app (R := 41 :: r) h3
    rw [if_pos h4, h5]
    injection hc with h6 h7
    subst h6; subst h7
    rw [show p + d + (decL (s.data.toList.drop p)).2 = p + (decL (s.data.toList.drop p)).2 + d by omega]
   · cases hc
theorem Emb.strF (h : Emb s s' d) : ∀ n p acc l e, Tk.strF s n p acc = .pts l e → ∀ m, n ≤ m → Tk.strF s' m (p + d) acc = .pts l (e + d) := by
 intro n
 induction n with
 | zero => intro p acc l e h0; cases h0
 | succ n ih =>
  intro p acc l e h0 m hm
  obtain ⟨m, rfl⟩ : ∃ k, m = k + 1 := ⟨m - 1, by omega⟩
  rw [Tk.strF] at h0 ⊢
  by_cases h1 : Tk.bt s p = 34
  ·
   rw [if_pos h1] at h0
   have hp : p < s.size := lt_of_bt (by rw [h1]; decide)
   rw [h.bt hp, if_pos h1]
   injection h0 with h2 h3
   subst h2; subst h3
   rw [show p + d + 1 = p + 1 + d by omega]
  ·
   rw [if_neg h1] at h0
   cases hc : chAt s p with
   | bad q c => rw [hc] at h0; cases h0
   | pt k q =>
    have hp : p < s.size := by
     rcases Nat.lt_or_ge p s.size with h2 | h2
     · exact h2
     · unfold chAt at hc; rw [if_pos (.inl h2)] at hc; cases hc
    rw [hc] at h0
    rw [h.bt hp, if_neg h1, h.ch hc]
    exact ih q _ l e h0 m (by omega)
theorem Emb.str (h : Emb s s' d) {a : Nat} {t : Tok} (ht : strAns s a = .tok t) : ∃ t', strAns s' (a + d) = .tok t' ∧ t'.text = t.text ∧ t'.fin = t.fin + d := by
 unfold strAns at ht ⊢
 cases hs : Tk.str s (a + 1) [] with
 | bad q c => rw [hs] at ht; cases ht
 | pts l e =>
  rw [hs] at ht
  injection ht with ht
  subst ht
  have hl := h.lt
  unfold Tk.str at hs ⊢
  rw [show a + d + 1 = (a + 1) + d by omega, h.strF _ _ _ _ _ hs _ (by omega)]
  exact ⟨_, rfl, rfl, rfl⟩
theorem Emb.strs (h : Emb s s' d) {a : Nat} {e : E} {p : Nat} (hs : strs s a = .ok e p) : strs s' (a + d) = .ok e (p + d) := by
 unfold Ex.strs at hs ⊢
 cases ht : strAns s a with
 | err q c => rw [ht] at hs; cases hs
 | tok t =>
  rw [ht] at hs
  obtain ⟨t', k1, k2, k3⟩ := h.str ht
  rw [k1]
  dsimp only at hs ⊢
  injection hs with h1 h2
  subst h1; subst h2
  rw [k2, k3]
theorem Emb.key (h : Emb s s' d) {i : Nat} (hi : i ≤ s.size) {e y : E} {p : Nat} (hk : key s e i = .ok y p) : key s' e (i + d) = .ok y (p + d) := by
 unfold Ex.key at hk ⊢
 have hb := bl_le hi
 rw [h.bl hi, h.told hb isLt (by decide), h.wd hi, h.wE hb]
 by_cases h1 : Tk.bt s (Ex.bl s i) = 34
 ·
  have hp : Ex.bl s i < s.size := lt_of_bt (by rw [h1]; decide)
  rw [if_pos h1] at hk
  rw [h.bt hp, if_pos h1]
  cases ht : strAns s (Ex.bl s i) with
  | err q c => rw [ht] at hk; cases hk
  | tok t =>
   rw [ht] at hk
   obtain ⟨t', k1, k2, k3⟩ := h.str ht
   rw [k1]
   dsimp only at hk ⊢
   injection hk with h2 h3
   subst h2; subst h3
   rw [k2, k3]
 ·
  have h2 : ¬ Tk.bt s' (Ex.bl s i + d) = 34 := by
   have := h.told hb (fun c => decide (c = 34)) (by decide)
   intro h3
   rw [h3] at this
   exact h1 (of_decide_eq_true this.symm)
  rw [if_neg h1] at hk
  rw [if_neg h2]
  split at hk
  ·
   rename_i h3
   rw [if_pos h3]
   injection hk with h4 h5
   subst h4; subst h5; rfl
  · cases hk
end
end Go.Proofs.YtofgmddlacenhaaGreatDoor.Ex
namespace Go.Proofs.YtofgmddlacenhaaGreatDoor.Ex
open Tk
theorem up_ok {o : ByteArray} {r : Res} {e : E} {p : Nat} (h : up o r = .ok e p) : ∃ e1, r = .ok e1 p ∧ e = .mk o nix Rd.nulT [e1] := by
 cases r with
 | ok x q => injection h with h1 h2; subst h2; exact ⟨x, rfl, h1.symm⟩
 | err q c => cases h
 | out => cases h
theorem Emb.not34 {s s' : ByteArray} {d : Nat} (h : Emb s s' d) {i : Nat} (hi : i ≤ s.size) (h1 : ¬ Tk.bt s i = 34) : ¬ Tk.bt s' (i + d) = 34 := by
 have := h.told hi (fun c => decide (c = 34)) (by decide)
 intro h3
 rw [h3] at this
 exact h1 (of_decide_eq_true this.symm)
theorem emb_all {s s' : ByteArray} {d : Nat} (h : Emb s s' d) : ∀ f,
 (∀ n i e p, n ≤ 8 → i ≤ s.size → lev s f n i = .ok e p → ∀ g, f ≤ g → lev s' g n (i + d) = .ok e (p + d)) ∧
 (∀ n x i e p, i ≤ s.size → chn s f n x i = .ok e p → ∀ g, f ≤ g → chn s' g n x (i + d) = .ok e (p + d)) ∧
 (∀ x i e p, i ≤ s.size → prt s f x i = .ok e p → ∀ g, f ≤ g → prt s' g x (i + d) = .ok e (p + d)) ∧
 (∀ w acc i e p, i ≤ s.size → cal s f w acc i = .ok e p → ∀ g, f ≤ g → cal s' g w acc (i + d) = .ok e (p + d)) := by
 intro f
 induction f with
 | zero => exact ⟨fun n i e p _ _ k => (by rw [lev] at k; cases k), fun n x i e p _ k => (by rw [chn] at k; cases k), fun x i e p _ k => (by rw [prt] at k; cases k), fun w acc i e p _ k => (by rw [cal] at k; cases k)⟩
 | succ f ih =>
  obtain ⟨ih1, ih2, ih3, ih4⟩ := ih
  refine ⟨fun n i e p hn hi k g hg => ?_, fun n x i e p hi k g hg => ?_, fun x i e p hi k g hg => ?_, fun w acc i e p hi k g hg => ?_⟩
  ·
   obtain ⟨g, rfl⟩ : ∃ q, g = q + 1 := ⟨g - 1, by omega⟩
   have hg' : f ≤ g := by omega
   rw [lev] at k ⊢
   by_cases n2 : n = 2
   ·
    subst n2
    rw [if_pos rfl] at k ⊢
    rw [h.stands hi (by decide), h.past hi]
    by_cases h1 : stands s i notB = true
    ·
     rw [if_pos h1] at k ⊢
     obtain ⟨e1, k1, k2⟩ := up_ok k
     rw [ih1 2 _ _ _ (by omega) (stands_le hi h1).2 k1 g hg', k2]; rfl
    ·
     rw [if_neg h1] at k ⊢
     exact ih1 3 _ _ _ (by omega) hi k g hg'
   rw [if_neg n2] at k ⊢
   by_cases n6 : n = 6
   ·
    subst n6
    rw [if_pos rfl] at k ⊢
    rw [h.stands hi (by decide), h.past hi]
    by_cases h1 : stands s i minusB = true
    ·
     rw [if_pos h1] at k ⊢
     obtain ⟨e1, k1, k2⟩ := up_ok k
     rw [ih1 6 _ _ _ (by omega) (stands_le hi h1).2 k1 g hg', k2]; rfl
    ·
     rw [if_neg h1] at k ⊢
     exact ih1 7 _ _ _ (by omega) hi k g hg'
   rw [if_neg n6] at k ⊢
   by_cases n7 : n = 7
   ·
    subst n7
    rw [if_pos rfl] at k ⊢
    cases hx : lev s f 8 i with
    | err q c => rw [hx] at k; cases k
    | out => rw [hx] at k; cases k
    | ok y q =>
     rw [hx] at k
     rw [ih1 8 _ _ _ (by omega) hi hx g hg']
     exact ih3 _ _ _ _ (lev_le (by omega) hi hx).2 k g hg'
   rw [if_neg n7] at k ⊢
   by_cases n8 : n = 8
   ·
    subst n8
    rw [if_pos rfl] at k ⊢
    have hb := bl_le hi
    have hw := wE_le hb
    rw [h.bl hi, h.told hb isDg (by decide), h.told hb isLt (by decide), h.wd hi, h.wE hb, h.stands hi (by decide : (41 : UInt8) ∉ opnB.data.toList), h.stands hw (by decide : (41 : UInt8) ∉ opnB.data.toList), h.past hi, h.past hw]
    by_cases h1 : isDg (bt s (bl s i)) = true
    ·
     rw [if_pos h1] at k ⊢
     exact h.num hb k
    rw [if_neg h1] at k ⊢
    by_cases h2 : bt s (bl s i) = 34
    ·
     have hp : bl s i < s.size := lt_of_bt (by rw [h2]; decide)
     rw [if_pos h2] at k
     rw [h.bt hp, if_pos h2]
     exact h.strs k
    rw [if_neg h2] at k
    rw [if_neg (h.not34 hb h2)]
    by_cases h3 : isLt (bt s (bl s i)) = true
    ·
     rw [if_pos h3] at k ⊢
     by_cases h4 : isWord (wd s i) = true
     ·
      rw [if_pos h4] at k ⊢
      by_cases h5 : eqb (wd s i) trueB = true
      · rw [if_pos h5] at k ⊢; injection k with k1 k2; subst k1; subst k2; rfl
      rw [if_neg h5] at k ⊢
      by_cases h5 : eqb (wd s i) falseB = true
      · rw [if_pos h5] at k ⊢; injection k with k1 k2; subst k1; subst k2; rfl
      rw [if_neg h5] at k ⊢
      by_cases h5 : eqb (wd s i) nullB = true
      · rw [if_pos h5] at k ⊢; injection k with k1 k2; subst k1; subst k2; rfl
      rw [if_neg h5] at k ⊢
      by_cases h5 : eqb (wd s i) thisB = true
      · rw [if_pos h5] at k ⊢; injection k with k1 k2; subst k1; subst k2; rfl
      rw [if_neg h5] at k; cases k
     rw [if_neg h4] at k ⊢
     by_cases h5 : 0 < argsN (wd s i)
     ·
      rw [if_pos h5] at k ⊢
      by_cases h6 : stands s (wE s (bl s i)) opnB = true
      ·
       rw [if_pos h6] at k ⊢
       exact ih4 _ _ _ _ _ (stands_le hw h6).2 k g hg'
      · rw [if_neg h6] at k; cases k
     ·
      rw [if_neg h5] at k ⊢
      injection k with k1 k2; subst k1; subst k2; rfl
    rw [if_neg h3] at k ⊢
    by_cases h4 : stands s i opnB = true
    ·
     rw [if_pos h4] at k ⊢
     have hp := (stands_le hi h4).2
     cases hx : lev s f 0 (past s i opnB) with
     | err q c => rw [hx] at k; cases k
     | out => rw [hx] at k; cases k
     | ok y q =>
      rw [hx] at k
      rw [ih1 0 _ _ _ (by omega) hp hx g hg']
      dsimp only at k ⊢
      have hq := (lev_le (by omega) hp hx).2
      by_cases h5 : stands s q clsB = true
      ·
       rw [if_pos h5] at k
       rw [if_pos (h.yes hq h5), h.past hq]
       injection k with k1 k2; subst k1; subst k2; rfl
      · rw [if_neg h5] at k; cases k
    · rw [if_neg h4] at k; cases k
   rw [if_neg n8] at k ⊢
   cases hx : lev s f (n + 1) i with
   | err q c => rw [hx] at k; cases k
   | out => rw [hx] at k; cases k
   | ok y q =>
    rw [hx] at k
    rw [ih1 (n + 1) _ _ _ (by omega) hi hx g hg']
    exact ih2 _ _ _ _ _ (lev_le (by omega) hi hx).2 k g hg'
  ·
   obtain ⟨g, rfl⟩ : ∃ q, g = q + 1 := ⟨g - 1, by omega⟩
   have hg' : f ≤ g := by omega
   rw [chn] at k ⊢
   rw [h.btw hi]
   cases hb : btw s n i with
   | none =>
    rw [hb] at k
    dsimp only at k ⊢
    injection k with k1 k2; subst k1; subst k2; rfl
   | some o =>
    rw [hb] at k
    dsimp only at k ⊢
    have hp := (btw_le hi hb).2
    have hn8 := sg_lt (btw_some hb).1
    rw [h.past hi]
    cases hx : lev s f (n + 1) (past s i o) with
    | err q c => rw [hx] at k; cases k
    | out => rw [hx] at k; cases k
    | ok y q =>
     rw [hx] at k
     rw [ih1 (n + 1) _ _ _ (by omega) hp hx g hg']
     dsimp only at k ⊢
     by_cases n3 : n = 3
     · rw [if_pos n3] at k ⊢; injection k with k1 k2; subst k1; subst k2; rfl
     ·
      rw [if_neg n3] at k ⊢
      exact ih2 _ _ _ _ _ (lev_le (by omega) hp hx).2 k g hg'
  ·
   obtain ⟨g, rfl⟩ : ∃ q, g = q + 1 := ⟨g - 1, by omega⟩
   have hg' : f ≤ g := by omega
   rw [prt] at k ⊢
   rw [h.stands hi (by decide : (41 : UInt8) ∉ dotB.data.toList), h.stands hi (by decide : (41 : UInt8) ∉ osqB.data.toList), h.past hi, h.past hi]
   by_cases h1 : stands s i dotB = true
   ·
    rw [if_pos h1] at k ⊢
    have hp := (stands_le hi h1).2
    cases hx : key s x (past s i dotB) with
    | err q c => rw [hx] at k; cases k
    | out => rw [hx] at k; cases k
    | ok y q =>
     rw [hx] at k
     rw [h.key hp hx]
     exact ih3 _ _ _ _ ((fit_key (q := True) (s := s) (i := past s i dotB) (e := x)).2 _ _ hx).2 k g hg'
   rw [if_neg h1] at k ⊢
   by_cases h2 : stands s i osqB = true
   ·
    rw [if_pos h2] at k ⊢
    have hp := (stands_le hi h2).2
    cases hx : lev s f 0 (past s i osqB) with
    | err q c => rw [hx] at k; cases k
    | out => rw [hx] at k; cases k
    | ok y q =>
     rw [hx] at k
     rw [ih1 0 _ _ _ (by omega) hp hx g hg']
     dsimp only at k ⊢
     have hq := (lev_le (by omega) hp hx).2
     rw [h.stands hq (by decide : (41 : UInt8) ∉ csqB.data.toList), h.past hq]
     by_cases h3 : stands s q csqB = true
     ·
      rw [if_pos h3] at k ⊢
      exact ih3 _ _ _ _ (stands_le hq h3).2 k g hg'
     · rw [if_neg h3] at k; cases k
   ·
    rw [if_neg h2] at k ⊢
    injection k with k1 k2; subst k1; subst k2; rfl
  ·
   obtain ⟨g, rfl⟩ : ∃ q, g = q + 1 := ⟨g - 1, by omega⟩
   have hg' : f ≤ g := by omega
   rw [cal] at k ⊢
   cases hx : lev s f 0 i with
   | err q c => rw [hx] at k; cases k
   | out => rw [hx] at k; cases k
   | ok y q =>
    rw [hx] at k
    rw [ih1 0 _ _ _ (by omega) hi hx g hg']
    dsimp only at k ⊢
    have hq := (lev_le (by omega) hi hx).2
    by_cases h1 : stands s q clsB = true
    ·
     rw [if_pos h1] at k
     rw [if_pos (h.yes hq h1), h.past hq]
     split at k
     · cases k
     ·
      rename_i h2
      rw [if_neg h2]
      injection k with k1 k2; subst k1; subst k2; rfl
    ·
     rw [if_neg h1] at k
     by_cases h2 : stands s q commaB = true
     ·
      rw [if_pos h2] at k
      have h3 : ¬ stands s' (q + d) clsB = true := by
       intro h4
       have h5 := h.yes hq h2
       have a1 : clsB.data.toList = [41] := rfl
       have a2 : commaB.data.toList = [44] := rfl
       have nl : isLt (bt s' (bl s' (q + d))) = false := by
        cases hl : isLt (bt s' (bl s' (q + d))) with
        | false => rfl
        | true =>
         unfold stands at h4 h5
         rw [if_pos hl] at h4 h5
         have := (eqb_yes h4).symm.trans (eqb_yes h5)
         exact absurd (congrArg (fun b => b.data.toList) this) (by decide)
       unfold stands at h4 h5
       rw [if_neg (by rw [nl]; decide)] at h4 h5
       unfold has at h4 h5
       rw [a1] at h4
       rw [a2] at h5
       cases hz : s'.data.toList.drop (bl s' (q + d)) with
       | nil => rw [hz] at h4; simp [List.isPrefixOf] at h4
       | cons c r =>
        rw [hz] at h4 h5
        simp [List.isPrefixOf] at h4 h5
        rw [← h4] at h5
        exact absurd h5 (by decide)
      rw [if_neg h3, h.stands hq (by decide : (41 : UInt8) ∉ commaB.data.toList), if_pos h2, h.past hq]
      split at k
      ·
       rename_i h4
       rw [if_pos h4]
       exact ih4 _ _ _ _ _ (stands_le hq h2).2 k g hg'
      · cases k
     · rw [if_neg h2] at k; cases k
end Go.Proofs.YtofgmddlacenhaaGreatDoor.Ex
namespace Go.Proofs.YtofgmddlacenhaaGreatDoor.Ex
open Tk
def Quiet (s : ByteArray) (q m : Nat) : Prop := (∀ n, m ≤ n → btw s n q = none) ∧ stands s q dotB = false ∧ stands s q osqB = false
theorem Quiet.up {s : ByteArray} {q m m' : Nat} (h : Quiet s q m) (hm : m ≤ m') : Quiet s q m' := ⟨fun n hn => h.1 n (Nat.le_trans hm hn), h.2⟩
theorem sign_stands {s : ByteArray} {q : Nat} (h1 : isBl (bt s q) = false) (h2 : isLt (bt s q) = false) (t : ByteArray) : stands s q t = t.data.toList.isPrefixOf (s.data.toList.drop q) := by
 have hb : bl s q = q := span_no h1
 unfold stands
 rw [hb, if_neg (by rw [h2]; decide)]
 rfl
theorem sign_past {s : ByteArray} {q : Nat} (h1 : isBl (bt s q) = false) (t : ByteArray) : past s q t = q + t.size := by
 have hb : bl s q = q := span_no h1
 unfold past
 rw [hb]
theorem bt_cons {s : ByteArray} {q : Nat} {c : UInt8} {r : List UInt8} (h : s.data.toList.drop q = c :: r) : bt s q = c.toNat := by
 rw [bt_drop, h]; rfl
theorem quiet_none {s : ByteArray} {q : Nat} (h : ∀ t : ByteArray, t.data.toList ≠ [] → (41 : UInt8) ∉ t.data.toList → stands s q t = false) : Quiet s q 0 := by
 refine ⟨fun n _ => ?_, h _ (by decide) (by decide), h _ (by decide) (by decide)⟩
 unfold btw
 rw [List.find?_eq_none]
 intro t ht
 rw [h t (by have := sg_size ht; intro e; have h2 : t.data.toList.length = t.size := rfl; rw [e] at h2; simp at h2; omega) (sg_no ht)]
 decide
theorem quiet_cls {s : ByteArray} {q : Nat} {r : List UInt8} (h : s.data.toList.drop q = 41 :: r) : Quiet s q 0 := by
 have hb := bt_cons h
 refine quiet_none fun t h1 h2 => ?_
 rw [sign_stands (by rw [hb]; decide) (by rw [hb]; decide), h]
 cases ht : t.data.toList with
 | nil => exact absurd ht h1
 | cons c l =>
  have : (c == 41) = false := by rw [beq_eq_false_iff_ne]; intro e; exact h2 (by rw [ht, e]; exact List.mem_cons_self)
  simp [List.isPrefixOf, this]
theorem quiet_end {s : ByteArray} {q : Nat} (h : s.size ≤ q) : Quiet s q 0 := by
 have hb := bt_end h
 refine quiet_none fun t h1 h2 => ?_
 rw [sign_stands (by rw [hb]; decide) (by rw [hb]; decide), List.drop_of_length_le (by rw [size_toList]; exact h)]
 cases ht : t.data.toList with
 | nil => exact absurd ht h1
 | cons c l => rfl
def ops : List (ByteArray × Nat) := [(orB, 0), (andB, 1), (eqB, 3), (neB, 3), (ltB, 3), (leB, 3), (gtB, 3), (geB, 3), (plusB, 4), (minusB, 4), (starB, 5), (slashB, 5), (remB, 5)]
def Between (s : ByteArray) (q : Nat) (o : ByteArray) (n0 : Nat) : Prop := btw s n0 q = some o ∧ Quiet s q (n0 + 1) ∧ past s q o = q + o.size
theorem btw_sign {s : ByteArray} {q : Nat} (h1 : isBl (bt s q) = false) (h2 : isLt (bt s q) = false) (n : Nat) : btw s n q = (sg n).find? (fun t => t.data.toList.isPrefixOf (s.data.toList.drop q)) := find_congr _ fun t _ => sign_stands h1 h2 t
theorem sg_far (n : Nat) : sg (n + 6) = [] := by unfold sg; split <;> first | rfl | omega
theorem between_sign {s : ByteArray} {q : Nat} {o : ByteArray} {n0 : Nat} {c : UInt8} {L r : List UInt8} (hL : o.data.toList = c :: L) (hd : s.data.toList.drop q = (c :: L) ++ 40 :: r) (h1 : isBl c.toNat = false) (h2 : isLt c.toNat = false)
 (h3 : (sg n0).find? (fun t => t.data.toList.isPrefixOf ((c :: L) ++ 40 :: r)) = some o) (h4 : ∀ n, n0 + 1 ≤ n → n ≤ 5 → (sg n).find? (fun t => t.data.toList.isPrefixOf ((c :: L) ++ 40 :: r)) = none)
 (h5 : dotB.data.toList.isPrefixOf ((c :: L) ++ 40 :: r) = false) (h6 : osqB.data.toList.isPrefixOf ((c :: L) ++ 40 :: r) = false) : Between s q o n0 := by
 have hb := bt_cons hd
 have k1 : isBl (bt s q) = false := by rw [hb]; exact h1
 have k2 : isLt (bt s q) = false := by rw [hb]; exact h2
 refine ⟨by rw [btw_sign k1 k2, hd]; exact h3, ⟨fun n hn => ?_, by rw [sign_stands k1 k2, hd]; exact h5, by rw [sign_stands k1 k2, hd]; exact h6⟩, sign_past k1 o⟩
 rcases Nat.lt_or_ge 5 n with h7 | h7
 ·
  obtain ⟨k, rfl⟩ : ∃ k, n = k + 6 := ⟨n - 6, by omega⟩
  unfold btw
  rw [sg_far]; rfl
 · rw [btw_sign k1 k2, hd]; exact h4 n hn h7
theorem word_at {s : ByteArray} {q : Nat} {o : ByteArray} {r : List UInt8} (hq : q ≤ s.size) (hd : s.data.toList.drop q = o.data.toList ++ 40 :: r) (h0 : o.data.toList ≠ []) (hl : ∀ c ∈ o.data.toList, isLt c.toNat = true) : bl s q = q ∧ isLt (bt s q) = true ∧ wd s q = o := by
 have hlen : (s.data.toList.drop q).length = s.size - q := by rw [List.length_drop, size_toList]
 have hs : s.size - q = o.size + 1 + r.length := by
  rw [← hlen, hd, List.length_append, List.length_cons]
  show o.data.toList.length + _ = _
  have : o.data.toList.length = o.size := rfl
  omega
 have hbt : ∀ k, k < o.size → isLt (bt s (q + k)) = true := by
  intro k hk
  have hk' : k < o.data.toList.length := hk
  have : bt s (q + k) = (o.data.toList[k]).toNat := by
   rw [bt_drop, ← List.drop_drop, hd, List.drop_append_of_le_length (Nat.le_of_lt hk'), List.drop_eq_getElem_cons hk']
   rfl
  rw [this]
  exact hl _ (List.getElem_mem _)
 have hend : bt s (q + o.size) = 40 := by
  rw [bt_drop, ← List.drop_drop, hd, show o.size = o.data.toList.length from rfl, List.drop_left]
  rfl
 have hpos : 0 < o.size := by
  rcases Nat.eq_zero_or_pos o.size with h | h
  · exact absurd (List.eq_nil_of_length_eq_zero (show o.data.toList.length = 0 from h)) h0
  · exact h
 have h1 := hbt 0 hpos
 rw [Nat.add_zero] at h1
 have hb : bl s q = q := span_no (by
  cases hx : isBl (bt s q) with
  | false => rfl
  | true => rw [isBl_iff] at hx; rw [isLt_iff] at h1; omega)
 have hspan : ∀ n k, o.size - k = n → k ≤ o.size → span goes s (q + k) = q + o.size := by
  intro n
  induction n with
  | zero =>
   intro k h2 h3
   obtain rfl : k = o.size := by omega
   exact span_no (by rw [hend]; decide)
  | succ n ih =>
   intro k h2 h3
   rw [span_yes (by omega) (isLt_goes (hbt k (by omega))), show q + k + 1 = q + (k + 1) by omega]
   exact ih (k + 1) (by omega) (by omega)
 have hw : wE s q = q + o.size := by
  unfold wE
  rw [if_pos h1]
  have := hspan _ 0 rfl (Nat.zero_le _)
  rw [Nat.add_zero] at this
  exact this
 refine ⟨hb, h1, ?_⟩
 unfold wd
 rw [hb, hw]
 refine ba_ext ?_
 rw [sub_list, hd, show q + o.size - q = o.data.toList.length by rw [Nat.add_sub_cancel_left]; rfl, List.take_left]
theorem between_word {s : ByteArray} {q : Nat} {o : ByteArray} {n0 : Nat} {r : List UInt8} (hq : q ≤ s.size) (hd : s.data.toList.drop q = o.data.toList ++ 40 :: r) (h0 : o.data.toList ≠ []) (hl : ∀ c ∈ o.data.toList, isLt c.toNat = true)
 (h3 : (sg n0).find? (eqb o) = some o) (h4 : ∀ n, n0 + 1 ≤ n → n ≤ 5 → (sg n).find? (eqb o) = none) (h5 : eqb o dotB = false) (h6 : eqb o osqB = false) : Between s q o n0 := by
 obtain ⟨hb, h1, hw⟩ := word_at hq hd h0 hl
 have hst : ∀ t, stands s q t = eqb o t := by
  intro t
  unfold stands
  rw [hb, if_pos h1, hw]
 have hbt : ∀ n, btw s n q = (sg n).find? (eqb o) := fun n => find_congr _ fun t _ => hst t
 refine ⟨by rw [hbt]; exact h3, ⟨fun n hn => ?_, by rw [hst]; exact h5, by rw [hst]; exact h6⟩, by unfold past; rw [hb]⟩
 rcases Nat.lt_or_ge 5 n with h7 | h7
 ·
  obtain ⟨k, rfl⟩ : ∃ k, n = k + 6 := ⟨n - 6, by omega⟩
  unfold btw
  rw [sg_far]; rfl
 · rw [hbt]; exact h4 n hn h7
theorem between_op {s : ByteArray} {q : Nat} {o : ByteArray} {n0 : Nat} {r : List UInt8} (ho : (o, n0) ∈ ops) (hq : q ≤ s.size) (hd : s.data.toList.drop q = o.data.toList ++ 40 :: r) : Between s q o n0 := by
 have lev5 : ∀ {P : Nat → Prop} {m : Nat}, (m ≤ 0 → P 0) → (m ≤ 1 → P 1) → (m ≤ 2 → P 2) → (m ≤ 3 → P 3) → (m ≤ 4 → P 4) → (m ≤ 5 → P 5) → ∀ n, m ≤ n → n ≤ 5 → P n := by
  intro P m p0 p1 p2 p3 p4 p5 n h1 h2
  rcases (by omega : n = 0 ∨ n = 1 ∨ n = 2 ∨ n = 3 ∨ n = 4 ∨ n = 5) with rfl | rfl | rfl | rfl | rfl | rfl
  · exact p0 h1
  · exact p1 h1
  · exact p2 h1
  · exact p3 h1
  · exact p4 h1
  · exact p5 h1
 simp only [ops, List.mem_cons, Prod.mk.injEq, List.not_mem_nil, or_false] at ho
 rcases ho with ⟨rfl, rfl⟩ | ⟨rfl, rfl⟩ | ⟨rfl, rfl⟩ | ⟨rfl, rfl⟩ | ⟨rfl, rfl⟩ | ⟨rfl, rfl⟩ | ⟨rfl, rfl⟩ | ⟨rfl, rfl⟩ | ⟨rfl, rfl⟩ | ⟨rfl, rfl⟩ | ⟨rfl, rfl⟩ | ⟨rfl, rfl⟩ | ⟨rfl, rfl⟩
 · exact between_word hq hd (by decide) (by decide) rfl (lev5 (by omega) (fun _ => rfl) (fun _ => rfl) (fun _ => rfl) (fun _ => rfl) (fun _ => rfl)) rfl rfl
 · exact between_word hq hd (by decide) (by decide) rfl (lev5 (by omega) (by omega) (fun _ => rfl) (fun _ => rfl) (fun _ => rfl) (fun _ => rfl)) rfl rfl
 all_goals
  refine between_sign rfl hd (by decide) (by decide) rfl ?_ rfl rfl
  first
   | exact lev5 (by omega) (by omega) (by omega) (by omega) (fun _ => rfl) (fun _ => rfl)
   | exact lev5 (by omega) (by omega) (by omega) (by omega) (by omega) (fun _ => rfl)
   | exact lev5 (by omega) (by omega) (by omega) (by omega) (by omega) (by omega)
theorem brk {s : ByteArray} {i G p m : Nat} {e : E} (hb : bt s i = 40) (h0 : ∀ g, G ≤ g → lev s g 0 (i + 1) = .ok e p) (hc : stands s p clsB = true) (hq : Quiet s (past s p clsB) m) :
 ∀ n, m ≤ n → n ≤ 8 → ∀ g, G + 9 ≤ g + n → lev s g n i = .ok e (past s p clsB) := by
 have b1 : isBl (bt s i) = false := by rw [hb]; decide
 have b2 : isLt (bt s i) = false := by rw [hb]; decide
 have hbl : bl s i = i := span_no b1
 have hi : i < s.size := lt_of_bt (by rw [hb]; decide)
 have hdr : s.data.toList.drop i = (40 : UInt8) :: s.data.toList.drop (i + 1) := by
  rw [drop_cons hi]
  congr 1
  have := bt_at s i hi
  rw [hb] at this
  exact UInt8.toNat_inj.1 this
 have so : stands s i opnB = true := by rw [sign_stands b1 b2, hdr]; rfl
 have sn : stands s i notB = false := by rw [sign_stands b1 b2, hdr]; rfl
 have sm : stands s i minusB = false := by rw [sign_stands b1 b2, hdr]; rfl
 have hp : past s i opnB = i + 1 := sign_past b1 opnB
 have key : ∀ k n, n + k = 8 → m ≤ n → ∀ g, G + 9 ≤ g + n → lev s g n i = .ok e (past s p clsB) := by
  intro k
  induction k with
  | zero =>
   intro n hn hm g hg
   obtain rfl : n = 8 := by omega
   obtain ⟨f, rfl⟩ : ∃ f, g = f + 1 := ⟨g - 1, by omega⟩
   rw [lev, if_neg (by decide), if_neg (by decide), if_neg (by decide), if_pos rfl, hbl, if_neg (by rw [hb]; decide), if_neg (by rw [hb]; decide), if_neg (by rw [b2]; decide), if_pos so, hp, h0 f (by omega)]
   dsimp only
   rw [if_pos hc]
  | succ k ih =>
   intro n hn hm g hg
   obtain ⟨f, rfl⟩ : ∃ f, g = f + 1 := ⟨g - 1, by omega⟩
   have hx := ih (n + 1) (by omega) (by omega) f (by omega)
   obtain ⟨f', rfl⟩ : ∃ f', f = f' + 1 := ⟨f - 1, by omega⟩
   rw [lev]
   by_cases n2 : n = 2
   ·
    subst n2
    rw [if_pos rfl, if_neg (by rw [sn]; decide)]; exact hx
   rw [if_neg n2]
   by_cases n6 : n = 6
   ·
    subst n6
    rw [if_pos rfl, if_neg (by rw [sm]; decide)]; exact hx
   rw [if_neg n6]
   by_cases n7 : n = 7
   ·
    subst n7
    rw [if_pos rfl, hx]
    dsimp only
    rw [prt, if_neg (by rw [hq.2.1]; decide), if_neg (by rw [hq.2.2]; decide)]
   rw [if_neg n7, if_neg (by omega), hx]
   dsimp only
   rw [chn, hq.1 n hm]
 exact fun n hm hn => key (8 - n) n (by omega) hm
theorem two_brk {s : ByteArray} {i q1 q2 G n0 : Nat} {o : ByteArray} {a b : E} (ho : (o, n0) ∈ ops) (hn : stands s i notB = false) (h1 : ∀ n, n0 + 1 ≤ n → n ≤ 8 → ∀ g, G + 9 ≤ g + n → lev s g n i = .ok a q1)
 (hb : Between s q1 o n0) (h2 : ∀ n, n ≤ 8 → ∀ g, G + 9 ≤ g + n → lev s g n (q1 + o.size) = .ok b q2) (hq : Quiet s q2 0) : ∀ g, G + 20 ≤ g → lev s g 0 i = .ok (.mk o nix Rd.nulT [a, b]) q2 := by
 have hn0 : n0 ≠ 2 ∧ n0 < 6 := by
  simp only [ops, List.mem_cons, Prod.mk.injEq, List.not_mem_nil, or_false] at ho
  omega
 have key : ∀ k n, n + k = n0 → ∀ g, G + 20 ≤ g + n → lev s g n i = .ok (.mk o nix Rd.nulT [a, b]) q2 := by
  intro k
  induction k with
  | zero =>
   intro n hk g hg
   obtain rfl : n = n0 := by omega
   obtain ⟨f, rfl⟩ : ∃ f, g = f + 1 := ⟨g - 1, by omega⟩
   obtain ⟨f', rfl⟩ : ∃ f', f = f' + 1 := ⟨f - 1, by omega⟩
   obtain ⟨f'', rfl⟩ : ∃ f'', f' = f'' + 1 := ⟨f' - 1, by omega⟩
   rw [lev, if_neg hn0.1, if_neg (by omega), if_neg (by omega), if_neg (by omega), h1 (n + 1) (Nat.le_refl _) (by omega) _ (by omega)]
   dsimp only
   rw [chn, hb.1]
   dsimp only
   rw [hb.2.2, h2 (n + 1) (by omega) _ (by omega)]
   dsimp only
   by_cases n3 : n = 3
   · rw [if_pos n3]
   · rw [if_neg n3, chn, hq.1 n (Nat.zero_le _)]
  | succ k ih =>
   intro n hk g hg
   obtain ⟨f, rfl⟩ : ∃ f, g = f + 1 := ⟨g - 1, by omega⟩
   have hx := ih (n + 1) (by omega) f (by omega)
   obtain ⟨f', rfl⟩ : ∃ f', f = f' + 1 := ⟨f - 1, by omega⟩
   rw [lev]
   by_cases n2 : n = 2
   ·
    subst n2
    rw [if_pos rfl, if_neg (by rw [hn]; decide)]; exact hx
   rw [if_neg n2, if_neg (by omega), if_neg (by omega), if_neg (by omega), hx]
   dsimp only
   rw [chn, hq.1 n (Nat.zero_le _)]
 exact fun g hg => key n0 0 (by omega) g (by omega)
theorem Emb.cls {s s' : ByteArray} {d p : Nat} (h : Emb s s' d) (hp : p ≤ s.size) (hb : Ex.bl s p = s.size) : Ex.stands s' (p + d) clsB = true ∧ Ex.past s' (p + d) clsB = s.size + d + 1 := by
 have h1 : Ex.bl s' (p + d) = s.size + d := by rw [h.bl hp, hb]
 obtain ⟨r, hr⟩ := h.drop (Nat.le_refl _)
 rw [show s.data.toList.drop s.size = [] from List.drop_of_length_le (by rw [size_toList]; exact Nat.le_refl _), List.nil_append] at hr
 refine ⟨?_, by unfold Ex.past; rw [h1]; rfl⟩
 unfold Ex.stands
 rw [h1, h.end_, if_neg (by decide)]
 unfold has
 rw [hr]; rfl
theorem cls_here {s : ByteArray} {q : Nat} {r : List UInt8} (h : s.data.toList.drop q = 41 :: r) : stands s q clsB = true ∧ past s q clsB = q + 1 := by
 have hb := bt_cons h
 have b1 : isBl (bt s q) = false := by rw [hb]; decide
 have b2 : isLt (bt s q) = false := by rw [hb]; decide
 exact ⟨by rw [sign_stands b1 b2, h]; rfl, sign_past b1 clsB⟩
theorem not_here {s : ByteArray} {q : Nat} {r : List UInt8} (h : s.data.toList.drop q = 40 :: r) : stands s q notB = false := by
 have hb := bt_cons h
 rw [sign_stands (by rw [hb]; decide) (by rw [hb]; decide), h]; rfl
theorem parse_in {s : ByteArray} {e : E} {p0 : Nat} (h : parse s = .ok e p0) : s.size ≤ 2048 ∧ p0 = 0 ∧ e.depth ≤ 32 ∧ ∃ p, top s 0 = .ok e p ∧ p ≤ s.size ∧ bl s p = s.size := by
 unfold parse at h
 split at h
 · cases h
 ·
  rename_i h1
  cases hx : top s 0 with
  | err q c => rw [hx] at h; cases h
  | out => rw [hx] at h; cases h
  | ok e' p =>
   rw [hx] at h
   dsimp only at h
   have hp := (top_le (Nat.zero_le _) hx).2
   split at h
   · cases h
   ·
    rename_i h2
    split at h
    · cases h
    ·
     rename_i h3
     injection h with h4 h5
     subst h4
     exact ⟨by omega, h5.symm, by omega, p, rfl, hp, by have := bl_le hp; omega⟩
theorem parse_of_top {s : ByteArray} {e : E} {p : Nat} (h1 : s.size ≤ 2048) (h2 : top s 0 = .ok e p) (h3 : s.size ≤ p) : parse s = if 32 < e.depth then .err 0 6 else .ok e 0 := by
 unfold parse
 rw [if_neg (by omega), h2]
 dsimp only
 rw [if_neg (by have := bl_ge s p; omega)]
theorem parse_brk {s s' : ByteArray} {e : E} {p0 : Nat} (h : parse s = .ok e p0) (hs : s'.data.toList = 40 :: 40 :: (s.data.toList ++ [41, 41])) (hz : s.size ≤ 2044) : parse s' = .ok e 0 := by
 obtain ⟨_, _, hd, p, ht, hp, hb⟩ := parse_in h
 have hsz : s'.size = s.size + 4 := by
  have h1 : s'.data.toList.length = s'.size := rfl
  have h2 : s.data.toList.length = s.size := rfl
  rw [hs] at h1
  simp at h1
  omega
 have he : Emb s s' 2 := ⟨[41], by rw [hs]; rfl⟩
 have hl : s.data.toList.length = s.size := rfl
 have d3 : s'.data.toList.drop (s.size + 3) = [41] := by
  rw [hs, show s.size + 3 = (s.size + 1) + 1 + 1 from rfl, List.drop_succ_cons, List.drop_succ_cons, ← hl, ← List.drop_drop, List.drop_left]; rfl
 have d0 : s'.data.toList.drop 0 = 40 :: 40 :: (s.data.toList ++ [41, 41]) := by rw [hs]; rfl
 have d1 : s'.data.toList.drop 1 = 40 :: (s.data.toList ++ [41, 41]) := by rw [hs]; rfl
 have h0 : ∀ g, many s ≤ g → lev s' g 0 (1 + 1) = .ok e (p + 2) := fun g hg => (emb_all he (many s)).1 0 0 e p (by omega) (Nat.zero_le _) ht g hg
 obtain ⟨c1, c2⟩ := he.cls hp hb
 have q1 : Quiet s' (past s' (p + 2) clsB) 0 := by rw [c2]; exact quiet_cls d3
 have k1 := brk (m := 0) (i := 1) (G := many s) (bt_cons d1) h0 c1 q1 0 (Nat.le_refl _) (by omega)
 rw [c2] at k1
 obtain ⟨c3, c4⟩ := cls_here d3
 have q2 : Quiet s' (past s' (s.size + 3) clsB) 0 := by rw [c4]; exact quiet_end (by omega)
 have k2 := brk (m := 0) (i := 0) (G := many s + 9) (bt_cons d0) (fun g hg => k1 g (by omega)) c3 q2 0 (Nat.le_refl _) (by omega)
 rw [c4] at k2
 have ht' : top s' 0 = .ok e (s.size + 3 + 1) := k2 _ (by unfold many; rw [hsz]; omega)
 rw [parse_of_top (by omega) ht' (by omega), if_neg (by omega)]
theorem parse_two {s t s' : ByteArray} {a b : E} {p0 p1 n0 : Nat} {o : ByteArray} (ho : (o, n0) ∈ ops) (hs : parse s = .ok a p0) (ht : parse t = .ok b p1)
 (hq : s'.data.toList = 40 :: (s.data.toList ++ 41 :: (o.data.toList ++ 40 :: (t.data.toList ++ [41])))) (hz : s.size + t.size ≤ 2040) : parse s' = if 32 < (E.mk o nix Rd.nulT [a, b]).depth then .err 0 6 else .ok (.mk o nix Rd.nulT [a, b]) 0 := by
 obtain ⟨_, _, _, p, hts, hp, hb⟩ := parse_in hs
 obtain ⟨_, _, _, q, htt, hqq, hbq⟩ := parse_in ht
 have hos : 1 ≤ o.size ∧ o.size ≤ 3 := by
  simp only [ops, List.mem_cons, Prod.mk.injEq, List.not_mem_nil, or_false] at ho
  rcases ho with ⟨rfl, _⟩ | ⟨rfl, _⟩ | ⟨rfl, _⟩ | ⟨rfl, _⟩ | ⟨rfl, _⟩ | ⟨rfl, _⟩ | ⟨rfl, _⟩ | ⟨rfl, _⟩ | ⟨rfl, _⟩ | ⟨rfl, _⟩ | ⟨rfl, _⟩ | ⟨rfl, _⟩ | ⟨rfl, _⟩ <;> decide
 have ls : s.data.toList.length = s.size := rfl
 have lt : t.data.toList.length = t.size := rfl
 have lo : o.data.toList.length = o.size := rfl
 have hsz : s'.size = s.size + t.size + o.size + 4 := by
  have h1 : s'.data.toList.length = s'.size := rfl
  rw [hq] at h1
  simp only [List.length_cons, List.length_append, List.length_nil, ls, lt, lo] at h1
  omega
 have e1 : Emb s s' 1 := ⟨_, by rw [hq]; rfl⟩
 have d0 : s'.data.toList.drop 0 = 40 :: _ := hq
 have dq : s'.data.toList.drop (s.size + 1 + 1) = o.data.toList ++ 40 :: (t.data.toList ++ [41]) := by
  rw [hq, show s.size + 1 + 1 = (s.size + 1) + 1 from rfl, List.drop_succ_cons, ← ls, ← List.drop_drop, List.drop_left]; rfl
 have dj : s'.data.toList.drop (s.size + 1 + 1 + o.size) = 40 :: (t.data.toList ++ [41]) := by
  rw [← List.drop_drop, dq, ← lo, List.drop_left]
 have e2 : Emb t s' (s.size + 1 + 1 + o.size + 1) := ⟨[], by rw [← List.drop_drop, dj]; rfl⟩
 have h0 : ∀ g, many s + many t ≤ g → lev s' g 0 (0 + 1) = .ok a (p + 1) := fun g hg => (emb_all e1 (many s)).1 0 0 a p (by omega) (Nat.zero_le _) hts g (by omega)
 obtain ⟨c1, c2⟩ := e1.cls hp hb
 have hbe := between_op ho (show s.size + 1 + 1 ≤ s'.size by omega) dq
 have q1 : Quiet s' (past s' (p + 1) clsB) (n0 + 1) := by rw [c2]; exact hbe.2.1
 have k1 := brk (m := n0 + 1) (i := 0) (G := many s + many t) (bt_cons d0) h0 c1 q1
 rw [c2] at k1
 have j0 : ∀ g, many s + many t ≤ g → lev s' g 0 (s.size + 1 + 1 + o.size + 1) = .ok b (q + (s.size + 1 + 1 + o.size + 1)) := fun g hg => by
  have := (emb_all e2 (many t)).1 0 0 b q (by omega) (Nat.zero_le _) htt g (by omega)
  rw [Nat.zero_add] at this
  exact this
 obtain ⟨c3, c4⟩ := e2.cls hqq hbq
 have q2 : Quiet s' (past s' (q + (s.size + 1 + 1 + o.size + 1)) clsB) 0 := by rw [c4]; exact quiet_end (by omega)
 have k2 := brk (m := 0) (i := s.size + 1 + 1 + o.size) (G := many s + many t) (bt_cons dj) j0 c3 q2
 rw [c4] at k2 q2
 have k3 := two_brk (i := 0) ho (not_here d0) k1 hbe (fun n hn => k2 n (Nat.zero_le _) hn) q2
 have ht' := k3 (many s') (by unfold many; omega)
 exact parse_of_top (by omega) ht' (by omega)
end Go.Proofs.YtofgmddlacenhaaGreatDoor.Ex
