/- A path's text, as a list of bytes: plain mathematics. -/
import Derived.Lib.Replace
import Derived.Lib.SplitLaws
namespace Go.Proofs.YtmcacmhjhejfeaaGreatDoor.Sl
open Go.Lib

theorem num_all (s old : List UInt8) : replaceNum s old (-1) = count s old := by
  unfold replaceNum; rw [if_pos (Or.inl (by decide))]
theorem all_eq {s old new : List UInt8} (h : old ≠ new) : replaceAll s old new = replaceK old new (count s old) s := by
  unfold replaceAll replace
  rw [if_neg (by intro e; exact h (beq_iff_eq.1 e)), num_all]
theorem len_pos {l : List UInt8} (h : l ≠ []) : 1 ≤ l.length := by
  cases l with
  | nil => exact absurd rfl h
  | cons a t => simp
theorem all_nil {old new : List UInt8} (h0 : old ≠ []) (h : old ≠ new) : replaceAll [] old new = [] := by
  rw [all_eq h]
  have : index [] old = -1 := by
    cases old with
    | nil => exact absurd rfl h0
    | cons a t => rfl
  rw [count_miss this]; rfl
theorem all_hit {b : UInt8} {l old new : List UInt8} (h0 : old ≠ []) (h : old ≠ new) (hp : old.isPrefixOf (b :: l) = true) : replaceAll (b :: l) old new = new ++ replaceAll ((b :: l).drop old.length) old new := by
  have hi : index (b :: l) old = ((0 : Nat) : Int) := by unfold index; rw [if_pos hp]; rfl
  rw [all_eq h, all_eq h, count_hit h0 hi, Nat.add_comm 1, replaceK_hit _ _ _ _ _ hi]
  simp
theorem all_miss {b : UInt8} {l old new : List UInt8} (h0 : old ≠ []) (h : old ≠ new) (hp : old.isPrefixOf (b :: l) = false) : replaceAll (b :: l) old new = b :: replaceAll l old new := by
  have hix : index (b :: l) old = if index l old == -1 then -1 else index l old + 1 := by rw [index, hp]; simp
  rw [all_eq h, all_eq h]
  by_cases hm : index l old = -1
  · rw [count_miss hm, count_miss (by rw [hix, if_pos (beq_iff_eq.2 hm)])]; rfl
  · have hge := index_ge l old
    obtain ⟨j, hj⟩ : ∃ j : Nat, index l old = j := ⟨(index l old).toNat, by omega⟩
    have hix' : index (b :: l) old = ((j + 1 : Nat) : Int) := by rw [hix, if_neg (fun e => hm (beq_iff_eq.1 e)), hj]; omega
    rw [count_hit h0 hj, count_hit h0 hix', Nat.add_comm 1, Nat.add_comm 1, replaceK_hit _ _ _ _ _ hj, replaceK_hit _ _ _ _ _ hix']
    rw [show j + 1 + old.length = (j + old.length) + 1 by omega, List.drop_succ_cons, List.take_succ_cons]
    rfl

/-- a step, written -/
def esc : List UInt8 → List UInt8
  | [] => []
  | b :: l => if b = 126 then 126 :: 48 :: esc l else if b = 47 then 126 :: 49 :: esc l else b :: esc l
def tild : List UInt8 → List UInt8
  | [] => []
  | b :: l => if b = 126 then 126 :: 48 :: tild l else b :: tild l
theorem pre_one (c b : UInt8) (l : List UInt8) : ([c] : List UInt8).isPrefixOf (b :: l) = (c == b) := by simp [List.isPrefixOf]
theorem tild_eq (s : List UInt8) : replaceAll s [126] [126, 48] = tild s := by
  induction s with
  | nil => exact all_nil (by decide) (by decide)
  | cons b l ih =>
    by_cases hb : b = 126
    · subst hb
      rw [all_hit (by decide) (by decide) (by rw [pre_one]; decide)]
      simp only [tild, if_true, List.length_cons, List.length_nil, List.drop_succ_cons, List.drop_zero, ih]; rfl
    · rw [all_miss (by decide) (by decide) (by rw [pre_one]; simpa using fun e => hb e.symm), ih]
      simp [tild, hb]
/-- what the program writes of a step -/
theorem esc_eq (s : List UInt8) : replaceAll (replaceAll s [126] [126, 48]) [47] [126, 49] = esc s := by
  rw [tild_eq]
  induction s with
  | nil => exact all_nil (by decide) (by decide)
  | cons b l ih =>
    by_cases hb : b = 126
    · subst hb
      rw [show tild (126 :: l) = 126 :: 48 :: tild l by simp [tild]]
      rw [all_miss (by decide) (by decide) (by rw [pre_one]; decide), all_miss (by decide) (by decide) (by rw [pre_one]; decide), ih]
      simp [esc]
    · rw [show tild (b :: l) = b :: tild l by simp [tild, hb]]
      by_cases hc : b = 47
      · subst hc
        rw [all_hit (by decide) (by decide) (by rw [pre_one]; decide)]
        simp only [List.length_cons, List.length_nil, List.drop_succ_cons, List.drop_zero, ih]
        simp [esc]
      · rw [all_miss (by decide) (by decide) (by rw [pre_one]; simpa using fun e => hc e.symm), ih]
        simp [esc, hb, hc]

/-- a step, read -/
def unesc : List UInt8 → List UInt8
  | [] => []
  | [b] => [b]
  | a :: b :: l => if a = 126 ∧ b = 48 then 126 :: unesc l else if a = 126 ∧ b = 49 then 47 :: unesc l else a :: unesc (b :: l)
theorem unesc_other {b : UInt8} (l : List UInt8) (h : b ≠ 126) : unesc (b :: l) = b :: unesc l := by
  cases l with
  | nil => rfl
  | cons c r => simp [unesc, h]
theorem pre_two (c d a b : UInt8) (l : List UInt8) : ([c, d] : List UInt8).isPrefixOf (a :: b :: l) = (c == a && d == b) := by simp [List.isPrefixOf]
theorem pre_short (c d a : UInt8) : ([c, d] : List UInt8).isPrefixOf [a] = false := by simp [List.isPrefixOf]
theorem pre_head (c d a : UInt8) (l : List UInt8) (h : c ≠ a) : ([c, d] : List UInt8).isPrefixOf (a :: l) = false := by simp [List.isPrefixOf, h]
theorem slash_head (b : UInt8) (l : List UInt8) (h : b ≠ 48) : ∃ c r, replaceAll (b :: l) [126, 49] [47] = c :: r ∧ c ≠ 48 := by
  by_cases hp : ([126, 49] : List UInt8).isPrefixOf (b :: l) = true
  · rw [all_hit (by decide) (by decide) hp]; exact ⟨47, _, rfl, by decide⟩
  · rw [all_miss (by decide) (by decide) (Bool.eq_false_iff.2 hp)]; exact ⟨b, _, rfl, h⟩
/-- what the program reads of a step -/
theorem unesc_eq : ∀ n (s : List UInt8), s.length ≤ n → replaceAll (replaceAll s [126, 49] [47]) [126, 48] [126] = unesc s := by
  intro n
  induction n with
  | zero =>
    intro s hs
    obtain rfl : s = [] := List.length_eq_zero_iff.1 (by omega)
    rw [all_nil (by decide) (by decide), all_nil (by decide) (by decide)]; rfl
  | succ n ih =>
    intro s hs
    match s, hs with
    | [], _ => rw [all_nil (by decide) (by decide), all_nil (by decide) (by decide)]; rfl
    | [b], _ =>
      rw [all_miss (by decide) (by decide) (pre_short _ _ _), all_nil (by decide) (by decide), all_miss (by decide) (by decide) (pre_short _ _ _), all_nil (by decide) (by decide)]; rfl
    | a :: b :: l, hs =>
      simp only [List.length_cons] at hs
      by_cases ha : a = 126
      · subst ha
        by_cases h1 : b = 49
        · subst h1
          rw [all_hit (by decide) (by decide) (by rw [pre_two]; decide)]
          simp only [List.length_cons, List.length_nil, List.drop_succ_cons, List.drop_zero, List.singleton_append]
          rw [all_miss (by decide) (by decide) (pre_head _ _ _ _ (by decide)), ih l (by omega)]
          simp [unesc]
        · by_cases h0 : b = 48
          · subst h0
            rw [all_miss (by decide) (by decide) (by rw [pre_two]; decide), all_miss (b := 48) (l := l) (by decide) (by decide) (pre_head _ _ _ _ (by decide)), all_hit (by decide) (by decide) (by rw [pre_two]; decide)]
            simp only [List.length_cons, List.length_nil, List.drop_succ_cons, List.drop_zero, List.singleton_append]
            rw [ih l (by omega)]
            simp [unesc]
          · rw [all_miss (by decide) (by decide) (by rw [pre_two]; simpa using fun e => h1 e.symm)]
            obtain ⟨c, r, hc, hc0⟩ := slash_head b l h0
            have hi := ih (b :: l) (by simp only [List.length_cons]; omega)
            rw [hc] at hi ⊢
            rw [all_miss (by decide) (by decide) (by rw [pre_two]; simpa using fun e => hc0 e.symm), hi]
            simp [unesc, h0, h1]
      · rw [all_miss (by decide) (by decide) (pre_head _ _ _ _ fun e => ha e.symm), all_miss (by decide) (by decide) (pre_head _ _ _ _ fun e => ha e.symm), ih (b :: l) (by simp only [List.length_cons]; omega), unesc_other _ ha]
theorem unesc_esc (s : List UInt8) : unesc (esc s) = s := by
  induction s with
  | nil => rfl
  | cons b l ih =>
    by_cases hb : b = 126
    · subst hb; simp [esc, unesc, ih]
    · by_cases hc : b = 47
      · subst hc; simp [esc, unesc, ih]
      · rw [show esc (b :: l) = b :: esc l by simp [esc, hb, hc], unesc_other _ hb, ih]
theorem esc_no (s : List UInt8) : ∀ x ∈ esc s, x ≠ 47 := by
  induction s with
  | nil => intro x hx; cases hx
  | cons b l ih =>
    intro x hx
    unfold esc at hx
    split at hx
    · rcases List.mem_cons.1 hx with rfl | hx
      · decide
      · rcases List.mem_cons.1 hx with rfl | hx
        · decide
        · exact ih x hx
    · split at hx
      · rcases List.mem_cons.1 hx with rfl | hx
        · decide
        · rcases List.mem_cons.1 hx with rfl | hx
          · decide
          · exact ih x hx
      · rename_i h1 h2
        rcases List.mem_cons.1 hx with rfl | hx
        · exact h2
        · exact ih x hx

/-- cut at each / -/
def cut : List UInt8 → List (List UInt8)
  | [] => [[]]
  | b :: l => if b = 47 then [] :: cut l else match cut l with
    | [] => [[b]]
    | p :: r => (b :: p) :: r
theorem cut_ne (s : List UInt8) : cut s ≠ [] := by
  cases s with
  | nil => simp [cut]
  | cons b l =>
    unfold cut
    split
    · simp
    · split <;> simp
theorem cut_slash (l : List UInt8) : cut (47 :: l) = [] :: cut l := by simp [cut]
theorem cut_other {b : UInt8} {l p : List UInt8} {r : List (List UInt8)} (h : b ≠ 47) (hl : cut l = p :: r) : cut (b :: l) = (b :: p) :: r := by
  simp [cut, h, hl]
theorem cut_app (x y : List UInt8) (hx : ∀ b ∈ x, b ≠ 47) : cut (x ++ 47 :: y) = x :: cut y := by
  induction x with
  | nil => exact cut_slash y
  | cons b l ih => exact cut_other (hx b (by simp)) (ih fun c hc => hx c (by simp [hc]))
theorem cut_one (x : List UInt8) (hx : ∀ b ∈ x, b ≠ 47) : cut x = [x] := by
  induction x with
  | nil => rfl
  | cons b l ih => exact cut_other (hx b (by simp)) (ih fun c hc => hx c (by simp [hc]))
theorem split_eq (s : List UInt8) : split s [47] = cut s := by
  unfold split
  induction s with
  | nil => rw [count_miss (by simp [index])]; rfl
  | cons b l ih =>
    by_cases hb : b = 47
    · subst hb
      have hi : index ((47 : UInt8) :: l) [47] = ((0 : Nat) : Int) := by rw [index]; simp [List.isPrefixOf]
      rw [count_cons_eq, Nat.add_comm 1, cut_slash, ← ih]
      rw [splitK, if_neg (by rw [hi]; decide), hi]
      rfl
    · have hp : ([47] : List UInt8).isPrefixOf (b :: l) = false := by rw [pre_one]; simpa using fun e => hb e.symm
      have hix : index (b :: l) [47] = if index l [47] == -1 then -1 else index l [47] + 1 := by rw [index, hp]; simp
      rw [count_cons_ne b 47 l hb]
      by_cases hm : index l [47] = -1
      · rw [count_miss hm] at ih ⊢
        exact (cut_other hb (show cut l = l :: [] from ih.symm)).symm
      · have hge := index_ge l [47]
        obtain ⟨j, hj⟩ : ∃ j : Nat, index l [47] = j := ⟨(index l [47]).toNat, by omega⟩
        have hix' : index (b :: l) [47] = ((j + 1 : Nat) : Int) := by rw [hix, if_neg (fun e => hm (beq_iff_eq.1 e)), hj]; omega
        rw [count_hit (by simp) hj, Nat.add_comm 1] at ih ⊢
        rw [splitK, if_neg (by rw [hj, beq_iff_eq]; omega), hj] at ih
        rw [splitK, if_neg (by rw [hix', beq_iff_eq]; omega), hix']
        rw [cut_other hb ih.symm]
        rw [show ((((j : Nat) : Int)).toNat) = j by omega, show ((((j + 1 : Nat) : Int)).toNat) = j + 1 by omega, show j + 1 + 0 = (j + 0) + 1 by omega, show j + 1 + ([47] : List UInt8).length = (j + ([47] : List UInt8).length) + 1 by omega, List.take_succ_cons, List.drop_succ_cons]
        rfl

/-- a path's text -/
def txt : List (List UInt8) → List UInt8
  | [] => []
  | x :: r => 47 :: (esc x ++ txt r)
/-- the steps of what follows the first / -/
theorem cut_txt (x : List UInt8) (r : List (List UInt8)) : cut (esc x ++ txt r) = esc x :: r.map esc := by
  induction r generalizing x with
  | nil => rw [txt, List.append_nil]; exact cut_one _ (esc_no x)
  | cons y r ih => rw [txt, cut_app _ _ (esc_no x), ih y]; rfl
theorem back (x : List UInt8) (r : List (List UInt8)) : (cut (esc x ++ txt r)).map unesc = x :: r := by
  rw [cut_txt]
  simp only [List.map_cons, List.map_map, unesc_esc]
  congr 1
  induction r with
  | nil => rfl
  | cons y r ih => simp only [List.map_cons, Function.comp, unesc_esc]; congr 1
/-- every ~ is one of a written step -/
def formd : List UInt8 → Bool
  | [] => true
  | [b] => b != 126
  | a :: b :: l => if a = 126 then (b == 48 || b == 49) && formd l else formd (b :: l)
theorem formd_other {b : UInt8} (l : List UInt8) (h : b ≠ 126) : formd (b :: l) = formd l := by
  cases l with
  | nil => simp [formd, h]
  | cons c r => simp [formd, h]
theorem formd_esc (x y : List UInt8) : formd (esc x ++ y) = formd y := by
  induction x with
  | nil => rfl
  | cons b l ih =>
    by_cases hb : b = 126
    · subst hb; simp [esc, formd, ih]
    · by_cases hc : b = 47
      · subst hc; simp [esc, formd, ih]
      · rw [show esc (b :: l) = b :: esc l by simp [esc, hb, hc], List.cons_append, formd_other _ hb, ih]
theorem formd_txt (r : List (List UInt8)) : formd (txt r) = true := by
  induction r with
  | nil => rfl
  | cons x r ih => rw [txt, formd_other _ (by decide), formd_esc, ih]
end Go.Proofs.YtmcacmhjhejfeaaGreatDoor.Sl
