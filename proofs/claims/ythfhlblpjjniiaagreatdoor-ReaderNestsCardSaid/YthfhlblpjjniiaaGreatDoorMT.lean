/- Arrays in one another: plain mathematics. A value's text is no longer than what it was read of: plain mathematics (the tokens). A value's text is no longer than what it was read of: plain mathematics. What is read is a value: plain mathematics. Ref: the program's value as the document's. Sizes and depths: contracts of the program's and the reference's. -/
import Derived.Test.YthfhlblpjjniiaaGreatDoorMN
import Derived.Test.YthfhlblpjjniiaaGreatDoorML
import Derived.Test.YthfhlblpjjniiaaGreatDoorMA
import Derived.Test.YthfhlblpjjniiaaGreatDoorMJ
import Derived.Test.YthfhlblpjjniiaaGreatDoorMG
namespace Go.Proofs.YthfhlblpjjniiaaGreatDoor.Rd
open Tk Pl
set_option linter.unusedVariables false

def mk91 (i : Nat) : Tok := ⟨1, Tk.one 91, 0, i, i + 1⟩
theorem is91 (i : Nat) : isM (mk91 i) 91 := ⟨rfl, rfl⟩
theorem not93 (i : Nat) : ¬ isM (mk91 i) 93 := says_not (a := 91) 93 ⟨rfl, rfl, rfl⟩ (by decide)
theorem from_91 (O : List (ByteArray × T) → T) (s : ByteArray) (n room i : Nat) : fromF O s (n + 1) room (mk91 i) = if room = 0 then .err i 6 else match next s (i + 1) with
      | .err p c => .err p c
      | .tok u => if isM u 93 then .val (arrT []) u.fin else itemsF O s n (room - 1) u [] := by
  have h1 := is91 i
  rw [fromF]
  rw [if_neg (show ¬ (mk91 i).kind = 6 from (by decide : ¬ (1 : Int) = 6)), if_neg (show ¬ ((mk91 i).kind = 4 ∨ (mk91 i).kind = 5) from (by decide : ¬ ((1 : Int) = 4 ∨ (1 : Int) = 5))), if_neg (show ¬ (mk91 i).kind = 3 from (by decide : ¬ (1 : Int) = 3)), if_neg (show ¬ (mk91 i).kind = 2 from (by decide : ¬ (1 : Int) = 2)), if_neg (fun hh => hh.1 h1)]
  simp only [if_pos h1]
  rfl
theorem next_91 {s : ByteArray} {i : Nat} (h : bt s i = 91) : next s i = .tok (mk91 i) := next_mark 91 h rfl
/-- too deep at the first one too many -/
theorem nest_deep (O : List (ByteArray × T) → T) {s : ByteArray} {m : Nat} (hs : ∀ i, i < m → bt s i = 91) : ∀ (room i n : Nat), i + room < m → 2 * room + 1 ≤ n → fromF O s n room (mk91 i) = .err (i + room) 6 := by
  intro room
  induction room with
  | zero =>
    intro i n h hn
    obtain ⟨n, rfl⟩ : ∃ k, n = k + 1 := ⟨n - 1, by omega⟩
    rw [from_91, if_pos rfl]; rfl
  | succ room ih =>
    intro i n h hn
    obtain ⟨n, rfl⟩ : ∃ k, n = k + 2 := ⟨n - 2, by omega⟩
    rw [from_91, if_neg (by omega), next_91 (hs (i + 1) (by omega))]
    dsimp only
    rw [if_neg (not93 _), itemsF, show room + 1 - 1 = room by omega, ih (i + 1) n (by omega) (by omega)]
    dsimp only
    rw [show i + 1 + room = i + (room + 1) by omega]
/-- none of them ends -/
theorem nest_open (O : List (ByteArray × T) → T) {s : ByteArray} (hs : ∀ i, i < s.size → bt s i = 91) : ∀ (k i room n : Nat), i + k + 1 = s.size → k < room → 2 * k + 4 ≤ n → fromF O s n room (mk91 i) = .err s.size 1 := by
  intro k
  induction k with
  | zero =>
    intro i room n h hr hn
    obtain ⟨n, rfl⟩ : ∃ k, n = k + 3 := ⟨n - 3, by omega⟩
    rw [from_91, if_neg (by omega), show i + 1 = s.size by omega, next_end]
    dsimp only
    have n0 : ∀ c, ¬ isM (⟨0, nix, 0, s.size, s.size⟩ : Tok) c := fun c h => absurd h.1 (show ¬ (0 : Int) = 1 by decide)
    rw [if_neg (n0 93), itemsF, fromF]
    rw [if_neg (show ¬ (0 : Int) = 6 by decide), if_neg (show ¬ ((0 : Int) = 4 ∨ (0 : Int) = 5) by decide), if_neg (show ¬ (0 : Int) = 3 by decide), if_neg (show ¬ (0 : Int) = 2 by decide), if_pos ⟨n0 91, n0 123⟩]
  | succ k ih =>
    intro i room n h hr hn
    obtain ⟨n, rfl⟩ : ∃ k, n = k + 2 := ⟨n - 2, by omega⟩
    rw [from_91, if_neg (by omega), next_91 (hs (i + 1) (by omega))]
    dsimp only
    rw [if_neg (not93 _), itemsF, ih (i + 1) (room - 1) n (by omega) (by omega) (by omega)]
theorem whole_deep (O : List (ByteArray × T) → T) {s : ByteArray} {m room : Nat} (hs : ∀ i, i < m → bt s i = 91) (hm : room < m) : whole O s room = .err room 6 := by
  have hsz : m ≤ s.size := by
    have := lt_of_bt (s := s) (i := m - 1) (by rw [hs (m - 1) (by omega)]; decide)
    omega
  unfold whole
  rw [next_91 (hs 0 (by omega))]
  dsimp only
  rw [nest_deep O hs room 0 (many s) (by omega) (by unfold many; omega), Nat.zero_add]
theorem whole_open (O : List (ByteArray × T) → T) {s : ByteArray} {room : Nat} (hs : ∀ i, i < s.size → bt s i = 91) (h0 : 0 < s.size) (hm : s.size ≤ room) : whole O s room = .err s.size 1 := by
  unfold whole
  rw [next_91 (hs 0 h0)]
  dsimp only
  rw [nest_open O hs (s.size - 1) 0 room (many s) (by omega) (by omega) (by unfold many; omega)]
/-- so many arrays in one another -/
def nestT : Nat → T
  | 0 => arrT []
  | n + 1 => arrT [nestT n]
theorem nest_depth : ∀ n, (nestT n).depth = n + 1
  | 0 => by simp [nestT, arrT, T.depth, T.depths]
  | n + 1 => by
    have e : (nestT (n + 1)).depth = 1 + max (nestT n).depth 0 := by rw [nestT, arrT, T.depth]; simp [T.depths]
    rw [e, nest_depth n]; omega
theorem nest_txt : ∀ n, (nestT n).txt = List.replicate (n + 1) 91 ++ List.replicate (n + 1) 93
  | 0 => rfl
  | n + 1 => by
    have e : (nestT (n + 1)).txt = 91 :: ((nestT n).txt ++ [93]) := by
      rw [T.txt_eq]
      show 91 :: (T.txts [] [nestT n] 0 ++ [93]) = _
      rw [txts_cons, T.txts]
      show 91 :: ([] ++ ([] ++ ((nestT n).txt ++ [])) ++ [93]) = _
      simp
    rw [e, nest_txt n, List.append_assoc, ← List.replicate_succ', ← List.cons_append, ← List.replicate_succ (n := n + 1)]
end Go.Proofs.YthfhlblpjjniiaaGreatDoor.Rd
namespace Go.Proofs.YthfhlblpjjniiaaGreatDoor.Rd
open Tk Pl
set_option linter.unusedVariables false

theorem itoa_le {L : List UInt8} (h : De.form L = true) : (Lib.itoa (De.numL L)).length ≤ L.length := by
  obtain ⟨h0, h1⟩ := De.form_digs h
  have h2 := De.decF_lt _ h1
  obtain ⟨k, hk⟩ : ∃ k, (De.digs L).length = k + 1 := ⟨(De.digs L).length - 1, by have := List.length_pos_iff.2 h0; omega⟩
  rw [hk] at h2
  have h3 := De.dec_len h2
  have hl : L.head? = some 45 → L.length = k + 2 := fun hh => by
    have : De.digs L = L.tail := if_pos hh
    rw [this, List.length_tail] at hk
    omega
  have hl2 : ¬ L.head? = some 45 → L.length = k + 1 := fun hh => by
    have : De.digs L = L := if_neg hh
    rw [this] at hk
    exact hk
  unfold De.numL Lib.itoa
  generalize De.decF 0 (De.digs L) = N at *
  split
  · rename_i hh
    have := hl hh
    split
    · rw [List.length_cons, show (-(N : Int)).natAbs = N by omega]; omega
    · rw [show (-(N : Int)).toNat = N by omega]; omega
  · rename_i hh
    have := hl2 hh
    rw [if_neg (by omega), show ((N : Int)).toNat = N by omega]; omega
theorem tok_num {s : ByteArray} {i : Nat} {t : Tok} (h : next s i = .tok t) (hk : t.kind = 3) : (Lib.itoa t.num).length + t.at_ ≤ t.fin := by
  have h' : ansAt s (span isBl s i) = .tok t := h
  generalize span isBl s i = a at h'
  unfold ansAt at h'
  split at h'
  · injection h' with h'; subst h'; exact absurd hk (show ¬ (0 : Int) = 3 by decide)
  split at h'
  · injection h' with h'; subst h'; exact absurd hk (show ¬ (1 : Int) = 3 by decide)
  split at h'
  · unfold strAns at h'
    split at h'
    · injection h' with h'; subst h'; exact absurd hk (show ¬ (2 : Int) = 3 by decide)
    · cases h'
  split at h'
  · unfold numAns at h'
    split at h'
    · cases h'
    rename_i hb
    split at h'
    · cases h'
    split at h'
    · cases h'
    split at h'
    · cases h'
    split at h'
    · injection h' with h'; subst h'
      have hb' : intB s a = true := by simpa using hb
      obtain ⟨f1, f2, f3⟩ := num_form hb'
      have := itoa_le f1
      have hlen : (sub s a (intE s a)).data.toList.length = intE s a - a := by
        rw [sub_list, List.length_take, List.length_drop, size_toList]; omega
      show (Lib.itoa (De.numL (sub s a (intE s a)).data.toList)).length + a ≤ intE s a
      omega
    · cases h'
  split at h'
  · unfold wordAns at h'
    split at h'
    · injection h' with h'; subst h'
      have hk2 : kindOf (bt s a) = 3 := hk
      unfold kindOf at hk2
      split at hk2
      · omega
      split at hk2 <;> omega
    · cases h'
  · cases h'
theorem tok_word {s : ByteArray} {i : Nat} {t : Tok} (h : next s i = .tok t) (hk : t.kind = 4 ∨ t.kind = 5 ∨ t.kind = 6) : t.fin = t.at_ + (if t.kind = 5 then 5 else 4) := by
  have h' : ansAt s (span isBl s i) = .tok t := h
  generalize span isBl s i = a at h'
  unfold ansAt at h'
  split at h'
  · injection h' with h'; subst h'; exact absurd hk (show ¬ ((0 : Int) = 4 ∨ (0 : Int) = 5 ∨ (0 : Int) = 6) by decide)
  split at h'
  · injection h' with h'; subst h'; exact absurd hk (show ¬ ((1 : Int) = 4 ∨ (1 : Int) = 5 ∨ (1 : Int) = 6) by decide)
  split at h'
  · unfold strAns at h'
    split at h'
    · injection h' with h'; subst h'; exact absurd hk (show ¬ ((2 : Int) = 4 ∨ (2 : Int) = 5 ∨ (2 : Int) = 6) by decide)
    · cases h'
  split at h'
  · unfold numAns at h'
    repeat' split at h'
    all_goals first
      | (injection h' with h'; subst h'; exact absurd hk (show ¬ ((3 : Int) = 4 ∨ (3 : Int) = 5 ∨ (3 : Int) = 6) by decide))
      | cases h'
  split at h'
  · rename_i hc
    unfold wordAns at h'
    split at h'
    · injection h' with h'; subst h'
      show a + (wordOf (bt s a)).length = a + (if kindOf (bt s a) = 5 then 5 else 4)
      generalize bt s a = c at *
      rcases hc with rfl | rfl | rfl <;> rfl
    · cases h'
  · cases h'
end Go.Proofs.YthfhlblpjjniiaaGreatDoor.Rd
namespace Go.Proofs.YthfhlblpjjniiaaGreatDoor.Rd
open Tk Pl
set_option linter.unusedVariables false

def sumA : List T → Nat
  | [] => 0
  | x :: r => x.txt.length + 1 + sumA r
def sumO : List (ByteArray × T) → Nat
  | [] => 0
  | x :: r => (Q.quo x.1.data.toList).length + 1 + x.2.txt.length + 1 + sumO r
theorem sumO_perm {a b : List (ByteArray × T)} (h : a.Perm b) : sumO a = sumO b := by
  induction h with
  | nil => rfl
  | cons x h ih => simp only [sumO, ih]
  | swap x y l => simp only [sumO]; omega
  | trans h1 h2 ih1 ih2 => exact ih1.trans ih2
theorem txts_sumA : ∀ (l : List T) (i : Nat), (T.txts [] l (i + 1)).length = sumA l
  | [], i => by rw [T.txts]; rfl
  | x :: r, i => by
    rw [txts_cons, sumA]
    simp only [List.length_append, txts_sumA r (i + 1), show comma (i + 1) = [44] from rfl, show keyPart [] (i + 1) = [] from rfl, List.length_singleton, List.length_nil]; omega
theorem arr_len (l : List T) : (arrT l).txt.length = if l = [] then 2 else 1 + sumA l := by
  have e : (arrT l).txt = 91 :: (T.txts [] l 0 ++ [93]) := by rw [T.txt_eq]; rfl
  rw [e]
  cases l with
  | nil => rw [T.txts]; rfl
  | cons x r =>
    rw [txts_cons, if_neg (by simp), sumA]
    simp only [List.length_cons, List.length_append, txts_sumA r 0, show comma 0 = [] from rfl, show keyPart [] 0 = [] from rfl, List.length_nil]; omega
theorem txts_sumO (ks : List ByteArray) : ∀ (l : List T) (i : Nat), ks.length = i + l.length → (T.txts ks l i).length + (if i = 0 ∧ l ≠ [] then 1 else 0) = sumO ((ks.drop i).zip l)
  | [], i, h => by rw [T.txts, List.zip_nil_right, if_neg (by simp)]; rfl
  | x :: r, i, h => by
    have hi : i < ks.length := by rw [h, List.length_cons]; omega
    have h1 := txts_sumO ks r (i + 1) (by rw [h, List.length_cons]; omega)
    rw [if_neg (by omega)] at h1
    have ek : keyPart ks i = Q.quo (ks[i]).data.toList ++ [58] := by unfold keyPart; rw [List.getElem?_eq_getElem hi]; dsimp only; rw [quo_data]
    rw [txts_cons, List.drop_eq_getElem_cons hi, List.zip_cons_cons, sumO, ← h1, ek]
    simp only [List.length_append, List.length_singleton]
    unfold comma
    split
    · rename_i h0; rw [if_pos ⟨h0, by simp⟩]; simp only [List.length_nil]; omega
    · rename_i h0; rw [if_neg (by simp [h0])]; simp only [List.length_singleton]; omega
theorem Ob_zip {m : List (ByteArray × T)} (hn : (m.map Prod.fst).Nodup) : ((Ob m).keys.zip (Ob m).items).Perm m := by
  rw [Ob_eq]
  show ((srt (m.map Prod.fst)).zip ((srt (m.map Prod.fst)).map (lk m))).Perm m
  have e : ∀ l : List ByteArray, l.zip (l.map (lk m)) = l.map fun k => (k, lk m k) := fun l => by
    induction l with
    | nil => rfl
    | cons k l ih => rw [List.map_cons, List.zip_cons_cons, ih, List.map_cons]
  rw [e]
  have h1 : ((srt (m.map Prod.fst)).map fun k => (k, lk m k)).Perm ((m.map Prod.fst).map fun k => (k, lk m k)) := (srt_perm _).map _
  have h2 : (m.map Prod.fst).map (fun k => (k, lk m k)) = m := by
    rw [List.map_map]
    conv => rhs; rw [← List.map_id m]
    apply List.map_congr_left
    rintro ⟨q, x⟩ hx
    show (q, lk m q) = (q, x)
    rw [lk_mem hn hx]
  rw [h2] at h1
  exact h1
theorem obj_len {m : List (ByteArray × T)} (hn : (m.map Prod.fst).Nodup) (hm : m ≠ []) : (Ob m).txt.length = 1 + sumO m := by
  have e : (Ob m).txt = 123 :: (T.txts (Ob m).keys (Ob m).items 0 ++ [125]) := by rw [T.txt_eq]; rfl
  have hp := Ob_zip hn
  have hl : (Ob m).keys.length = (Ob m).items.length := by rw [Ob_eq]; show (srt _).length = (List.map _ (srt _)).length; rw [List.length_map]
  have h1 := txts_sumO (Ob m).keys (Ob m).items 0 (by rw [hl, Nat.zero_add])
  rw [List.drop_zero, sumO_perm hp] at h1
  have hne : (Ob m).items ≠ [] := fun h0 => by
    rw [h0, List.zip_nil_right] at hp
    exact hm (List.Perm.nil_eq hp).symm
  rw [if_pos ⟨rfl, hne⟩] at h1
  rw [e]
  simp only [List.length_cons, List.length_append, List.length_nil]
  omega
theorem from_len (s : ByteArray) : ∀ n, (∀ room i t v e, i ≤ s.size → next s i = .tok t → fromF Ob s n room t = .val v e → v.txt.length + t.at_ ≤ e ∧ e ≤ s.size) ∧ (∀ room i t acc v e, i ≤ s.size → next s i = .tok t → itemsF Ob s n room t acc = .val v e → ∃ l, l ≠ [] ∧ v = arrT (acc ++ l) ∧ sumA l + t.at_ ≤ e ∧ e ≤ s.size) ∧ (∀ room i t acc v e, i ≤ s.size → next s i = .tok t → (acc.map Prod.fst).Nodup → membsF Ob s n room t acc = .val v e → ∃ l, l ≠ [] ∧ v = Ob (acc ++ l) ∧ ((acc ++ l).map Prod.fst).Nodup ∧ sumO l + t.at_ ≤ e ∧ e ≤ s.size) := by
  intro n
  induction n with
  | zero => exact ⟨fun _ _ _ _ _ _ _ h => (by rw [fromF] at h; cases h), fun _ _ _ _ _ _ _ _ h => (by rw [itemsF] at h; cases h), fun _ _ _ _ _ _ _ _ _ h => (by rw [membsF] at h; cases h)⟩
  | succ n ih =>
    obtain ⟨ih1, ih2, ih3⟩ := ih
    refine ⟨fun room i t v e hi ht h => ?_, fun room i t acc v e hi ht h => ?_, fun room i t acc v e hi ht hnd h => ?_⟩
    · obtain ⟨⟨o1, o2, o3⟩, _⟩ := ok_next hi ht
      rw [fromF] at h
      split at h
      · rename_i hk
        injection h with h1 h2; subst h1 h2
        have := tok_word ht (.inr (.inr hk))
        rw [if_neg (by omega)] at this
        exact ⟨by rw [this]; show 4 + _ ≤ _; omega, o2⟩
      split at h
      · rename_i hk
        injection h with h1 h2; subst h1 h2
        have := tok_word ht (by omega)
        refine ⟨?_, o2⟩
        rcases hk with hk | hk
        · rw [if_neg (by omega)] at this
          rw [this, hk]; show 4 + _ ≤ _; omega
        · rw [if_pos hk] at this
          rw [this, hk]; show 5 + _ ≤ _; omega
      split at h
      · rename_i hk
        injection h with h1 h2; subst h1 h2
        exact ⟨tok_num ht hk, o2⟩
      split at h
      · rename_i hk
        injection h with h1 h2; subst h1 h2
        have := tok_quo ht hk
        rw [← quo_data] at this
        exact ⟨this, o2⟩
      split at h
      · cases h
      rename_i hm
      have hk : t.kind ≠ 0 := by
        by_cases h91 : isM t 91
        · exact mark_ne h91
        · by_cases h123 : isM t 123
          · exact mark_ne h123
          · exact absurd ⟨h91, h123⟩ hm
      have o4 := o3 hk
      split at h
      · cases h
      split at h
      · cases h
      rename_i u hu
      obtain ⟨⟨b1, b2, b3⟩, b4⟩ := ok_next o2 hu
      split at h
      · split at h
        · rename_i hm2
          injection h with h1 h2; subst h1 h2
          have := b3 (mark_ne hm2)
          rw [arr_len, if_pos rfl]
          exact ⟨by omega, b2⟩
        · obtain ⟨l, l1, l2, l3, l4⟩ := ih2 _ _ _ _ _ _ o2 hu h
          rw [l2, List.nil_append, arr_len, if_neg l1]
          exact ⟨by omega, l4⟩
      · split at h
        · rename_i hm2
          injection h with h1 h2; subst h1 h2
          have := b3 (mark_ne hm2)
          rw [Ob_nil]
          exact ⟨by show 2 + _ ≤ _; omega, b2⟩
        · obtain ⟨l, l1, l2, l5, l3, l4⟩ := ih3 _ _ _ _ _ _ o2 hu (by simp) h
          rw [List.nil_append] at l2 l5
          rw [l2, obj_len l5 l1]
          exact ⟨by omega, l4⟩
    · rw [itemsF] at h
      split at h
      · cases h
      · cases h
      rename_i x a hx
      obtain ⟨g1, g2⟩ := ih1 _ _ _ _ _ hi ht hx
      split at h
      · cases h
      rename_i u hu
      obtain ⟨⟨b1, b2, b3⟩, b4⟩ := ok_next g2 hu
      split at h
      · rename_i hm2
        injection h with h1 h2; subst h1 h2
        have := b3 (mark_ne hm2)
        exact ⟨[x], by simp, rfl, by simp only [sumA]; omega, b2⟩
      split at h
      · cases h
      rename_i hm2
      have := b3 (mark_ne (Classical.not_not.1 hm2))
      split at h
      · cases h
      rename_i y hy
      obtain ⟨⟨c1, c2, c3⟩, c4⟩ := ok_next b2 hy
      obtain ⟨l, l1, l2, l3, l4⟩ := ih2 _ _ _ _ _ _ b2 hy h
      exact ⟨x :: l, by simp, by rw [l2, List.append_assoc]; rfl, by simp only [sumA]; omega, l4⟩
    · obtain ⟨⟨o1, o2, o3⟩, _⟩ := ok_next hi ht
      rw [membsF] at h
      split at h
      · cases h
      rename_i hk
      have hk2 : t.kind = 2 := Classical.not_not.1 hk
      have hq := tok_quo ht hk2
      split at h
      · cases h
      rename_i hno
      have hnd2 : ∀ x : T, ((acc ++ [(t.text, x)]).map Prod.fst).Nodup := fun x => by
        rw [List.map_append, List.nodup_append]
        refine ⟨hnd, by simp, fun a ha b hb => ?_⟩
        have : b = t.text := by simpa using hb
        subst this
        intro hab
        exact hno (hasK_iff.2 (hab ▸ ha))
      split at h
      · cases h
      rename_i u hu
      obtain ⟨⟨b1, b2, b3⟩, b4⟩ := ok_next o2 hu
      split at h
      · cases h
      rename_i hm1
      have d1 := b3 (mark_ne (Classical.not_not.1 hm1))
      split at h
      · cases h
      rename_i w hw
      obtain ⟨_, c4⟩ := ok_next b2 hw
      split at h
      · cases h
      · cases h
      rename_i x a hx
      obtain ⟨g1, g2⟩ := ih1 _ _ _ _ _ b2 hw hx
      split at h
      · cases h
      rename_i y hy
      obtain ⟨⟨f1, f2, f3⟩, f4⟩ := ok_next g2 hy
      split at h
      · rename_i hm2
        injection h with h1 h2; subst h1 h2
        have := f3 (mark_ne hm2)
        exact ⟨[(t.text, x)], by simp, rfl, hnd2 x, by simp only [sumO]; omega, f2⟩
      split at h
      · cases h
      rename_i hm2
      have := f3 (mark_ne (Classical.not_not.1 hm2))
      split at h
      · cases h
      rename_i z hz
      obtain ⟨_, k4⟩ := ok_next f2 hz
      obtain ⟨l, l1, l2, l5, l3, l4⟩ := ih3 _ _ _ _ _ _ f2 hz (hnd2 x) h
      rw [List.append_assoc] at l2 l5
      exact ⟨(t.text, x) :: l, by simp, l2, l5, by simp only [sumO]; omega, l4⟩
end Go.Proofs.YthfhlblpjjniiaaGreatDoor.Rd
namespace Go.Proofs.YthfhlblpjjniiaaGreatDoor.Rd
open Tk Pl
set_option linter.unusedVariables false

/-- a good value, its numbers of 64 bits -/
def G (v : T) : Prop := v.Good ∧ T.All (fun t => In64 t.num) v
theorem tok_say {s : ByteArray} {i : Nat} {t : Tok} (hi : i ≤ s.size) (h : next s i = .tok t) : (t.kind = 2 → okText t.text) ∧ (t.kind = 3 → In64 t.num) := by
  have h' : ansAt s (span isBl s i) = .tok t := h
  have ha := span_le isBl hi
  generalize span isBl s i = a at h' ha
  unfold ansAt at h'
  split at h'
  · injection h' with h'; subst h'; exact ⟨fun hk => absurd hk (show ¬ (0 : Int) = 2 by decide), fun hk => absurd hk (show ¬ (0 : Int) = 3 by decide)⟩
  rename_i hl
  split at h'
  · injection h' with h'; subst h'; exact ⟨fun hk => absurd hk (show ¬ (1 : Int) = 2 by decide), fun hk => absurd hk (show ¬ (1 : Int) = 3 by decide)⟩
  split at h'
  · unfold strAns at h'
    split at h'
    · rename_i l e hs
      injection h' with h'; subst h'
      have := (strF_pts _ _ _ _ _ (by omega) hs).2.2 (by simp)
      exact ⟨fun _ => ⟨l, (List.append_nil _).symm, rfl, this⟩, fun hk => absurd hk (show ¬ (2 : Int) = 3 by decide)⟩
    · cases h'
  split at h'
  · unfold numAns at h'
    split at h'
    · cases h'
    split at h'
    · cases h'
    split at h'
    · cases h'
    split at h'
    · cases h'
    split at h'
    · rename_i hin
      injection h' with h'; subst h'
      exact ⟨fun hk => absurd hk (show ¬ (3 : Int) = 2 by decide), fun _ => hin⟩
    · cases h'
  split at h'
  · unfold wordAns at h'
    split at h'
    · injection h' with h'; subst h'
      have key : ∀ c : Nat, kindOf c ≠ 2 ∧ kindOf c ≠ 3 := fun c => by
        unfold kindOf
        split
        · exact ⟨by decide, by decide⟩
        split <;> exact ⟨by decide, by decide⟩
      exact ⟨fun hk => absurd hk (key _).1, fun hk => absurd hk (key _).2⟩
    · cases h'
  · cases h'
theorem in0 : In64 0 := ⟨by decide, by decide⟩
theorem text_nix : okText nix := ⟨[], rfl, rfl, by simp⟩
theorem rising_nil : Rising [] := fun i a b h => by simp at h
theorem g_leaf {v : T} (hi : v.items = []) (h : GoodAt v) (hn : In64 v.num) : G v := ⟨.mk v h (fun x hx => (by rw [hi] at hx; cases hx)), .mk v hn (fun x hx => (by rw [hi] at hx; cases hx))⟩
theorem g_nul : G nulT := g_leaf rfl ⟨by decide, by decide, fun _ => rfl, fun _ => rfl, fun _ => rfl, fun _ _ => rfl, fun _ => rfl, fun h => absurd h (by decide), text_nix, (fun _ h => by cases h), rising_nil⟩ in0
theorem g_tru (b : Bool) : G (truT b) := g_leaf rfl ⟨by show (0 : Int) ≤ 1; decide, by show (1 : Int) ≤ 5; decide, fun h => absurd rfl h, fun _ => rfl, fun _ => rfl, fun _ _ => rfl, fun _ => rfl, fun h => absurd h (show ¬ (1 : Int) = 5 by decide), text_nix, (fun _ h => by cases h), rising_nil⟩ in0
theorem g_num {n : Int} (hn : In64 n) : G (numT n) := g_leaf rfl ⟨by show (0 : Int) ≤ 2; decide, by show (2 : Int) ≤ 5; decide, fun _ => rfl, fun h => absurd rfl h, fun _ => rfl, fun _ _ => rfl, fun _ => rfl, fun h => absurd h (show ¬ (2 : Int) = 5 by decide), text_nix, (fun _ h => by cases h), rising_nil⟩ hn
theorem g_str {q : ByteArray} (hq : okText q) : G (strT q) := g_leaf rfl ⟨by show (0 : Int) ≤ 3; decide, by show (3 : Int) ≤ 5; decide, fun _ => rfl, fun _ => rfl, fun h => absurd rfl h, fun _ _ => rfl, fun _ => rfl, fun h => absurd h (show ¬ (3 : Int) = 5 by decide), hq, (fun _ h => by cases h), rising_nil⟩ in0
theorem g_arr {l : List T} (h : ∀ x ∈ l, G x) : G (arrT l) := ⟨.mk _ ⟨by show (0 : Int) ≤ 4; decide, by show (4 : Int) ≤ 5; decide, fun _ => rfl, fun _ => rfl, fun _ => rfl, fun h => absurd rfl h, fun _ => rfl, fun h => absurd h (show ¬ (4 : Int) = 5 by decide), text_nix, (fun _ h => by cases h), rising_nil⟩ fun x hx => (h x hx).1, .mk _ in0 fun x hx => (h x hx).2⟩
theorem g_ob {m : List (ByteArray × T)} (hn : (m.map Prod.fst).Nodup) (h : ∀ x ∈ m, okText x.1 ∧ G x.2) : G (Ob m) := by
  have hi : ∀ x ∈ (Ob m).items, G x := fun x hx => by
    obtain ⟨y, hy, rfl⟩ := List.mem_map.1 ((Ob_items hn).mem_iff.1 hx)
    exact (h y hy).2
  refine ⟨.mk _ ⟨by show (0 : Int) ≤ 5; decide, by show (5 : Int) ≤ 5; decide, fun _ => rfl, fun _ => rfl, fun _ => rfl, fun _ h => absurd rfl h, fun h => absurd rfl h, fun _ => ?_, text_nix, ?_, srt_rising hn⟩ fun x hx => (hi x hx).1, .mk _ in0 fun x hx => (hi x hx).2⟩
  · rw [Ob_eq]; show (srt _).length = (List.map _ (srt _)).length; rw [List.length_map]
  · intro q hq
    obtain ⟨y, hy, rfl⟩ := List.mem_map.1 ((srt_perm _).mem_iff.1 (show q ∈ srt (m.map Prod.fst) from hq))
    exact (h y hy).1
theorem from_good (s : ByteArray) : ∀ n, (∀ room i t v e, i ≤ s.size → next s i = .tok t → fromF Ob s n room t = .val v e → G v ∧ e ≤ s.size) ∧ (∀ room i t acc v e, i ≤ s.size → next s i = .tok t → (∀ x ∈ acc, G x) → itemsF Ob s n room t acc = .val v e → G v ∧ e ≤ s.size) ∧ (∀ room i t acc v e, i ≤ s.size → next s i = .tok t → (acc.map Prod.fst).Nodup → (∀ x ∈ acc, okText x.1 ∧ G x.2) → membsF Ob s n room t acc = .val v e → G v ∧ e ≤ s.size) := by
  intro n
  induction n with
  | zero => exact ⟨fun _ _ _ _ _ _ _ h => (by rw [fromF] at h; cases h), fun _ _ _ _ _ _ _ _ _ h => (by rw [itemsF] at h; cases h), fun _ _ _ _ _ _ _ _ _ _ h => (by rw [membsF] at h; cases h)⟩
  | succ n ih =>
    obtain ⟨ih1, ih2, ih3⟩ := ih
    refine ⟨fun room i t v e hi ht h => ?_, fun room i t acc v e hi ht ha h => ?_, fun room i t acc v e hi ht hnd ha h => ?_⟩
    · obtain ⟨⟨o1, o2, o3⟩, _⟩ := ok_next hi ht
      obtain ⟨s2, s3⟩ := tok_say hi ht
      rw [fromF] at h
      split at h
      · injection h with h1 h2; subst h1 h2; exact ⟨g_nul, o2⟩
      split at h
      · injection h with h1 h2; subst h1 h2; exact ⟨g_tru _, o2⟩
      split at h
      · rename_i hk
        injection h with h1 h2; subst h1 h2; exact ⟨g_num (s3 hk), o2⟩
      split at h
      · rename_i hk
        injection h with h1 h2; subst h1 h2; exact ⟨g_str (s2 hk), o2⟩
      split at h
      · cases h
      split at h
      · cases h
      split at h
      · cases h
      rename_i u hu
      obtain ⟨⟨b1, b2, b3⟩, b4⟩ := ok_next o2 hu
      split at h
      · split at h
        · injection h with h1 h2; subst h1 h2; exact ⟨g_arr (by simp), b2⟩
        · exact ih2 _ _ _ _ _ _ o2 hu (by simp) h
      · split at h
        · injection h with h1 h2; subst h1 h2; exact ⟨g_ob (by simp) (by simp), b2⟩
        · exact ih3 _ _ _ _ _ _ o2 hu (by simp) (by simp) h
    · rw [itemsF] at h
      split at h
      · cases h
      · cases h
      rename_i x a hx
      obtain ⟨g1, g2⟩ := ih1 _ _ _ _ _ hi ht hx
      have ha2 : ∀ y ∈ acc ++ [x], G y := fun y hy => by
        rcases List.mem_append.1 hy with hy | hy
        · exact ha y hy
        · obtain rfl := List.mem_singleton.1 hy; exact g1
      split at h
      · cases h
      rename_i u hu
      obtain ⟨⟨b1, b2, b3⟩, b4⟩ := ok_next g2 hu
      split at h
      · injection h with h1 h2; subst h1 h2; exact ⟨g_arr ha2, b2⟩
      split at h
      · cases h
      split at h
      · cases h
      rename_i y hy
      exact ih2 _ _ _ _ _ _ b2 hy ha2 h
    · obtain ⟨⟨o1, o2, o3⟩, _⟩ := ok_next hi ht
      obtain ⟨s2, s3⟩ := tok_say hi ht
      rw [membsF] at h
      split at h
      · cases h
      rename_i hk
      have hk2 : t.kind = 2 := Classical.not_not.1 hk
      split at h
      · cases h
      rename_i hno
      have hnd2 : ∀ x : T, ((acc ++ [(t.text, x)]).map Prod.fst).Nodup := fun x => by
        rw [List.map_append, List.nodup_append]
        refine ⟨hnd, by simp, fun a ha b hb => ?_⟩
        have : b = t.text := by simpa using hb
        subst this
        intro hab
        exact hno (hasK_iff.2 (hab ▸ ha))
      split at h
      · cases h
      rename_i u hu
      obtain ⟨⟨b1, b2, b3⟩, b4⟩ := ok_next o2 hu
      split at h
      · cases h
      split at h
      · cases h
      rename_i w hw
      split at h
      · cases h
      · cases h
      rename_i x a hx
      obtain ⟨g1, g2⟩ := ih1 _ _ _ _ _ b2 hw hx
      have ha2 : ∀ y ∈ acc ++ [(t.text, x)], okText y.1 ∧ G y.2 := fun y hy => by
        rcases List.mem_append.1 hy with hy | hy
        · exact ha y hy
        · obtain rfl := List.mem_singleton.1 hy; exact ⟨s2 hk2, g1⟩
      split at h
      · cases h
      rename_i y hy
      obtain ⟨⟨f1, f2, f3⟩, f4⟩ := ok_next g2 hy
      split at h
      · injection h with h1 h2; subst h1 h2; exact ⟨g_ob (hnd2 x) ha2, f2⟩
      split at h
      · cases h
      split at h
      · cases h
      rename_i z hz
      exact ih3 _ _ _ _ _ _ f2 hz (hnd2 x) ha2 h
theorem whole_good {s : ByteArray} {room : Nat} {v : T} {p : Nat} (h : whole Ob s room = .val v p) : G v ∧ p = 0 ∧ v.txt.length ≤ s.size := by
  unfold whole at h
  split at h
  · cases h
  rename_i t ht
  split at h
  · cases h
  · cases h
  rename_i x e hx
  have g := (from_good s _).1 _ _ _ _ _ (Nat.zero_le _) ht hx
  have l := (from_len s _).1 _ _ _ _ _ (Nat.zero_le _) ht hx
  split at h
  · cases h
  split at h
  · injection h with h1 h2; subst h1 h2
    exact ⟨g.1, rfl, by omega⟩
  · cases h
end Go.Proofs.YthfhlblpjjniiaaGreatDoor.Rd
namespace Go.Proofs.YthfhlblpjjniiaaGreatDoor
open Go.RowKit

/-- how a call ends that gives the value t, in new memory but for what lies below B0 -/
def GivesR (B0 : Nat) (t : T) (w : World) (e : Ending) (w' : World) : Prop := ∃ B d B' d', e = .returned (t.agg B d B' d') ∧ TV w' (fun b => b < B0 ∨ w.heap.size ≤ b ∧ b < w'.heap.size) t B d B' d' ∧ Below w.heap.size w w'
def RefAt (n : Nat) : Prop := ∀ (B0 : Nat) (t : T) (A : Option Addr) (c : Nat) (A' : Option Addr) (c' : Nat) (w : World), t.size ≤ n → n ≤ 100000 → B0 ≤ w.heap.size → TV w (· < B0) t A c A' c' →
    Calls Tryz.prog 17 #[t.agg A c A' c'] w (GivesR B0 t w)
set_option maxRecDepth 100000 in
set_option maxHeartbeats 4000000 in
theorem ref_at (n : Nat) : RefAt n := by
  induction n with
  | zero => intro B0 t _ _ _ _ _ h; have := t.size_pos; omega
  | succ n ih =>
    intro B0 t A c A' c' w ht hn hB0 hv
    have hl := hv.lens.1
    have hls := t.len_size
    obtain ⟨i1, hi1, hy0, hy1, hy2⟩ := info_parts infoV
    have IH := Lib.hid ih
    have HV := Lib.hid hv
    clear ih hv
    unfold T.agg
    go_enter Tryz.func17, Tryz.ntmps17
    go_wp2_with fail
    have hW : Below w.heap.size w (((w.alloc (.cells (t.cs A c A' c') 26)).alloc (.cells zeros 32)).alloc (.cells #[.int .i64 t.kind, .bool t.tr, .int .i64 t.num, .string t.str, .slice none 0 0, .slice A' t.keys.length c'] 32)) := (((Below.refl _ _).alloc (Nat.le_refl _) _).alloc (by simp) _).alloc (by simp; omega) _
    have hR2 : Blk (((w.alloc (.cells (t.cs A c A' c') 26)).alloc (.cells zeros 32)).alloc (.cells #[.int .i64 t.kind, .bool t.tr, .int .i64 t.num, .string t.str, .slice none 0 0, .slice A' t.keys.length c'] 32)) (w.heap.size + 1) 32 zeros := by
      have := (Blk.new (w.alloc (.cells (t.cs A c A' c') 26)) 32 zeros).alloc (.cells #[.int .i64 t.kind, .bool t.tr, .int .i64 t.num, .string t.str, .slice none 0 0, .slice A' t.keys.length c'] 32)
      simpa using this
    have hQ : Blk (((w.alloc (.cells (t.cs A c A' c') 26)).alloc (.cells zeros 32)).alloc (.cells #[.int .i64 t.kind, .bool t.tr, .int .i64 t.num, .string t.str, .slice none 0 0, .slice A' t.keys.length c'] 32)) (w.heap.size + 2) 32 #[.int .i64 t.kind, .bool t.tr, .int .i64 t.num, .string t.str, .slice none 0 0, .slice A' t.keys.length c'] := by
      have := Blk.new ((w.alloc (.cells (t.cs A c A' c') 26)).alloc (.cells zeros 32)) 32 #[.int .i64 t.kind, .bool t.tr, .int .i64 t.num, .string t.str, .slice none 0 0, .slice A' t.keys.length c']
      simpa using this
    change Code.wp _ _ _ _ (((w.alloc (.cells (t.cs A c A' c') 26)).alloc (.cells zeros 32)).alloc (.cells #[.int .i64 t.kind, .bool t.tr, .int .i64 t.num, .string t.str, .slice none 0 0, .slice A' t.keys.length c'] 32))
    generalize (((w.alloc (.cells (t.cs A c A' c') 26)).alloc (.cells zeros 32)).alloc (.cells #[.int .i64 t.kind, .bool t.tr, .int .i64 t.num, .string t.str, .slice none 0 0, .slice A' t.keys.length c'] 32)) = W at *
    have HB2 := Lib.hid hW
    have HR2 := Lib.hid hR2
    have HQ := Lib.hid hQ
    have hq2 : w.heap.size + 1 < w.heap.size + 1 + 1 := by omega
    have HQ := Lib.hid (show Blk W (w.heap.size + 1 + 1) 32 #[.int .i64 t.kind, .bool t.tr, .int .i64 t.num, .string t.str, .slice none 0 0, .slice A' t.keys.length c'] from hQ)
    generalize w.heap.size + 1 + 1 = q at hq2 HQ ⊢
    clear hW hR2 hQ
    go_loopw [20] (fun i wr => ∃ (k : Nat) (A2 : Option Addr) (d2 : Nat) (xs : List Value), k ≤ t.items.length ∧ i = .int .i64 k ∧ Coll 32 wr (w.heap.size + 2) (fun b => (B0 ≤ b ∧ b < w.heap.size + 2) ∨ b = q) (t.items.take k) (.slice A2 k d2) xs ∧
      Blk wr q 32 #[.int .i64 t.kind, .bool t.tr, .int .i64 t.num, .string t.str, .slice A2 k d2, .slice A' t.keys.length c'] ∧ Blk wr (w.heap.size + 1) 32 zeros ∧ Below w.heap.size w wr) (fun i _ => t.items.length - (intOf i).toNat)
    case atStart => exact ⟨0, none, 0, [], Nat.zero_le _, rfl, Coll.nil _ _ _ _, HQ.out, HR2.out, HB2.out⟩
    case round =>
      obtain ⟨k, A2, d2, xs, hk, rfl, hcoll, hbq, hbr, hbel⟩ := hrel
      have Hcoll := Lib.hid hcoll
      have Hbq := Lib.hid hbq
      have Hbr := Lib.hid hbr
      have Hbel := Lib.hid hbel
      have hqlt := hbq.lt
      have q4 : wr.cell? ⟨q, 4, none⟩ = some (.slice A2 k d2) := hbq.cell 4
      have fq4 := hbq.free 4
      clear hcoll hbq hbr hbel
      by_cases hlt2 : k < t.items.length
      · have u1 : decide (k < t.items.length) = true := decide_eq_true hlt2
        obtain ⟨b, o, x, B, d, B', d', rfl, hb, hx, h6, hX⟩ := HV.out.at_ hlt2
        have hxs := T.at_size hx
        have HX := Lib.hid hX
        have Hx := Lib.hid hx
        obtain ⟨e0, e1, e2, e3, e4, e5⟩ := h6.keep hb (.of_below (Hbel.out.mono hB0))
        clear hX h6 hx
        go_wp2_with fail
        go_region_law (first
          | (refine app_step ?_ (.tmp 25) (.tmp 28) 30 ?_ (w.heap.size + 2) 32 i1 (.agg #[.int .i64 0, .bool false, .int .i64 0, .string ⟨#[]⟩, .slice none 0 0, .slice none 0 0]) 6 88 Tryz.underlying30 hi1 hy0 hy1 hy2 ?_ ?_ (.slice A2 k d2) k xs ?_ ?_ (some ⟨w2.heap.size, 0, none⟩) 1 1 (x.cs C f C' f').toList ?_ ?_ cs_one ?_ ?_ ?_ (k + 1) ?_ ?_
             · rfl
             · rfl
             · rfl
             · decide
             · rfl
             · first
                 | exact Hown2.out.alloc _
                 | exact (Hown2.out.alloc _).drew
             · rfl
             · exact src_of_cs (Blk.new w2 32 _)
             · unfold maxLen; omega
             · omega
             · simp; have := Hb2.out.size; omega
             · rfl
             intro A3 d3 w3 ho3 hg3 hat3
             have hbq3 := Hcoll2.out.blk hg3 Hbq2.out (.inr rfl)
             have hbr3 := Hcoll2.out.blk hg3 Hbr2.out (.inl ⟨by omega, by omega⟩)
             have hcoll3 := Hcoll2.out.app_new HT2.out (by omega) (by rw [Hl2.out]) ho3 hg3 hat3
             have hb3 := (Hb2.out.alloc Hb2.out.size (.cells (x.cs C f C' f') 32)).grown hg3 (by have := Hb2.out.size; simp; omega) (fun b hb => by have := (Hown2.out.lt b hb).1; omega)
             rw [← T.take_snoc Hx.out] at hcoll3
             have s4 : w3.cell? ⟨q, 4, none⟩ = some (.slice A2 k d2) := hbq3.cell 4
             have fs4 := hbq3.free 4
             have Hbq3 := Lib.hid hbq3
             have Hbr3 := Lib.hid hbr3
             have Hcoll3 := Lib.hid hcoll3
             have Hb3 := Lib.hid hb3
             clear hbq3 hbr3 hcoll3 hb3 ho3 hg3 hat3)
          | (go_simp
             go_at_call 17
             refine (IH.out B0 x B d B' d' _ (by omega) (by omega) (by simp; have := Hbel.out.size; omega) (HX.out.under (((Hbel.out.alloc Hbel.out.size _).drew).mono hB0))).mono ?_
             rintro e w2 ⟨C, f, C', f', rfl, hT, hb2⟩
             unfold T.agg
             have hbw : Below wr.heap.size wr w2 := (((Below.refl _ wr).alloc (Nat.le_refl _) _).drew).trans (hb2.mono (by simp))
             have hcoll2 := Hcoll.out.onto hbw
             have hbq2 := Hbq.out.onto hbw
             have hl2 : (t.items.take k).length = k := by rw [List.length_take]; omega
             have hown2 := hcoll2.2.1
             rw [hl2] at hown2
             have hT2 : TV w2 (fun b => b < w2.heap.size ∧ ¬ ((B0 ≤ b ∧ b < w.heap.size + 2) ∨ b = q) ∧ some b ≠ (Value.slice A2 k d2).ownBlock) x C f C' f' := hT.wide fun b hb => by
               have hlo := Hcoll.out.2.1.lt b
               have hws := Hbel.out.size
               have hw2 : wr.heap.size < w2.heap.size := by have := hb2.size; simp at this; omega
               rcases hb with hb | hb
               · have hb3 : b < B0 := hb
                 refine ⟨by omega, by omega, fun e1 => ?_⟩
                 have := (hlo e1.symm).1
                 omega
               · have h1 : wr.heap.size + 1 ≤ b := by simpa using hb.1
                 have h4 : b < w2.heap.size := hb.2
                 refine ⟨h4, by omega, fun e1 => ?_⟩
                 have := (hlo e1.symm).2
                 omega
             have Hcoll2 := Lib.hid hcoll2
             have Hbq2 := Lib.hid hbq2
             have Hbr2 := Lib.hid (Hbr.out.onto hbw)
             have Hown2 := Lib.hid hown2
             have HT2 := Lib.hid hT2
             have Hl2 := Lib.hid hl2
             have Hb2 := Lib.hid (Hbel.out.trans (hbw.mono Hbel.out.size))
             have g4 : w2.cell? ⟨q, 4, none⟩ = some (.slice A2 k d2) := hbq2.cell 4
             have hq2 : q < w2.heap.size := hbq2.lt
             have g4' : ∀ o : Obj, (w2.alloc o).cell? ⟨q, 4, none⟩ = some (.slice A2 k d2) := fun o => (fary hq2).trans g4
             have hsz2 : wr.heap.size < w2.heap.size := by have := hb2.size; simp at this; omega
             clear hbw hcoll2 hbq2 hl2 hown2 hT hT2 hb2))
        all_goals
          go_wp2_with fail
          go_roundw
          case rel =>
            exact ⟨k + 1, A3, d3, _, hlt2, by go_num, Hcoll3.out.set (.inr rfl) _, Hbq3.out.set_ 4 _, Hbr3.out.far (by show w.heap.size + 1 ≠ q; omega) _, Hb3.out.setCell (by show w.heap.size ≤ q; omega) _⟩
          case measure => simp [intOf]; omega
      · obtain rfl : t.items.length = k := by omega
        rw [List.take_length] at Hcoll
        have c0 : wr.cell? ⟨q, 0, none⟩ = some (.int .i64 t.kind) := Hbq.out.cell 0
        have c1 : wr.cell? ⟨q, 1, none⟩ = some (.bool t.tr) := Hbq.out.cell 1
        have c2 : wr.cell? ⟨q, 2, none⟩ = some (.int .i64 t.num) := Hbq.out.cell 2
        have c3 : wr.cell? ⟨q, 3, none⟩ = some (.string t.str) := Hbq.out.cell 3
        have c5 : wr.cell? ⟨q, 5, none⟩ = some (.slice A' t.keys.length c') := Hbq.out.cell 5
        have r0 : wr.cell? ⟨w.heap.size + 1, 0, none⟩ = some (.int .i64 0) := Hbr.out.cell 0
        have r1 : wr.cell? ⟨w.heap.size + 1, 1, none⟩ = some (.bool false) := Hbr.out.cell 1
        have r2 : wr.cell? ⟨w.heap.size + 1, 2, none⟩ = some (.int .i64 0) := Hbr.out.cell 2
        have r3 : wr.cell? ⟨w.heap.size + 1, 3, none⟩ = some (.string ⟨#[]⟩) := Hbr.out.cell 3
        have r4 : wr.cell? ⟨w.heap.size + 1, 4, none⟩ = some (.slice none 0 0) := Hbr.out.cell 4
        have r5 : wr.cell? ⟨w.heap.size + 1, 5, none⟩ = some (.slice none 0 0) := Hbr.out.cell 5
        have x0 := Hbr.out.free 0
        have x1 := Hbr.out.free 1
        have x2 := Hbr.out.free 2
        have x3 := Hbr.out.free 3
        have x4 := Hbr.out.free 4
        have x5 := Hbr.out.free 5
        go_wp2_with fail
        have hF := res_put Hbr.out rfl t A2 d2 A' c'
        have hK : Keeps (fun b => b ≠ w.heap.size + 1) wr (((((((wr.setCell ⟨w.heap.size + 1, 0, none⟩ (.int .i64 t.kind)).setCell ⟨w.heap.size + 1, 1, none⟩ (.bool t.tr)).setCell ⟨w.heap.size + 1, 2, none⟩ (.int .i64 t.num)).setCell ⟨w.heap.size + 1, 3, none⟩ (.string t.str)).setCell ⟨w.heap.size + 1, 4, none⟩ (.slice A2 t.items.length d2)).setCell ⟨w.heap.size + 1, 5, none⟩ (.slice A' t.keys.length c'))) := by
          intro b hb
          rw [Below.heap_setCell _ _ _ _ hb, Below.heap_setCell _ _ _ _ hb, Below.heap_setCell _ _ _ _ hb, Below.heap_setCell _ _ _ _ hb, Below.heap_setCell _ _ _ _ hb, Below.heap_setCell _ _ _ _ hb]
        have hZ : (((((((wr.setCell ⟨w.heap.size + 1, 0, none⟩ (.int .i64 t.kind)).setCell ⟨w.heap.size + 1, 1, none⟩ (.bool t.tr)).setCell ⟨w.heap.size + 1, 2, none⟩ (.int .i64 t.num)).setCell ⟨w.heap.size + 1, 3, none⟩ (.string t.str)).setCell ⟨w.heap.size + 1, 4, none⟩ (.slice A2 t.items.length d2)).setCell ⟨w.heap.size + 1, 5, none⟩ (.slice A' t.keys.length c'))).heap.size = wr.heap.size := by simp [World.setCell]
        have hE : Below w.heap.size w (((((((wr.setCell ⟨w.heap.size + 1, 0, none⟩ (.int .i64 t.kind)).setCell ⟨w.heap.size + 1, 1, none⟩ (.bool t.tr)).setCell ⟨w.heap.size + 1, 2, none⟩ (.int .i64 t.num)).setCell ⟨w.heap.size + 1, 3, none⟩ (.string t.str)).setCell ⟨w.heap.size + 1, 4, none⟩ (.slice A2 t.items.length d2)).setCell ⟨w.heap.size + 1, 5, none⟩ (.slice A' t.keys.length c'))) := (((((Hbel.out.setCell (Nat.le_succ _) _).setCell (Nat.le_succ _) _).setCell (Nat.le_succ _) _).setCell (Nat.le_succ _) _).setCell (Nat.le_succ _) _).setCell (Nat.le_succ _) _
        generalize (((((((wr.setCell ⟨w.heap.size + 1, 0, none⟩ (.int .i64 t.kind)).setCell ⟨w.heap.size + 1, 1, none⟩ (.bool t.tr)).setCell ⟨w.heap.size + 1, 2, none⟩ (.int .i64 t.num)).setCell ⟨w.heap.size + 1, 3, none⟩ (.string t.str)).setCell ⟨w.heap.size + 1, 4, none⟩ (.slice A2 t.items.length d2)).setCell ⟨w.heap.size + 1, 5, none⟩ (.slice A' t.keys.length c'))) = Wf at *
        have m0 : Wf.cell? ⟨w.heap.size + 1, 0, none⟩ = some (.int .i64 t.kind) := hF.cell 0
        have m1 : Wf.cell? ⟨w.heap.size + 1, 1, none⟩ = some (.bool t.tr) := hF.cell 1
        have m2 : Wf.cell? ⟨w.heap.size + 1, 2, none⟩ = some (.int .i64 t.num) := hF.cell 2
        have m3 : Wf.cell? ⟨w.heap.size + 1, 3, none⟩ = some (.string t.str) := hF.cell 3
        have m4 : Wf.cell? ⟨w.heap.size + 1, 4, none⟩ = some (.slice A2 t.items.length d2) := hF.cell 4
        have m5 : Wf.cell? ⟨w.heap.size + 1, 5, none⟩ = some (.slice A' t.keys.length c') := hF.cell 5
        obtain ⟨_, hd2, hvr⟩ := Hcoll.out.vreads
        refine bodyPost_ret (v := .agg #[.int .i64 t.kind, .bool t.tr, .int .i64 t.num, .string t.str, .slice A2 t.items.length d2, .slice A' t.keys.length c']) (by simp [results, Tryz.results17, go_sem, m0, m1, m2, m3, m4, m5]) rfl ⟨A2, d2, A', c', rfl, ?_, hE⟩
        refine TV.of hd2 HV.out.lens.2 (fun hn => ?_) ?_
        · exact ((hvr.keep (hK.mono fun b hb => by have := hb.2; show b ≠ w.heap.size + 1; omega)).wide fun b hb => by have h1 := hb.1; have h2 := hb.2; show b < B0 ∨ w.heap.size ≤ b ∧ b < Wf.heap.size; omega) hn
        · exact ((HV.out.keys.below (Hbel.out.mono hB0)).keep (hK.mono fun b hb => by have : b < B0 := hb; show b ≠ w.heap.size + 1; omega)).wide fun b hb => .inl hb
theorem ref_any (B0 : Nat) (t : T) (A : Option Addr) (c : Nat) (A' : Option Addr) (c' : Nat) (w : World) (ht : t.size ≤ 100000) (hB : B0 ≤ w.heap.size) (hv : TV w (· < B0) t A c A' c') :
    Calls Tryz.prog 17 #[t.agg A c A' c'] w (GivesR B0 t w) := ref_at 100000 B0 t A c A' c' w ht (Nat.le_refl _) hB hv
end Go.Proofs.YthfhlblpjjniiaaGreatDoor
namespace Go.Proofs.YthfhlblpjjniiaaGreatDoor
open Go.RowKit

set_option maxRecDepth 100000 in
set_option maxHeartbeats 2000000 in
theorem rsize_any (n : Nat) : ∀ (t : T) (A : Option Addr) (c : Nat) (A' : Option Addr) (c' : Nat) (w : World), t.size ≤ n → n ≤ 100000 → TV w (· < w.heap.size) t A c A' c' →
    Calls Tryz.prog 41 #[t.agg A c A' c'] w fun e w' => e = .returned (.int .i64 t.size) ∧ Below w.heap.size w w' := by
  induction n with
  | zero => intro t _ _ _ _ _ h; have := t.size_pos; omega
  | succ n ih =>
    intro t A c A' c' w ht hn hv
    have hl := hv.lens.1
    have hls := t.len_size
    have hse := t.size_eq
    have hss : T.sizes t.items < t.size := by omega
    have IH := Lib.hid ih
    have HV := Lib.hid hv
    have HE := Lib.hid hse
    clear ih hv hse
    unfold T.agg
    go_enter Tryz.func41, Tryz.ntmps41
    go_wp2_with fail
    go_loopw [3, 8] (fun s i wr => ∃ k : Nat, k ≤ t.items.length ∧ i = .int .i64 k ∧ s = .int .i64 ((1 + T.sizes (t.items.take k) : Nat) : Int) ∧ Blk wr w.heap.size 32 (t.cs A c A' c') ∧ Below w.heap.size w wr) (fun _ i _ => t.items.length - (intOf i).toNat)
    case atStart => exact ⟨0, Nat.zero_le _, rfl, by simp [T.sizes], Blk.new _ _ _, (Below.refl _ _).alloc (Nat.le_refl _) _⟩
    case round =>
      obtain ⟨k, hk, rfl, rfl, hbx, hbel⟩ := hrel
      have Hbel := Lib.hid hbel
      have Hbx := Lib.hid hbx
      have hlw := hbx.lt
      have d4 : wr.cell? ⟨w.heap.size, 4, none⟩ = some (.slice A t.items.length c) := hbx.cell 4
      clear hbel hbx
      have hsz := T.sizes_take t.items k
      by_cases hlt : k < t.items.length
      · have u1 : decide (k < t.items.length) = true := decide_eq_true hlt
        obtain ⟨b, o, x, B, d, B', d', rfl, hb, hx, h6, hX⟩ := HV.out.at_ hlt
        have hxs := T.at_size hx
        have HS := Lib.hid (T.sizes_snoc hx)
        have HX := Lib.hid hX
        have hszn := T.sizes_take t.items (k + 1)
        rw [HS.out] at hszn
        obtain ⟨e0, e1, e2, e3, e4, e5⟩ := h6.keep hb (.of_below Hbel.out)
        clear hX h6 hx
        go_wp2_with fail
        refine (IH.out x B d B' d' _ (by omega) (by omega) (HX.out.on Hbel.out)).mono ?_
        rintro e w2 ⟨rfl, hb2⟩
        have Hb2 := Lib.hid (Hbel.out.trans (hb2.mono Hbel.out.size))
        have Hbx2 := Lib.hid (Hbx.out.onto hb2)
        clear hb2
        go_wp2_with fail
        go_roundw
        case rel => exact ⟨k + 1, hlt, by go_num, by rw [HS.out]; go_num, Hbx2.out, Hb2.out⟩
        case measure => simp [intOf]; omega
      · obtain rfl : t.items.length = k := by omega
        clear hsz
        go_wp2_with fail
        go_ret
        exact ⟨ret_int (by rw [List.take_length, HE.out]), Hbel.out⟩

theorem four_or {k : Int} (h : ¬ (k = 4 ∨ k = 5)) : (k != 4) = true ∧ (k != 5) = true := by
  constructor <;> simp <;> omega

set_option maxRecDepth 100000 in
set_option maxHeartbeats 2000000 in
theorem rdepth_any (n : Nat) : ∀ (t : T) (A : Option Addr) (c : Nat) (A' : Option Addr) (c' : Nat) (w : World), t.size ≤ n → n ≤ 100000 → t.Kinds → TV w (· < w.heap.size) t A c A' c' →
    Calls Tryz.prog 22 #[t.agg A c A' c'] w fun e w' => e = .returned (.int .i64 t.depth) ∧ Below w.heap.size w w' := by
  induction n with
  | zero => intro t _ _ _ _ _ h; have := t.size_pos; omega
  | succ n ih =>
    intro t A c A' c' w ht hn hks hv
    have hl := hv.lens.1
    have hls := t.len_size
    have hse := t.size_eq
    have hss : T.sizes t.items < t.size := by omega
    have hdt := t.depth_le
    have hk0 := hks.here.1
    have hk5 := hks.here.2
    have IH := Lib.hid ih
    have HV := Lib.hid hv
    have HK := Lib.hid hks
    have HE := Lib.hid t.depth_eq
    clear ih hv hse hks
    unfold T.agg
    by_cases h45 : t.kind < 4
    · have HE2 := Lib.hid (show t.depth = 0 by rw [HE.out, if_neg (by omega)])
      go_enter Tryz.func22, Tryz.ntmps22
      go_wp2_with fail
      go_ret
      exact ⟨ret_int (by rw [HE2.out]; rfl), (Below.refl _ _).alloc (Nat.le_refl _) _⟩
    · have HE2 := Lib.hid (show t.depth = 1 + T.depths t.items by rw [HE.out, if_pos (by omega)])
      have hdd : T.depths t.items ≤ 100000 := by have := HE2.out; omega
      go_enter Tryz.func22, Tryz.ntmps22
      go_wp2_with fail
      go_loopw [3, 11] (fun s i wr => ∃ k : Nat, k ≤ t.items.length ∧ i = .int .i64 k ∧ s = .int .i64 ((1 + T.depths (t.items.take k) : Nat) : Int) ∧ Blk wr w.heap.size 32 (t.cs A c A' c') ∧ Below w.heap.size w wr) (fun _ i _ => t.items.length - (intOf i).toNat)
      case atStart => exact ⟨0, Nat.zero_le _, rfl, by simp [T.depths], Blk.new _ _ _, (Below.refl _ _).alloc (Nat.le_refl _) _⟩
      case round =>
        obtain ⟨k, hk, rfl, rfl, hbx, hbel⟩ := hrel
        have Hbel := Lib.hid hbel
        have Hbx := Lib.hid hbx
        have hlw := hbx.lt
        have d4 : wr.cell? ⟨w.heap.size, 4, none⟩ = some (.slice A t.items.length c) := hbx.cell 4
        clear hbel hbx
        have hsz := T.depths_take t.items k
        by_cases hlt : k < t.items.length
        · have u1 : decide (k < t.items.length) = true := decide_eq_true hlt
          obtain ⟨b, o, x, B, d, B', d', rfl, hb, hx, h6, hX⟩ := HV.out.at_ hlt
          have hxs := T.at_size hx
          have hxd := x.depth_le
          have HS := Lib.hid (T.depths_snoc hx)
          have HX := Lib.hid hX
          have HXK := Lib.hid (HK.out.at_ hx)
          obtain ⟨e0, e1, e2, e3, e4, e5⟩ := h6.keep hb (.of_below Hbel.out)
          clear hX h6 hx
          go_wp2_with fail
          refine (IH.out x B d B' d' _ (by omega) (by omega) HXK.out (HX.out.on Hbel.out)).mono ?_
          rintro e w2 ⟨rfl, hb2⟩
          have Hb2 := Lib.hid (Hbel.out.trans (hb2.mono Hbel.out.size))
          have Hbx2 := Lib.hid (Hbx.out.onto hb2)
          clear hb2
          go_wp2_with fail
          go_roundw
          case rel => exact ⟨k + 1, hlt, by go_num, by rw [HS.out]; simp; omega, Hbx2.out, Hb2.out⟩
          case measure => simp [intOf]; omega
        · obtain rfl : t.items.length = k := by omega
          clear hsz
          go_wp2_with fail
          go_ret
          exact ⟨ret_int (by rw [List.take_length, HE2.out]), Hbel.out⟩
end Go.Proofs.YthfhlblpjjniiaaGreatDoor
