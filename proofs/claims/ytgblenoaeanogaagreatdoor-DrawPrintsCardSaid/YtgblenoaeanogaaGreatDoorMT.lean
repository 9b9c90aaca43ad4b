/- Ways of writing a value: what leads to its tokens: plain mathematics. Writings of arrays and objects: plain mathematics. Two values have one text just if they are the same; a text's characters are no longer than they were written: plain mathematics. A value's text is no longer than what it was read of: plain mathematics (the tokens). A value's text is no longer than what it was read of: plain mathematics. What is read is a value: plain mathematics. -/
import Derived.Test.YtgblenoaeanogaaGreatDoorMN
set_option linter.unusedVariables false
set_option maxRecDepth 100000
set_option maxHeartbeats 8000000
open Go.Lib (hid)
namespace Go.Proofs.YtgblenoaeanogaaGreatDoor.Rd
open Tk Pl
def Leads (a : List Say) (L : List UInt8) : Prop := ∀ (s : ByteArray) (p : Nat), Here s p L → isNo (bt s (p + L.length)) → ∃ m, Spells s p a m ∧ next s m = next s (p + L.length)
theorem spells_from {s : ByteArray} {p q m : Nat} {a : List Say} (h : next s q = next s p) (k : Spells s p a m) : ∃ m', Spells s q a m' ∧ next s m' = next s m := by
 cases a with
 | nil =>
  obtain rfl : p = m := k
  exact ⟨q, rfl, h⟩
 | cons x a =>
  obtain ⟨u, h1, h2⟩ := k
  exact ⟨m, ⟨u, by rw [h]; exact h1, h2⟩, rfl⟩
def NoHd (B : List UInt8) : Prop := ∀ c, B.head? = some c → isNo c.toNat
theorem Leads.app {a b : List Say} {A B : List UInt8} (h : Leads a A) (k : Leads b B) (hB : NoHd B) : Leads (a ++ b) (A ++ B) := fun s p hh hn => by
 have hr := hh.right
 have e1 : p + (A ++ B).length = p + A.length + B.length := by rw [List.length_append, Nat.add_assoc]
 rw [e1] at hn ⊢
 obtain ⟨m2, k1, k2⟩ := k s _ hr hn
 obtain ⟨m1, h1, h2⟩ := h s p hh.left (by
  cases B with
  | nil => exact hn
  | cons c B => rw [hr.hd.1]; exact hB c rfl)
 obtain ⟨m', g1, g2⟩ := spells_from h2 k1
 exact ⟨m', h1.app g1, g2.trans k2⟩
def ChL (l : List Int) (L : List UInt8) : Prop := ∀ (s : ByteArray) (p : Nat), Here s p L → Chars s p l (p + L.length)
theorem ChL.app {a b : List Int} {A B : List UInt8} (h : ChL a A) (k : ChL b B) : ChL (a ++ b) (A ++ B) := fun s p hh => by
 rw [List.length_append, ← Nat.add_assoc]
 exact (h s p hh.left).app (k s _ hh.right)
end Go.Proofs.YtgblenoaeanogaaGreatDoor.Rd
namespace Go.Proofs.YtgblenoaeanogaaGreatDoor.Rd
open Tk Pl
def LeadsS (a : List Say) (L : List UInt8) : Prop := ∀ (s : ByteArray) (p : Nat), Here s p L → ∃ m, Spells s p a m ∧ next s m = next s (p + L.length)
theorem LeadsS.app {a b : List Say} {A B : List UInt8} (h : LeadsS a A) (k : Leads b B) : Leads (a ++ b) (A ++ B) := fun s p hh hn => by
 have e1 : p + (A ++ B).length = p + A.length + B.length := by rw [List.length_append, Nat.add_assoc]
 rw [e1] at hn ⊢
 obtain ⟨m2, k1, k2⟩ := k s _ hh.right hn
 obtain ⟨m1, h1, h2⟩ := h s p hh.left
 obtain ⟨m', g1, g2⟩ := spells_from h2 k1
 exact ⟨m', h1.app g1, g2.trans k2⟩
end Go.Proofs.YtgblenoaeanogaaGreatDoor.Rd
namespace Go.Proofs.YtgblenoaeanogaaGreatDoor.Rd
open Tk Pl
theorem esc_le (x : Int) {s : ByteArray} {p e : Nat} (h : chAt s p = .pt x e) (h34 : bt s p ≠ 34) : ((Lib.encodeRune x).flatMap Q.esc).length + p ≤ e := by
 obtain ⟨hp, h1, h2⟩ := chAt_pt h
 have hx0 : 0 ≤ x := by rw [pt_iff] at hp; omega
 have hlen := enc_len x
 have hbig : ¬ x < 128 → ((Lib.encodeRune x).flatMap Q.esc).length = (Lib.encodeRune x).length := fun h => by rw [hi_flat (enc_high x (by omega))]
 have hsml : x < 128 → ((Lib.encodeRune x).flatMap Q.esc).length = (Q.esc (UInt8.ofNat x.toNat)).length := fun h => by
  have e : Lib.encodeRune x = [UInt8.ofNat x.toNat] := by
   unfold Lib.encodeRune
   rw [Lib.encodeRuneZ_one (by omega) (by omega)]
   simp
  rw [e]; simp
 have hesc := Q.esc_len (UInt8.ofNat x.toNat)
 have h6 : ((Lib.encodeRune x).flatMap Q.esc).length ≤ 6 := by
  by_cases h : x < 128
  · rw [hsml h]; exact hesc
  · rw [hbig h]; omega
 unfold chAt at h
 split at h
 · cases h
 rename_i h3
 split at h
 ·
  rename_i h92
  unfold escCh at h
  split at h
  ·
   rename_i m hm
   injection h with a1 a2
   subst a1 a2
   unfold shortOf at hm
   repeat' split at hm
   all_goals first
    | (injection hm with hm; subst hm; rw [hsml (by decide)]; exact Nat.le_of_eq (by rw [Nat.add_comm]; rfl))
    | (injection hm with hm; subst hm; rw [hsml (by decide)]; exact Nat.le_trans (Nat.add_le_add_right (show (Q.esc _).length ≤ 2 by decide) p) (by omega))
    | cases hm
  ·
   split at h
   ·
    unfold uniCh at h
    split at h
    · cases h
    split at h
    ·
     rename_i k1 k2
     injection h with a1 a2
     have := four_range s (p + 2)
     omega
    split at h
    ·
     injection h with a1 a2
     omega
    · cases h
   · cases h
 ·
  rename_i h92
  unfold rawCh at h
  split at h
  ·
   rename_i hok
   injection h with a1 a2
   obtain ⟨_, b2, b3⟩ := enc_of_ok _ hok
   rw [a1] at b2 b3
   by_cases hx : x < 128
   ·
    have e : Lib.encodeRune x = [UInt8.ofNat x.toNat] := by
     unfold Lib.encodeRune
     rw [Lib.encodeRuneZ_one (by omega) (by omega)]
     simp
    have hh : Here s p [UInt8.ofNat x.toNat] := ⟨_, by rw [← e]; exact b2⟩
    have hb := hh.hd.1
    rw [hsml hx]
    have : (Q.esc (UInt8.ofNat x.toNat)).length = 1 := by
     generalize UInt8.ofNat x.toNat = c at *
     unfold Q.esc
     have n1 : c ≠ 34 := fun hc => by rw [hc] at hb; exact h34 hb
     have n2 : c ≠ 92 := fun hc => by rw [hc] at hb; exact h92 hb
     have n3 : ¬ c < 32 := fun hc => by have : c.toNat < 32 := hc; omega
     have n4 : ∀ k : UInt8, k < 32 → c ≠ k := fun k hk hc => n3 (hc ▸ hk)
     rw [if_neg n1, if_neg n2, if_neg (n4 8 (by decide)), if_neg (n4 12 (by decide)), if_neg (n4 10 (by decide)), if_neg (n4 13 (by decide)), if_neg (n4 9 (by decide)), if_neg n3]
     rfl
    omega
   · rw [hbig hx]; omega
  · cases h
theorem strF_len {s : ByteArray} : ∀ (n p : Nat) (acc l : List Int) (e : Nat), strF s n p acc = .pts l e → ((flat l).flatMap Q.esc).length + p + 1 ≤ ((flat acc).flatMap Q.esc).length + e := by
 intro n
 induction n with
 | zero => intro p acc l e h; unfold strF at h; cases h
 | succ n ih =>
  intro p acc l e h
  unfold strF at h
  split at h
  ·
   injection h with h1 h2
   subst h1 h2
   omega
  ·
   rename_i h34
   split at h
   ·
    rename_i m q hc
    have h1 := ih _ _ _ _ h
    have h2 := esc_le m hc h34
    rw [flat_append, List.flatMap_append, List.length_append, show flat [m] = Lib.encodeRune m by rw [flat_cons, flat_nil, List.append_nil]] at h1
    omega
   · cases h
theorem tok_quo {s : ByteArray} {i : Nat} {t : Tok} (h : next s i = .tok t) (hk : t.kind = 2) : (Q.quo t.text.data.toList).length + t.at_ ≤ t.fin := by
 have h' : ansAt s (span isBl s i) = .tok t := h
 generalize span isBl s i = a at h'
 unfold ansAt at h'
 split at h'
 · injection h' with h'; subst h'; exact absurd hk (show ¬ (0 : Int) = 2 by decide)
 split at h'
 · injection h' with h'; subst h'; exact absurd hk (show ¬ (1 : Int) = 2 by decide)
 split at h'
 ·
  unfold strAns at h'
  split at h'
  ·
   rename_i l e hs
   injection h' with h'; subst h'
   have := strF_len _ _ _ _ _ hs
   show (Q.quo (flat l)).length + a ≤ e
   unfold Q.quo
   simp only [flat_nil, List.flatMap_nil, List.length_nil] at this
   simp only [List.length_cons, List.length_append, List.length_nil]
   omega
  · cases h'
 split at h'
 ·
  unfold numAns at h'
  repeat' split at h'
  all_goals first
   | (injection h' with h'; subst h'; exact absurd hk (show ¬ (3 : Int) = 2 by decide))
   | cases h'
 split at h'
 ·
  unfold wordAns at h'
  split at h'
  ·
   injection h' with h'; subst h'
   have hk2 : kindOf (bt s a) = 2 := hk
   unfold kindOf at hk2
   split at hk2
   · omega
   split at hk2 <;> omega
  · cases h'
 · cases h'
end Go.Proofs.YtgblenoaeanogaaGreatDoor.Rd
namespace Go.Proofs.YtgblenoaeanogaaGreatDoor.Rd
open Tk Pl
theorem itoa_le {L : List UInt8} (h : De.form L = true) : (Lib.itoa (De.numL L)).length ≤ L.length := by
 obtain ⟨h0, h1⟩ := De.form_digs h
 have h2 := De.decF_lt _ h1
 obtain ⟨k, hk⟩ : ∃ k, (De.digs L).length = k + 1 := ⟨(De.digs L).length - 1, by have := List.length_pos_iff.2 h0; omega⟩
 rw [hk] at h2
 have h3 := De.dec_len h2
 have hl : L.head? = some 45 → L.length = k + 2 := fun hh => by
  have : De.digs L = L.tail := if_pos hh
  rw [this, List.length_tail] at hk
  omega
 have hl2 : ¬ L.head? = some 45 → L.length = k + 1 := fun hh => by
  have : De.digs L = L := if_neg hh
  rw [this] at hk
  exact hk
 unfold De.numL Lib.itoa
 generalize De.decF 0 (De.digs L) = N at *
 split
 ·
  rename_i hh
  have := hl hh
  split
  · rw [List.length_cons, show (-(N : Int)).natAbs = N by omega]; omega
  · rw [show (-(N : Int)).toNat = N by omega]; omega
 ·
  rename_i hh
  have := hl2 hh
  rw [if_neg (by omega), show ((N : Int)).toNat = N by omega]; omega
theorem tok_num {s : ByteArray} {i : Nat} {t : Tok} (h : next s i = .tok t) (hk : t.kind = 3) : (Lib.itoa t.num).length + t.at_ ≤ t.fin := by
 have h' : ansAt s (span isBl s i) = .tok t := h
 generalize span isBl s i = a at h'
 unfold ansAt at h'
 split at h'
 · injection h' with h'; subst h'; exact absurd hk (show ¬ (0 : Int) = 3 by decide)
 split at h'
 · injection h' with h'; subst h'; exact absurd hk (show ¬ (1 : Int) = 3 by decide)
 split at h'
 ·
  unfold strAns at h'
  split at h'
  · injection h' with h'; subst h'; exact absurd hk (show ¬ (2 : Int) = 3 by decide)
  · cases h'
 split at h'
 ·
  unfold numAns at h'
  split at h'
  · cases h'
  rename_i hb
  split at h'
  · cases h'
  split at h'
  · cases h'
  split at h'
  · cases h'
  split at h'
  ·
   injection h' with h'; subst h'
   have hb' : intB s a = true := by simpa using hb
   obtain ⟨f1, f2, f3⟩ := num_form hb'
   have := itoa_le f1
   have hlen : (sub s a (intE s a)).data.toList.length = intE s a - a := by
    rw [sub_list, List.length_take, List.length_drop, size_toList]; omega
   show (Lib.itoa (De.numL (sub s a (intE s a)).data.toList)).length + a ≤ intE s a
   omega
  · cases h'
 split at h'
 ·
  unfold wordAns at h'
  split at h'
  ·
   injection h' with h'; subst h'
   have hk2 : kindOf (bt s a) = 3 := hk
   unfold kindOf at hk2
   split at hk2
   · omega
   split at hk2 <;> omega
  · cases h'
 · cases h'
theorem tok_word {s : ByteArray} {i : Nat} {t : Tok} (h : next s i = .tok t) (hk : t.kind = 4 ∨ t.kind = 5 ∨ t.kind = 6) : t.fin = t.at_ + (if t.kind = 5 then 5 else 4) := by
 have h' : ansAt s (span isBl s i) = .tok t := h
 generalize span isBl s i = a at h'
 unfold ansAt at h'
 split at h'
 · injection h' with h'; subst h'; exact absurd hk (show ¬ ((0 : Int) = 4 ∨ (0 : Int) = 5 ∨ (0 : Int) = 6) by decide)
 split at h'
 · injection h' with h'; subst h'; exact absurd hk (show ¬ ((1 : Int) = 4 ∨ (1 : Int) = 5 ∨ (1 : Int) = 6) by decide)
 split at h'
 ·
  unfold strAns at h'
  split at h'
  · injection h' with h'; subst h'; exact absurd hk (show ¬ ((2 : Int) = 4 ∨ (2 : Int) = 5 ∨ (2 : Int) = 6) by decide)
  · cases h'
 split at h'
 ·
  unfold numAns at h'
  repeat' split at h'
  all_goals first
   | (injection h' with h'; subst h'; exact absurd hk (show ¬ ((3 : Int) = 4 ∨ (3 : Int) = 5 ∨ (3 : Int) = 6) by decide))
   | cases h'
 split at h'
 ·
  rename_i hc
  unfold wordAns at h'
  split at h'
  ·
   injection h' with h'; subst h'
   show a + (wordOf (bt s a)).length = a + (if kindOf (bt s a) = 5 then 5 else 4)
   generalize bt s a = c at *
   rcases hc with rfl | rfl | rfl <;> rfl
  · cases h'
 · cases h'
end Go.Proofs.YtgblenoaeanogaaGreatDoor.Rd
namespace Go.Proofs.YtgblenoaeanogaaGreatDoor.Rd
open Tk Pl
def sumA : List T → Nat
 | [] => 0
 | x :: r => x.txt.length + 1 + sumA r
def sumO : List (ByteArray × T) → Nat
 | [] => 0
 | x :: r => (Q.quo x.1.data.toList).length + 1 + x.2.txt.length + 1 + sumO r
theorem sumO_perm {a b : List (ByteArray × T)} (h : a.Perm b) : sumO a = sumO b := by
 induction h with
 | nil => rfl
 | cons x h ih => simp only [sumO, ih]
 | swap x y l => simp only [sumO]; omega
 | trans h1 h2 ih1 ih2 => exact ih1.trans ih2
theorem txts_sumA : ∀ (l : List T) (i : Nat), (T.txts [] l (i + 1)).length = sumA l
 | [], i => by rw [T.txts]; rfl
 | x :: r, i => by
  rw [txts_cons, sumA]
  simp only [List.length_append, txts_sumA r (i + 1), show comma (i + 1) = [44] from rfl, show keyPart [] (i + 1) = [] from rfl, List.length_singleton, List.length_nil]; omega
theorem arr_len (l : List T) : (arrT l).txt.length = if l = [] then 2 else 1 + sumA l := by
 have e : (arrT l).txt = 91 :: (T.txts [] l 0 ++ [93]) := by rw [T.txt_eq]; rfl
 rw [e]
 cases l with
 | nil => rw [T.txts]; rfl
 | cons x r =>
  rw [txts_cons, if_neg (by simp), sumA]
  simp only [List.length_cons, List.length_append, txts_sumA r 0, show comma 0 = [] from rfl, show keyPart [] 0 = [] from rfl, List.length_nil]; omega
theorem txts_sumO (ks : List ByteArray) : ∀ (l : List T) (i : Nat), ks.length = i + l.length → (T.txts ks l i).length + (if i = 0 ∧ l ≠ [] then 1 else 0) = sumO ((ks.drop i).zip l)
 | [], i, h => by rw [T.txts, List.zip_nil_right, if_neg (by simp)]; rfl
 | x :: r, i, h => by
  have hi : i < ks.length := by rw [h, List.length_cons]; omega
  have h1 := txts_sumO ks r (i + 1) (by rw [h, List.length_cons]; omega)
  rw [if_neg (by omega)] at h1
  have ek : keyPart ks i = Q.quo (ks[i]).data.toList ++ [58] := by unfold keyPart; rw [List.getElem?_eq_getElem hi]; dsimp only; rw [quo_data]
  rw [txts_cons, List.drop_eq_getElem_cons hi, List.zip_cons_cons, sumO, ← h1, ek]
  simp only [List.length_append, List.length_singleton]
  unfold comma
  split
  · rename_i h0; rw [if_pos ⟨h0, by simp⟩]; simp only [List.length_nil]; omega
  · rename_i h0; rw [if_neg (by simp [h0])]; simp only [List.length_singleton]; omega
theorem Ob_zip {m : List (ByteArray × T)} (hn : (m.map Prod.fst).Nodup) : ((Ob m).keys.zip (Ob m).items).Perm m := by
 rw [Ob_eq]
 show ((srt (m.map Prod.fst)).zip ((srt (m.map Prod.fst)).map (lk m))).Perm m
 have e : ∀ l : List ByteArray, l.zip (l.map (lk m)) = l.map fun k => (k, lk m k) := fun l => by
  induction l with
  | nil => rfl
  | cons k l ih => rw [List.map_cons, List.zip_cons_cons, ih, List.map_cons]
 rw [e]
 have h1 : ((srt (m.map Prod.fst)).map fun k => (k, lk m k)).Perm ((m.map Prod.fst).map fun k => (k, lk m k)) := (srt_perm _).map _
 have h2 : (m.map Prod.fst).map (fun k => (k, lk m k)) = m := by
  rw [List.map_map]
  conv => rhs; rw [← List.map_id m]
  apply List.map_congr_left
  rintro ⟨q, x⟩ hx
  show (q, lk m q) = (q, x)
  rw [lk_mem hn hx]
 rw [h2] at h1
 exact h1
theorem obj_len {m : List (ByteArray × T)} (hn : (m.map Prod.fst).Nodup) (hm : m ≠ []) : (Ob m).txt.length = 1 + sumO m := by
 have e : (Ob m).txt = 123 :: (T.txts (Ob m).keys (Ob m).items 0 ++ [125]) := by rw [T.txt_eq]; rfl
 have hp := Ob_zip hn
 have hl : (Ob m).keys.length = (Ob m).items.length := by rw [Ob_eq]; show (srt _).length = (List.map _ (srt _)).length; rw [List.length_map]
 have h1 := txts_sumO (Ob m).keys (Ob m).items 0 (by rw [hl, Nat.zero_add])
 rw [List.drop_zero, sumO_perm hp] at h1
 have hne : (Ob m).items ≠ [] := fun h0 => by
  rw [h0, List.zip_nil_right] at hp
  exact hm (List.Perm.nil_eq hp).symm
 rw [if_pos ⟨rfl, hne⟩] at h1
 rw [e]
 simp only [List.length_cons, List.length_append, List.length_nil]
 omega
theorem from_len (s : ByteArray) : ∀ n, (∀ room i t v e, i ≤ s.size → next s i = .tok t → fromF Ob s n room t = .val v e → v.txt.length + t.at_ ≤ e ∧ e ≤ s.size) ∧ (∀ room i t acc v e, i ≤ s.size → next s i = .tok t → itemsF Ob s n room t acc = .val v e → ∃ l, l ≠ [] ∧ v = arrT (acc ++ l) ∧ sumA l + t.at_ ≤ e ∧ e ≤ s.size) ∧ (∀ room i t acc v e, i ≤ s.size → next s i = .tok t → (acc.map Prod.fst).Nodup → membsF Ob s n room t acc = .val v e → ∃ l, l ≠ [] ∧ v = Ob (acc ++ l) ∧ ((acc ++ l).map Prod.fst).Nodup ∧ sumO l + t.at_ ≤ e ∧ e ≤ s.size) := by
 intro n
 induction n with
 | zero => exact ⟨fun _ _ _ _ _ _ _ h => (by rw [fromF] at h; cases h), fun _ _ _ _ _ _ _ _ h => (by rw [itemsF] at h; cases h), fun _ _ _ _ _ _ _ _ _ h => (by rw [membsF] at h; cases h)⟩
 | succ n ih =>
  obtain ⟨ih1, ih2, ih3⟩ := ih
  refine ⟨fun room i t v e hi ht h => ?_, fun room i t acc v e hi ht h => ?_, fun room i t acc v e hi ht hnd h => ?_⟩
  ·
   obtain ⟨⟨o1, o2, o3⟩, _⟩ := ok_next hi ht
   rw [fromF] at h
   split at h
   ·
    rename_i hk
    injection h with h1 h2; subst h1 h2
    have := tok_word ht (.inr (.inr hk))
    rw [if_neg (by omega)] at this
    exact ⟨by rw [this]; show 4 + _ ≤ _; omega, o2⟩
   split at h
   ·
    rename_i hk
    injection h with h1 h2; subst h1 h2
    have := tok_word ht (by omega)
    refine ⟨?_, o2⟩
    rcases hk with hk | hk
    ·
     rw [if_neg (by omega)] at this
     rw [this, hk]; show 4 + _ ≤ _; omega
    ·
     rw [if_pos hk] at this
     rw [this, hk]; show 5 + _ ≤ _; omega
   split at h
   ·
    rename_i hk
    injection h with h1 h2; subst h1 h2
    exact ⟨tok_num ht hk, o2⟩
   split at h
   ·
    rename_i hk
    injection h with h1 h2; subst h1 h2
    have := tok_quo ht hk
    rw [← quo_data] at this
    exact ⟨this, o2⟩
   split at h
   · cases h
   rename_i hm
   have hk : t.kind ≠ 0 := by
    by_cases h91 : isM t 91
    · exact mark_ne h91
    ·
     by_cases h123 : isM t 123
     · exact mark_ne h123
     · exact absurd ⟨h91, h123⟩ hm
   have o4 := o3 hk
   split at h
   · cases h
   split at h
   · cases h
   rename_i u hu
   obtain ⟨⟨b1, b2, b3⟩, b4⟩ := ok_next o2 hu
   split at h
   ·
    split at h
    ·
     rename_i hm2
     injection h with h1 h2; subst h1 h2
     have := b3 (mark_ne hm2)
     rw [arr_len, if_pos rfl]
     exact ⟨by omega, b2⟩
    ·
     obtain ⟨l, l1, l2, l3, l4⟩ := ih2 _ _ _ _ _ _ o2 hu h
     rw [l2, List.nil_append, arr_len, if_neg l1]
     exact ⟨by omega, l4⟩
   ·
    split at h
    ·
     rename_i hm2
     injection h with h1 h2; subst h1 h2
     have := b3 (mark_ne hm2)
     rw [Ob_nil]
     exact ⟨by show 2 + _ ≤ _; omega, b2⟩
    ·
     obtain ⟨l, l1, l2, l5, l3, l4⟩ := ih3 _ _ _ _ _ _ o2 hu (by simp) h
     rw [List.nil_append] at l2 l5
     rw [l2, obj_len l5 l1]
     exact ⟨by omega, l4⟩
  ·
   rw [itemsF] at h
   split at h
   · cases h
   · cases h
   rename_i x a hx
   obtain ⟨g1, g2⟩ := ih1 _ _ _ _ _ hi ht hx
   split at h
   · cases h
   rename_i u hu
   obtain ⟨⟨b1, b2, b3⟩, b4⟩ := ok_next g2 hu
   split at h
   ·
    rename_i hm2
    injection h with h1 h2; subst h1 h2
    have := b3 (mark_ne hm2)
    exact ⟨[x], by simp, rfl, by simp only [sumA]; omega, b2⟩
   split at h
   · cases h
   rename_i hm2
   have := b3 (mark_ne (Classical.not_not.1 hm2))
   split at h
   · cases h
   rename_i y hy
   obtain ⟨⟨c1, c2, c3⟩, c4⟩ := ok_next b2 hy
   obtain ⟨l, l1, l2, l3, l4⟩ := ih2 _ _ _ _ _ _ b2 hy h
   exact ⟨x :: l, by simp, by rw [l2, List.append_assoc]; rfl, by simp only [sumA]; omega, l4⟩
  ·
   obtain ⟨⟨o1, o2, o3⟩, _⟩ := ok_next hi ht
   rw [membsF] at h
   split at h
   · cases h
   rename_i hk
   have hk2 : t.kind = 2 := Classical.not_not.1 hk
   have hq := tok_quo ht hk2
   split at h
   · cases h
   rename_i hno
   have hnd2 : ∀ x : T, ((acc ++ [(t.text, x)]).map Prod.fst).Nodup := fun x => by
    rw [List.map_append, List.nodup_append]
    refine ⟨hnd, by simp, fun a ha b hb => ?_⟩
    have : b = t.text := by simpa using hb
    subst this
    intro hab
    exact hno (hasK_iff.2 (hab ▸ ha))
   split at h
   · cases h
   rename_i u hu
   obtain ⟨⟨b1, b2, b3⟩, b4⟩ := ok_next o2 hu
   split at h
   · cases h
   rename_i hm1
   have d1 := b3 (mark_ne (Classical.not_not.1 hm1))
   split at h
   · cases h
   rename_i w hw
   obtain ⟨_, c4⟩ := ok_next b2 hw
   split at h
   · cases h
   · cases h
   rename_i x a hx
   obtain ⟨g1, g2⟩ := ih1 _ _ _ _ _ b2 hw hx
   split at h
   · cases h
   rename_i y hy
   obtain ⟨⟨f1, f2, f3⟩, f4⟩ := ok_next g2 hy
   split at h
   ·
    rename_i hm2
    injection h with h1 h2; subst h1 h2
    have := f3 (mark_ne hm2)
    exact ⟨[(t.text, x)], by simp, rfl, hnd2 x, by simp only [sumO]; omega, f2⟩
   split at h
   · cases h
   rename_i hm2
   have := f3 (mark_ne (Classical.not_not.1 hm2))
   split at h
   · cases h
   rename_i z hz
   obtain ⟨_, k4⟩ := ok_next f2 hz
   obtain ⟨l, l1, l2, l5, l3, l4⟩ := ih3 _ _ _ _ _ _ f2 hz (hnd2 x) h
   rw [List.append_assoc] at l2 l5
   exact ⟨(t.text, x) :: l, by simp, l2, l5, by simp only [sumO]; omega, l4⟩
end Go.Proofs.YtgblenoaeanogaaGreatDoor.Rd
namespace Go.Proofs.YtgblenoaeanogaaGreatDoor.Rd
open Tk Pl
def G (v : T) : Prop := v.Good ∧ T.All (fun t => In64 t.num) v
theorem tok_say {s : ByteArray} {i : Nat} {t : Tok} (hi : i ≤ s.size) (h : next s i = .tok t) : (t.kind = 2 → okText t.text) ∧ (t.kind = 3 → In64 t.num) := by
 have h' : ansAt s (span isBl s i) = .tok t := h
 have ha := span_le isBl hi
 generalize span isBl s i = a at h' ha
 unfold ansAt at h'
 split at h'
 · injection h' with h'; subst h'; exact ⟨fun hk => absurd hk (show ¬ (0 : Int) = 2 by decide), fun hk => absurd hk (show ¬ (0 : Int) = 3 by decide)⟩
 rename_i hl
 split at h'
 · injection h' with h'; subst h'; exact ⟨fun hk => absurd hk (show ¬ (1 : Int) = 2 by decide), fun hk => absurd hk (show ¬ (1 : Int) = 3 by decide)⟩
 split at h'
 ·
  unfold strAns at h'
  split at h'
  ·
   rename_i l e hs
   injection h' with h'; subst h'
   have := (strF_pts _ _ _ _ _ (by omega) hs).2.2 (by simp)
   exact ⟨fun _ => ⟨l, (List.append_nil _).symm, rfl, this⟩, fun hk => absurd hk (show ¬ (2 : Int) = 3 by decide)⟩
  · cases h'
 split at h'
 ·
  unfold numAns at h'
  split at h'
  · cases h'
  split at h'
  · cases h'
  split at h'
  · cases h'
  split at h'
  · cases h'
  split at h'
  ·
   rename_i hin
   injection h' with h'; subst h'
   exact ⟨fun hk => absurd hk (show ¬ (3 : Int) = 2 by decide), fun _ => hin⟩
  · cases h'
 split at h'
 ·
  unfold wordAns at h'
  split at h'
  ·
   injection h' with h'; subst h'
   have key : ∀ c : Nat, kindOf c ≠ 2 ∧ kindOf c ≠ 3 := fun c => by
    unfold kindOf
    split
    · exact ⟨by decide, by decide⟩
    split <;> exact ⟨by decide, by decide⟩
   exact ⟨fun hk => absurd hk (key _).1, fun hk => absurd hk (key _).2⟩
  · cases h'
 · cases h'
theorem in0 : In64 0 := ⟨by decide, by decide⟩
theorem text_nix : okText nix := ⟨[], rfl, rfl, by simp⟩
theorem rising_nil : Rising [] := fun i a b h => by simp at h
theorem g_leaf {v : T} (hi : v.items = []) (h : GoodAt v) (hn : In64 v.num) : G v := ⟨.mk v h (fun x hx => (by rw [hi] at hx; cases hx)), .mk v hn (fun x hx => (by rw [hi] at hx; cases hx))⟩
theorem g_nul : G nulT := g_leaf rfl ⟨by decide, by decide, fun _ => rfl, fun _ => rfl, fun _ => rfl, fun _ _ => rfl, fun _ => rfl, fun h => absurd h (by decide), text_nix, (fun _ h => by cases h), rising_nil⟩ in0
theorem g_tru (b : Bool) : G (truT b) := g_leaf rfl ⟨by show (0 : Int) ≤ 1; decide, by show (1 : Int) ≤ 5; decide, fun h => absurd rfl h, fun _ => rfl, fun _ => rfl, fun _ _ => rfl, fun _ => rfl, fun h => absurd h (show ¬ (1 : Int) = 5 by decide), text_nix, (fun _ h => by cases h), rising_nil⟩ in0
theorem g_num {n : Int} (hn : In64 n) : G (numT n) := g_leaf rfl ⟨by show (0 : Int) ≤ 2; decide, by show (2 : Int) ≤ 5; decide, fun _ => rfl, fun h => absurd rfl h, fun _ => rfl, fun _ _ => rfl, fun _ => rfl, fun h => absurd h (show ¬ (2 : Int) = 5 by decide), text_nix, (fun _ h => by cases h), rising_nil⟩ hn
theorem g_str {q : ByteArray} (hq : okText q) : G (strT q) := g_leaf rfl ⟨by show (0 : Int) ≤ 3; decide, by show (3 : Int) ≤ 5; decide, fun _ => rfl, fun _ => rfl, fun h => absurd rfl h, fun _ _ => rfl, fun _ => rfl, fun h => absurd h (show ¬ (3 : Int) = 5 by decide), hq, (fun _ h => by cases h), rising_nil⟩ in0
theorem g_arr {l : List T} (h : ∀ x ∈ l, G x) : G (arrT l) := ⟨.mk _ ⟨by show (0 : Int) ≤ 4; decide, by show (4 : Int) ≤ 5; decide, fun _ => rfl, fun _ => rfl, fun _ => rfl, fun h => absurd rfl h, fun _ => rfl, fun h => absurd h (show ¬ (4 : Int) = 5 by decide), text_nix, (fun _ h => by cases h), rising_nil⟩ fun x hx => (h x hx).1, .mk _ in0 fun x hx => (h x hx).2⟩
theorem g_ob {m : List (ByteArray × T)} (hn : (m.map Prod.fst).Nodup) (h : ∀ x ∈ m, okText x.1 ∧ G x.2) : G (Ob m) := by
 have hi : ∀ x ∈ (Ob m).items, G x := fun x hx => by
  obtain ⟨y, hy, rfl⟩ := List.mem_map.1 ((Ob_items hn).mem_iff.1 hx)
  exact (h y hy).2
 refine ⟨.mk _ ⟨by show (0 : Int) ≤ 5; decide, by show (5 : Int) ≤ 5; decide, fun _ => rfl, fun _ => rfl, fun _ => rfl, fun _ h => absurd rfl h, fun h => absurd rfl h, fun _ => ?_, text_nix, ?_, srt_rising hn⟩ fun x hx => (hi x hx).1, .mk _ in0 fun x hx => (hi x hx).2⟩
 · rw [Ob_eq]; show (srt _).length = (List.map _ (srt _)).length; rw [List.length_map]
 ·
  intro q hq
  obtain ⟨y, hy, rfl⟩ := List.mem_map.1 ((srt_perm _).mem_iff.1 (show q ∈ srt (m.map Prod.fst) from hq))
  exact (h y hy).1
theorem from_good (s : ByteArray) : ∀ n, (∀ room i t v e, i ≤ s.size → next s i = .tok t → fromF Ob s n room t = .val v e → G v ∧ e ≤ s.size) ∧ (∀ room i t acc v e, i ≤ s.size → next s i = .tok t → (∀ x ∈ acc, G x) → itemsF Ob s n room t acc = .val v e → G v ∧ e ≤ s.size) ∧ (∀ room i t acc v e, i ≤ s.size → next s i = .tok t → (acc.map Prod.fst).Nodup → (∀ x ∈ acc, okText x.1 ∧ G x.2) → membsF Ob s n room t acc = .val v e → G v ∧ e ≤ s.size) := by
 intro n
 induction n with
 | zero => exact ⟨fun _ _ _ _ _ _ _ h => (by rw [fromF] at h; cases h), fun _ _ _ _ _ _ _ _ _ h => (by rw [itemsF] at h; cases h), fun _ _ _ _ _ _ _ _ _ _ h => (by rw [membsF] at h; cases h)⟩
 | succ n ih =>
  obtain ⟨ih1, ih2, ih3⟩ := ih
  refine ⟨fun room i t v e hi ht h => ?_, fun room i t acc v e hi ht ha h => ?_, fun room i t acc v e hi ht hnd ha h => ?_⟩
  ·
   obtain ⟨⟨o1, o2, o3⟩, _⟩ := ok_next hi ht
   obtain ⟨s2, s3⟩ := tok_say hi ht
   rw [fromF] at h
   split at h
   · injection h with h1 h2; subst h1 h2; exact ⟨g_nul, o2⟩
   split at h
   · injection h with h1 h2; subst h1 h2; exact ⟨g_tru _, o2⟩
   split at h
   ·
    rename_i hk
    injection h with h1 h2; subst h1 h2; exact ⟨g_num (s3 hk), o2⟩
   split at h
   ·
    rename_i hk
    injection h with h1 h2; subst h1 h2; exact ⟨g_str (s2 hk), o2⟩
   split at h
   · cases h
   split at h
   · cases h
   split at h
   · cases h
   rename_i u hu
   obtain ⟨⟨b1, b2, b3⟩, b4⟩ := ok_next o2 hu
   split at h
   ·
    split at h
    · injection h with h1 h2; subst h1 h2; exact ⟨g_arr (by simp), b2⟩
    · exact ih2 _ _ _ _ _ _ o2 hu (by simp) h
   ·
    split at h
    · injection h with h1 h2; subst h1 h2; exact ⟨g_ob (by simp) (by simp), b2⟩
    · exact ih3 _ _ _ _ _ _ o2 hu (by simp) (by simp) h
  ·
   rw [itemsF] at h
   split at h
   · cases h
   · cases h
   rename_i x a hx
   obtain ⟨g1, g2⟩ := ih1 _ _ _ _ _ hi ht hx
   have ha2 : ∀ y ∈ acc ++ [x], G y := fun y hy => by
    rcases List.mem_append.1 hy with hy | hy
    · exact ha y hy
    · obtain rfl := List.mem_singleton.1 hy; exact g1
   split at h
   · cases h
   rename_i u hu
   obtain ⟨⟨b1, b2, b3⟩, b4⟩ := ok_next g2 hu
   split at h
   · injection h with h1 h2; subst h1 h2; exact ⟨g_arr ha2, b2⟩
   split at h
   · cases h
   split at h
   · cases h
   rename_i y hy
   exact ih2 _ _ _ _ _ _ b2 hy ha2 h
  ·
   obtain ⟨⟨o1, o2, o3⟩, _⟩ := ok_next hi ht
   obtain ⟨s2, s3⟩ := tok_say hi ht
   rw [membsF] at h
   split at h
   · cases h
   rename_i hk
   have hk2 : t.kind = 2 := Classical.not_not.1 hk
   split at h
   · cases h
   rename_i hno
   have hnd2 : ∀ x : T, ((acc ++ [(t.text, x)]).map Prod.fst).Nodup := fun x => by
    rw [List.map_append, List.nodup_append]
    refine ⟨hnd, by simp, fun a ha b hb => ?_⟩
    have : b = t.text := by simpa using hb
    subst this
    intro hab
    exact hno (hasK_iff.2 (hab ▸ ha))
   split at h
   · cases h
   rename_i u hu
   obtain ⟨⟨b1, b2, b3⟩, b4⟩ := ok_next o2 hu
   split at h
   · cases h
   split at h
   · cases h
   rename_i w hw
   split at h
   · cases h
   · cases h
   rename_i x a hx
   obtain ⟨g1, g2⟩ := ih1 _ _ _ _ _ b2 hw hx
   have ha2 : ∀ y ∈ acc ++ [(t.text, x)], okText y.1 ∧ G y.2 := fun y hy => by
    rcases List.mem_append.1 hy with hy | hy
    · exact ha y hy
    · obtain rfl := List.mem_singleton.1 hy; exact ⟨s2 hk2, g1⟩
   split at h
   · cases h
   rename_i y hy
   obtain ⟨⟨f1, f2, f3⟩, f4⟩ := ok_next g2 hy
   split at h
   · injection h with h1 h2; subst h1 h2; exact ⟨g_ob (hnd2 x) ha2, f2⟩
   split at h
   · cases h
   split at h
   · cases h
   rename_i z hz
   exact ih3 _ _ _ _ _ _ f2 hz (hnd2 x) ha2 h
theorem whole_good {s : ByteArray} {room : Nat} {v : T} {p : Nat} (h : whole Ob s room = .val v p) : G v ∧ p = 0 ∧ v.txt.length ≤ s.size := by
 unfold whole at h
 split at h
 · cases h
 rename_i t ht
 split at h
 · cases h
 · cases h
 rename_i x e hx
 have g := (from_good s _).1 _ _ _ _ _ (Nat.zero_le _) ht hx
 have l := (from_len s _).1 _ _ _ _ _ (Nat.zero_le _) ht hx
 split at h
 · cases h
 split at h
 ·
  injection h with h1 h2; subst h1 h2
  exact ⟨g.1, rfl, by omega⟩
 · cases h
end Go.Proofs.YtgblenoaeanogaaGreatDoor.Rd
