/- A string that begins at a place is the one that the text from there on begins with: plain mathematics. Signs and words as the reference asks for them: plain mathematics. Letters, digits and words: contracts of the program's parser. Where the next thing begins, and what it is: contracts of the program's parser. Signs and words, read: contracts of the program's parser. -/
import Derived.Test.YtfbipnflgjhaiaaGreatDoorEX
import Derived.Test.YtfbipnflgjhaiaaGreatDoorMF
set_option linter.unusedVariables false
set_option maxRecDepth 100000
set_option maxHeartbeats 8000000
open Go.Lib (hid)
namespace Go.Proofs.YtfbipnflgjhaiaaGreatDoor.Tk
open Pl
def Ch.shift (a : Nat) : Ch → Ch
 | .pt n e => .pt n (a + e)
 | .bad p c => .bad (a + p) c
def St.shift (a : Nat) : St → St
 | .pts l e => .pts l (a + e)
 | .bad p c => .bad (a + p) c
def Ans.shift (a : Nat) : Ans → Ans
 | .tok t => .tok ⟨t.kind, t.text, t.num, a + t.at_, a + t.fin⟩
 | .err p c => .err (a + p) c
theorem suf_list (s : ByteArray) (a : Nat) : (s.extract a s.size).data.toList = s.data.toList.drop a := by
 rw [show (s.extract a s.size).data.toList = (s.data.toList.drop a).take (s.size - a) from sub_list s a s.size]
 exact List.take_of_length_le (by rw [List.length_drop, size_toList]; exact Nat.le_refl _)
theorem suf_size (s : ByteArray) (a : Nat) : (s.extract a s.size).size = s.size - a := by
 rw [ByteArray.size_extract]; omega
theorem suf_drop (s : ByteArray) (a p : Nat) : (s.extract a s.size).data.toList.drop p = s.data.toList.drop (a + p) := by
 rw [suf_list, List.drop_drop]
theorem suf_bt (s : ByteArray) (a i : Nat) : bt (s.extract a s.size) i = bt s (a + i) := by
 unfold bt
 rw [suf_list, List.getD_eq_getElem?_getD, List.getD_eq_getElem?_getD, List.getElem?_drop]
theorem suf_fourF (s : ByteArray) (a : Nat) : ∀ k i n, fourF s k (a + i) n = ((fourF (s.extract a s.size) k i n).1, a + (fourF (s.extract a s.size) k i n).2) := by
 intro k
 induction k with
 | zero => intro i n; rfl
 | succ k ih =>
  intro i n
  simp only [fourF]
  rw [suf_bt]
  split
  · rfl
  · exact ih (i + 1) _
theorem suf_four (s : ByteArray) (a i : Nat) : four s (a + i) = ((four (s.extract a s.size) i).1, a + (four (s.extract a s.size) i).2) := suf_fourF s a 4 i 0
theorem suf_uni (s : ByteArray) (a p : Nat) : uniCh s (a + p) = (uniCh (s.extract a s.size) p).shift a := by
 unfold uniCh
 rw [show a + p + 2 = a + (p + 2) from rfl, show a + p + 8 = a + (p + 8) from rfl, show a + p + 6 = a + (p + 6) from rfl, show a + p + 7 = a + (p + 7) from rfl, suf_four s a (p + 2), suf_four s a (p + 8), ← suf_bt s a (p + 6), ← suf_bt s a (p + 7)]
 generalize four (s.extract a s.size) (p + 2) = f
 generalize four (s.extract a s.size) (p + 8) = g
 dsimp only
 by_cases h1 : f.1 < 0
 · rw [if_pos h1, if_pos h1]; rfl
 ·
  rw [if_neg h1, if_neg h1]
  by_cases h2 : pt f.1 = true
  · rw [if_pos h2, if_pos h2]; rfl
  ·
   rw [if_neg h2, if_neg h2]
   split
   · rfl
   · rfl
theorem suf_ch (s : ByteArray) (a p : Nat) (ha : a ≤ s.size) : chAt s (a + p) = (chAt (s.extract a s.size) p).shift a := by
 unfold chAt
 rw [suf_bt, suf_size]
 by_cases h1 : s.size ≤ a + p ∨ bt s (a + p) < 32
 · rw [if_pos h1, if_pos (show s.size - a ≤ p ∨ bt s (a + p) < 32 by omega)]; rfl
 ·
  rw [if_neg h1, if_neg (show ¬ (s.size - a ≤ p ∨ bt s (a + p) < 32) by omega)]
  by_cases h2 : bt s (a + p) = 92
  ·
   rw [if_pos h2, if_pos h2]
   unfold escCh
   rw [show a + p + 1 = a + (p + 1) from rfl, suf_bt]
   split
   · rfl
   ·
    split
    · exact suf_uni s a p
    · rfl
  ·
   rw [if_neg h2, if_neg h2]
   unfold rawCh
   rw [suf_drop]
   split
   · show Ch.pt _ _ = Ch.pt _ _; rw [Nat.add_assoc]
   · rfl
theorem suf_strF (s : ByteArray) (a : Nat) (ha : a ≤ s.size) : ∀ n p acc, strF s n (a + p) acc = (strF (s.extract a s.size) n p acc).shift a := by
 intro n
 induction n with
 | zero => intro p acc; rfl
 | succ n ih =>
  intro p acc
  unfold strF
  rw [suf_bt, suf_ch s a p ha]
  split
  · rfl
  ·
   cases hc : chAt (s.extract a s.size) p with
   | pt m e => exact ih e _
   | bad q c => rfl
theorem suf_str (s : ByteArray) (a : Nat) (ha : a < s.size) : strAns s a = (strAns (s.extract a s.size) 0).shift a := by
 unfold strAns str
 rw [suf_size, show s.size + 1 - (a + 1) = s.size - a by omega, show s.size - a + 1 - (0 + 1) = s.size - a by omega, suf_strF s a (by omega)]
 cases strF (s.extract a s.size) (s.size - a) (0 + 1) [] with
 | pts l e => rfl
 | bad q c => rfl
theorem chAt_far {s : ByteArray} {p q : Nat} {c : Int} (hp : p ≤ s.size) (h : chAt s p = .bad q c) : q ≤ s.size + 8 := by
 unfold chAt at h
 split at h
 · injection h with h _; omega
 ·
  split at h
  ·
   unfold escCh at h
   split at h
   · cases h
   ·
    split at h
    ·
     unfold uniCh at h
     have h1 := four_range s (p + 2)
     split at h
     · injection h with h _; omega
     ·
      split at h
      · cases h
      ·
       split at h
       · cases h
       · injection h with h _; omega
    · injection h with h _; omega
  ·
   unfold rawCh at h
   split at h
   · cases h
   · injection h with h _; omega
theorem strF_far {s : ByteArray} : ∀ n p acc q c, p ≤ s.size + 1 → strF s n p acc = .bad q c → q ≤ s.size + 8 := by
 intro n
 induction n with
 | zero => intro p acc q c hp h; unfold strF at h; injection h with h _; omega
 | succ n ih =>
  intro p acc q c hp h
  unfold strF at h
  split at h
  · cases h
  ·
   split at h
   ·
    rename_i m e hc
    obtain ⟨_, h4, h5⟩ := chAt_pt hc
    exact ih _ _ _ _ (by omega) h
   ·
    rename_i q' c' hc
    injection h with h1 h2
    subst h1 h2
    rcases Nat.lt_or_ge s.size p with h3 | h3
    ·
     unfold chAt at hc
     rw [if_pos (.inl (by omega))] at hc
     injection hc with hc _
     omega
    · exact chAt_far h3 hc
theorem strAns_far {s : ByteArray} {a p : Nat} {c : Int} (ha : a ≤ s.size) (h : strAns s a = .err p c) : p ≤ s.size + 8 := by
 unfold strAns at h
 split at h
 · cases h
 ·
  rename_i q' c' hq
  injection h with h1 h2
  subst h1 h2
  exact strF_far _ _ _ _ _ (by omega) hq
theorem suf_next (s : ByteArray) (a : Nat) (h : bt s a = 34) : next (s.extract a s.size) 0 = strAns (s.extract a s.size) 0 := by
 have h0 : bt (s.extract a s.size) 0 = 34 := by rw [suf_bt]; exact h
 have h1 : a < s.size := lt_of_bt (by rw [h]; decide)
 have h2 := suf_size s a
 unfold next
 rw [span_no (by rw [h0]; rfl)]
 unfold ansAt
 rw [if_neg (by omega), if_neg (by rw [h0]; decide), if_pos h0]
end Go.Proofs.YtfbipnflgjhaiaaGreatDoor.Tk
namespace Go.Proofs.YtfbipnflgjhaiaaGreatDoor.Ex
open Tk
def wordT (s : ByteArray) (i : Nat) : ByteArray := if isLt (bt s (bl s i)) = true then wd s i else nix
def wordP (s : ByteArray) (i : Nat) : Nat := if isLt (bt s (bl s i)) = true then wE s (bl s i) else i
def markP (s : ByteArray) (i : Nat) (t : ByteArray) : Int := if has s (bl s i) t = true then ((past s i t : Nat) : Int) else -1
theorem has_first {s : ByteArray} {a : Nat} {c : UInt8} {r : List UInt8} {t : ByteArray} (ht : t.data.toList = c :: r) (h : has s a t = true) : bt s a = c.toNat := by
 unfold has at h
 rw [ht] at h
 rcases Nat.lt_or_ge a s.size with h1 | h1
 ·
  rw [drop_cons h1] at h
  simp only [List.isPrefixOf, Bool.and_eq_true, beq_iff_eq] at h
  rw [← bt_at s a h1, ← h.1]
 ·
  rw [List.drop_eq_nil_of_le (by rw [size_toList]; exact h1)] at h
  simp [List.isPrefixOf] at h
theorem stands_has {s : ByteArray} {i : Nat} {t : ByteArray} (hi : i ≤ s.size) (h0 : t.data.toList ≠ []) (ht : ∀ c ∈ t.data.toList, isLt c.toNat = false) : stands s i t = has s (bl s i) t := by
 by_cases hl : isLt (bt s (bl s i)) = true
 ·
  rw [stands_sign hi hl ht]
  cases hh : has s (bl s i) t with
  | false => rfl
  | true =>
   cases hq : t.data.toList with
   | nil => exact absurd hq h0
   | cons c r =>
    have := has_first hq hh
    rw [this, ht c (by rw [hq]; exact List.mem_cons_self)] at hl
    cases hl
 · unfold stands; rw [if_neg hl]
theorem mark_sign {s : ByteArray} {i : Nat} {t : ByteArray} (hi : i ≤ s.size) (h0 : t.data.toList ≠ []) (ht : ∀ c ∈ t.data.toList, isLt c.toNat = false) : markP s i t = if stands s i t = true then ((past s i t : Nat) : Int) else -1 := by
 unfold markP; rw [stands_has hi h0 ht]
theorem stands_words {s : ByteArray} {i : Nat} {t : ByteArray} {c : UInt8} {r : List UInt8} (hq : t.data.toList = c :: r) (hc : isLt c.toNat = true) : stands s i t = eqb (wordT s i) t := by
 unfold wordT
 by_cases hl : isLt (bt s (bl s i)) = true
 · rw [stands_lt hl, if_pos hl]
 ·
  rw [if_neg hl]
  unfold stands
  rw [if_neg hl, eqb_no (by rintro rfl; cases hq)]
  cases hh : has s (bl s i) t with
  | false => rfl
  | true => rw [has_first hq hh] at hl; exact absurd hc hl
theorem wordP_past {s : ByteArray} {i : Nat} {t : ByteArray} {c : UInt8} {r : List UInt8} (hi : i ≤ s.size) (hq : t.data.toList = c :: r) (hc : isLt c.toNat = true) (h : stands s i t = true) : wordP s i = past s i t := by
 unfold wordP
 by_cases hl : isLt (bt s (bl s i)) = true
 · rw [if_pos hl, (stands_word hi hl h).2]
 ·
  rw [stands_words hq hc] at h
  unfold wordT at h
  rw [if_neg hl, eqb_no (by rintro rfl; cases hq)] at h
  cases h
end Go.Proofs.YtfbipnflgjhaiaaGreatDoor.Ex
namespace Go.Proofs.YtfbipnflgjhaiaaGreatDoor
open Go.RowKit
open Tk Ex
theorem xletter_any (c : Nat) (w : World) : Calls Tryz.prog 95 #[.int .u8 c] w fun e w' => e = .returned (.bool (isLt c)) ∧ w = w' := by
 obtain ⟨z, hz⟩ : ∃ z, isLt c = z := ⟨_, rfl⟩
 have HZ := hid hz
 rw [hz]
 clear hz
 by_cases a1 : (97 : Int) ≤ (c : Int) <;> by_cases a2 : (c : Int) ≤ 122 <;> by_cases a3 : (65 : Int) ≤ (c : Int) <;> by_cases a4 : (c : Int) ≤ 90
 all_goals try (exfalso; omega)
 all_goals
  go_enter Tryz.func95, Tryz.ntmps95
  go_wp2_with fail
  go_ret
  rw [← HZ.out]
  first
   | exact ⟨by rw [show isLt c = true from isLt_iff.2 (by omega)] <;> rfl, rfl⟩
   | exact ⟨by rw [show isLt c = false from isLt_no.2 (by omega)] <;> rfl, rfl⟩
theorem xdigit_any (c : Nat) (w : World) : Calls Tryz.prog 97 #[.int .u8 c] w fun e w' => e = .returned (.bool (isDg c)) ∧ w = w' := by
 obtain ⟨z, hz⟩ : ∃ z, isDg c = z := ⟨_, rfl⟩
 have HZ := hid hz
 rw [hz]
 clear hz
 by_cases a1 : (48 : Int) ≤ (c : Int) <;> by_cases a2 : (c : Int) ≤ 57
 all_goals try (exfalso; omega)
 all_goals
  go_enter Tryz.func97, Tryz.ntmps97
  go_wp2_with fail
  go_ret
  rw [← HZ.out]
  first
   | exact ⟨by rw [show isDg c = true from isDg_iff.2 (by omega)] <;> rfl, rfl⟩
   | exact ⟨by rw [show isDg c = false from isDg_no.2 (by omega)] <;> rfl, rfl⟩
theorem xwithin_any (c : Nat) (w : World) : Calls Tryz.prog 96 #[.int .u8 c] w fun e w' => e = .returned (.bool (isIn c)) ∧ w = w' := by
 cases hl : isLt c with
 | true =>
  have HC := hid (show isIn c = true by unfold isIn; rw [hl]; rfl)
  have HX := hid (xletter_any c)
  rw [hl] at HX
  clear hl
  generalize isIn c = z at *
  go_enter Tryz.func96, Tryz.ntmps96
  go_wp2_with fail
  refine (HX.out _).mono ?_
  rintro e w2 ⟨rfl, rfl⟩
  go_wp2_with fail
  go_ret
  exact ⟨by rw [HC.out] <;> rfl, rfl⟩
 | false =>
  have HX := hid (xletter_any c)
  rw [hl] at HX
  by_cases h95 : c = 95
  ·
   have HC := hid (show isIn c = true by unfold isIn; rw [h95]; rfl)
   have u1 : ((c : Int) == 95) = true := by rw [h95]; rfl
   clear hl h95
   generalize isIn c = z at *
   go_enter Tryz.func96, Tryz.ntmps96
   go_wp2_with fail
   refine (HX.out _).mono ?_
   rintro e w2 ⟨rfl, rfl⟩
   go_wp2_with fail
   go_ret
   exact ⟨by rw [HC.out] <;> rfl, rfl⟩
  ·
   have HC := hid (show isIn c = false by unfold isIn; rw [hl]; simpa using h95)
   have u1 : ((c : Int) == 95) = false := by rw [beq_eq_false_iff_ne]; omega
   clear hl
   generalize isIn c = z at *
   go_enter Tryz.func96, Tryz.ntmps96
   go_wp2_with fail
   refine (HX.out _).mono ?_
   rintro e w2 ⟨rfl, rfl⟩
   go_wp2_with fail
   go_ret
   exact ⟨by rw [HC.out] <;> rfl, rfl⟩
open Go.RowKit
open Tk Ex
def Px (w : World) (b : Nat) (s : ByteArray) (i : Nat) : Prop := ∃ p c : Int, Blk w b 73 #[.string s, .int .i64 i, .int .i64 p, .int .i64 c]
theorem Px.lt {w : World} {b : Nat} {s : ByteArray} {i : Nat} (h : Px w b s i) : b < w.heap.size := by obtain ⟨p, c, h⟩ := h; exact h.lt
theorem Px.onto {w w' : World} {b : Nat} {s : ByteArray} {i : Nat} (h : Px w b s i) (hb : Below w.heap.size w w') : Px w' b s i := by obtain ⟨p, c, h⟩ := h; exact ⟨p, c, h.onto hb⟩
theorem Px.c0 {w : World} {b : Nat} {s : ByteArray} {i : Nat} (h : Px w b s i) : w.cell? ⟨b, 0, none⟩ = some (.string s) := by obtain ⟨p, c, h⟩ := h; exact h.cell 0
theorem Px.c1 {w : World} {b : Nat} {s : ByteArray} {i : Nat} (h : Px w b s i) : w.cell? ⟨b, 1, none⟩ = some (.int .i64 i) := by obtain ⟨p, c, h⟩ := h; exact h.cell 1
theorem Px.f {w : World} {b : Nat} {s : ByteArray} {i : Nat} (h : Px w b s i) (k : Nat) : w.frozen? ⟨b, k, none⟩ = false := by obtain ⟨p, c, h⟩ := h; exact h.free k
theorem Px.move {w : World} {b : Nat} {s : ByteArray} {i : Nat} (h : Px w b s i) (j : Nat) : Px (w.setCell ⟨b, 1, none⟩ (.int .i64 j)) b s j := by obtain ⟨p, c, h⟩ := h; exact ⟨p, c, h.set_ 1 (.int .i64 j)⟩
theorem xbehind_any (s : ByteArray) (a : Nat) (w : World) (hs : s.size ≤ 1000000) (ha : a ≤ s.size) : Calls Tryz.prog 81 #[.string s, .int .i64 a] w fun e w' => e = .returned (.int .i64 (wE s a : Nat)) ∧ w = w' := by
 have i2 : (0 : Int) ≤ (a : Int) := by omega
 by_cases hl : isLt (bt s a) = true
 ·
  have hk := lt_lt hl
  have HE := hid (span_le goes ha)
  have HW := hid (show wE s a = span goes s a by unfold wE; rw [if_pos hl])
  have i1 : (a : Int) < (s.size : Int) := by omega
  have u1 : ((a : Int) == (s.size : Int)) = false := beq_eq_false_iff_ne.2 (by omega)
  have u1n : (a == s.size) = false := beq_eq_false_iff_ne.2 (by omega)
  have HX := hid (xletter_any (s[a].toNat))
  rw [bt_at s a hk, hl] at HX
  have HB := hid (bt_at s a hk)
  generalize hwe : wE s a = z at *
  clear hl hwe
  go_enter Tryz.func81, Tryz.ntmps81
  go_wp2_with fail
  rw [HB.out]
  refine (HX.out _).mono ?_
  rintro e w2 ⟨rfl, rfl⟩
  clear HX
  go_wp2_with fail
  clear HB i1 i2 u1 u1n hk
  go_loop [1] (fun i => ∃ k : Nat, a ≤ k ∧ k ≤ span goes s a ∧ i = .int .i64 k) (fun i => span goes s a - (intOf i).toNat)
  case atStart => exact ⟨a, Nat.le_refl _, span_ge _ _ _, rfl⟩
  case round =>
   obtain ⟨k, h1, h2, rfl⟩ := hrel
   have hle := HE.out
   by_cases hlt : k < span goes s a
   ·
    have hk : k < s.size := by omega
    have u1 : decide (k < s.size) = true := decide_eq_true hk
    have u2 : decide ((k : Int) < (s.size : Int)) = true := decide_eq_true (by omega)
    have i1 : (k : Int) < (s.size : Int) := by omega
    have i2 : (0 : Int) ≤ (k : Int) := by omega
    have hg := span_in (p := goes) h1 hlt
    have HB := hid (bt_at s k hk)
    cases hi : isIn (bt s k) with
    | true =>
     have HX := hid (xwithin_any (bt s k))
     rw [hi] at HX
     clear hg hi
     go_wp2_with fail
     rw [HB.out]
     refine (HX.out _).mono ?_
     rintro e w3 ⟨rfl, rfl⟩
     clear HX
     go_wp2_with fail
     go_round
     case rel => exact ⟨k + 1, by omega, hlt, by go_num⟩
     case measure => simp [intOf]; omega
    | false =>
     have HX := hid (xwithin_any (bt s k))
     rw [hi] at HX
     have HD := hid (xdigit_any (bt s k))
     have hd : isDg (bt s k) = true := by unfold goes at hg; rw [hi] at hg; simpa using hg
     rw [hd] at HD
     clear hg hi hd
     go_wp2_with fail
     rw [HB.out]
     refine (HX.out _).mono ?_
     rintro e w3 ⟨rfl, rfl⟩
     clear HX
     go_wp2_with fail
     rw [HB.out]
     refine (HD.out _).mono ?_
     rintro e w3 ⟨rfl, rfl⟩
     clear HD
     go_wp2_with fail
     go_round
     case rel => exact ⟨k + 1, by omega, hlt, by go_num⟩
     case measure => simp [intOf]; omega
   ·
    obtain rfl : k = span goes s a := by omega
    by_cases hk : span goes s a < s.size
    ·
     have ho := span_out (p := goes) hk
     generalize hq : span goes s a = q at *
     have HQ := hid hq
     clear hq
     have u1 : decide (q < s.size) = true := decide_eq_true hk
     have u2 : decide ((q : Int) < (s.size : Int)) = true := decide_eq_true (by omega)
     have i1 : (q : Int) < (s.size : Int) := by omega
     have i2 : (0 : Int) ≤ (q : Int) := by omega
     have HB := hid (bt_at s q hk)
     have hi : isIn (bt s q) = false := by unfold goes at ho; simp only [Bool.or_eq_false_iff] at ho; exact ho.1
     have hd : isDg (bt s q) = false := by unfold goes at ho; simp only [Bool.or_eq_false_iff] at ho; exact ho.2
     have HX := hid (xwithin_any (bt s q))
     rw [hi] at HX
     have HD := hid (xdigit_any (bt s q))
     rw [hd] at HD
     clear ho hi hd
     go_wp2_with fail
     rw [HB.out]
     refine (HX.out _).mono ?_
     rintro e w3 ⟨rfl, rfl⟩
     clear HX
     go_wp2_with fail
     rw [HB.out]
     refine (HD.out _).mono ?_
     rintro e w3 ⟨rfl, rfl⟩
     clear HD
     go_wp2_with fail
     go_ret
     exact ⟨by rw [HW.out] <;> rfl, rfl⟩
    ·
     generalize hq : span goes s a = q at *
     clear hq
     have u1 : decide (q < s.size) = false := decide_eq_false hk
     have u2 : decide ((q : Int) < (s.size : Int)) = false := decide_eq_false (by omega)
     go_wp2_with fail
     go_ret
     exact ⟨by rw [HW.out] <;> rfl, rfl⟩
 ·
  have hl' : isLt (bt s a) = false := by simpa using hl
  have HW := hid (wE_no hl')
  by_cases hk : a < s.size
  ·
   have i1 : (a : Int) < (s.size : Int) := by omega
   have u1 : ((a : Int) == (s.size : Int)) = false := beq_eq_false_iff_ne.2 (by omega)
   have u1n : (a == s.size) = false := beq_eq_false_iff_ne.2 (by omega)
   have HX := hid (xletter_any (s[a].toNat))
   rw [bt_at s a hk, hl'] at HX
   have HB := hid (bt_at s a hk)
   generalize hwe : wE s a = z at *
   clear hl hl' hwe
   go_enter Tryz.func81, Tryz.ntmps81
   go_wp2_with fail
   rw [HB.out]
   refine (HX.out _).mono ?_
   rintro e w2 ⟨rfl, rfl⟩
   go_wp2_with fail
   go_ret
   exact ⟨by rw [HW.out] <;> rfl, rfl⟩
  ·
   have u1 : ((a : Int) == (s.size : Int)) = true := beq_iff_eq.2 (by omega)
   have u1n : (a == s.size) = true := beq_iff_eq.2 (by omega)
   generalize hwe : wE s a = z at *
   clear hl hl' hwe
   go_enter Tryz.func81, Tryz.ntmps81
   go_wp2_with fail
   go_ret
   exact ⟨by rw [HW.out] <;> rfl, rfl⟩
theorem xnext_any (b : Nat) (s : ByteArray) (i : Nat) (w : World) (hs : s.size ≤ 1000000) (hc : w.cell? ⟨b, 0, none⟩ = some (.string s)) (hc2 : w.cell? ⟨b, 1, none⟩ = some (.int .i64 i)) (hi : i ≤ s.size) : Calls Tryz.prog 22 #[.pointer (some ⟨b, 0, none⟩)] w fun e w' => e = .returned (.int .i64 (bl s i : Nat)) ∧ Below w.heap.size w w' := by
 have i2 : (0 : Int) ≤ (i : Int) := by omega
 have i1 : (i : Int) ≤ (s.size : Int) := by omega
 have hz := bl_le hi
 have HC := hid (fun w1 : World => trim_any s i hi w1)
 have hsz : (⟨(s.data.toList.drop (bl s i)).toArray⟩ : ByteArray).size = s.size - bl s i := by
  show (s.data.toList.drop (bl s i)).toArray.size = _
  rw [List.size_toArray, List.length_drop, size_toList]
 rw [show (⟨(s.data.toList.drop (span isBl s i)).toArray⟩ : ByteArray) = ⟨(s.data.toList.drop (bl s i)).toArray⟩ from rfl] at HC
 generalize (⟨(s.data.toList.drop (bl s i)).toArray⟩ : ByteArray) = t at *
 generalize bl s i = q at *
 have hbl : b < w.heap.size := cell_lt5 hc
 go_enter Tryz.func22, Tryz.ntmps22
 go_wp2_with fail
 have HBW := hid (Below.refl w.heap.size w)
 have e1 : IntKind.i64.wrap ((s.size : Int) - (t.size : Int)) = (q : Int) := by rw [hsz]; rw [IntWalk.i64_in _ (by omega)]; omega
 clear hz hsz
 go_region_held3 (fun w' => w'.cell? ⟨b, 0, none⟩ = some (.string s) ∧ w'.cell? ⟨b, 1, none⟩ = some (.int .i64 i))
  (go_keep)
  (first
   | (
    go_at_call 37; refine (HC.out _).mono ?_
    rintro e w2 ⟨rfl, hb2⟩
    have hb3 : Below w.heap.size w w2 := (Below.refl w.heap.size w).drew.trans hb2
    have k0 : w2.cell? ⟨b, 0, none⟩ = some (.string s) := (hb3.cell (p := ⟨b, 0, none⟩) hbl).trans hc
    have k1 : w2.cell? ⟨b, 1, none⟩ = some (.int .i64 i) := (hb3.cell (p := ⟨b, 1, none⟩) hbl).trans hc2
    have HB3 := hid hb3
    clear hb2 hb3))
 go_wp2_with fail
 go_ret
 exact ⟨rfl, HB3.out⟩
def Noted (w : World) (b : Nat) (s : ByteArray) (p : Nat) (c : Int) : Prop := ∃ i : Int, Blk w b 73 #[.string s, .int .i64 i, .int .i64 p, .int .i64 c]
theorem xfail_any (b : Nat) (s : ByteArray) (i p : Nat) (c : Int) (w : World) (h : Px w b s i) : Calls Tryz.prog 23 #[.pointer (some ⟨b, 0, none⟩), .int .i64 p, .int .i64 c] w fun e w' => e = .returned (.pointer none) ∧ Aside b w w' ∧ Noted w' b s p c := by
 obtain ⟨x, y, h⟩ := h
 have HB := hid h
 have c2 := h.cell 2
 have c3 := h.cell 3
 have f2 := h.free 2
 have f3 := h.free 3
 clear h
 go_enter Tryz.func23, Tryz.ntmps23
 go_wp2_with fail
 go_ret
 refine ⟨rfl, ((Aside.of (Below.refl _ _)).set _).set _, i, (HB.out.set_ 2 _).set_ 3 _⟩
open Go.RowKit
open Tk Ex
theorem pre_eq (s : ByteArray) (a : Nat) (t : ByteArray) (ha : a ≤ s.size) : Lib.hasPrefix (s.extract a s.size).data.toList t.data.toList = has s a t := by
 rw [suf_list]; rfl
theorem xprefix_any (s : ByteArray) (a : Nat) (ha : a ≤ s.size) (t : ByteArray) (r : Bool) (h : has s a t = r) (w : World) :
 Calls Tryz.prog 82 #[.string (s.extract a s.size), .string t] w fun e w' => e = .returned (.bool r) ∧ w = w' := by
 have h2 := Tryz.strings_HasPrefix (s.extract a s.size) t w
 rw [pre_eq s a t ha, h] at h2
 exact h2.mono fun e w' ⟨a, b⟩ => ⟨a, b.symm⟩
theorem xstands_any (b : Nat) (s : ByteArray) (i : Nat) (t : ByteArray) (w : World) (hs : s.size ≤ 1000000) (h : Px w b s i) (hi : i ≤ s.size) : Calls Tryz.prog 65 #[.pointer (some ⟨b, 0, none⟩), .string t] w fun e w' => e = .returned (.bool (stands s i t)) ∧ Below w.heap.size w w' := by
 have HN := hid (xnext_any b s i w hs h.c0 h.c1 hi)
 have hq := bl_le hi
 have hbl := h.lt
 have HP := hid h
 by_cases hl : isLt (bt s (bl s i)) = true
 ·
  have hb := wE_pos hl
  have hw := wE_le hq
  have HS := hid (show stands s i t = ((wd s i).toList == t.toList) by rw [stands_lt hl, tl_eqb])
  have HW := hid (show wd s i = s.extract (bl s i) (wE s (bl s i)) from rfl)
  have HB := hid (fun w1 => xbehind_any s (bl s i) w1 hs hq)
  generalize stands s i t = r at *
  generalize wd s i = W at *
  generalize wE s (bl s i) = z at *
  generalize bl s i = q at *
  clear hl h
  have v1 : decide (q < z) = true := decide_eq_true hb
  have v2 : decide ((z : Int) > (q : Int)) = true := decide_eq_true (by omega)
  have v3 : decide ((q : Int) < (z : Int)) = true := decide_eq_true (by omega)
  have i1 : (0 : Int) ≤ (q : Int) := by omega
  have i2 : (q : Int) ≤ (z : Int) := by omega
  have i3 : (z : Int) ≤ (s.size : Int) := by omega
  go_enter Tryz.func65, Tryz.ntmps65
  go_wp2_with fail
  refine HN.out.mono ?_
  rintro e w2 ⟨rfl, hb2⟩
  have H2 := hid hb2
  have k0 : w2.cell? ⟨b, 0, none⟩ = some (.string s) := (HP.out.onto hb2).c0
  clear hb2
  go_wp2_with fail
  refine (HB.out _).mono ?_
  rintro e w3 ⟨rfl, rfl⟩
  go_wp2_with fail
  go_ret
  exact ⟨by rw [HS.out, HW.out] <;> rfl, H2.out⟩
 ·
  have hl' : isLt (bt s (bl s i)) = false := by simpa using hl
  have HX := hid (show wE s (bl s i) = bl s i from wE_no hl')
  have HS := hid (show stands s i t = has s (bl s i) t by unfold stands; rw [if_neg hl])
  have HB := hid (fun w1 => xbehind_any s (bl s i) w1 hs hq)
  rw [wE_no hl'] at HB
  have HPR := hid (fun w1 => xprefix_any s (bl s i) hq t _ rfl w1)
  generalize stands s i t = r at *
  generalize has s (bl s i) t = r2 at *
  generalize bl s i = q at *
  clear hl hl' h
  have v1 : decide (q < q) = false := decide_eq_false (by omega)
  have v2 : decide ((q : Int) > (q : Int)) = false := decide_eq_false (by omega)
  have v3 : decide ((q : Int) < (q : Int)) = false := decide_eq_false (by omega)
  have i1 : (0 : Int) ≤ (q : Int) := by omega
  have i3 : (q : Int) ≤ (s.size : Int) := by omega
  go_enter Tryz.func65, Tryz.ntmps65
  go_wp2_with fail
  refine HN.out.mono ?_
  rintro e w2 ⟨rfl, hb2⟩
  have H2 := hid hb2
  have k0 : w2.cell? ⟨b, 0, none⟩ = some (.string s) := (HP.out.onto hb2).c0
  clear hb2
  go_wp2_with fail
  refine (HB.out _).mono ?_
  rintro e w3 ⟨rfl, rfl⟩
  go_wp2_with fail
  refine (HPR.out _).mono ?_
  rintro e w3 ⟨rfl, rfl⟩
  go_wp2_with fail
  go_ret
  exact ⟨by rw [HS.out] <;> rfl, H2.out⟩
def firstI (s : ByteArray) (i : Nat) (l : List ByteArray) (r : Int) : Prop := (r = -1 ∧ l.find? (stands s i) = none) ∨ ∃ k t, r = (k : Nat) ∧ l[k]? = some t ∧ l.find? (stands s i) = some t
theorem find_at {α : Type} {p : α → Bool} : ∀ {l : List α} {k : Nat} {t : α}, l[k]? = some t → p t = true → (∀ j x, j < k → l[j]? = some x → p x = false) → l.find? p = some t := by
 intro l
 induction l with
 | nil => intro k t h; cases h
 | cons a l ih =>
  intro k t h hp hb
  cases k with
  | zero => injection h with h; subst h; rw [List.find?_cons_of_pos hp]
  | succ k =>
   have h0 : p a = false := hb 0 a (by omega) rfl
   rw [List.find?_cons_of_neg (by rw [h0]; decide)]
   exact ih h hp fun j x hj hx => hb (j + 1) x (by omega) hx
theorem find_no {α : Type} {p : α → Bool} {l : List α} (h : ∀ (j : Nat) (x : α), l[j]? = some x → p x = false) : l.find? p = none := by
 rw [List.find?_eq_none]
 intro x hx
 obtain ⟨j, hj⟩ := List.getElem?_of_mem hx
 rw [h j x hj]; decide
def IdxPost (s : ByteArray) (i : Nat) (l : List ByteArray) (w : World) (e : Ending) (w' : World) : Prop := ∃ r : Int, e = .returned (.int .i64 r) ∧ firstI s i l r ∧ Below w.heap.size w w'
theorem xidx_any (b : Nat) (s : ByteArray) (i : Nat) (l : List ByteArray) (A : Option Addr) (c : Nat) (w : World) (hs : s.size ≤ 1000000) (h : Px w b s i) (hi : i ≤ s.size) (hl : l.length ≤ 100) (hA : SReads w (· < w.heap.size) A l) : Calls Tryz.prog 64 #[.slice A l.length c, .func (.func 65) #[.pointer (some ⟨b, 0, none⟩)] #[]] w (IdxPost s i l w) := by
 have HST := hid (fun t w1 (h1 : Px w1 b s i) => xstands_any b s i t w1 hs h1 hi)
 have HP := hid h
 have HA := hid hA
 have HF := hid (fun (k : Nat) (t : ByteArray) (h1 : l[k]? = some t) (h2 : stands s i t = true) (h3 : ∀ j x, j < k → l[j]? = some x → stands s i x = false) => (show firstI s i l (k : Nat) from .inr ⟨k, t, rfl, h1, find_at h1 h2 h3⟩))
 have HN := hid (fun (h3 : ∀ j x, l[j]? = some x → stands s i x = false) => (show firstI s i l (-1) from .inl ⟨rfl, find_no h3⟩))
 clear h hA
 go_enter Tryz.func64, Tryz.ntmps64
 go_wp2_with fail
 go_loopw [8] (fun x wr => ∃ k : Nat, k ≤ l.length ∧ x = .int .i64 k ∧ (∀ j x, j < k → l[j]? = some x → stands s i x = false) ∧ Below w.heap.size w wr) (fun x _ => l.length - (intOf x).toNat)
 case atStart => exact ⟨0, Nat.zero_le _, rfl, fun j x hj => absurd hj (by omega), Below.refl _ _⟩
 case round =>
  obtain ⟨k, hk, rfl, hno, hbel⟩ := hrel
  have HNO := hid hno
  have HB := hid hbel
  have HPW := hid (HP.out.onto hbel)
  clear hno hbel
  by_cases hlt : k < l.length
  ·
   obtain ⟨t, ht⟩ : ∃ t, l[k]? = some t := ⟨_, List.getElem?_eq_getElem hlt⟩
   obtain ⟨g, o, rfl, hg, hcell⟩ := (HA.out.on HB.out) (by intro h0; rw [h0] at hlt; simp at hlt)
   have k0 := hcell k t ht
   have HT := hid ht
   have u1 : decide (k < l.length) = true := decide_eq_true hlt
   have u2 : decide ((k : Int) < (l.length : Int)) = true := decide_eq_true (by omega)
   have i1 : (k : Int) < (l.length : Int) := by omega
   have i2 : (0 : Int) ≤ (k : Int) := by omega
   clear ht hcell
   go_wp2_with fail
   refine (HST.out t _ HPW.out).mono ?_
   rintro e w2 ⟨rfl, hb2⟩
   have H2 := hid (HB.out.trans (hb2.mono HB.out.size))
   clear hb2
   cases hst : stands s i t with
   | true =>
    have HST2 := hid hst
    clear hst
    go_wp2_with fail
    go_ret
    exact ⟨k, rfl, HF.out k t HT.out HST2.out HNO.out, H2.out⟩
   | false =>
    have HST2 := hid hst
    clear hst
    go_wp2_with fail
    go_roundw
    case rel =>
     refine ⟨k + 1, hlt, by go_num, fun j x hj hx => ?_, H2.out⟩
     rcases Nat.lt_or_ge j k with h1 | h1
     · exact HNO.out j x h1 hx
     ·
      obtain rfl : j = k := by omega
      rw [HT.out] at hx
      injection hx with hx; subst hx; exact HST2.out
    case measure => simp [intOf]; omega
  ·
   obtain rfl : k = l.length := by omega
   have u1 : decide (l.length < l.length) = false := decide_eq_false (by omega)
   have u2 : decide ((l.length : Int) < (l.length : Int)) = false := decide_eq_false (by omega)
   go_wp2_with fail
   go_ret
   exact ⟨-1, rfl, HN.out fun j x hx => HNO.out j x (by
    rcases Nat.lt_or_ge j l.length with h1 | h1
    · exact h1
    · rw [List.getElem?_eq_none h1] at hx; cases hx) hx, HB.out⟩
end Go.Proofs.YtfbipnflgjhaiaaGreatDoor
