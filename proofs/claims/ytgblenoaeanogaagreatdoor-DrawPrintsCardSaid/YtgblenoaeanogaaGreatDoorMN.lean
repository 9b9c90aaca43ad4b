/- Where a text is cut: plain mathematics. A value's text is a text: plain mathematics. The tokens that stand at a place: plain mathematics. A value's text spells its tokens, and is read as it: plain mathematics. -/
import Derived.Lib.Bits
import Derived.Lib.RuneBytes
import Derived.Outline
import Derived.Test.YtgblenoaeanogaaGreatDoorMM
set_option linter.unusedVariables false
set_option maxRecDepth 100000
set_option maxHeartbeats 8000000
open Go.Lib (hid)
namespace Go.Proofs.YtgblenoaeanogaaGreatDoor
open Pl
theorem byte_of {x : Int} (h0 : 0 ≤ x) (h1 : x < 256) : ((x.toNat.toUInt8).toNat : Int) = x := by
 have h : x.toNat < 256 := by omega
 have : (x.toNat.toUInt8).toNat = x.toNat := by simp; omega
 rw [this]; omega
open Pl
theorem esc_high : ∀ n : Fin 256, 128 ≤ n.val → Q.esc (UInt8.ofNat n.val) = [UInt8.ofNat n.val] := by decide +kernel
theorem esc_hi {b : UInt8} (h : 128 ≤ b.toNat) : Q.esc b = [b] := by
 have := esc_high ⟨b.toNat, b.toNat_lt⟩ h
 simpa using this
theorem enc_high (r : Int) (hr : 128 ≤ r) (b : UInt8) (h : b ∈ Lib.encodeRune r) : 128 ≤ b.toNat := by
 unfold Lib.encodeRune at h
 obtain ⟨x, hx, rfl⟩ := List.mem_map.1 h
 have key : 128 ≤ x ∧ x < 256 → 128 ≤ (x.toNat.toUInt8).toNat := fun hh => by
  have := byte_of (x := x) (by omega) (by omega)
  omega
 apply key
 unfold Lib.encodeRuneZ at hx
 split at hx
 · omega
 split at hx
 · simp at hx; omega
 split at hx
 · simp at hx; omega
 split at hx
 · simp at hx; omega
 · simp at hx; omega
theorem hi_flat : ∀ {L : List UInt8}, (∀ b ∈ L, 128 ≤ b.toNat) → L.flatMap Q.esc = L
 | [], _ => rfl
 | b :: L, h => by rw [List.flatMap_cons, esc_hi (h b List.mem_cons_self), hi_flat fun c hc => h c (List.mem_cons_of_mem _ hc)]; rfl
end Go.Proofs.YtgblenoaeanogaaGreatDoor
namespace Go.Proofs.YtgblenoaeanogaaGreatDoor.Tk
open Pl
def Here (s : ByteArray) (p : Nat) (L : List UInt8) : Prop := ∃ R, s.data.toList.drop p = L ++ R
theorem here_all (s : ByteArray) : Here s 0 s.data.toList := ⟨[], by simp⟩
theorem Here.left {s : ByteArray} {p : Nat} {A B : List UInt8} (h : Here s p (A ++ B)) : Here s p A := by
 obtain ⟨R, h⟩ := h
 exact ⟨B ++ R, by rw [h, List.append_assoc]⟩
theorem Here.right {s : ByteArray} {p : Nat} {A B : List UInt8} (h : Here s p (A ++ B)) : Here s (p + A.length) B := by
 obtain ⟨R, h⟩ := h
 exact ⟨R, by rw [← List.drop_drop, h, List.append_assoc, List.drop_left]⟩
theorem Here.hd {s : ByteArray} {p : Nat} {c : UInt8} {L : List UInt8} (h : Here s p (c :: L)) : bt s p = c.toNat ∧ p < s.size ∧ Here s (p + 1) L := by
 have h2 : Here s (p + 1) L := Here.right (A := [c]) h
 obtain ⟨R, h⟩ := h
 have h3 := congrArg (fun l => l[0]?) h
 simp only [List.getElem?_drop, Nat.add_zero, List.cons_append, List.getElem?_cons_zero] at h3
 have h4 := (List.getElem?_eq_some_iff.1 h3).1
 refine ⟨?_, h4, h2⟩
 unfold bt
 rw [List.getD_eq_getElem?_getD, h3]; rfl
theorem Here.size {s : ByteArray} {p : Nat} {L : List UInt8} (h : Here s p L) (hp : p ≤ s.size) : p + L.length ≤ s.size := by
 obtain ⟨R, h⟩ := h
 have := congrArg List.length h
 rw [List.length_drop, List.length_append, size_toList] at this
 omega
theorem next_mark {s : ByteArray} {p : Nat} (c : Nat) (h : bt s p = c) (hm : isMark c = true) : next s p = .tok ⟨1, one c, 0, p, p + 1⟩ := by
 have hs : p < s.size := lt_of_bt (by intro h0; rw [h] at h0; subst h0; exact absurd hm (by decide))
 have hb : isBl c = false := by
  simp only [isMark, Bool.or_eq_true, beq_iff_eq] at hm
  rcases hm with ((((rfl | rfl) | rfl) | rfl) | rfl) | rfl <;> rfl
 unfold next
 rw [span_no (by rw [h]; exact hb)]
 unfold ansAt
 rw [if_neg (by omega), h, if_pos hm]
theorem next_end {s : ByteArray} : next s s.size = .tok ⟨0, nix, 0, s.size, s.size⟩ := by
 unfold next
 rw [span_end (Nat.le_refl _)]
 unfold ansAt
 rw [if_pos (Nat.le_refl _)]
theorem next_word {s : ByteArray} {p : Nat} {c : Nat} (hc : c = 116 ∨ c = 102 ∨ c = 110) (h : bt s p = c) (hw : wordE s (wordOf c) p = p + (wordOf c).length) : next s p = .tok ⟨kindOf c, nix, 0, p, p + (wordOf c).length⟩ := by
 have hs : p < s.size := lt_of_bt (by omega)
 have hb : isBl c = false := by rcases hc with rfl | rfl | rfl <;> rfl
 have hm : ¬ isMark c = true := by rcases hc with rfl | rfl | rfl <;> decide
 have hd : ¬ (c = 45 ∨ isDg c = true) := by rcases hc with rfl | rfl | rfl <;> decide
 unfold next
 rw [span_no (by rw [h]; exact hb)]
 unfold ansAt
 rw [if_neg (by omega), h, if_neg hm, if_neg (by omega), if_neg hd, if_pos hc]
 unfold wordAns
 rw [h, if_pos hw]
theorem next_true {s : ByteArray} {p : Nat} (h : Here s p [116, 114, 117, 101]) : next s p = .tok ⟨4, nix, 0, p, p + 4⟩ := by
 obtain ⟨h1, _, h⟩ := h.hd
 obtain ⟨h2, _, h⟩ := h.hd
 obtain ⟨h3, _, h⟩ := h.hd
 obtain ⟨h4, _, h⟩ := h.hd
 replace h1 : bt s (p) = 116 := h1
 replace h2 : bt s (p + 1) = 114 := h2
 replace h3 : bt s (p + 1 + 1) = 117 := h3
 replace h4 : bt s (p + 1 + 1 + 1) = 101 := h4
 refine next_word (c := 116) (.inl rfl) h1 ?_
 show wordE s [116, 114, 117, 101] p = p + 4
 simp only [wordE]
 rw [if_pos h1, if_pos h2, if_pos h3, if_pos h4]
theorem next_false {s : ByteArray} {p : Nat} (h : Here s p [102, 97, 108, 115, 101]) : next s p = .tok ⟨5, nix, 0, p, p + 5⟩ := by
 obtain ⟨h1, _, h⟩ := h.hd
 obtain ⟨h2, _, h⟩ := h.hd
 obtain ⟨h3, _, h⟩ := h.hd
 obtain ⟨h4, _, h⟩ := h.hd
 obtain ⟨h5, _, h⟩ := h.hd
 replace h1 : bt s (p) = 102 := h1
 replace h2 : bt s (p + 1) = 97 := h2
 replace h3 : bt s (p + 1 + 1) = 108 := h3
 replace h4 : bt s (p + 1 + 1 + 1) = 115 := h4
 replace h5 : bt s (p + 1 + 1 + 1 + 1) = 101 := h5
 refine next_word (c := 102) (.inr (.inl rfl)) h1 ?_
 show wordE s [102, 97, 108, 115, 101] p = p + 5
 simp only [wordE]
 rw [if_pos h1, if_pos h2, if_pos h3, if_pos h4, if_pos h5]
theorem next_null {s : ByteArray} {p : Nat} (h : Here s p [110, 117, 108, 108]) : next s p = .tok ⟨6, nix, 0, p, p + 4⟩ := by
 obtain ⟨h1, _, h⟩ := h.hd
 obtain ⟨h2, _, h⟩ := h.hd
 obtain ⟨h3, _, h⟩ := h.hd
 obtain ⟨h4, _, h⟩ := h.hd
 replace h1 : bt s (p) = 110 := h1
 replace h2 : bt s (p + 1) = 117 := h2
 replace h3 : bt s (p + 1 + 1) = 108 := h3
 replace h4 : bt s (p + 1 + 1 + 1) = 108 := h4
 refine next_word (c := 110) (.inr (.inr rfl)) h1 ?_
 show wordE s [110, 117, 108, 108] p = p + 4
 simp only [wordE]
 rw [if_pos h1, if_pos h2, if_pos h3, if_pos h4]
def isNo (c : Nat) : Prop := isDg c = false ∧ c ≠ 46 ∧ c ≠ 101 ∧ c ≠ 69
theorem span_run {s : ByteArray} : ∀ {D : List UInt8} {f : Nat}, Here s f D → (∀ c ∈ D, De.isDig c = true) → isDg (bt s (f + D.length)) = false → span isDg s f = f + D.length
 | [], f, h, hd, he => span_no he
 | c :: D, f, h, hd, he => by
  obtain ⟨h1, h2, h3⟩ := h.hd
  have h4 : isDg (bt s f) = true := by rw [h1, isDg_iff]; exact (De.dig_iff c).1 (hd c List.mem_cons_self)
  have e : f + (c :: D).length = f + 1 + D.length := by rw [List.length_cons]; omega
  rw [e] at he ⊢
  rw [span_yes h2 h4, span_run h3 (fun c hm => hd c (List.mem_cons_of_mem _ hm)) he]
theorem next_num {s : ByteArray} {p : Nat} {L : List UInt8} (h : Here s p L) (hf : De.form L = true) (hi : In64 (De.numL L)) (he : isNo (bt s (p + L.length))) : next s p = .tok ⟨3, nix, De.numL L, p, p + L.length⟩ := by
 obtain ⟨e1, e2, e3, e4⟩ := he
 obtain ⟨hD0, hDd⟩ := De.form_digs hf
 have hsub : (sub s p (p + L.length)).data.toList = L := by
  obtain ⟨R, h⟩ := h
  rw [sub_list, h, Nat.add_sub_cancel_left, List.take_left]
 have hlen : De.digs L = L ∧ L.head? ≠ some 45 ∨ L = 45 :: De.digs L := by
  unfold De.digs
  split
  ·
   rename_i hh
   right
   cases L with
   | nil => cases hh
   | cons a L => injection hh with hh; subst hh; rfl
  · rename_i hh; exact .inl ⟨rfl, hh⟩
 have hD : De.formD (De.digs L) = true := hf
 generalize De.digs L = D at *
 obtain ⟨d, D', rfl⟩ : ∃ d D', D = d :: D' := by
  cases D with
  | nil => exact absurd rfl hD0
  | cons d D' => exact ⟨d, D', rfl⟩
 have hdd := (De.dig_iff d).1 (hDd d List.mem_cons_self)
 have key : ∃ f, signE s p = f ∧ Here s f (d :: D') ∧ f + (d :: D').length = p + L.length ∧ (bt s p = 45 ∨ isDg (bt s p) = true) := by
  rcases hlen with ⟨h1, h2⟩ | h1
  ·
   subst h1
   obtain ⟨b1, b2, b3⟩ := h.hd
   refine ⟨p, ?_, h, rfl, .inr (by rw [b1, isDg_iff]; exact hdd)⟩
   unfold signE
   rw [if_neg (by rw [b1]; omega)]
  ·
   rw [h1] at h
   obtain ⟨b1, b2, b3⟩ := h.hd
   refine ⟨p + 1, ?_, b3, by rw [h1]; simp only [List.length_cons]; omega, .inl b1⟩
   unfold signE
   rw [if_pos (show bt s p = 45 from b1)]
 obtain ⟨f, hs, hh, hfl, hb⟩ := key
 obtain ⟨b1, b2, b3⟩ := hh.hd
 have hint : intE s p = p + L.length := by
  unfold intE
  rw [hs]
  split
  ·
   rename_i h48
   have : D' = [] := by
    unfold De.formD at hD
    simp only [Bool.and_eq_true, Bool.or_eq_true, decide_eq_true_eq, List.head?_cons, Bool.not_eq_true'] at hD
    rcases hD.2 with h | h
    · simpa using h
    ·
     exfalso
     have : d = 48 := UInt8.toNat_inj.1 (by rw [← b1, h48]; rfl)
     subst this
     simp at h
   subst this
   exact hfl
  · rw [span_run hh hDd (by rw [hfl]; exact e1), hfl]
 have hintB : intB s p = true := by
  unfold intB
  rw [hs, b1, isDg_iff]; exact hdd
 have hp : p < s.size := lt_of_bt (by rcases hb with h | h <;> intro h0 <;> rw [h0] at h <;> revert h <;> decide)
 have hnb : isBl (bt s p) = false ∧ ¬ isMark (bt s p) = true ∧ bt s p ≠ 34 := by
  rcases hb with h | h
  · rw [h]; decide
  ·
   rw [isDg_iff] at h
   generalize bt s p = c at *
   refine ⟨?_, ?_, by omega⟩
   · rw [Bool.eq_false_iff]; intro h2; rw [isBl_iff] at h2; omega
   ·
    intro h2
    simp only [isMark, Bool.or_eq_true, beq_iff_eq] at h2
    omega
 unfold next
 rw [span_no hnb.1]
 unfold ansAt
 rw [if_neg (by omega), if_neg hnb.2.1, if_neg hnb.2.2, if_pos hb]
 have hfr : fracE s (p + L.length) = p + L.length := by unfold fracE; rw [if_neg e2]
 have hfb : fracB s (p + L.length) = true := by unfold fracB; rw [beq_eq_false_iff_ne.2 e2]; rfl
 have hie : isE (bt s (p + L.length)) = false := by unfold isE; rw [beq_eq_false_iff_ne.2 e3, beq_eq_false_iff_ne.2 e4]; rfl
 have hee : expE s (p + L.length) = p + L.length := by unfold expE; rw [hie]; rfl
 have heb : expB s (p + L.length) = true := by unfold expB; rw [hie]; rfl
 unfold numAns
 rw [hint, hfr, hfb, hintB, hee, heb, hsub]
 rw [if_neg (by decide), if_neg (by decide), if_neg (by decide), if_neg (by omega), if_pos hi]
def Chars (s : ByteArray) : Nat → List Int → Nat → Prop
 | p, [], e => p = e
 | p, m :: l, e => ∃ q, bt s p ≠ 34 ∧ chAt s p = .pt m q ∧ Chars s q l e
theorem str_chars {s : ByteArray} : ∀ {l : List Int} {p e : Nat} {acc : List Int}, Chars s p l e → p ≤ s.size → bt s e = 34 → str s p acc = .pts (acc ++ l) (e + 1)
 | [], p, e, acc, h, hp, he => by
  obtain rfl : p = e := h
  rw [str_end hp he, List.append_nil]
 | m :: l, p, e, acc, h, hp, he => by
  obtain ⟨q, h1, h2, h3⟩ := h
  rw [str_pt hp h1 h2, str_chars h3 (chAt_pt h2).2.2 he, List.append_assoc]; rfl
theorem next_str {s : ByteArray} {p e : Nat} {l : List Int} (h : bt s p = 34) (hc : Chars s (p + 1) l e) (he : bt s e = 34) : next s p = .tok ⟨2, textOf l, 0, p, e + 1⟩ := by
 have hp : p < s.size := lt_of_bt (by omega)
 unfold next
 rw [span_no (by rw [h]; rfl)]
 unfold ansAt
 rw [if_neg (by omega), h, if_neg (by decide), if_pos rfl]
 unfold strAns
 rw [str_chars hc hp he]
 rfl
theorem Chars.app {s : ByteArray} : ∀ {a b : List Int} {p m e : Nat}, Chars s p a m → Chars s m b e → Chars s p (a ++ b) e
 | [], b, p, m, e, h, k => by obtain rfl : p = m := h; exact k
 | x :: a, b, p, m, e, h, k => by
  obtain ⟨q, h1, h2, h3⟩ := h
  exact ⟨q, h1, h2, h3.app k⟩
theorem char_raw {s : ByteArray} {p : Nat} {x : Int} (hx : pt x = true) (h32 : 32 ≤ x) (h34 : x ≠ 34) (h92 : x ≠ 92) (h : Here s p (Lib.encodeRune x)) : Chars s p [x] (p + (Lib.encodeRune x).length) := by
 have hb : 32 ≤ bt s p ∧ bt s p ≠ 34 ∧ bt s p ≠ 92 ∧ p < s.size := by
  have hl := (enc_len x).1
  by_cases h128 : x < 128
  ·
   have e : Lib.encodeRune x = [x.toNat.toUInt8] := by
    unfold Lib.encodeRune
    rw [Lib.encodeRuneZ_one (by omega) (by omega)]
    simp
   rw [e] at h
   obtain ⟨b1, b2, _⟩ := h.hd
   rw [b8 x (by omega) (by omega)] at b1
   exact ⟨by omega, by omega, by omega, b2⟩
  ·
   cases hL : Lib.encodeRune x with
   | nil => rw [hL] at hl; simp at hl
   | cons c L =>
    have h3 := enc_high x (by omega) c (by rw [hL]; exact List.mem_cons_self)
    rw [hL] at h
    obtain ⟨b1, b2, _⟩ := h.hd
    exact ⟨by omega, by omega, by omega, b2⟩
 obtain ⟨b1, b2, b3, b4⟩ := hb
 refine ⟨_, b2, ?_, rfl⟩
 unfold chAt
 rw [if_neg (by omega), if_neg b3]
 unfold rawCh
 obtain ⟨R, h⟩ := h
 obtain ⟨k1, k2⟩ := ok_of_enc x R hx
 rw [h, if_pos k2, k1]
 have : 0 ≤ x := by omega
 show Ch.pt ((x.toNat : Nat) : Int) _ = _
 rw [Int.toNat_of_nonneg this]
theorem char_short {s : ByteArray} {p : Nat} {x : Int} (b : UInt8) (hx : shortOf b.toNat = some x) (h : Here s p [92, b]) : Chars s p [x] (p + 2) := by
 obtain ⟨b1, b2, h⟩ := h.hd
 obtain ⟨b3, b4, _⟩ := h.hd
 have b1' : bt s p = 92 := b1
 refine ⟨_, by rw [b1']; decide, ?_, rfl⟩
 unfold chAt
 rw [if_neg (by omega), if_pos b1']
 unfold escCh
 rw [b3, hx]
theorem char_uni {s : ByteArray} {p : Nat} {x : Int} (a b c d : UInt8) (ha : 0 ≤ hexOf a.toNat) (hb : 0 ≤ hexOf b.toNat) (hc : 0 ≤ hexOf c.toNat) (hd : 0 ≤ hexOf d.toNat) (hx : (((0 * 16 + hexOf a.toNat) * 16 + hexOf b.toNat) * 16 + hexOf c.toNat) * 16 + hexOf d.toNat = x) (hp : pt x = true) (h : Here s p [92, 117, a, b, c, d]) : Chars s p [x] (p + 6) := by
 obtain ⟨b1, b2, h⟩ := h.hd
 obtain ⟨b3, _, h⟩ := h.hd
 obtain ⟨k1, _, h⟩ := h.hd
 obtain ⟨k2, _, h⟩ := h.hd
 obtain ⟨k3, _, h⟩ := h.hd
 obtain ⟨k4, _, h⟩ := h.hd
 have b1' : bt s p = 92 := b1
 have b3' : bt s (p + 1) = 117 := b3
 have h4 : four s (p + 2) = (x, p + 6) := by
  unfold four
  rw [fourF_yes (by rw [k1]; exact ha), fourF_yes (by rw [k2]; exact hb), fourF_yes (by rw [k3]; exact hc), fourF_yes (by rw [k4]; exact hd)]
  rw [k1, k2, k3, k4]
  unfold fourF
  rw [hx]
 have hx0 : ¬ x < 0 := by rw [pt_iff] at hp; omega
 refine ⟨_, by rw [b1']; decide, ?_, rfl⟩
 unfold chAt
 rw [if_neg (by omega), if_pos b1']
 unfold escCh
 rw [b3', show shortOf 117 = none from rfl]
 show (if 117 = 117 then uniCh s p else _) = _
 rw [if_pos rfl]
 unfold uniCh
 rw [h4, if_neg hx0, if_pos hp]
theorem hex_low : ∀ n : Fin 32, 0 ≤ hexOf (Q.hex (UInt8.ofNat n.val / 16)).toNat ∧ 0 ≤ hexOf (Q.hex (UInt8.ofNat n.val % 16)).toNat ∧ (((0 * 16 + hexOf 48) * 16 + hexOf 48) * 16 + hexOf (Q.hex (UInt8.ofNat n.val / 16)).toNat) * 16 + hexOf (Q.hex (UInt8.ofNat n.val % 16)).toNat = (n.val : Int) := by decide +kernel
theorem hex_of (c : UInt8) (h : c.toNat < 32) : 0 ≤ hexOf (Q.hex (c / 16)).toNat ∧ 0 ≤ hexOf (Q.hex (c % 16)).toNat ∧ (((0 * 16 + hexOf 48) * 16 + hexOf 48) * 16 + hexOf (Q.hex (c / 16)).toNat) * 16 + hexOf (Q.hex (c % 16)).toNat = (c.toNat : Int) := by
 have := hex_low ⟨c.toNat, h⟩
 simp only [UInt8.ofNat_toNat] at this
 exact this
theorem esc_low {x : Int} (h0 : 0 ≤ x) (h1 : x < 128) {s : ByteArray} {p : Nat} (h : Here s p (Q.esc (UInt8.ofNat x.toNat))) : Chars s p [x] (p + (Q.esc (UInt8.ofNat x.toNat)).length) := by
 have hpt : pt x = true := by rw [pt_iff]; omega
 have hn : (UInt8.ofNat x.toNat).toNat = x.toNat := by rw [UInt8.toNat_ofNat']; omega
 have hx : ((UInt8.ofNat x.toNat).toNat : Int) = x := by rw [hn]; omega
 have e : Lib.encodeRune x = [UInt8.ofNat x.toNat] := by
  unfold Lib.encodeRune
  rw [Lib.encodeRuneZ_one (by omega) (by omega)]
  simp
 obtain ⟨c, hc⟩ : ∃ c, UInt8.ofNat x.toNat = c := ⟨_, rfl⟩
 rw [hc] at h hn hx e ⊢
 have cas : ∀ (k : Nat) (b : UInt8), c = UInt8.ofNat k → k < 128 → shortOf b.toNat = some (k : Int) → Here s p [92, b] → Chars s p [x] (p + 2) := fun k b hk hk2 hs hh => by
  have : x = (k : Int) := by rw [← hx, hk, UInt8.toNat_ofNat']; omega
  rw [this]; exact char_short b hs hh
 unfold Q.esc at h ⊢
 split at h
 · rename_i k; rw [if_pos k]; exact cas 34 34 k (by decide) rfl h
 rename_i n1
 rw [if_neg n1]
 split at h
 · rename_i k; rw [if_pos k]; exact cas 92 92 k (by decide) rfl h
 rename_i n2
 rw [if_neg n2]
 split at h
 · rename_i k; rw [if_pos k]; exact cas 8 98 k (by decide) rfl h
 rename_i n3
 rw [if_neg n3]
 split at h
 · rename_i k; rw [if_pos k]; exact cas 12 102 k (by decide) rfl h
 rename_i n4
 rw [if_neg n4]
 split at h
 · rename_i k; rw [if_pos k]; exact cas 10 110 k (by decide) rfl h
 rename_i n5
 rw [if_neg n5]
 split at h
 · rename_i k; rw [if_pos k]; exact cas 13 114 k (by decide) rfl h
 rename_i n6
 rw [if_neg n6]
 split at h
 · rename_i k; rw [if_pos k]; exact cas 9 116 k (by decide) rfl h
 rename_i n7
 rw [if_neg n7]
 split at h
 ·
  rename_i k
  rw [if_pos k]
  have k2 : c.toNat < 32 := k
  have hlow := hex_of c k2
  refine char_uni 48 48 _ _ (by decide) (by decide) hlow.1 hlow.2.1 ?_ hpt h
  have := hlow.2.2
  rw [show ((48 : UInt8)).toNat = 48 from rfl, this]; omega
 ·
  rename_i k
  rw [if_neg k]
  have k2 : ¬ c.toNat < 32 := k
  have a1 : x ≠ 34 := fun hh => n1 (by rw [← hc, hh]; rfl)
  have a2 : x ≠ 92 := fun hh => n2 (by rw [← hc, hh]; rfl)
  have := char_raw hpt (by omega) a1 a2 (by rw [e]; exact h)
  rw [e] at this
  exact this
theorem chars_esc {s : ByteArray} : ∀ {l : List Int} {p : Nat}, (∀ x ∈ l, pt x = true) → Here s p ((flat l).flatMap Q.esc) → Chars s p l (p + ((flat l).flatMap Q.esc).length)
 | [], p, hl, h => rfl
 | x :: l, p, hl, h => by
  have hx := hl x List.mem_cons_self
  have hx0 : 0 ≤ x := by rw [pt_iff] at hx; omega
  rw [flat_cons, List.flatMap_append] at h ⊢
  have r := chars_esc (fun y hy => hl y (List.mem_cons_of_mem _ hy)) h.right
  rw [List.length_append, ← Nat.add_assoc]
  refine Chars.app (a := [x]) ?_ r
  have h' := h.left
  by_cases h128 : x < 128
  ·
   have e : Lib.encodeRune x = [UInt8.ofNat x.toNat] := by
    unfold Lib.encodeRune
    rw [Lib.encodeRuneZ_one (by omega) (by omega)]
    simp
   have e2 : (Lib.encodeRune x).flatMap Q.esc = Q.esc (UInt8.ofNat x.toNat) := by rw [e]; simp
   rw [e2] at h' ⊢
   exact esc_low hx0 h128 h'
  ·
   have e2 : (Lib.encodeRune x).flatMap Q.esc = Lib.encodeRune x := hi_flat (enc_high x (by omega))
   rw [e2] at h' ⊢
   exact char_raw hx (by omega) (by omega) (by omega) h'
theorem next_quo {s q : ByteArray} {p : Nat} (hq : okText q) (h : Here s p (Q.quo q.data.toList)) : next s p = .tok ⟨2, q, 0, p, p + (Q.quo q.data.toList).length⟩ := by
 obtain ⟨l, h1, _, h2⟩ := hq
 rw [List.append_nil] at h1
 unfold Q.quo at h ⊢
 rw [h1] at h ⊢
 obtain ⟨b1, _, h3⟩ := h.hd
 have c := chars_esc h2 h3.left
 have b2 := h3.right.hd.1
 have := next_str b1 c b2
 rw [this]
 have e1 : textOf l = q := by unfold textOf; rw [← h1]
 rw [e1]
 have e2 : p + 1 + ((flat l).flatMap Q.esc).length + 1 = p + (34 :: ((flat l).flatMap Q.esc ++ [34])).length := by
  simp only [List.length_cons, List.length_append, List.length_nil]; omega
 rw [e2]
end Go.Proofs.YtgblenoaeanogaaGreatDoor.Tk
namespace Go.Proofs.YtgblenoaeanogaaGreatDoor.Rd
open Tk Pl
theorem next_m {s : ByteArray} {p : Nat} {c : UInt8} {L : List UInt8} (h : Here s p (c :: L)) (hm : isMark c.toNat = true) : next s p = .tok ⟨1, Tk.one c.toNat, 0, p, p + 1⟩ := next_mark _ h.hd.1 hm
theorem tail_no {s : ByteArray} {p : Nat} {ks : List ByteArray} {r : List T} {i : Nat} {c : UInt8} (hc : c = 93 ∨ c = 125) (h : Here s p (T.txts ks r (i + 1) ++ [c])) : isNo (bt s p) := by
 cases r with
 | nil =>
  rw [T.txts, List.nil_append] at h
  rw [h.hd.1]
  unfold isNo
  rcases hc with rfl | rfl <;> decide
 | cons x r =>
  rw [txts_cons, show comma (i + 1) = [44] from rfl] at h
  rw [(Here.hd (by rw [List.append_assoc] at h; exact h) : bt s p = (44 : UInt8).toNat ∧ _).1]
  unfold isNo; decide
def Txts (s : ByteArray) (x : T) : Prop := ∀ p, Here s p x.txt → isNo (bt s (p + x.txt.length)) → Spells s p (said x) (p + x.txt.length)
theorem tailA_txt (s : ByteArray) : ∀ (r : List T) (i p : Nat), (∀ x ∈ r, Txts s x) → Here s p (T.txts [] r (i + 1) ++ [93]) → Spells s p (tailA r) (p + (T.txts [] r (i + 1)).length + 1)
 | [], i, p, hx, h => by
  rw [T.txts, List.nil_append] at h
  exact ⟨_, next_m h (by decide), ⟨rfl, rfl, rfl⟩, by rw [T.txts]; rfl⟩
 | x :: r, i, p, hx, h => by
  have e : T.txts [] (x :: r) (i + 1) = 44 :: (x.txt ++ T.txts [] r (i + 1 + 1)) := by rw [txts_cons]; rfl
  rw [e] at h ⊢
  have h0 : Here s p (44 :: (x.txt ++ (T.txts [] r (i + 1 + 1) ++ [93]))) := by rw [← List.append_assoc]; exact h
  have h1 := h0.hd.2.2
  have h2 := hx x List.mem_cons_self (p + 1) h1.left (tail_no (.inl rfl) h1.right)
  have h3 := tailA_txt s r (i + 1) _ (fun y hy => hx y (List.mem_cons_of_mem _ hy)) h1.right
  refine ⟨_, next_m h0 (by decide), ⟨rfl, rfl, rfl⟩, ?_⟩
  have e2 : p + (44 :: (x.txt ++ T.txts [] r (i + 1 + 1))).length + 1 = p + 1 + x.txt.length + (T.txts [] r (i + 1 + 1)).length + 1 := by
   simp only [List.length_cons, List.length_append]; omega
  rw [e2]
  exact h2.app h3
theorem headA_txt (s : ByteArray) (l : List T) (p : Nat) (hx : ∀ x ∈ l, Txts s x) (h : Here s p (T.txts [] l 0 ++ [93])) : Spells s p (headA l) (p + (T.txts [] l 0).length + 1) := by
 cases l with
 | nil =>
  rw [T.txts, List.nil_append] at h
  exact ⟨_, next_m h (by decide), ⟨rfl, rfl, rfl⟩, by rw [T.txts]; rfl⟩
 | cons x r =>
  have e : T.txts [] (x :: r) 0 = x.txt ++ T.txts [] r (0 + 1) := by rw [txts_cons]; rfl
  rw [e] at h ⊢
  have h1 : Here s p (x.txt ++ (T.txts [] r (0 + 1) ++ [93])) := by rw [← List.append_assoc]; exact h
  have h2 := hx x List.mem_cons_self p h1.left (tail_no (.inl rfl) h1.right)
  have h3 := tailA_txt s r 0 _ (fun y hy => hx y (List.mem_cons_of_mem _ hy)) h1.right
  have e2 : p + (x.txt ++ T.txts [] r (0 + 1)).length + 1 = p + x.txt.length + (T.txts [] r (0 + 1)).length + 1 := by
   simp only [List.length_append]; omega
  rw [e2]
  exact h2.app h3
theorem quo_data (q : ByteArray) : Q.quo q.toList = Q.quo q.data.toList := by rw [ByteArray.toList_eq]
theorem memb_txt {s : ByteArray} {p : Nat} {q : ByteArray} {x : T} {R : List UInt8} (hq : okText q) (hx : Txts s x) (h : Here s p (Q.quo q.toList ++ [58] ++ (x.txt ++ R))) (hn : ∀ m, Here s m R → isNo (bt s m)) : Spells s p (⟨2, q, 0⟩ :: sayM 58 :: said x) (p + (Q.quo q.toList ++ [58] ++ x.txt).length) ∧ Here s (p + (Q.quo q.toList ++ [58] ++ x.txt).length) R := by
 rw [quo_data] at h ⊢
 have h1 := h.left.left
 have h2 := h.left.right
 have h3 := h.right
 have e1 : p + (Q.quo q.data.toList ++ [58]).length = p + (Q.quo q.data.toList).length + 1 := by simp only [List.length_append, List.length_singleton]; omega
 rw [e1] at h3
 have h4 := hx _ h3.left (hn _ h3.right)
 have e2 : p + (Q.quo q.data.toList ++ [58] ++ x.txt).length = p + (Q.quo q.data.toList).length + 1 + x.txt.length := by simp only [List.length_append, List.length_singleton]; omega
 rw [e2]
 exact ⟨⟨_, next_quo hq h1, ⟨rfl, rfl, rfl⟩, ⟨_, next_m h2 (by decide), ⟨rfl, rfl, rfl⟩, h4⟩⟩, h3.right⟩
theorem tailO_txt (s : ByteArray) (ks : List ByteArray) (hks : ∀ q ∈ ks, okText q) : ∀ (r : List T) (i p : Nat), (∀ x ∈ r, Txts s x) → ks.length = i + 1 + r.length → Here s p (T.txts ks r (i + 1) ++ [125]) → Spells s p (tailO (ks.drop (i + 1)) r) (p + (T.txts ks r (i + 1)).length + 1)
 | [], i, p, hx, hl, h => by
  rw [T.txts, List.nil_append] at h
  rw [tailO]
  exact ⟨_, next_m h (by decide), ⟨rfl, rfl, rfl⟩, by rw [T.txts]; rfl⟩
 | x :: r, i, p, hx, hl, h => by
  have hi : i + 1 < ks.length := by rw [hl, List.length_cons]; omega
  have ek : keyPart ks (i + 1) = Q.quo (ks[i + 1]).toList ++ [58] := by unfold keyPart; rw [List.getElem?_eq_getElem hi]
  have e : T.txts ks (x :: r) (i + 1) = 44 :: (Q.quo (ks[i + 1]).toList ++ [58] ++ (x.txt ++ T.txts ks r (i + 1 + 1))) := by rw [txts_cons, ek]; rfl
  rw [e] at h ⊢
  have h0 : Here s p (44 :: (Q.quo (ks[i + 1]).toList ++ [58] ++ (x.txt ++ (T.txts ks r (i + 1 + 1) ++ [125])))) := by
   have := h
   simp only [List.cons_append, List.append_assoc] at this ⊢
   exact this
  have h1 := h0.hd.2.2
  obtain ⟨h2, h4⟩ := memb_txt (hks _ (List.getElem_mem hi)) (hx x List.mem_cons_self) h1 fun m hm => tail_no (.inr rfl) hm
  have h3 := tailO_txt s ks hks r (i + 1) _ (fun y hy => hx y (List.mem_cons_of_mem _ hy)) (by rw [hl, List.length_cons]; omega) h4
  rw [List.drop_eq_getElem_cons hi, tailO]
  refine ⟨_, next_m h0 (by decide), ⟨rfl, rfl, rfl⟩, ?_⟩
  have e2 : p + (44 :: (Q.quo (ks[i + 1]).toList ++ [58] ++ (x.txt ++ T.txts ks r (i + 1 + 1)))).length + 1 = p + 1 + (Q.quo (ks[i + 1]).toList ++ [58] ++ x.txt).length + (T.txts ks r (i + 1 + 1)).length + 1 := by
   simp only [List.length_cons, List.length_append]; omega
  rw [e2]
  exact Spells.app (a := ⟨2, ks[i + 1], 0⟩ :: sayM 58 :: said x) h2 h3
theorem headO_txt (s : ByteArray) (ks : List ByteArray) (hks : ∀ q ∈ ks, okText q) (l : List T) (p : Nat) (hx : ∀ x ∈ l, Txts s x) (hl : ks.length = l.length) (h : Here s p (T.txts ks l 0 ++ [125])) : Spells s p (headO ks l) (p + (T.txts ks l 0).length + 1) := by
 cases l with
 | nil =>
  rw [T.txts, List.nil_append] at h
  rw [headO]
  exact ⟨_, next_m h (by decide), ⟨rfl, rfl, rfl⟩, by rw [T.txts]; rfl⟩
 | cons x r =>
  obtain ⟨q, ks, rfl⟩ : ∃ a b, ks = a :: b := by
   cases ks with
   | nil => cases hl
   | cons a b => exact ⟨a, b, rfl⟩
  have e : T.txts (q :: ks) (x :: r) 0 = Q.quo q.toList ++ [58] ++ (x.txt ++ T.txts (q :: ks) r (0 + 1)) := by rw [txts_cons]; rfl
  rw [e] at h ⊢
  have h1 : Here s p (Q.quo q.toList ++ [58] ++ (x.txt ++ (T.txts (q :: ks) r (0 + 1) ++ [125]))) := by
   have := h
   simp only [List.append_assoc] at this ⊢
   exact this
  obtain ⟨h2, h4⟩ := memb_txt (hks _ List.mem_cons_self) (hx x List.mem_cons_self) h1 fun m hm => tail_no (.inr rfl) hm
  have h3 := tailO_txt s (q :: ks) hks r 0 _ (fun y hy => hx y (List.mem_cons_of_mem _ hy)) (by rw [hl, List.length_cons]; omega) h4
  have e2 : p + (Q.quo q.toList ++ [58] ++ (x.txt ++ T.txts (q :: ks) r (0 + 1))).length + 1 = p + (Q.quo q.toList ++ [58] ++ x.txt).length + (T.txts (q :: ks) r (0 + 1)).length + 1 := by
   simp only [List.length_append]; omega
  rw [e2, headO]
  exact Spells.app (a := ⟨2, q, 0⟩ :: sayM 58 :: said x) h2 h3
structure Inked (t : T) : Prop where
 num : t.kind = 2 → In64 t.num
 str : t.kind = 3 → okText t.str
 keys : ∀ q ∈ t.keys, okText q
 nokeys : t.kind = 4 → t.keys = []
 lens : t.kind = 5 → t.keys.length = t.items.length
theorem txt_said (s : ByteArray) : ∀ t : T, T.All Inked t → Txts s t := by
 refine T.ind ?_
 intro t ih hs p h he
 have IH : ∀ y ∈ t.items, Txts s y := fun y hy => ih y hy (hs.mem hy)
 have hi := hs.here
 rw [T.txt_eq] at h he ⊢
 rw [said_eq]
 by_cases k1 : t.kind = 1
 ·
  rw [if_pos k1] at h he ⊢
  rw [if_pos k1]
  cases hb : t.tr
  ·
   rw [hb] at h
   exact ⟨_, next_false h, ⟨rfl, rfl, rfl⟩, rfl⟩
  ·
   rw [hb] at h
   exact ⟨_, next_true h, ⟨rfl, rfl, rfl⟩, rfl⟩
 rw [if_neg k1] at h he ⊢
 rw [if_neg k1]
 by_cases k2 : t.kind = 2
 ·
  rw [if_pos k2] at h he ⊢
  rw [if_pos k2]
  obtain ⟨f1, f2⟩ := De.itoa_form t.num
  have := next_num h f1 (by rw [f2]; exact hi.num k2) he
  rw [f2] at this
  exact ⟨_, this, ⟨rfl, rfl, rfl⟩, rfl⟩
 rw [if_neg k2] at h he ⊢
 rw [if_neg k2]
 by_cases k3 : t.kind = 3
 ·
  rw [if_pos k3] at h he ⊢
  rw [if_pos k3]
  rw [quo_data] at h ⊢
  exact ⟨_, next_quo (hi.str k3) h, ⟨rfl, rfl, rfl⟩, rfl⟩
 rw [if_neg k3] at h he ⊢
 rw [if_neg k3]
 by_cases k4 : t.kind = 4
 ·
  rw [if_pos k4] at h he ⊢
  rw [if_pos k4]
  rw [hi.nokeys k4] at h ⊢
  refine ⟨_, next_m h (by decide), ⟨rfl, rfl, rfl⟩, ?_⟩
  have e : p + (91 :: (T.txts [] t.items 0 ++ [93])).length = p + 1 + (T.txts [] t.items 0).length + 1 := by simp only [List.length_cons, List.length_append, List.length_nil]; omega
  rw [e]
  exact headA_txt s _ _ IH h.hd.2.2
 rw [if_neg k4] at h he ⊢
 rw [if_neg k4]
 by_cases k5 : t.kind = 5
 ·
  rw [if_pos k5] at h he ⊢
  rw [if_pos k5]
  refine ⟨_, next_m h (by decide), ⟨rfl, rfl, rfl⟩, ?_⟩
  have e : p + (123 :: (T.txts t.keys t.items 0 ++ [125])).length = p + 1 + (T.txts t.keys t.items 0).length + 1 := by simp only [List.length_cons, List.length_append, List.length_nil]; omega
  rw [e]
  exact headO_txt s _ hi.keys _ _ IH (hi.lens k5) h.hd.2.2
 rw [if_neg k5] at h he ⊢
 rw [if_neg k5]
 exact ⟨_, next_null h, ⟨rfl, rfl, rfl⟩, rfl⟩
theorem txt_whole {s : ByteArray} {t : T} (ht : T.All Inked t) (h : s.data.toList = t.txt) : Spells s 0 (said t ++ [⟨0, nix, 0⟩]) s.size := by
 have hl : t.txt.length = s.size := by rw [← h]; rfl
 have h1 : Here s 0 t.txt := by rw [← h]; exact here_all s
 have h2 := txt_said s t ht 0 h1 (by rw [Nat.zero_add, hl, bt_end (Nat.le_refl _)]; unfold isNo; decide)
 rw [Nat.zero_add, hl] at h2
 exact h2.app ⟨_, next_end, ⟨rfl, rfl, rfl⟩, rfl⟩
theorem good_inked {t : T} (h : t.Good) (hf : T.All (fun t => In64 t.num) t) : T.All Inked t := by
 unfold T.Good at h
 induction h with
 | mk t h hm ih =>
  exact .mk t ⟨fun _ => hf.here, fun _ => h.txt, h.ktxt, fun k => h.keys (by omega), h.lens⟩ fun x hx => ih x hx (hf.mem hx)
theorem good_shape {t : T} (h : t.Good) : T.All Shape t := h.imp fun _ g k => ⟨g.lens k, g.kris.nodup⟩
theorem norm_good {O : List (ByteArray × T) → T} (hO : ∀ (l : List T) (ks : List ByteArray), ks.length = l.length → Rising ks → O (ks.zip l) = .mk 5 false 0 nix l ks) : ∀ t : T, t.Good → norm O t = t := by
 refine T.ind ?_
 intro t ih hg
 have g := hg.here
 have hn : norms O t.items = t.items := by
  have key : ∀ l : List T, (∀ x ∈ l, norm O x = x) → norms O l = l := by
   intro l
   induction l with
   | nil => intro _; rfl
   | cons x r ihl => intro hh; rw [norms, hh x List.mem_cons_self, ihl fun y hy => hh y (List.mem_cons_of_mem _ hy)]
  exact key _ fun x hx => ih x hx (hg.mem hx)
 have h0 := g.k0
 have h5 := g.k5
 rw [norm_eq, hn]
 by_cases k1 : t.kind = 1
 · rw [if_pos k1]; exact T.ext k1.symm rfl (g.num (by omega)).symm (g.str (by omega)).symm (g.items (by omega) (by omega)).symm (g.keys (by omega)).symm
 rw [if_neg k1]
 by_cases k2 : t.kind = 2
 · rw [if_pos k2]; exact T.ext k2.symm (g.tr (by omega)).symm rfl (g.str (by omega)).symm (g.items (by omega) (by omega)).symm (g.keys (by omega)).symm
 rw [if_neg k2]
 by_cases k3 : t.kind = 3
 · rw [if_pos k3]; exact T.ext k3.symm (g.tr (by omega)).symm (g.num (by omega)).symm rfl (g.items (by omega) (by omega)).symm (g.keys (by omega)).symm
 rw [if_neg k3]
 by_cases k4 : t.kind = 4
 · rw [if_pos k4]; exact T.ext k4.symm (g.tr (by omega)).symm (g.num (by omega)).symm (g.str (by omega)).symm rfl (g.keys (by omega)).symm
 rw [if_neg k4]
 by_cases k5 : t.kind = 5
 · rw [if_pos k5, hO _ _ (g.lens k5) g.kris]; exact T.ext k5.symm (g.tr (by omega)).symm (g.num (by omega)).symm (g.str (by omega)).symm rfl rfl
 rw [if_neg k5]
 exact T.ext (show (0 : Int) = t.kind by omega) (g.tr (by omega)).symm (g.num (by omega)).symm (g.str (by omega)).symm (g.items (by omega) (by omega)).symm (g.keys (by omega)).symm
theorem whole_txt {O : List (ByteArray × T) → T} (hO : ∀ (l : List T) (ks : List ByteArray), ks.length = l.length → Rising ks → O (ks.zip l) = .mk 5 false 0 nix l ks) {s : ByteArray} {t : T} (hg : t.Good) (hf : T.All (fun t => In64 t.num) t) (h : s.data.toList = t.txt) (room : Nat) : (t.depth ≤ room → whole O s room = .val t 0) ∧ (room < t.depth → ∃ p, whole O s room = .err p 6 ∧ p < s.size ∧ (bt s p = 91 ∨ bt s p = 123)) := by
 have := whole_said O s room t (good_shape hg) (txt_whole (good_inked hg hf) h)
 rw [norm_good hO t hg] at this
 exact this
end Go.Proofs.YtgblenoaeanogaaGreatDoor.Rd
