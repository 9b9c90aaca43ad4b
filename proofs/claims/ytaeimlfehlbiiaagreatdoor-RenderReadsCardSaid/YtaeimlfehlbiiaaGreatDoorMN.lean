/- Where a text is cut: plain mathematics. A value's text is a text: plain mathematics. The tokens that stand at a place: plain mathematics. A value's text spells its tokens, and is read as it: plain mathematics. Ways of writing a value: what leads to its tokens: plain mathematics. Writings of arrays and objects: plain mathematics. Two values have one text just if they are the same; a text's characters are no longer than they were written: plain mathematics. -/
import Derived.Test.YtaeimlfehlbiiaaGreatDoorMA
import Derived.Lib.Bits
import Derived.Lib.RuneBytes
import Derived.Outline
import Derived.Test.YtaeimlfehlbiiaaGreatDoorMM
import Derived.Test.YtaeimlfehlbiiaaGreatDoorMG
import Derived.Test.YtaeimlfehlbiiaaGreatDoorML
namespace Go.Proofs.YtaeimlfehlbiiaaGreatDoor
open Pl
set_option linter.unusedVariables false
theorem byte_of {x : Int} (h0 : 0 ≤ x) (h1 : x < 256) : ((x.toNat.toUInt8).toNat : Int) = x := by
 have h : x.toNat < 256 := by omega
 have : (x.toNat.toUInt8).toNat = x.toNat := by simp; omega
 rw [this]; omega
end Go.Proofs.YtaeimlfehlbiiaaGreatDoor
namespace Go.Proofs.YtaeimlfehlbiiaaGreatDoor
open Pl
set_option linter.unusedVariables false
theorem esc_high : ∀ n : Fin 256, 128 ≤ n.val → Q.esc (UInt8.ofNat n.val) = [UInt8.ofNat n.val] := by decide +kernel
theorem esc_hi {b : UInt8} (h : 128 ≤ b.toNat) : Q.esc b = [b] := by
 have := esc_high ⟨b.toNat, b.toNat_lt⟩ h
 simpa using this
theorem enc_high (r : Int) (hr : 128 ≤ r) (b : UInt8) (h : b ∈ Lib.encodeRune r) : 128 ≤ b.toNat := by
 unfold Lib.encodeRune at h
 obtain ⟨x, hx, rfl⟩ := List.mem_map.1 h
 have key : 128 ≤ x ∧ x < 256 → 128 ≤ (x.toNat.toUInt8).toNat := fun hh => by
  have := byte_of (x := x) (by omega) (by omega)
  omega
 apply key
 unfold Lib.encodeRuneZ at hx
 split at hx
 · omega
 split at hx
 · simp at hx; omega
 split at hx
 · simp at hx; omega
 split at hx
 · simp at hx; omega
 · simp at hx; omega
theorem hi_flat : ∀ {L : List UInt8}, (∀ b ∈ L, 128 ≤ b.toNat) → L.flatMap Q.esc = L
 | [], _ => rfl
 | b :: L, h => by rw [List.flatMap_cons, esc_hi (h b List.mem_cons_self), hi_flat fun c hc => h c (List.mem_cons_of_mem _ hc)]; rfl
end Go.Proofs.YtaeimlfehlbiiaaGreatDoor
namespace Go.Proofs.YtaeimlfehlbiiaaGreatDoor.Tk
open Pl
set_option linter.unusedVariables false
def Here (s : ByteArray) (p : Nat) (L : List UInt8) : Prop := ∃ R, s.data.toList.drop p = L ++ R
theorem here_all (s : ByteArray) : Here s 0 s.data.toList := ⟨[], by simp⟩
theorem Here.left {s : ByteArray} {p : Nat} {A B : List UInt8} (h : Here s p (A ++ B)) : Here s p A := by
 obtain ⟨R, h⟩ := h
 exact ⟨B ++ R, by rw [h, List.append_assoc]⟩
theorem Here.right {s : ByteArray} {p : Nat} {A B : List UInt8} (h : Here s p (A ++ B)) : Here s (p + A.length) B := by
 obtain ⟨R, h⟩ := h
 exact ⟨R, by rw [← List.drop_drop, h, List.append_assoc, List.drop_left]⟩
theorem Here.hd {s : ByteArray} {p : Nat} {c : UInt8} {L : List UInt8} (h : Here s p (c :: L)) : bt s p = c.toNat ∧ p < s.size ∧ Here s (p + 1) L := by
 have h2 : Here s (p + 1) L := Here.right (A := [c]) h
 obtain ⟨R, h⟩ := h
 have h3 := congrArg (fun l => l[0]?) h
 simp only [List.getElem?_drop, Nat.add_zero, List.cons_append, List.getElem?_cons_zero] at h3
 have h4 := (List.getElem?_eq_some_iff.1 h3).1
 refine ⟨?_, h4, h2⟩
 unfold bt
 rw [List.getD_eq_getElem?_getD, h3]; rfl
theorem Here.size {s : ByteArray} {p : Nat} {L : List UInt8} (h : Here s p L) (hp : p ≤ s.size) : p + L.length ≤ s.size := by
 obtain ⟨R, h⟩ := h
 have := congrArg List.length h
 rw [List.length_drop, List.length_append, size_toList] at this
 omega
theorem next_bl {s : ByteArray} : ∀ {B : List UInt8} {p : Nat}, Here s p B → (∀ b ∈ B, isBl b.toNat = true) → next s p = next s (p + B.length)
 | [], p, h, hb => rfl
 | c :: B, p, h, hb => by
  obtain ⟨h1, h2, h3⟩ := h.hd
  have e : next s p = next s (p + 1) := by unfold next; rw [span_yes h2 (by rw [h1]; exact hb c List.mem_cons_self)]
  rw [e, next_bl h3 fun b hm => hb b (List.mem_cons_of_mem _ hm), List.length_cons, Nat.add_assoc, Nat.add_comm 1]
theorem next_mark {s : ByteArray} {p : Nat} (c : Nat) (h : bt s p = c) (hm : isMark c = true) : next s p = .tok ⟨1, one c, 0, p, p + 1⟩ := by
 have hs : p < s.size := lt_of_bt (by intro h0; rw [h] at h0; subst h0; exact absurd hm (by decide))
 have hb : isBl c = false := by
  simp only [isMark, Bool.or_eq_true, beq_iff_eq] at hm
  rcases hm with ((((rfl | rfl) | rfl) | rfl) | rfl) | rfl <;> rfl
 unfold next
 rw [span_no (by rw [h]; exact hb)]
 unfold ansAt
 rw [if_neg (by omega), h, if_pos hm]
theorem next_end {s : ByteArray} : next s s.size = .tok ⟨0, nix, 0, s.size, s.size⟩ := by
 unfold next
 rw [span_end (Nat.le_refl _)]
 unfold ansAt
 rw [if_pos (Nat.le_refl _)]
theorem next_word {s : ByteArray} {p : Nat} {c : Nat} (hc : c = 116 ∨ c = 102 ∨ c = 110) (h : bt s p = c) (hw : wordE s (wordOf c) p = p + (wordOf c).length) : next s p = .tok ⟨kindOf c, nix, 0, p, p + (wordOf c).length⟩ := by
 have hs : p < s.size := lt_of_bt (by omega)
 have hb : isBl c = false := by rcases hc with rfl | rfl | rfl <;> rfl
 have hm : ¬ isMark c = true := by rcases hc with rfl | rfl | rfl <;> decide
 have hd : ¬ (c = 45 ∨ isDg c = true) := by rcases hc with rfl | rfl | rfl <;> decide
 unfold next
 rw [span_no (by rw [h]; exact hb)]
 unfold ansAt
 rw [if_neg (by omega), h, if_neg hm, if_neg (by omega), if_neg hd, if_pos hc]
 unfold wordAns
 rw [h, if_pos hw]
theorem next_true {s : ByteArray} {p : Nat} (h : Here s p [116, 114, 117, 101]) : next s p = .tok ⟨4, nix, 0, p, p + 4⟩ := by
 obtain ⟨h1, _, h⟩ := h.hd
 obtain ⟨h2, _, h⟩ := h.hd
 obtain ⟨h3, _, h⟩ := h.hd
 obtain ⟨h4, _, h⟩ := h.hd
 replace h1 : bt s (p) = 116 := h1
 replace h2 : bt s (p + 1) = 114 := h2
 replace h3 : bt s (p + 1 + 1) = 117 := h3
 replace h4 : bt s (p + 1 + 1 + 1) = 101 := h4
 refine next_word (c := 116) (.inl rfl) h1 ?_
 show wordE s [116, 114, 117, 101] p = p + 4
 simp only [wordE]
 rw [if_pos h1, if_pos h2, if_pos h3, if_pos h4]
theorem next_false {s : ByteArray} {p : Nat} (h : Here s p [102, 97, 108, 115, 101]) : next s p = .tok ⟨5, nix, 0, p, p + 5⟩ := by
 obtain ⟨h1, _, h⟩ := h.hd
 obtain ⟨h2, _, h⟩ := h.hd
 obtain ⟨h3, _, h⟩ := h.hd
 obtain ⟨h4, _, h⟩ := h.hd
 obtain ⟨h5, _, h⟩ := h.hd
 replace h1 : bt s (p) = 102 := h1
 replace h2 : bt s (p + 1) = 97 := h2
 replace h3 : bt s (p + 1 + 1) = 108 := h3
 replace h4 : bt s (p + 1 + 1 + 1) = 115 := h4
 replace h5 : bt s (p + 1 + 1 + 1 + 1) = 101 := h5
 refine next_word (c := 102) (.inr (.inl rfl)) h1 ?_
 show wordE s [102, 97, 108, 115, 101] p = p + 5
 simp only [wordE]
 rw [if_pos h1, if_pos h2, if_pos h3, if_pos h4, if_pos h5]
theorem next_null {s : ByteArray} {p : Nat} (h : Here s p [110, 117, 108, 108]) : next s p = .tok ⟨6, nix, 0, p, p + 4⟩ := by
 obtain ⟨h1, _, h⟩ := h.hd
 obtain ⟨h2, _, h⟩ := h.hd
 obtain ⟨h3, _, h⟩ := h.hd
 obtain ⟨h4, _, h⟩ := h.hd
 replace h1 : bt s (p) = 110 := h1
 replace h2 : bt s (p + 1) = 117 := h2
 replace h3 : bt s (p + 1 + 1) = 108 := h3
 replace h4 : bt s (p + 1 + 1 + 1) = 108 := h4
 refine next_word (c := 110) (.inr (.inr rfl)) h1 ?_
 show wordE s [110, 117, 108, 108] p = p + 4
 simp only [wordE]
 rw [if_pos h1, if_pos h2, if_pos h3, if_pos h4]
def isNo (c : Nat) : Prop := isDg c = false ∧ c ≠ 46 ∧ c ≠ 101 ∧ c ≠ 69
theorem span_run {s : ByteArray} : ∀ {D : List UInt8} {f : Nat}, Here s f D → (∀ c ∈ D, De.isDig c = true) → isDg (bt s (f + D.length)) = false → span isDg s f = f + D.length
 | [], f, h, hd, he => span_no he
 | c :: D, f, h, hd, he => by
  obtain ⟨h1, h2, h3⟩ := h.hd
  have h4 : isDg (bt s f) = true := by rw [h1, isDg_iff]; exact (De.dig_iff c).1 (hd c List.mem_cons_self)
  have e : f + (c :: D).length = f + 1 + D.length := by rw [List.length_cons]; omega
  rw [e] at he ⊢
  rw [span_yes h2 h4, span_run h3 (fun c hm => hd c (List.mem_cons_of_mem _ hm)) he]
theorem next_num {s : ByteArray} {p : Nat} {L : List UInt8} (h : Here s p L) (hf : De.form L = true) (hi : In64 (De.numL L)) (he : isNo (bt s (p + L.length))) : next s p = .tok ⟨3, nix, De.numL L, p, p + L.length⟩ := by
 obtain ⟨e1, e2, e3, e4⟩ := he
 obtain ⟨hD0, hDd⟩ := De.form_digs hf
 have hsub : (sub s p (p + L.length)).data.toList = L := by
  obtain ⟨R, h⟩ := h
  rw [sub_list, h, Nat.add_sub_cancel_left, List.take_left]
 have hlen : De.digs L = L ∧ L.head? ≠ some 45 ∨ L = 45 :: De.digs L := by
  unfold De.digs
  split
  ·
   rename_i hh
   right
   cases L with
   | nil => cases hh
   | cons a L => injection hh with hh; subst hh; rfl
  · rename_i hh; exact .inl ⟨rfl, hh⟩
 have hD : De.formD (De.digs L) = true := hf
 generalize De.digs L = D at *
 obtain ⟨d, D', rfl⟩ : ∃ d D', D = d :: D' := by
  cases D with
  | nil => exact absurd rfl hD0
  | cons d D' => exact ⟨d, D', rfl⟩
 have hdd := (De.dig_iff d).1 (hDd d List.mem_cons_self)
 have key : ∃ f, signE s p = f ∧ Here s f (d :: D') ∧ f + (d :: D').length = p + L.length ∧ (bt s p = 45 ∨ isDg (bt s p) = true) := by
  rcases hlen with ⟨h1, h2⟩ | h1
  ·
   subst h1
   obtain ⟨b1, b2, b3⟩ := h.hd
   refine ⟨p, ?_, h, rfl, .inr (by rw [b1, isDg_iff]; exact hdd)⟩
   unfold signE
   rw [if_neg (by rw [b1]; omega)]
  ·
   rw [h1] at h
   obtain ⟨b1, b2, b3⟩ := h.hd
   refine ⟨p + 1, ?_, b3, by rw [h1]; simp only [List.length_cons]; omega, .inl b1⟩
   unfold signE
   rw [if_pos (show bt s p = 45 from b1)]
 obtain ⟨f, hs, hh, hfl, hb⟩ := key
 obtain ⟨b1, b2, b3⟩ := hh.hd
 have hint : intE s p = p + L.length := by
  unfold intE
  rw [hs]
  split
  ·
   rename_i h48
   have : D' = [] := by
    unfold De.formD at hD
    simp only [Bool.and_eq_true, Bool.or_eq_true, decide_eq_true_eq, List.head?_cons, Bool.not_eq_true'] at hD
    rcases hD.2 with h | h
    · simpa using h
    ·
     exfalso
     have : d = 48 := UInt8.toNat_inj.1 (by rw [← b1, h48]; rfl)
     subst this
     simp at h
   subst this
   exact hfl
  · rw [span_run hh hDd (by rw [hfl]; exact e1), hfl]
 have hintB : intB s p = true := by
  unfold intB
  rw [hs, b1, isDg_iff]; exact hdd
 have hp : p < s.size := lt_of_bt (by rcases hb with h | h <;> intro h0 <;> rw [h0] at h <;> revert h <;> decide)
 have hnb : isBl (bt s p) = false ∧ ¬ isMark (bt s p) = true ∧ bt s p ≠ 34 := by
  rcases hb with h | h
  · rw [h]; decide
  ·
   rw [isDg_iff] at h
   generalize bt s p = c at *
   refine ⟨?_, ?_, by omega⟩
   · rw [Bool.eq_false_iff]; intro h2; rw [isBl_iff] at h2; omega
   ·
    intro h2
    simp only [isMark, Bool.or_eq_true, beq_iff_eq] at h2
    omega
 unfold next
 rw [span_no hnb.1]
 unfold ansAt
 rw [if_neg (by omega), if_neg hnb.2.1, if_neg hnb.2.2, if_pos hb]
 have hfr : fracE s (p + L.length) = p + L.length := by unfold fracE; rw [if_neg e2]
 have hfb : fracB s (p + L.length) = true := by unfold fracB; rw [beq_eq_false_iff_ne.2 e2]; rfl
 have hie : isE (bt s (p + L.length)) = false := by unfold isE; rw [beq_eq_false_iff_ne.2 e3, beq_eq_false_iff_ne.2 e4]; rfl
 have hee : expE s (p + L.length) = p + L.length := by unfold expE; rw [hie]; rfl
 have heb : expB s (p + L.length) = true := by unfold expB; rw [hie]; rfl
 unfold numAns
 rw [hint, hfr, hfb, hintB, hee, heb, hsub]
 rw [if_neg (by decide), if_neg (by decide), if_neg (by decide), if_neg (by omega), if_pos hi]
def Chars (s : ByteArray) : Nat → List Int → Nat → Prop
 | p, [], e => p = e
 | p, m :: l, e => ∃ q, bt s p ≠ 34 ∧ chAt s p = .pt m q ∧ Chars s q l e
theorem str_chars {s : ByteArray} : ∀ {l : List Int} {p e : Nat} {acc : List Int}, Chars s p l e → p ≤ s.size → bt s e = 34 → str s p acc = .pts (acc ++ l) (e + 1)
 | [], p, e, acc, h, hp, he => by
  obtain rfl : p = e := h
  rw [str_end hp he, List.append_nil]
 | m :: l, p, e, acc, h, hp, he => by
  obtain ⟨q, h1, h2, h3⟩ := h
  rw [str_pt hp h1 h2, str_chars h3 (chAt_pt h2).2.2 he, List.append_assoc]; rfl
theorem next_str {s : ByteArray} {p e : Nat} {l : List Int} (h : bt s p = 34) (hc : Chars s (p + 1) l e) (he : bt s e = 34) : next s p = .tok ⟨2, textOf l, 0, p, e + 1⟩ := by
 have hp : p < s.size := lt_of_bt (by omega)
 unfold next
 rw [span_no (by rw [h]; rfl)]
 unfold ansAt
 rw [if_neg (by omega), h, if_neg (by decide), if_pos rfl]
 unfold strAns
 rw [str_chars hc hp he]
 rfl
theorem Chars.app {s : ByteArray} : ∀ {a b : List Int} {p m e : Nat}, Chars s p a m → Chars s m b e → Chars s p (a ++ b) e
 | [], b, p, m, e, h, k => by obtain rfl : p = m := h; exact k
 | x :: a, b, p, m, e, h, k => by
  obtain ⟨q, h1, h2, h3⟩ := h
  exact ⟨q, h1, h2, h3.app k⟩
theorem char_raw {s : ByteArray} {p : Nat} {x : Int} (hx : pt x = true) (h32 : 32 ≤ x) (h34 : x ≠ 34) (h92 : x ≠ 92) (h : Here s p (Lib.encodeRune x)) : Chars s p [x] (p + (Lib.encodeRune x).length) := by
 have hb : 32 ≤ bt s p ∧ bt s p ≠ 34 ∧ bt s p ≠ 92 ∧ p < s.size := by
  have hl := (enc_len x).1
  by_cases h128 : x < 128
  ·
   have e : Lib.encodeRune x = [x.toNat.toUInt8] := by
    unfold Lib.encodeRune
    rw [Lib.encodeRuneZ_one (by omega) (by omega)]
    simp
   rw [e] at h
   obtain ⟨b1, b2, _⟩ := h.hd
   rw [b8 x (by omega) (by omega)] at b1
   exact ⟨by omega, by omega, by omega, b2⟩
  ·
   cases hL : Lib.encodeRune x with
   | nil => rw [hL] at hl; simp at hl
   | cons c L =>
    have h3 := enc_high x (by omega) c (by rw [hL]; exact List.mem_cons_self)
    rw [hL] at h
    obtain ⟨b1, b2, _⟩ := h.hd
    exact ⟨by omega, by omega, by omega, b2⟩
 obtain ⟨b1, b2, b3, b4⟩ := hb
 refine ⟨_, b2, ?_, rfl⟩
 unfold chAt
 rw [if_neg (by omega), if_neg b3]
 unfold rawCh
 obtain ⟨R, h⟩ := h
 obtain ⟨k1, k2⟩ := ok_of_enc x R hx
 rw [h, if_pos k2, k1]
 have : 0 ≤ x := by omega
 show Ch.pt ((x.toNat : Nat) : Int) _ = _
 rw [Int.toNat_of_nonneg this]
theorem char_short {s : ByteArray} {p : Nat} {x : Int} (b : UInt8) (hx : shortOf b.toNat = some x) (h : Here s p [92, b]) : Chars s p [x] (p + 2) := by
 obtain ⟨b1, b2, h⟩ := h.hd
 obtain ⟨b3, b4, _⟩ := h.hd
 have b1' : bt s p = 92 := b1
 refine ⟨_, by rw [b1']; decide, ?_, rfl⟩
 unfold chAt
 rw [if_neg (by omega), if_pos b1']
 unfold escCh
 rw [b3, hx]
theorem char_uni {s : ByteArray} {p : Nat} {x : Int} (a b c d : UInt8) (ha : 0 ≤ hexOf a.toNat) (hb : 0 ≤ hexOf b.toNat) (hc : 0 ≤ hexOf c.toNat) (hd : 0 ≤ hexOf d.toNat) (hx : (((0 * 16 + hexOf a.toNat) * 16 + hexOf b.toNat) * 16 + hexOf c.toNat) * 16 + hexOf d.toNat = x) (hp : pt x = true) (h : Here s p [92, 117, a, b, c, d]) : Chars s p [x] (p + 6) := by
 obtain ⟨b1, b2, h⟩ := h.hd
 obtain ⟨b3, _, h⟩ := h.hd
 obtain ⟨k1, _, h⟩ := h.hd
 obtain ⟨k2, _, h⟩ := h.hd
 obtain ⟨k3, _, h⟩ := h.hd
 obtain ⟨k4, _, h⟩ := h.hd
 have b1' : bt s p = 92 := b1
 have b3' : bt s (p + 1) = 117 := b3
 have h4 : four s (p + 2) = (x, p + 6) := by
  unfold four
  rw [fourF_yes (by rw [k1]; exact ha), fourF_yes (by rw [k2]; exact hb), fourF_yes (by rw [k3]; exact hc), fourF_yes (by rw [k4]; exact hd)]
  rw [k1, k2, k3, k4]
  unfold fourF
  rw [hx]
 have hx0 : ¬ x < 0 := by rw [pt_iff] at hp; omega
 refine ⟨_, by rw [b1']; decide, ?_, rfl⟩
 unfold chAt
 rw [if_neg (by omega), if_pos b1']
 unfold escCh
 rw [b3', show shortOf 117 = none from rfl]
 show (if 117 = 117 then uniCh s p else _) = _
 rw [if_pos rfl]
 unfold uniCh
 rw [h4, if_neg hx0, if_pos hp]
theorem hex_low : ∀ n : Fin 32, 0 ≤ hexOf (Q.hex (UInt8.ofNat n.val / 16)).toNat ∧ 0 ≤ hexOf (Q.hex (UInt8.ofNat n.val % 16)).toNat ∧ (((0 * 16 + hexOf 48) * 16 + hexOf 48) * 16 + hexOf (Q.hex (UInt8.ofNat n.val / 16)).toNat) * 16 + hexOf (Q.hex (UInt8.ofNat n.val % 16)).toNat = (n.val : Int) := by decide +kernel
theorem hex_of (c : UInt8) (h : c.toNat < 32) : 0 ≤ hexOf (Q.hex (c / 16)).toNat ∧ 0 ≤ hexOf (Q.hex (c % 16)).toNat ∧ (((0 * 16 + hexOf 48) * 16 + hexOf 48) * 16 + hexOf (Q.hex (c / 16)).toNat) * 16 + hexOf (Q.hex (c % 16)).toNat = (c.toNat : Int) := by
 have := hex_low ⟨c.toNat, h⟩
 simp only [UInt8.ofNat_toNat] at this
 exact this
theorem esc_low {x : Int} (h0 : 0 ≤ x) (h1 : x < 128) {s : ByteArray} {p : Nat} (h : Here s p (Q.esc (UInt8.ofNat x.toNat))) : Chars s p [x] (p + (Q.esc (UInt8.ofNat x.toNat)).length) := by
 have hpt : pt x = true := by rw [pt_iff]; omega
 have hn : (UInt8.ofNat x.toNat).toNat = x.toNat := by rw [UInt8.toNat_ofNat']; omega
 have hx : ((UInt8.ofNat x.toNat).toNat : Int) = x := by rw [hn]; omega
 have e : Lib.encodeRune x = [UInt8.ofNat x.toNat] := by
  unfold Lib.encodeRune
  rw [Lib.encodeRuneZ_one (by omega) (by omega)]
  simp
 obtain ⟨c, hc⟩ : ∃ c, UInt8.ofNat x.toNat = c := ⟨_, rfl⟩
 rw [hc] at h hn hx e ⊢
 have cas : ∀ (k : Nat) (b : UInt8), c = UInt8.ofNat k → k < 128 → shortOf b.toNat = some (k : Int) → Here s p [92, b] → Chars s p [x] (p + 2) := fun k b hk hk2 hs hh => by
  have : x = (k : Int) := by rw [← hx, hk, UInt8.toNat_ofNat']; omega
  rw [this]; exact char_short b hs hh
 unfold Q.esc at h ⊢
 split at h
 · rename_i k; rw [if_pos k]; exact cas 34 34 k (by decide) rfl h
 rename_i n1
 rw [if_neg n1]
 split at h
 · rename_i k; rw [if_pos k]; exact cas 92 92 k (by decide) rfl h
 rename_i n2
 rw [if_neg n2]
 split at h
 · rename_i k; rw [if_pos k]; exact cas 8 98 k (by decide) rfl h
 rename_i n3
 rw [if_neg n3]
 split at h
 · rename_i k; rw [if_pos k]; exact cas 12 102 k (by decide) rfl h
 rename_i n4
 rw [if_neg n4]
 split at h
 · rename_i k; rw [if_pos k]; exact cas 10 110 k (by decide) rfl h
 rename_i n5
 rw [if_neg n5]
 split at h
 · rename_i k; rw [if_pos k]; exact cas 13 114 k (by decide) rfl h
 rename_i n6
 rw [if_neg n6]
 split at h
 · rename_i k; rw [if_pos k]; exact cas 9 116 k (by decide) rfl h
 rename_i n7
 rw [if_neg n7]
 split at h
 ·
  rename_i k
  rw [if_pos k]
  have k2 : c.toNat < 32 := k
  have hlow := hex_of c k2
  refine char_uni 48 48 _ _ (by decide) (by decide) hlow.1 hlow.2.1 ?_ hpt h
  have := hlow.2.2
  rw [show ((48 : UInt8)).toNat = 48 from rfl, this]; omega
 ·
  rename_i k
  rw [if_neg k]
  have k2 : ¬ c.toNat < 32 := k
  have a1 : x ≠ 34 := fun hh => n1 (by rw [← hc, hh]; rfl)
  have a2 : x ≠ 92 := fun hh => n2 (by rw [← hc, hh]; rfl)
  have := char_raw hpt (by omega) a1 a2 (by rw [e]; exact h)
  rw [e] at this
  exact this
theorem chars_esc {s : ByteArray} : ∀ {l : List Int} {p : Nat}, (∀ x ∈ l, pt x = true) → Here s p ((flat l).flatMap Q.esc) → Chars s p l (p + ((flat l).flatMap Q.esc).length)
 | [], p, hl, h => rfl
 | x :: l, p, hl, h => by
  have hx := hl x List.mem_cons_self
  have hx0 : 0 ≤ x := by rw [pt_iff] at hx; omega
  rw [flat_cons, List.flatMap_append] at h ⊢
  have r := chars_esc (fun y hy => hl y (List.mem_cons_of_mem _ hy)) h.right
  rw [List.length_append, ← Nat.add_assoc]
  refine Chars.app (a := [x]) ?_ r
  have h' := h.left
  by_cases h128 : x < 128
  ·
   have e : Lib.encodeRune x = [UInt8.ofNat x.toNat] := by
    unfold Lib.encodeRune
    rw [Lib.encodeRuneZ_one (by omega) (by omega)]
    simp
   have e2 : (Lib.encodeRune x).flatMap Q.esc = Q.esc (UInt8.ofNat x.toNat) := by rw [e]; simp
   rw [e2] at h' ⊢
   exact esc_low hx0 h128 h'
  ·
   have e2 : (Lib.encodeRune x).flatMap Q.esc = Lib.encodeRune x := hi_flat (enc_high x (by omega))
   rw [e2] at h' ⊢
   exact char_raw hx (by omega) (by omega) (by omega) h'
theorem next_quo {s q : ByteArray} {p : Nat} (hq : okText q) (h : Here s p (Q.quo q.data.toList)) : next s p = .tok ⟨2, q, 0, p, p + (Q.quo q.data.toList).length⟩ := by
 obtain ⟨l, h1, _, h2⟩ := hq
 rw [List.append_nil] at h1
 unfold Q.quo at h ⊢
 rw [h1] at h ⊢
 obtain ⟨b1, _, h3⟩ := h.hd
 have c := chars_esc h2 h3.left
 have b2 := h3.right.hd.1
 have := next_str b1 c b2
 rw [this]
 have e1 : textOf l = q := by unfold textOf; rw [← h1]
 rw [e1]
 have e2 : p + 1 + ((flat l).flatMap Q.esc).length + 1 = p + (34 :: ((flat l).flatMap Q.esc ++ [34])).length := by
  simp only [List.length_cons, List.length_append, List.length_nil]; omega
 rw [e2]
end Go.Proofs.YtaeimlfehlbiiaaGreatDoor.Tk
namespace Go.Proofs.YtaeimlfehlbiiaaGreatDoor.Rd
open Tk Pl
set_option linter.unusedVariables false
theorem next_m {s : ByteArray} {p : Nat} {c : UInt8} {L : List UInt8} (h : Here s p (c :: L)) (hm : isMark c.toNat = true) : next s p = .tok ⟨1, Tk.one c.toNat, 0, p, p + 1⟩ := next_mark _ h.hd.1 hm
theorem tail_no {s : ByteArray} {p : Nat} {ks : List ByteArray} {r : List T} {i : Nat} {c : UInt8} (hc : c = 93 ∨ c = 125) (h : Here s p (T.txts ks r (i + 1) ++ [c])) : isNo (bt s p) := by
 cases r with
 | nil =>
  rw [T.txts, List.nil_append] at h
  rw [h.hd.1]
  unfold isNo
  rcases hc with rfl | rfl <;> decide
 | cons x r =>
  rw [txts_cons, show comma (i + 1) = [44] from rfl] at h
  rw [(Here.hd (by rw [List.append_assoc] at h; exact h) : bt s p = (44 : UInt8).toNat ∧ _).1]
  unfold isNo; decide
def Txts (s : ByteArray) (x : T) : Prop := ∀ p, Here s p x.txt → isNo (bt s (p + x.txt.length)) → Spells s p (said x) (p + x.txt.length)
theorem tailA_txt (s : ByteArray) : ∀ (r : List T) (i p : Nat), (∀ x ∈ r, Txts s x) → Here s p (T.txts [] r (i + 1) ++ [93]) → Spells s p (tailA r) (p + (T.txts [] r (i + 1)).length + 1)
 | [], i, p, hx, h => by
  rw [T.txts, List.nil_append] at h
  exact ⟨_, next_m h (by decide), ⟨rfl, rfl, rfl⟩, by rw [T.txts]; rfl⟩
 | x :: r, i, p, hx, h => by
  have e : T.txts [] (x :: r) (i + 1) = 44 :: (x.txt ++ T.txts [] r (i + 1 + 1)) := by rw [txts_cons]; rfl
  rw [e] at h ⊢
  have h0 : Here s p (44 :: (x.txt ++ (T.txts [] r (i + 1 + 1) ++ [93]))) := by rw [← List.append_assoc]; exact h
  have h1 := h0.hd.2.2
  have h2 := hx x List.mem_cons_self (p + 1) h1.left (tail_no (.inl rfl) h1.right)
  have h3 := tailA_txt s r (i + 1) _ (fun y hy => hx y (List.mem_cons_of_mem _ hy)) h1.right
  refine ⟨_, next_m h0 (by decide), ⟨rfl, rfl, rfl⟩, ?_⟩
  have e2 : p + (44 :: (x.txt ++ T.txts [] r (i + 1 + 1))).length + 1 = p + 1 + x.txt.length + (T.txts [] r (i + 1 + 1)).length + 1 := by
   simp only [List.length_cons, List.length_append]; omega
  rw [e2]
  exact h2.app h3
theorem headA_txt (s : ByteArray) (l : List T) (p : Nat) (hx : ∀ x ∈ l, Txts s x) (h : Here s p (T.txts [] l 0 ++ [93])) : Spells s p (headA l) (p + (T.txts [] l 0).length + 1) := by
 cases l with
 | nil =>
  rw [T.txts, List.nil_append] at h
  exact ⟨_, next_m h (by decide), ⟨rfl, rfl, rfl⟩, by rw [T.txts]; rfl⟩
 | cons x r =>
  have e : T.txts [] (x :: r) 0 = x.txt ++ T.txts [] r (0 + 1) := by rw [txts_cons]; rfl
  rw [e] at h ⊢
  have h1 : Here s p (x.txt ++ (T.txts [] r (0 + 1) ++ [93])) := by rw [← List.append_assoc]; exact h
  have h2 := hx x List.mem_cons_self p h1.left (tail_no (.inl rfl) h1.right)
  have h3 := tailA_txt s r 0 _ (fun y hy => hx y (List.mem_cons_of_mem _ hy)) h1.right
  have e2 : p + (x.txt ++ T.txts [] r (0 + 1)).length + 1 = p + x.txt.length + (T.txts [] r (0 + 1)).length + 1 := by
   simp only [List.length_append]; omega
  rw [e2]
  exact h2.app h3
theorem quo_data (q : ByteArray) : Q.quo q.toList = Q.quo q.data.toList := by rw [ByteArray.toList_eq]
theorem memb_txt {s : ByteArray} {p : Nat} {q : ByteArray} {x : T} {R : List UInt8} (hq : okText q) (hx : Txts s x) (h : Here s p (Q.quo q.toList ++ [58] ++ (x.txt ++ R))) (hn : ∀ m, Here s m R → isNo (bt s m)) : Spells s p (⟨2, q, 0⟩ :: sayM 58 :: said x) (p + (Q.quo q.toList ++ [58] ++ x.txt).length) ∧ Here s (p + (Q.quo q.toList ++ [58] ++ x.txt).length) R := by
 rw [quo_data] at h ⊢
 have h1 := h.left.left
 have h2 := h.left.right
 have h3 := h.right
 have e1 : p + (Q.quo q.data.toList ++ [58]).length = p + (Q.quo q.data.toList).length + 1 := by simp only [List.length_append, List.length_singleton]; omega
 rw [e1] at h3
 have h4 := hx _ h3.left (hn _ h3.right)
 have e2 : p + (Q.quo q.data.toList ++ [58] ++ x.txt).length = p + (Q.quo q.data.toList).length + 1 + x.txt.length := by simp only [List.length_append, List.length_singleton]; omega
 rw [e2]
 exact ⟨⟨_, next_quo hq h1, ⟨rfl, rfl, rfl⟩, ⟨_, next_m h2 (by decide), ⟨rfl, rfl, rfl⟩, h4⟩⟩, h3.right⟩
theorem tailO_txt (s : ByteArray) (ks : List ByteArray) (hks : ∀ q ∈ ks, okText q) : ∀ (r : List T) (i p : Nat), (∀ x ∈ r, Txts s x) → ks.length = i + 1 + r.length → Here s p (T.txts ks r (i + 1) ++ [125]) → Spells s p (tailO (ks.drop (i + 1)) r) (p + (T.txts ks r (i + 1)).length + 1)
 | [], i, p, hx, hl, h => by
  rw [T.txts, List.nil_append] at h
  rw [tailO]
  exact ⟨_, next_m h (by decide), ⟨rfl, rfl, rfl⟩, by rw [T.txts]; rfl⟩
 | x :: r, i, p, hx, hl, h => by
  have hi : i + 1 < ks.length := by rw [hl, List.length_cons]; omega
  have ek : keyPart ks (i + 1) = Q.quo (ks[i + 1]).toList ++ [58] := by unfold keyPart; rw [List.getElem?_eq_getElem hi]
  have e : T.txts ks (x :: r) (i + 1) = 44 :: (Q.quo (ks[i + 1]).toList ++ [58] ++ (x.txt ++ T.txts ks r (i + 1 + 1))) := by rw [txts_cons, ek]; rfl
  rw [e] at h ⊢
  have h0 : Here s p (44 :: (Q.quo (ks[i + 1]).toList ++ [58] ++ (x.txt ++ (T.txts ks r (i + 1 + 1) ++ [125])))) := by
   have := h
   simp only [List.cons_append, List.append_assoc] at this ⊢
   exact this
  have h1 := h0.hd.2.2
  obtain ⟨h2, h4⟩ := memb_txt (hks _ (List.getElem_mem hi)) (hx x List.mem_cons_self) h1 fun m hm => tail_no (.inr rfl) hm
  have h3 := tailO_txt s ks hks r (i + 1) _ (fun y hy => hx y (List.mem_cons_of_mem _ hy)) (by rw [hl, List.length_cons]; omega) h4
  rw [List.drop_eq_getElem_cons hi, tailO]
  refine ⟨_, next_m h0 (by decide), ⟨rfl, rfl, rfl⟩, ?_⟩
  have e2 : p + (44 :: (Q.quo (ks[i + 1]).toList ++ [58] ++ (x.txt ++ T.txts ks r (i + 1 + 1)))).length + 1 = p + 1 + (Q.quo (ks[i + 1]).toList ++ [58] ++ x.txt).length + (T.txts ks r (i + 1 + 1)).length + 1 := by
   simp only [List.length_cons, List.length_append]; omega
  rw [e2]
  exact Spells.app (a := ⟨2, ks[i + 1], 0⟩ :: sayM 58 :: said x) h2 h3
theorem headO_txt (s : ByteArray) (ks : List ByteArray) (hks : ∀ q ∈ ks, okText q) (l : List T) (p : Nat) (hx : ∀ x ∈ l, Txts s x) (hl : ks.length = l.length) (h : Here s p (T.txts ks l 0 ++ [125])) : Spells s p (headO ks l) (p + (T.txts ks l 0).length + 1) := by
 cases l with
 | nil =>
  rw [T.txts, List.nil_append] at h
  rw [headO]
  exact ⟨_, next_m h (by decide), ⟨rfl, rfl, rfl⟩, by rw [T.txts]; rfl⟩
 | cons x r =>
  obtain ⟨q, ks, rfl⟩ : ∃ a b, ks = a :: b := by
   cases ks with
   | nil => cases hl
   | cons a b => exact ⟨a, b, rfl⟩
  have e : T.txts (q :: ks) (x :: r) 0 = Q.quo q.toList ++ [58] ++ (x.txt ++ T.txts (q :: ks) r (0 + 1)) := by rw [txts_cons]; rfl
  rw [e] at h ⊢
  have h1 : Here s p (Q.quo q.toList ++ [58] ++ (x.txt ++ (T.txts (q :: ks) r (0 + 1) ++ [125]))) := by
   have := h
   simp only [List.append_assoc] at this ⊢
   exact this
  obtain ⟨h2, h4⟩ := memb_txt (hks _ List.mem_cons_self) (hx x List.mem_cons_self) h1 fun m hm => tail_no (.inr rfl) hm
  have h3 := tailO_txt s (q :: ks) hks r 0 _ (fun y hy => hx y (List.mem_cons_of_mem _ hy)) (by rw [hl, List.length_cons]; omega) h4
  have e2 : p + (Q.quo q.toList ++ [58] ++ (x.txt ++ T.txts (q :: ks) r (0 + 1))).length + 1 = p + (Q.quo q.toList ++ [58] ++ x.txt).length + (T.txts (q :: ks) r (0 + 1)).length + 1 := by
   simp only [List.length_append]; omega
  rw [e2, headO]
  exact Spells.app (a := ⟨2, q, 0⟩ :: sayM 58 :: said x) h2 h3
structure Inked (t : T) : Prop where
 num : t.kind = 2 → In64 t.num
 str : t.kind = 3 → okText t.str
 keys : ∀ q ∈ t.keys, okText q
 nokeys : t.kind = 4 → t.keys = []
 lens : t.kind = 5 → t.keys.length = t.items.length
theorem txt_said (s : ByteArray) : ∀ t : T, T.All Inked t → Txts s t := by
 refine T.ind ?_
 intro t ih hs p h he
 have IH : ∀ y ∈ t.items, Txts s y := fun y hy => ih y hy (hs.mem hy)
 have hi := hs.here
 rw [T.txt_eq] at h he ⊢
 rw [said_eq]
 by_cases k1 : t.kind = 1
 ·
  rw [if_pos k1] at h he ⊢
  rw [if_pos k1]
  cases hb : t.tr
  ·
   rw [hb] at h
   exact ⟨_, next_false h, ⟨rfl, rfl, rfl⟩, rfl⟩
  ·
   rw [hb] at h
   exact ⟨_, next_true h, ⟨rfl, rfl, rfl⟩, rfl⟩
 rw [if_neg k1] at h he ⊢
 rw [if_neg k1]
 by_cases k2 : t.kind = 2
 ·
  rw [if_pos k2] at h he ⊢
  rw [if_pos k2]
  obtain ⟨f1, f2⟩ := De.itoa_form t.num
  have := next_num h f1 (by rw [f2]; exact hi.num k2) he
  rw [f2] at this
  exact ⟨_, this, ⟨rfl, rfl, rfl⟩, rfl⟩
 rw [if_neg k2] at h he ⊢
 rw [if_neg k2]
 by_cases k3 : t.kind = 3
 ·
  rw [if_pos k3] at h he ⊢
  rw [if_pos k3]
  rw [quo_data] at h ⊢
  exact ⟨_, next_quo (hi.str k3) h, ⟨rfl, rfl, rfl⟩, rfl⟩
 rw [if_neg k3] at h he ⊢
 rw [if_neg k3]
 by_cases k4 : t.kind = 4
 ·
  rw [if_pos k4] at h he ⊢
  rw [if_pos k4]
  rw [hi.nokeys k4] at h ⊢
  refine ⟨_, next_m h (by decide), ⟨rfl, rfl, rfl⟩, ?_⟩
  have e : p + (91 :: (T.txts [] t.items 0 ++ [93])).length = p + 1 + (T.txts [] t.items 0).length + 1 := by simp only [List.length_cons, List.length_append, List.length_nil]; omega
  rw [e]
  exact headA_txt s _ _ IH h.hd.2.2
 rw [if_neg k4] at h he ⊢
 rw [if_neg k4]
 by_cases k5 : t.kind = 5
 ·
  rw [if_pos k5] at h he ⊢
  rw [if_pos k5]
  refine ⟨_, next_m h (by decide), ⟨rfl, rfl, rfl⟩, ?_⟩
  have e : p + (123 :: (T.txts t.keys t.items 0 ++ [125])).length = p + 1 + (T.txts t.keys t.items 0).length + 1 := by simp only [List.length_cons, List.length_append, List.length_nil]; omega
  rw [e]
  exact headO_txt s _ hi.keys _ _ IH (hi.lens k5) h.hd.2.2
 rw [if_neg k5] at h he ⊢
 rw [if_neg k5]
 exact ⟨_, next_null h, ⟨rfl, rfl, rfl⟩, rfl⟩
theorem good_inked {t : T} (h : t.Good) (hf : T.All (fun t => In64 t.num) t) : T.All Inked t := by
 unfold T.Good at h
 induction h with
 | mk t h hm ih =>
  exact .mk t ⟨fun _ => hf.here, fun _ => h.txt, h.ktxt, fun k => h.keys (by omega), h.lens⟩ fun x hx => ih x hx (hf.mem hx)
theorem good_shape {t : T} (h : t.Good) : T.All Shape t := h.imp fun _ g k => ⟨g.lens k, g.kris.nodup⟩
theorem norm_good {O : List (ByteArray × T) → T} (hO : ∀ (l : List T) (ks : List ByteArray), ks.length = l.length → Rising ks → O (ks.zip l) = .mk 5 false 0 nix l ks) : ∀ t : T, t.Good → norm O t = t := by
 refine T.ind ?_
 intro t ih hg
 have g := hg.here
 have hn : norms O t.items = t.items := by
  have key : ∀ l : List T, (∀ x ∈ l, norm O x = x) → norms O l = l := by
   intro l
   induction l with
   | nil => intro _; rfl
   | cons x r ihl => intro hh; rw [norms, hh x List.mem_cons_self, ihl fun y hy => hh y (List.mem_cons_of_mem _ hy)]
  exact key _ fun x hx => ih x hx (hg.mem hx)
 have h0 := g.k0
 have h5 := g.k5
 rw [norm_eq, hn]
 by_cases k1 : t.kind = 1
 · rw [if_pos k1]; exact T.ext k1.symm rfl (g.num (by omega)).symm (g.str (by omega)).symm (g.items (by omega) (by omega)).symm (g.keys (by omega)).symm
 rw [if_neg k1]
 by_cases k2 : t.kind = 2
 · rw [if_pos k2]; exact T.ext k2.symm (g.tr (by omega)).symm rfl (g.str (by omega)).symm (g.items (by omega) (by omega)).symm (g.keys (by omega)).symm
 rw [if_neg k2]
 by_cases k3 : t.kind = 3
 · rw [if_pos k3]; exact T.ext k3.symm (g.tr (by omega)).symm (g.num (by omega)).symm rfl (g.items (by omega) (by omega)).symm (g.keys (by omega)).symm
 rw [if_neg k3]
 by_cases k4 : t.kind = 4
 · rw [if_pos k4]; exact T.ext k4.symm (g.tr (by omega)).symm (g.num (by omega)).symm (g.str (by omega)).symm rfl (g.keys (by omega)).symm
 rw [if_neg k4]
 by_cases k5 : t.kind = 5
 · rw [if_pos k5, hO _ _ (g.lens k5) g.kris]; exact T.ext k5.symm (g.tr (by omega)).symm (g.num (by omega)).symm (g.str (by omega)).symm rfl rfl
 rw [if_neg k5]
 exact T.ext (show (0 : Int) = t.kind by omega) (g.tr (by omega)).symm (g.num (by omega)).symm (g.str (by omega)).symm (g.items (by omega) (by omega)).symm (g.keys (by omega)).symm
end Go.Proofs.YtaeimlfehlbiiaaGreatDoor.Rd
namespace Go.Proofs.YtaeimlfehlbiiaaGreatDoor.Rd
open Tk Pl
set_option linter.unusedVariables false
def Leads (a : List Say) (L : List UInt8) : Prop := ∀ (s : ByteArray) (p : Nat), Here s p L → isNo (bt s (p + L.length)) → ∃ m, Spells s p a m ∧ next s m = next s (p + L.length)
theorem spells_from {s : ByteArray} {p q m : Nat} {a : List Say} (h : next s q = next s p) (k : Spells s p a m) : ∃ m', Spells s q a m' ∧ next s m' = next s m := by
 cases a with
 | nil =>
  obtain rfl : p = m := k
  exact ⟨q, rfl, h⟩
 | cons x a =>
  obtain ⟨u, h1, h2⟩ := k
  exact ⟨m, ⟨u, by rw [h]; exact h1, h2⟩, rfl⟩
def Bls (B : List UInt8) : Prop := ∀ b ∈ B, isBl b.toNat = true
def NoHd (B : List UInt8) : Prop := ∀ c, B.head? = some c → isNo c.toNat
theorem isNo_bl {c : Nat} (h : isBl c = true) : isNo c := by
 rw [isBl_iff] at h
 unfold isNo
 rcases h with rfl | rfl | rfl | rfl <;> decide
theorem noHd_bl {B : List UInt8} (h : Bls B) : NoHd B := fun c hc => by
 cases B with
 | nil => cases hc
 | cons b B => injection hc with hc; subst hc; exact isNo_bl (h b List.mem_cons_self)
theorem noHd_cons {c : UInt8} {B : List UInt8} (h : isNo c.toNat) : NoHd (c :: B) := fun d hd => by injection hd with hd; subst hd; exact h
theorem noHd_app {A B : List UInt8} (h : NoHd A) (k : NoHd B) : NoHd (A ++ B) := fun c hc => by
 cases A with
 | nil => exact k c hc
 | cons a A => exact h c hc
theorem leads_bl {B : List UInt8} (h : Bls B) : Leads [] B := fun s p hh _ => ⟨p, rfl, next_bl hh h⟩
theorem Leads.app {a b : List Say} {A B : List UInt8} (h : Leads a A) (k : Leads b B) (hB : NoHd B) : Leads (a ++ b) (A ++ B) := fun s p hh hn => by
 have hr := hh.right
 have e1 : p + (A ++ B).length = p + A.length + B.length := by rw [List.length_append, Nat.add_assoc]
 rw [e1] at hn ⊢
 obtain ⟨m2, k1, k2⟩ := k s _ hr hn
 obtain ⟨m1, h1, h2⟩ := h s p hh.left (by
  cases B with
  | nil => exact hn
  | cons c B => rw [hr.hd.1]; exact hB c rfl)
 obtain ⟨m', g1, g2⟩ := spells_from h2 k1
 exact ⟨m', h1.app g1, g2.trans k2⟩
def StrL (q : ByteArray) (L : List UInt8) : Prop := ∀ (s : ByteArray) (p : Nat), Here s p L → next s p = .tok ⟨2, q, 0, p, p + L.length⟩
theorem leads_num {n : Int} (hn : In64 n) : Leads [⟨3, nix, n⟩] (Lib.itoa n) := fun s p hh hb => by
 obtain ⟨f1, f2⟩ := De.itoa_form n
 have := next_num hh f1 (by rw [f2]; exact hn) hb
 rw [f2] at this
 exact ⟨_, ⟨_, this, ⟨rfl, rfl, rfl⟩, rfl⟩, rfl⟩
theorem leads_true : Leads [⟨4, nix, 0⟩] [116, 114, 117, 101] := fun s p hh _ => ⟨_, ⟨_, next_true hh, ⟨rfl, rfl, rfl⟩, rfl⟩, rfl⟩
theorem leads_false : Leads [⟨5, nix, 0⟩] [102, 97, 108, 115, 101] := fun s p hh _ => ⟨_, ⟨_, next_false hh, ⟨rfl, rfl, rfl⟩, rfl⟩, rfl⟩
theorem leads_null : Leads [⟨6, nix, 0⟩] [110, 117, 108, 108] := fun s p hh _ => ⟨_, ⟨_, next_null hh, ⟨rfl, rfl, rfl⟩, rfl⟩, rfl⟩
theorem Leads.gaps {a : List Say} {L B C : List UInt8} (h : Leads a L) (hB : Bls B) (hC : Bls C) : Leads a (B ++ L ++ C) := fun s p hh hn => by
 have h1 : Leads (a ++ []) (L ++ C) := h.app (leads_bl hC) (noHd_bl hC)
 rw [List.append_nil] at h1
 rw [List.append_assoc] at hh hn ⊢
 have e1 : p + (B ++ (L ++ C)).length = p + B.length + (L ++ C).length := by rw [List.length_append, Nat.add_assoc]
 rw [e1] at hn ⊢
 obtain ⟨m, k1, k2⟩ := h1 s _ hh.right hn
 obtain ⟨m', g1, g2⟩ := spells_from (next_bl hh.left hB) k1
 exact ⟨m', g1, g2.trans k2⟩
def ChL (l : List Int) (L : List UInt8) : Prop := ∀ (s : ByteArray) (p : Nat), Here s p L → Chars s p l (p + L.length)
theorem chL_nil : ChL [] [] := fun s p _ => rfl
theorem ChL.app {a b : List Int} {A B : List UInt8} (h : ChL a A) (k : ChL b B) : ChL (a ++ b) (A ++ B) := fun s p hh => by
 rw [List.length_append, ← Nat.add_assoc]
 exact (h s p hh.left).app (k s _ hh.right)
theorem strL_of {l : List Int} {L : List UInt8} {q : ByteArray} (h : ChL l L) (hq : q.data.toList = flat l) : StrL q (34 :: (L ++ [34])) := fun s p hh => by
 obtain ⟨b1, _, h3⟩ := hh.hd
 have := next_str b1 (h s _ h3.left) h3.right.hd.1
 rw [this]
 have e1 : textOf l = q := by unfold textOf; rw [← hq]
 have e2 : p + 1 + L.length + 1 = p + (34 :: (L ++ [34])).length := by simp only [List.length_cons, List.length_append, List.length_nil]; omega
 rw [e1, e2]
theorem chL_raw {x : Int} (hx : pt x = true) (h32 : 32 ≤ x) (h34 : x ≠ 34) (h92 : x ≠ 92) : ChL [x] (Lib.encodeRune x) := fun s p hh => char_raw hx h32 h34 h92 hh
theorem chL_short {x : Int} (b : UInt8) (hx : shortOf b.toNat = some x) : ChL [x] [92, b] := fun s p hh => char_short b hx hh
def restA : List T → List Say
 | [] => []
 | x :: r => sayM 44 :: (said x ++ restA r)
def joinA : List T → List Say
 | [] => []
 | x :: r => said x ++ restA r
def comS (n : Nat) : List Say := if n = 0 then [] else [sayM 44]
theorem tailA_eq : ∀ r : List T, tailA r = restA r ++ [sayM 93]
 | [] => by rw [tailA]; rfl
 | x :: r => by rw [tailA, tailA_eq r, restA, List.cons_append, List.append_assoc]
theorem headA_eq (l : List T) : headA l = joinA l ++ [sayM 93] := by
 cases l with
 | nil => rw [headA]; rfl
 | cons x r => rw [headA, tailA_eq, joinA, List.append_assoc]
theorem restA_snoc : ∀ (r : List T) (x : T), restA (r ++ [x]) = restA r ++ sayM 44 :: said x
 | [], x => by simp [restA]
 | y :: r, x => by rw [List.cons_append, restA, restA_snoc r x, restA, List.cons_append, List.append_assoc]
theorem joinA_snoc (l : List T) (x : T) : joinA (l ++ [x]) = joinA l ++ (comS l.length ++ said x) := by
 cases l with
 | nil => simp [joinA, restA, comS]
 | cons y r =>
  rw [List.cons_append, joinA, restA_snoc, joinA, List.append_assoc]
  rfl
def mem1 (m : ByteArray × T) : List Say := ⟨2, m.1, 0⟩ :: sayM 58 :: said m.2
def restO : List (ByteArray × T) → List Say
 | [] => []
 | x :: r => sayM 44 :: (mem1 x ++ restO r)
def joinO : List (ByteArray × T) → List Say
 | [] => []
 | x :: r => mem1 x ++ restO r
theorem tailO_eq : ∀ r : List (ByteArray × T), tailO (r.map Prod.fst) (r.map Prod.snd) = restO r ++ [sayM 125]
 | [] => by rw [List.map_nil, List.map_nil, tailO]; rfl
 | x :: r => by rw [List.map_cons, List.map_cons, tailO, tailO_eq r, restO]; simp [mem1]
theorem headO_eq (m : List (ByteArray × T)) : headO (m.map Prod.fst) (m.map Prod.snd) = joinO m ++ [sayM 125] := by
 cases m with
 | nil => rw [List.map_nil, List.map_nil, headO]; rfl
 | cons x r => rw [List.map_cons, List.map_cons, headO, tailO_eq, joinO]; simp [mem1]
theorem restO_snoc : ∀ (r : List (ByteArray × T)) (x : ByteArray × T), restO (r ++ [x]) = restO r ++ sayM 44 :: mem1 x
 | [], x => by simp [restO]
 | y :: r, x => by rw [List.cons_append, restO, restO_snoc r x, restO, List.cons_append, List.append_assoc]
theorem joinO_snoc (l : List (ByteArray × T)) (x : ByteArray × T) : joinO (l ++ [x]) = joinO l ++ (comS l.length ++ mem1 x) := by
 cases l with
 | nil => simp [joinO, restO, comS]
 | cons y r =>
  rw [List.cons_append, joinO, restO_snoc, joinO, List.append_assoc]
  rfl
def rot {α : Type} (l : List α) (n : Nat) : List α := l.drop (n % l.length) ++ l.take (n % l.length)
theorem rot_perm {α : Type} (l : List α) (n : Nat) : (rot l n).Perm l := by
 unfold rot
 refine (List.perm_append_comm).trans ?_
 rw [List.take_append_drop]
theorem rot_len {α : Type} (l : List α) (n : Nat) : (rot l n).length = l.length := (rot_perm l n).length_eq
theorem rot_at {α : Type} (l : List α) (n i : Nat) (h : i < l.length) : (rot l n)[i]? = l[(i + n) % l.length]? := by
 have hp : 0 < l.length := by omega
 have hm := Nat.mod_lt n hp
 have e : (i + n) % l.length = (i + n % l.length) % l.length := by rw [Nat.add_mod, Nat.mod_eq_of_lt h, Nat.add_mod i, Nat.mod_eq_of_lt h, Nat.mod_mod]
 unfold rot
 rw [e]
 generalize n % l.length = k at *
 rcases Nat.lt_or_ge (i + k) l.length with h1 | h1
 · rw [Nat.mod_eq_of_lt h1, List.getElem?_append_left (by rw [List.length_drop]; omega), List.getElem?_drop, Nat.add_comm k]
 ·
  have e2 : (i + k) % l.length = i + k - l.length := by rw [Nat.mod_eq_sub_mod h1, Nat.mod_eq_of_lt (by omega)]
  rw [e2, List.getElem?_append_right (by rw [List.length_drop]; omega), List.length_drop, List.getElem?_take_of_lt (by omega)]
  congr 1; omega
def Written (v : T) (L : List UInt8) : Prop := ∃ u, T.All Shape u ∧ norm Ob u = v ∧ u.depth = v.depth ∧ Leads (said u) L
theorem whole_written {v : T} {L : List UInt8} (h : Written v L) {s : ByteArray} (hs : s.data.toList = L) (room : Nat) : (v.depth ≤ room → whole Ob s room = .val v 0) ∧ (room < v.depth → ∃ p, whole Ob s room = .err p 6 ∧ p < s.size ∧ (bt s p = 91 ∨ bt s p = 123)) := by
 obtain ⟨u, h1, h2, h3, h4⟩ := h
 have hl : L.length = s.size := by rw [← hs]; rfl
 obtain ⟨m, k1, k2⟩ := h4 s 0 (by rw [← hs]; exact here_all s) (by rw [Nat.zero_add, hl, bt_end (Nat.le_refl _)]; unfold isNo; decide)
 rw [Nat.zero_add, hl, next_end] at k2
 have := k1.app (b := [⟨0, nix, 0⟩]) ⟨_, k2, ⟨rfl, rfl, rfl⟩, rfl⟩
 have := whole_said Ob s room u h1 this
 rw [h2, h3] at this
 exact this
end Go.Proofs.YtaeimlfehlbiiaaGreatDoor.Rd
namespace Go.Proofs.YtaeimlfehlbiiaaGreatDoor.Rd
open Tk Pl
set_option linter.unusedVariables false
def LeadsS (a : List Say) (L : List UInt8) : Prop := ∀ (s : ByteArray) (p : Nat), Here s p L → ∃ m, Spells s p a m ∧ next s m = next s (p + L.length)
theorem LeadsS.weak {a : List Say} {L : List UInt8} (h : LeadsS a L) : Leads a L := fun s p hh _ => h s p hh
theorem LeadsS.app {a b : List Say} {A B : List UInt8} (h : LeadsS a A) (k : Leads b B) : Leads (a ++ b) (A ++ B) := fun s p hh hn => by
 have e1 : p + (A ++ B).length = p + A.length + B.length := by rw [List.length_append, Nat.add_assoc]
 rw [e1] at hn ⊢
 obtain ⟨m2, k1, k2⟩ := k s _ hh.right hn
 obtain ⟨m1, h1, h2⟩ := h s p hh.left
 obtain ⟨m', g1, g2⟩ := spells_from h2 k1
 exact ⟨m', h1.app g1, g2.trans k2⟩
theorem LeadsS.apps {a b : List Say} {A B : List UInt8} (h : LeadsS a A) (k : LeadsS b B) : LeadsS (a ++ b) (A ++ B) := fun s p hh => by
 have e1 : p + (A ++ B).length = p + A.length + B.length := by rw [List.length_append, Nat.add_assoc]
 rw [e1]
 obtain ⟨m2, k1, k2⟩ := k s _ hh.right
 obtain ⟨m1, h1, h2⟩ := h s p hh.left
 obtain ⟨m', g1, g2⟩ := spells_from h2 k1
 exact ⟨m', h1.app g1, g2.trans k2⟩
theorem leadsS_mark (c : UInt8) (hm : isMark c.toNat = true) : LeadsS [sayM c.toNat] [c] := fun s p hh => ⟨_, ⟨_, next_m hh hm, ⟨rfl, rfl, rfl⟩, rfl⟩, rfl⟩
theorem leadsS_str {q : ByteArray} {L : List UInt8} (h : StrL q L) : LeadsS [⟨2, q, 0⟩] L := fun s p hh => ⟨_, ⟨_, h s p hh, ⟨rfl, rfl, rfl⟩, rfl⟩, rfl⟩
theorem leadsS_bl {B : List UInt8} (h : Bls B) : LeadsS [] B := fun s p hh => ⟨p, rfl, next_bl hh h⟩
theorem noHd_mark {c : UInt8} (hm : isMark c.toNat = true) {B : List UInt8} : NoHd (c :: B) := noHd_cons (by
 simp only [isMark, Bool.or_eq_true, beq_iff_eq] at hm
 unfold isNo
 rcases hm with ((((h | h) | h) | h) | h) | h <;> rw [h] <;> decide)
theorem norms_snoc (O : List (ByteArray × T) → T) : ∀ (l : List T) (x : T), norms O (l ++ [x]) = norms O l ++ [norm O x]
 | [], x => rfl
 | y :: l, x => by rw [List.cons_append, norms, norms_snoc O l x, norms]; rfl
theorem written_leaf {v : T} {L B C : List UInt8} (hk : v.kind ≠ 4 ∧ v.kind ≠ 5) (hn : norm Ob v = v) (hi : v.items = []) (h : Leads (said v) L) (hB : Bls B) (hC : Bls C) : Written v (B ++ L ++ C) :=
 ⟨v, .mk v (fun h => absurd h hk.2) (fun x hx => by rw [hi] at hx; cases hx), hn, rfl, h.gaps hB hC⟩
def WrA (vs : List T) (acc : List UInt8) : Prop := (vs = [] → acc = []) ∧ ∃ us : List T, us.length = vs.length ∧ (∀ u ∈ us, T.All Shape u) ∧ norms Ob us = vs ∧ T.depths us = T.depths vs ∧ Leads (joinA us) acc
theorem wrA_nil : WrA [] [] := ⟨fun _ => rfl, [], rfl, (fun _ h => by cases h), rfl, rfl, fun s p _ _ => ⟨p, rfl, rfl⟩⟩
theorem wrA_snoc {vs : List T} {acc L : List UInt8} {v : T} (h : WrA vs acc) (k : Written v L) : WrA (vs ++ [v]) (acc ++ ((if vs.length = 0 then [] else [44]) ++ L)) := by
 obtain ⟨h0, us, h1, h2, h3, h4, h5⟩ := h
 obtain ⟨u, k1, k2, k3, k4⟩ := k
 refine ⟨fun hx => absurd hx (by simp), us ++ [u], by simp [h1], ?_, by rw [norms_snoc, h3, k2], by rw [T.depths_append, T.depths_append, h4]; simp [T.depths, k3], ?_⟩
 ·
  intro x hx
  rcases List.mem_append.1 hx with hx | hx
  · exact h2 x hx
  · obtain rfl := List.mem_singleton.1 hx; exact k1
 ·
  rw [joinA_snoc, h1]
  by_cases hv : vs.length = 0
  ·
   have hv' : vs = [] := List.eq_nil_of_length_eq_zero hv
   subst hv'
   obtain rfl : us = [] := List.eq_nil_of_length_eq_zero h1
   rw [h0 rfl]
   exact k4
  ·
   rw [if_neg hv]
   unfold comS
   rw [if_neg hv]
   exact h5.app ((leadsS_mark 44 (by decide)).app k4) (noHd_mark (by decide))
theorem wrA_end {vs : List T} {acc B G C : List UInt8} (h : WrA vs acc) (hB : Bls B) (hG : Bls G) (hC : Bls C) : Written (arrT vs) (B ++ ([91] ++ acc ++ G ++ [93]) ++ C) := by
 obtain ⟨h0, us, h1, h2, h3, h4, h5⟩ := h
 refine ⟨arrT us, .mk _ (fun h => absurd (show (4 : Int) = 5 from h) (by decide)) h2, ?_, ?_, Leads.gaps ?_ hB hC⟩
 ·
  rw [norm_eq]
  show arrT (norms Ob us) = arrT vs
  rw [h3]
 ·
  rw [T.depth_eq, T.depth_eq]
  show (if _ then 1 + T.depths us else 0) = (if _ then 1 + T.depths vs else 0)
  rw [h4]; rfl
 ·
  have e : said (arrT us) = [sayM 91] ++ (joinA us ++ ([] ++ [sayM 93])) := by
   rw [said_eq]
   show sayM 91 :: headA us = _
   rw [headA_eq]; rfl
  rw [e, List.append_assoc, List.append_assoc]
  exact (leadsS_mark 91 (by decide)).app (h5.app ((leadsS_bl hG).app (leadsS_mark 93 (by decide)).weak) (noHd_app (noHd_bl hG) (noHd_mark (by decide))))
def WrO (m : List (ByteArray × T)) (acc : List UInt8) : Prop := (m = [] → acc = []) ∧ ∃ us : List (ByteArray × T), us.map Prod.fst = m.map Prod.fst ∧ (∀ u ∈ us, T.All Shape u.2) ∧ norms Ob (us.map Prod.snd) = m.map Prod.snd ∧ T.depths (us.map Prod.snd) = T.depths (m.map Prod.snd) ∧ Leads (joinO us) acc
theorem wrO_nil : WrO [] [] := ⟨fun _ => rfl, [], rfl, (fun _ h => by cases h), rfl, rfl, fun s p _ _ => ⟨p, rfl, rfl⟩⟩
theorem wrO_snoc {m : List (ByteArray × T)} {acc L K B G : List UInt8} {q : ByteArray} {v : T} (h : WrO m acc) (hB : Bls B) (hG : Bls G) (hK : StrL q K) (k : Written v L) : WrO (m ++ [(q, v)]) (acc ++ ((if m.length = 0 then [] else G ++ [44]) ++ (B ++ K ++ G ++ [58] ++ L))) := by
 obtain ⟨h0, us, h1, h2, h3, h4, h5⟩ := h
 obtain ⟨u, k1, k2, k3, k4⟩ := k
 have hlen : us.length = m.length := by have := congrArg List.length h1; simpa using this
 refine ⟨fun hx => absurd hx (by simp), us ++ [(q, u)], by simp [h1], ?_, ?_, ?_, ?_⟩
 ·
  intro x hx
  rcases List.mem_append.1 hx with hx | hx
  · exact h2 x hx
  · obtain rfl := List.mem_singleton.1 hx; exact k1
 ·
  rw [List.map_append, List.map_append]
  show norms Ob (us.map Prod.snd ++ [u]) = m.map Prod.snd ++ [v]
  rw [norms_snoc, h3, k2]
 ·
  rw [List.map_append, List.map_append]
  show T.depths (us.map Prod.snd ++ [u]) = T.depths (m.map Prod.snd ++ [v])
  rw [T.depths_append, T.depths_append, h4]; simp [T.depths, k3]
 ·
  have hm : Leads (mem1 (q, u)) (B ++ K ++ G ++ [58] ++ L) := by
   have e : mem1 (q, u) = [] ++ [⟨2, q, 0⟩] ++ [] ++ [sayM 58] ++ said u := rfl
   rw [e]
   exact ((((leadsS_bl hB).apps (leadsS_str hK)).apps (leadsS_bl hG)).apps (leadsS_mark 58 (by decide))).app k4
  rw [joinO_snoc, hlen]
  by_cases hv : m.length = 0
  ·
   have hv' : m = [] := List.eq_nil_of_length_eq_zero hv
   subst hv'
   obtain rfl : us = [] := List.eq_nil_of_length_eq_zero hlen
   rw [h0 rfl]
   exact hm
  ·
   rw [if_neg hv]
   unfold comS
   rw [if_neg hv]
   have hc : LeadsS [sayM 44] (G ++ [44]) := (leadsS_bl hG).apps (leadsS_mark 44 (by decide))
   refine h5.app (hc.app hm) ?_
   rw [List.append_assoc]
   exact noHd_app (noHd_bl hG) (noHd_mark (by decide))
theorem zip_back {α β : Type} : ∀ m : List (α × β), (m.map Prod.fst).zip (m.map Prod.snd) = m
 | [] => rfl
 | x :: m => by rw [List.map_cons, List.map_cons, List.zip_cons_cons, zip_back m]
theorem wrO_end {m : List (ByteArray × T)} {vs : List T} {ks : List ByteArray} {acc B G C : List UInt8} (h : WrO m acc) (hp : m.Perm (ks.zip vs)) (hl : ks.length = vs.length) (hr : Rising ks) (hB : Bls B) (hG : Bls G) (hC : Bls C) : Written (.mk 5 false 0 nix vs ks) (B ++ ([123] ++ acc ++ G ++ [125]) ++ C) := by
 obtain ⟨h0, us, h1, h2, h3, h4, h5⟩ := h
 have e1 : (ks.zip vs).map Prod.fst = ks := List.map_fst_zip (by omega)
 have e2 : (ks.zip vs).map Prod.snd = vs := List.map_snd_zip (by omega)
 have hn : (m.map Prod.fst).Nodup := (hp.map Prod.fst).nodup_iff.2 (by rw [e1]; exact hr.nodup)
 refine ⟨.mk 5 false 0 nix (us.map Prod.snd) (us.map Prod.fst), .mk _ (fun _ => ⟨by show (us.map Prod.fst).length = (us.map Prod.snd).length; simp, by show (us.map Prod.fst).Nodup; rw [h1]; exact hn⟩) ?_, ?_, ?_, Leads.gaps ?_ hB hC⟩
 ·
  intro x hx
  obtain ⟨y, hy, rfl⟩ := List.mem_map.1 (show x ∈ us.map Prod.snd from hx)
  exact h2 y hy
 ·
  rw [norm_eq]
  show Ob ((us.map Prod.fst).zip (norms Ob (us.map Prod.snd))) = _
  rw [h1, h3, zip_back, Ob_perm hn hp, Ob_good vs ks hl hr]
 ·
  rw [T.depth_eq, T.depth_eq]
  show (if _ then 1 + T.depths (us.map Prod.snd) else 0) = (if _ then 1 + T.depths vs else 0)
  have := depths_perm (hp.map Prod.snd)
  rw [e2] at this
  rw [h4, this]; rfl
 ·
  have e : said (.mk 5 false 0 nix (us.map Prod.snd) (us.map Prod.fst)) = [sayM 123] ++ (joinO us ++ ([] ++ [sayM 125])) := by
   rw [said_eq]
   show sayM 123 :: headO (us.map Prod.fst) (us.map Prod.snd) = _
   rw [headO_eq]; rfl
  rw [e, List.append_assoc, List.append_assoc]
  exact (leadsS_mark 123 (by decide)).app (h5.app ((leadsS_bl hG).app (leadsS_mark 125 (by decide)).weak) (noHd_app (noHd_bl hG) (noHd_mark (by decide))))
theorem written_txt {t : T} (hg : t.Good) (hf : T.All (fun t => In64 t.num) t) : Written t t.txt :=
 ⟨t, good_shape hg, norm_good Ob_good t hg, rfl, fun s p hh hn => ⟨_, txt_said s t (good_inked hg hf) p hh hn, rfl⟩⟩
end Go.Proofs.YtaeimlfehlbiiaaGreatDoor.Rd
namespace Go.Proofs.YtaeimlfehlbiiaaGreatDoor.Rd
open Tk Pl
set_option linter.unusedVariables false
theorem txt_inj {t u : T} (ht : t.Good) (hu : u.Good) (ft : T.All (fun t => In64 t.num) t) (fu : T.All (fun t => In64 t.num) u) : t.txt = u.txt ↔ t = u := by
 refine ⟨fun h => ?_, fun h => by rw [h]⟩
 have h1 := (whole_written (written_txt ht ft) (s := ⟨t.txt.toArray⟩) rfl (max t.depth u.depth)).1 (Nat.le_max_left _ _)
 have h2 := (whole_written (written_txt hu fu) (s := ⟨t.txt.toArray⟩) h (max t.depth u.depth)).1 (Nat.le_max_right _ _)
 rw [h1] at h2
 injection h2
theorem esc_le (x : Int) {s : ByteArray} {p e : Nat} (h : chAt s p = .pt x e) (h34 : bt s p ≠ 34) : ((Lib.encodeRune x).flatMap Q.esc).length + p ≤ e := by
 obtain ⟨hp, h1, h2⟩ := chAt_pt h
 have hx0 : 0 ≤ x := by rw [pt_iff] at hp; omega
 have hlen := enc_len x
 have hbig : ¬ x < 128 → ((Lib.encodeRune x).flatMap Q.esc).length = (Lib.encodeRune x).length := fun h => by rw [hi_flat (enc_high x (by omega))]
 have hsml : x < 128 → ((Lib.encodeRune x).flatMap Q.esc).length = (Q.esc (UInt8.ofNat x.toNat)).length := fun h => by
  have e : Lib.encodeRune x = [UInt8.ofNat x.toNat] := by
   unfold Lib.encodeRune
   rw [Lib.encodeRuneZ_one (by omega) (by omega)]
   simp
  rw [e]; simp
 have hesc := Q.esc_len (UInt8.ofNat x.toNat)
 have h6 : ((Lib.encodeRune x).flatMap Q.esc).length ≤ 6 := by
  by_cases h : x < 128
  · rw [hsml h]; exact hesc
  · rw [hbig h]; omega
 unfold chAt at h
 split at h
 · cases h
 rename_i h3
 split at h
 ·
  rename_i h92
  unfold escCh at h
  split at h
  ·
   rename_i m hm
   injection h with a1 a2
   subst a1 a2
   unfold shortOf at hm
   repeat' split at hm
   all_goals first
    | (injection hm with hm; subst hm; rw [hsml (by decide)]; exact Nat.le_of_eq (by rw [Nat.add_comm]; rfl))
    | (injection hm with hm; subst hm; rw [hsml (by decide)]; exact Nat.le_trans (Nat.add_le_add_right (show (Q.esc _).length ≤ 2 by decide) p) (by omega))
    | cases hm
  ·
   split at h
   ·
    unfold uniCh at h
    split at h
    · cases h
    split at h
    ·
     rename_i k1 k2
     injection h with a1 a2
     have := four_range s (p + 2)
     omega
    split at h
    ·
     injection h with a1 a2
     omega
    · cases h
   · cases h
 ·
  rename_i h92
  unfold rawCh at h
  split at h
  ·
   rename_i hok
   injection h with a1 a2
   obtain ⟨_, b2, b3⟩ := enc_of_ok _ hok
   rw [a1] at b2 b3
   by_cases hx : x < 128
   ·
    have e : Lib.encodeRune x = [UInt8.ofNat x.toNat] := by
     unfold Lib.encodeRune
     rw [Lib.encodeRuneZ_one (by omega) (by omega)]
     simp
    have hh : Here s p [UInt8.ofNat x.toNat] := ⟨_, by rw [← e]; exact b2⟩
    have hb := hh.hd.1
    rw [hsml hx]
    have : (Q.esc (UInt8.ofNat x.toNat)).length = 1 := by
     generalize UInt8.ofNat x.toNat = c at *
     unfold Q.esc
     have n1 : c ≠ 34 := fun hc => by rw [hc] at hb; exact h34 hb
     have n2 : c ≠ 92 := fun hc => by rw [hc] at hb; exact h92 hb
     have n3 : ¬ c < 32 := fun hc => by have : c.toNat < 32 := hc; omega
     have n4 : ∀ k : UInt8, k < 32 → c ≠ k := fun k hk hc => n3 (hc ▸ hk)
     rw [if_neg n1, if_neg n2, if_neg (n4 8 (by decide)), if_neg (n4 12 (by decide)), if_neg (n4 10 (by decide)), if_neg (n4 13 (by decide)), if_neg (n4 9 (by decide)), if_neg n3]
     rfl
    omega
   · rw [hbig hx]; omega
  · cases h
theorem strF_len {s : ByteArray} : ∀ (n p : Nat) (acc l : List Int) (e : Nat), strF s n p acc = .pts l e → ((flat l).flatMap Q.esc).length + p + 1 ≤ ((flat acc).flatMap Q.esc).length + e := by
 intro n
 induction n with
 | zero => intro p acc l e h; unfold strF at h; cases h
 | succ n ih =>
  intro p acc l e h
  unfold strF at h
  split at h
  ·
   injection h with h1 h2
   subst h1 h2
   omega
  ·
   rename_i h34
   split at h
   ·
    rename_i m q hc
    have h1 := ih _ _ _ _ h
    have h2 := esc_le m hc h34
    rw [flat_append, List.flatMap_append, List.length_append, show flat [m] = Lib.encodeRune m by rw [flat_cons, flat_nil, List.append_nil]] at h1
    omega
   · cases h
theorem tok_quo {s : ByteArray} {i : Nat} {t : Tok} (h : next s i = .tok t) (hk : t.kind = 2) : (Q.quo t.text.data.toList).length + t.at_ ≤ t.fin := by
 have h' : ansAt s (span isBl s i) = .tok t := h
 generalize span isBl s i = a at h'
 unfold ansAt at h'
 split at h'
 · injection h' with h'; subst h'; exact absurd hk (show ¬ (0 : Int) = 2 by decide)
 split at h'
 · injection h' with h'; subst h'; exact absurd hk (show ¬ (1 : Int) = 2 by decide)
 split at h'
 ·
  unfold strAns at h'
  split at h'
  ·
   rename_i l e hs
   injection h' with h'; subst h'
   have := strF_len _ _ _ _ _ hs
   show (Q.quo (flat l)).length + a ≤ e
   unfold Q.quo
   simp only [flat_nil, List.flatMap_nil, List.length_nil] at this
   simp only [List.length_cons, List.length_append, List.length_nil]
   omega
  · cases h'
 split at h'
 ·
  unfold numAns at h'
  repeat' split at h'
  all_goals first
   | (injection h' with h'; subst h'; exact absurd hk (show ¬ (3 : Int) = 2 by decide))
   | cases h'
 split at h'
 ·
  unfold wordAns at h'
  split at h'
  ·
   injection h' with h'; subst h'
   have hk2 : kindOf (bt s a) = 2 := hk
   unfold kindOf at hk2
   split at hk2
   · omega
   split at hk2 <;> omega
  · cases h'
 · cases h'
end Go.Proofs.YtaeimlfehlbiiaaGreatDoor.Rd
