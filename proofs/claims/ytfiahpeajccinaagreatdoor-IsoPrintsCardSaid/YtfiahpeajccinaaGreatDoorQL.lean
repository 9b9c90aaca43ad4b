/- Texts in quotation marks that stand at a place: plain mathematics (out of SpellB). Isos' texts are read as them: plain mathematics. Isos' texts are read as them: plain mathematics, one and many. A row of isos by numbers, opened. -/
import Derived.Test.YtfiahpeajccinaaGreatDoorPA
import Derived.Test.YtfiahpeajccinaaGreatDoorQI
import Derived.Test.YtfiahpeajccinaaGreatDoorPF
import Derived.Test.YtfiahpeajccinaaGreatDoorPC
import Derived.Test.YtfiahpeajccinaaGreatDoorPJ
import Derived.Deep.Slices
import Derived.Deep.Fields
import Derived.ChangeSame
import Derived.SliceStrings
import Derived.ChangeSlices
import Derived.Lib.SmallJoins
import Derived.ChangeMaps5
namespace Go.Proofs.YtfiahpeajccinaaGreatDoor.Tk
open Pl
set_option linter.unusedVariables false

theorem esc_high : ∀ n : Fin 256, 128 ≤ n.val → Q.esc (UInt8.ofNat n.val) = [UInt8.ofNat n.val] := by decide +kernel
theorem esc_hi {b : UInt8} (h : 128 ≤ b.toNat) : Q.esc b = [b] := by
  have := esc_high ⟨b.toNat, b.toNat_lt⟩ h
  simpa using this
theorem byte_of {x : Int} (h0 : 0 ≤ x) (h1 : x < 256) : ((x.toNat.toUInt8).toNat : Int) = x := by
  have h : x.toNat < 256 := by omega
  have : (x.toNat.toUInt8).toNat = x.toNat := by simp; omega
  rw [this]; omega
theorem enc_high (r : Int) (hr : 128 ≤ r) (b : UInt8) (h : b ∈ Lib.encodeRune r) : 128 ≤ b.toNat := by
  unfold Lib.encodeRune at h
  obtain ⟨x, hx, rfl⟩ := List.mem_map.1 h
  have key : 128 ≤ x ∧ x < 256 → 128 ≤ (x.toNat.toUInt8).toNat := fun hh => by
    have := byte_of (x := x) (by omega) (by omega)
    omega
  apply key
  unfold Lib.encodeRuneZ at hx
  split at hx
  · omega
  split at hx
  · simp at hx; omega
  split at hx
  · simp at hx; omega
  split at hx
  · simp at hx; omega
  · simp at hx; omega
theorem hi_flat : ∀ {L : List UInt8}, (∀ b ∈ L, 128 ≤ b.toNat) → L.flatMap Q.esc = L
  | [], _ => rfl
  | b :: L, h => by rw [List.flatMap_cons, esc_hi (h b List.mem_cons_self), hi_flat fun c hc => h c (List.mem_cons_of_mem _ hc)]; rfl
/-- at a place stands a row of bytes -/
def Here (s : ByteArray) (p : Nat) (L : List UInt8) : Prop := ∃ R, s.data.toList.drop p = L ++ R
theorem here_all (s : ByteArray) : Here s 0 s.data.toList := ⟨[], by simp⟩
theorem Here.left {s : ByteArray} {p : Nat} {A B : List UInt8} (h : Here s p (A ++ B)) : Here s p A := by
  obtain ⟨R, h⟩ := h
  exact ⟨B ++ R, by rw [h, List.append_assoc]⟩
theorem Here.right {s : ByteArray} {p : Nat} {A B : List UInt8} (h : Here s p (A ++ B)) : Here s (p + A.length) B := by
  obtain ⟨R, h⟩ := h
  exact ⟨R, by rw [← List.drop_drop, h, List.append_assoc, List.drop_left]⟩
theorem Here.hd {s : ByteArray} {p : Nat} {c : UInt8} {L : List UInt8} (h : Here s p (c :: L)) : bt s p = c.toNat ∧ p < s.size ∧ Here s (p + 1) L := by
  have h2 : Here s (p + 1) L := Here.right (A := [c]) h
  obtain ⟨R, h⟩ := h
  have h3 := congrArg (fun l => l[0]?) h
  simp only [List.getElem?_drop, Nat.add_zero, List.cons_append, List.getElem?_cons_zero] at h3
  have h4 := (List.getElem?_eq_some_iff.1 h3).1
  refine ⟨?_, h4, h2⟩
  unfold bt
  rw [List.getD_eq_getElem?_getD, h3]; rfl
theorem Here.size {s : ByteArray} {p : Nat} {L : List UInt8} (h : Here s p L) (hp : p ≤ s.size) : p + L.length ≤ s.size := by
  obtain ⟨R, h⟩ := h
  have := congrArg List.length h
  rw [List.length_drop, List.length_append, size_toList] at this
  omega
theorem next_bl {s : ByteArray} : ∀ {B : List UInt8} {p : Nat}, Here s p B → (∀ b ∈ B, isBl b.toNat = true) → next s p = next s (p + B.length)
  | [], p, h, hb => rfl
  | c :: B, p, h, hb => by
    obtain ⟨h1, h2, h3⟩ := h.hd
    have e : next s p = next s (p + 1) := by unfold next; rw [span_yes h2 (by rw [h1]; exact hb c List.mem_cons_self)]
    rw [e, next_bl h3 fun b hm => hb b (List.mem_cons_of_mem _ hm), List.length_cons, Nat.add_assoc, Nat.add_comm 1]
theorem span_run {s : ByteArray} : ∀ {D : List UInt8} {f : Nat}, Here s f D → (∀ c ∈ D, De.isDig c = true) → isDg (bt s (f + D.length)) = false → span isDg s f = f + D.length
  | [], f, h, hd, he => span_no he
  | c :: D, f, h, hd, he => by
    obtain ⟨h1, h2, h3⟩ := h.hd
    have h4 : isDg (bt s f) = true := by rw [h1, isDg_iff]; exact (De.dig_iff c).1 (hd c List.mem_cons_self)
    have e : f + (c :: D).length = f + 1 + D.length := by rw [List.length_cons]; omega
    rw [e] at he ⊢
    rw [span_yes h2 h4, span_run h3 (fun c hm => hd c (List.mem_cons_of_mem _ hm)) he]
/-- the characters from a place on -/
def Chars (s : ByteArray) : Nat → List Int → Nat → Prop
  | p, [], e => p = e
  | p, m :: l, e => ∃ q, bt s p ≠ 34 ∧ chAt s p = .pt m q ∧ Chars s q l e
theorem str_chars {s : ByteArray} : ∀ {l : List Int} {p e : Nat} {acc : List Int}, Chars s p l e → p ≤ s.size → bt s e = 34 → str s p acc = .pts (acc ++ l) (e + 1)
  | [], p, e, acc, h, hp, he => by
    obtain rfl : p = e := h
    rw [str_end hp he, List.append_nil]
  | m :: l, p, e, acc, h, hp, he => by
    obtain ⟨q, h1, h2, h3⟩ := h
    rw [str_pt hp h1 h2, str_chars h3 (chAt_pt h2).2.2 he, List.append_assoc]; rfl
theorem next_chars {s : ByteArray} {p e : Nat} {l : List Int} (h : bt s p = 34) (hc : Chars s (p + 1) l e) (he : bt s e = 34) : next s p = .tok ⟨2, textOf l, 0, p, e + 1⟩ := by
  have hp : p < s.size := lt_of_bt (by omega)
  unfold next
  rw [span_no (by rw [h]; rfl)]
  unfold ansAt
  rw [if_neg (by omega), h, if_neg (by decide), if_pos rfl]
  unfold strAns
  rw [str_chars hc hp he]
  rfl
theorem Chars.app {s : ByteArray} : ∀ {a b : List Int} {p m e : Nat}, Chars s p a m → Chars s m b e → Chars s p (a ++ b) e
  | [], b, p, m, e, h, k => by obtain rfl : p = m := h; exact k
  | x :: a, b, p, m, e, h, k => by
    obtain ⟨q, h1, h2, h3⟩ := h
    exact ⟨q, h1, h2, h3.app k⟩
/-- a point that stands as itself -/
theorem char_raw {s : ByteArray} {p : Nat} {x : Int} (hx : pt x = true) (h32 : 32 ≤ x) (h34 : x ≠ 34) (h92 : x ≠ 92) (h : Here s p (Lib.encodeRune x)) : Chars s p [x] (p + (Lib.encodeRune x).length) := by
  have hb : 32 ≤ bt s p ∧ bt s p ≠ 34 ∧ bt s p ≠ 92 ∧ p < s.size := by
    have hl := (enc_len x).1
    by_cases h128 : x < 128
    · have e : Lib.encodeRune x = [x.toNat.toUInt8] := by
        unfold Lib.encodeRune
        rw [Lib.encodeRuneZ_one (by omega) (by omega)]
        simp
      rw [e] at h
      obtain ⟨b1, b2, _⟩ := h.hd
      rw [b8 x (by omega) (by omega)] at b1
      exact ⟨by omega, by omega, by omega, b2⟩
    · cases hL : Lib.encodeRune x with
      | nil => rw [hL] at hl; simp at hl
      | cons c L =>
        have h3 := enc_high x (by omega) c (by rw [hL]; exact List.mem_cons_self)
        rw [hL] at h
        obtain ⟨b1, b2, _⟩ := h.hd
        exact ⟨by omega, by omega, by omega, b2⟩
  obtain ⟨b1, b2, b3, b4⟩ := hb
  refine ⟨_, b2, ?_, rfl⟩
  unfold chAt
  rw [if_neg (by omega), if_neg b3]
  unfold rawCh
  obtain ⟨R, h⟩ := h
  obtain ⟨k1, k2⟩ := ok_of_enc x R hx
  rw [h, if_pos k2, k1]
  have : 0 ≤ x := by omega
  show Ch.pt ((x.toNat : Nat) : Int) _ = _
  rw [Int.toNat_of_nonneg this]
theorem char_short {s : ByteArray} {p : Nat} {x : Int} (b : UInt8) (hx : shortOf b.toNat = some x) (h : Here s p [92, b]) : Chars s p [x] (p + 2) := by
  obtain ⟨b1, b2, h⟩ := h.hd
  obtain ⟨b3, b4, _⟩ := h.hd
  have b1' : bt s p = 92 := b1
  refine ⟨_, by rw [b1']; decide, ?_, rfl⟩
  unfold chAt
  rw [if_neg (by omega), if_pos b1']
  unfold escCh
  rw [b3, hx]
theorem char_uni {s : ByteArray} {p : Nat} {x : Int} (a b c d : UInt8) (ha : 0 ≤ hexOf a.toNat) (hb : 0 ≤ hexOf b.toNat) (hc : 0 ≤ hexOf c.toNat) (hd : 0 ≤ hexOf d.toNat) (hx : (((0 * 16 + hexOf a.toNat) * 16 + hexOf b.toNat) * 16 + hexOf c.toNat) * 16 + hexOf d.toNat = x) (hp : pt x = true) (h : Here s p [92, 117, a, b, c, d]) : Chars s p [x] (p + 6) := by
  obtain ⟨b1, b2, h⟩ := h.hd
  obtain ⟨b3, _, h⟩ := h.hd
  obtain ⟨k1, _, h⟩ := h.hd
  obtain ⟨k2, _, h⟩ := h.hd
  obtain ⟨k3, _, h⟩ := h.hd
  obtain ⟨k4, _, h⟩ := h.hd
  have b1' : bt s p = 92 := b1
  have b3' : bt s (p + 1) = 117 := b3
  have h4 : four s (p + 2) = (x, p + 6) := by
    unfold four
    rw [fourF_yes (by rw [k1]; exact ha), fourF_yes (by rw [k2]; exact hb), fourF_yes (by rw [k3]; exact hc), fourF_yes (by rw [k4]; exact hd)]
    rw [k1, k2, k3, k4]
    unfold fourF
    rw [hx]
  have hx0 : ¬ x < 0 := by rw [pt_iff] at hp; omega
  refine ⟨_, by rw [b1']; decide, ?_, rfl⟩
  unfold chAt
  rw [if_neg (by omega), if_pos b1']
  unfold escCh
  rw [b3', show shortOf 117 = none from rfl]
  show (if 117 = 117 then uniCh s p else _) = _
  rw [if_pos rfl]
  unfold uniCh
  rw [h4, if_neg hx0, if_pos hp]
theorem hex_low : ∀ n : Fin 32, 0 ≤ hexOf (Q.hex (UInt8.ofNat n.val / 16)).toNat ∧ 0 ≤ hexOf (Q.hex (UInt8.ofNat n.val % 16)).toNat ∧ (((0 * 16 + hexOf 48) * 16 + hexOf 48) * 16 + hexOf (Q.hex (UInt8.ofNat n.val / 16)).toNat) * 16 + hexOf (Q.hex (UInt8.ofNat n.val % 16)).toNat = (n.val : Int) := by decide +kernel
theorem hex_of (c : UInt8) (h : c.toNat < 32) : 0 ≤ hexOf (Q.hex (c / 16)).toNat ∧ 0 ≤ hexOf (Q.hex (c % 16)).toNat ∧ (((0 * 16 + hexOf 48) * 16 + hexOf 48) * 16 + hexOf (Q.hex (c / 16)).toNat) * 16 + hexOf (Q.hex (c % 16)).toNat = (c.toNat : Int) := by
  have := hex_low ⟨c.toNat, h⟩
  simp only [UInt8.ofNat_toNat] at this
  exact this
theorem esc_low {x : Int} (h0 : 0 ≤ x) (h1 : x < 128) {s : ByteArray} {p : Nat} (h : Here s p (Q.esc (UInt8.ofNat x.toNat))) : Chars s p [x] (p + (Q.esc (UInt8.ofNat x.toNat)).length) := by
  have hpt : pt x = true := by rw [pt_iff]; omega
  have hn : (UInt8.ofNat x.toNat).toNat = x.toNat := by rw [UInt8.toNat_ofNat']; omega
  have hx : ((UInt8.ofNat x.toNat).toNat : Int) = x := by rw [hn]; omega
  have e : Lib.encodeRune x = [UInt8.ofNat x.toNat] := by
    unfold Lib.encodeRune
    rw [Lib.encodeRuneZ_one (by omega) (by omega)]
    simp
  obtain ⟨c, hc⟩ : ∃ c, UInt8.ofNat x.toNat = c := ⟨_, rfl⟩
  rw [hc] at h hn hx e ⊢
  have cas : ∀ (k : Nat) (b : UInt8), c = UInt8.ofNat k → k < 128 → shortOf b.toNat = some (k : Int) → Here s p [92, b] → Chars s p [x] (p + 2) := fun k b hk hk2 hs hh => by
    have : x = (k : Int) := by rw [← hx, hk, UInt8.toNat_ofNat']; omega
    rw [this]; exact char_short b hs hh
  unfold Q.esc at h ⊢
  split at h
  · rename_i k; rw [if_pos k]; exact cas 34 34 k (by decide) rfl h
  rename_i n1
  rw [if_neg n1]
  split at h
  · rename_i k; rw [if_pos k]; exact cas 92 92 k (by decide) rfl h
  rename_i n2
  rw [if_neg n2]
  split at h
  · rename_i k; rw [if_pos k]; exact cas 8 98 k (by decide) rfl h
  rename_i n3
  rw [if_neg n3]
  split at h
  · rename_i k; rw [if_pos k]; exact cas 12 102 k (by decide) rfl h
  rename_i n4
  rw [if_neg n4]
  split at h
  · rename_i k; rw [if_pos k]; exact cas 10 110 k (by decide) rfl h
  rename_i n5
  rw [if_neg n5]
  split at h
  · rename_i k; rw [if_pos k]; exact cas 13 114 k (by decide) rfl h
  rename_i n6
  rw [if_neg n6]
  split at h
  · rename_i k; rw [if_pos k]; exact cas 9 116 k (by decide) rfl h
  rename_i n7
  rw [if_neg n7]
  split at h
  · rename_i k
    rw [if_pos k]
    have k2 : c.toNat < 32 := k
    have hlow := hex_of c k2
    refine char_uni 48 48 _ _ (by decide) (by decide) hlow.1 hlow.2.1 ?_ hpt h
    have := hlow.2.2
    rw [show ((48 : UInt8)).toNat = 48 from rfl, this]; omega
  · rename_i k
    rw [if_neg k]
    have k2 : ¬ c.toNat < 32 := k
    have a1 : x ≠ 34 := fun hh => n1 (by rw [← hc, hh]; rfl)
    have a2 : x ≠ 92 := fun hh => n2 (by rw [← hc, hh]; rfl)
    have := char_raw hpt (by omega) a1 a2 (by rw [e]; exact h)
    rw [e] at this
    exact this
theorem chars_esc {s : ByteArray} : ∀ {l : List Int} {p : Nat}, (∀ x ∈ l, pt x = true) → Here s p ((flat l).flatMap Q.esc) → Chars s p l (p + ((flat l).flatMap Q.esc).length)
  | [], p, hl, h => rfl
  | x :: l, p, hl, h => by
    have hx := hl x List.mem_cons_self
    have hx0 : 0 ≤ x := by rw [pt_iff] at hx; omega
    rw [flat_cons, List.flatMap_append] at h ⊢
    have r := chars_esc (fun y hy => hl y (List.mem_cons_of_mem _ hy)) h.right
    rw [List.length_append, ← Nat.add_assoc]
    refine Chars.app (a := [x]) ?_ r
    have h' := h.left
    by_cases h128 : x < 128
    · have e : Lib.encodeRune x = [UInt8.ofNat x.toNat] := by
        unfold Lib.encodeRune
        rw [Lib.encodeRuneZ_one (by omega) (by omega)]
        simp
      have e2 : (Lib.encodeRune x).flatMap Q.esc = Q.esc (UInt8.ofNat x.toNat) := by rw [e]; simp
      rw [e2] at h' ⊢
      exact esc_low hx0 h128 h'
    · have e2 : (Lib.encodeRune x).flatMap Q.esc = Lib.encodeRune x := hi_flat (enc_high x (by omega))
      rw [e2] at h' ⊢
      exact char_raw hx (by omega) (by omega) (by omega) h'
/-- a text in quotation marks -/
theorem next_quo {s q : ByteArray} {p : Nat} (hq : ∃ l, Split q.data.toList l []) (h : Here s p (Q.quo q.data.toList)) : next s p = .tok ⟨2, q, 0, p, p + (Q.quo q.data.toList).length⟩ := by
  obtain ⟨l, h1, _, h2⟩ := hq
  rw [List.append_nil] at h1
  unfold Q.quo at h ⊢
  rw [h1] at h ⊢
  obtain ⟨b1, _, h3⟩ := h.hd
  have c := chars_esc h2 h3.left
  have b2 := h3.right.hd.1
  have := next_chars b1 c b2
  rw [this]
  have e1 : textOf l = q := by unfold textOf; rw [← h1]
  rw [e1]
  have e2 : p + 1 + ((flat l).flatMap Q.esc).length + 1 = p + (34 :: ((flat l).flatMap Q.esc ++ [34])).length := by
    simp only [List.length_cons, List.length_append, List.length_nil]; omega
  rw [e2]
end Go.Proofs.YtfiahpeajccinaaGreatDoor.Tk
namespace Go.Proofs.YtfiahpeajccinaaGreatDoor
open Go.RowKit
open Tk Ex Pl
set_option linter.unusedVariables false

theorem span_runP {q : Nat → Bool} {s : ByteArray} : ∀ {D : List UInt8} {f : Nat}, Here s f D → (∀ c ∈ D, q c.toNat = true) → q (bt s (f + D.length)) = false → span q s f = f + D.length
  | [], f, h, hd, he => span_no he
  | c :: D, f, h, hd, he => by
    obtain ⟨h1, h2, h3⟩ := h.hd
    have h4 : q (bt s f) = true := by rw [h1]; exact hd c List.mem_cons_self
    have e : f + (c :: D).length = f + 1 + D.length := by rw [List.length_cons]; omega
    rw [e] at he ⊢
    rw [span_yes h2 h4, span_runP h3 (fun c hm => hd c (List.mem_cons_of_mem _ hm)) he]
theorem sub_here {s : ByteArray} {p : Nat} {L : List UInt8} (h : Here s p L) : (sub s p (p + L.length)).data.toList = L := by
  obtain ⟨R, h⟩ := h
  rw [sub_list, h, Nat.add_sub_cancel_left, List.take_left]
/-- a number's text that stands at a place -/
theorem num_here {s : ByteArray} {p : Nat} {L : List UInt8} (h : Here s p L) (hf : De.form L = true) (he : isDg (bt s (p + L.length)) = false) :
    intE s p = p + L.length ∧ isDg (bt s (signE s p)) = true ∧ ¬ (bt s (signE s p) = 48 ∧ signE s p + 1 < span isDg s (signE s p)) ∧ (bt s p = 45 ∨ isDg (bt s p) = true) := by
  obtain ⟨hD0, hDd⟩ := De.form_digs hf
  have hlen : De.digs L = L ∧ L.head? ≠ some 45 ∨ L = 45 :: De.digs L := by
    unfold De.digs
    split
    · rename_i hh
      right
      cases L with
      | nil => cases hh
      | cons a L => injection hh with hh; subst hh; rfl
    · rename_i hh; exact .inl ⟨rfl, hh⟩
  have hD : De.formD (De.digs L) = true := hf
  generalize De.digs L = D at *
  obtain ⟨d, D', rfl⟩ : ∃ d D', D = d :: D' := by
    cases D with
    | nil => exact absurd rfl hD0
    | cons d D' => exact ⟨d, D', rfl⟩
  have hdd := (De.dig_iff d).1 (hDd d List.mem_cons_self)
  have key : ∃ f, signE s p = f ∧ Here s f (d :: D') ∧ f + (d :: D').length = p + L.length ∧ (bt s p = 45 ∨ isDg (bt s p) = true) := by
    rcases hlen with ⟨h1, h2⟩ | h1
    · subst h1
      obtain ⟨b1, b2, b3⟩ := h.hd
      refine ⟨p, ?_, h, rfl, .inr (by rw [b1, isDg_iff]; exact hdd)⟩
      unfold signE
      rw [if_neg (by rw [b1]; omega)]
    · rw [h1] at h
      obtain ⟨b1, b2, b3⟩ := h.hd
      refine ⟨p + 1, ?_, b3, by rw [h1]; simp only [List.length_cons]; omega, .inl b1⟩
      unfold signE
      rw [if_pos (show bt s p = 45 from b1)]
  obtain ⟨f, hs, hh, hfl, hb⟩ := key
  obtain ⟨b1, b2, b3⟩ := hh.hd
  have hrun := span_run hh hDd (by rw [hfl]; exact he)
  have h48 : bt s f = 48 → D' = [] := fun h48 => by
    unfold De.formD at hD
    simp only [Bool.and_eq_true, Bool.or_eq_true, decide_eq_true_eq, List.head?_cons, Bool.not_eq_true'] at hD
    rcases hD.2 with h | h
    · simpa using h
    · exfalso
      have : d = 48 := UInt8.toNat_inj.1 (by rw [← b1, h48]; rfl)
      subst this
      simp at h
  refine ⟨?_, by rw [hs, b1, isDg_iff]; exact hdd, ?_, hb⟩
  · unfold intE
    rw [hs]
    split
    · rename_i h
      have := h48 h
      subst this
      exact hfl
    · rw [hrun, hfl]
  · rw [hs, hrun]
    rintro ⟨h1, h2⟩
    have := h48 h1
    subst this
    simp at h2
end Go.Proofs.YtfiahpeajccinaaGreatDoor
namespace Go.Proofs.YtfiahpeajccinaaGreatDoor
open Go.RowKit
open Tk Ex Pl
set_option linter.unusedVariables false

/-- an iso that may be printed -/
def GoodP (x : Iz.Iso) : Prop := x.name ∈ ofName ∧ Tk.In64 x.n ∧ (match Iz.use x.name with
  | 1 => x.n = 0 ∧ x.key = nix
  | 2 => x.key = nix
  | 3 => x.n ≠ 0 ∧ x.key = nix
  | 4 => x.n = 0 ∧ ∃ l, Split x.key.data.toList l []
  | _ => False)
/-- what is printed behind a name -/
def prT (u : Nat) (n : Int) (k : ByteArray) : List UInt8 := if u = 2 ∨ u = 3 then 32 :: Lib.itoa n else if u = 4 then 32 :: Q.quo k.data.toList else []
def prI (x : Iz.Iso) : List UInt8 := x.name.data.toList ++ prT (Iz.use x.name) x.n x.key
def prA : List Iz.Iso → List UInt8
  | [] => []
  | x :: r => [32, 124, 32] ++ (prI x ++ prA r)
theorem name_ok {t : ByteArray} (h : t ∈ ofName) : (∀ c ∈ t.data.toList, goes c.toNat = true) ∧ ∃ c r, t.data.toList = c :: r ∧ isLt c.toNat = true := by
  have key : ∀ x ∈ ofName, (x.data.toList.all fun c => goes c.toNat) = true ∧ isLt (x.data.toList.headD 0).toNat = true := by decide +kernel
  obtain ⟨h1, h2⟩ := key t h
  refine ⟨fun c hc => List.all_eq_true.1 h1 c hc, ?_⟩
  cases hl : t.data.toList with
  | nil => rw [hl] at h2; exact absurd h2 (by decide)
  | cons c r => rw [hl] at h2; exact ⟨c, r, rfl, h2⟩
theorem bl_one {s : ByteArray} {z : Nat} (h : bt s z = 32) (h2 : isBl (bt s (z + 1)) = false) : bl s z = z + 1 := by
  have hz : z < s.size := lt_of_bt (by rw [h]; decide)
  unfold bl
  rw [span_yes hz (by rw [h]; rfl), span_no h2]
theorem quo_tok {s q : ByteArray} {p : Nat} (hq : ∃ l, Split q.data.toList l []) (h : Here s p (Q.quo q.data.toList)) : bt s p = 34 ∧ strAns s p = .tok ⟨2, q, 0, p, p + (Q.quo q.data.toList).length⟩ := by
  have h1 := next_quo hq h
  have h2 : bt s p = 34 := by
    unfold Q.quo at h
    exact h.hd.1
  have h3 : p < s.size := lt_of_bt (by rw [h2]; decide)
  refine ⟨h2, ?_⟩
  unfold next at h1
  rw [span_no (by rw [h2]; rfl)] at h1
  unfold ansAt at h1
  rw [if_neg (by omega), if_neg (by rw [h2]; decide), if_pos h2] at h1
  exact h1
theorem one_print {s : ByteArray} {i p : Nat} {x : Iz.Iso} (hg : GoodP x) (h : Here s p (prI x)) (hi : bl s i = p) (hstop : bt s (p + (prI x).length) = 32 ∨ bt s (p + (prI x).length) = 44) : Iz.oneI s i = .ok x (p + (prI x).length) := by
  obtain ⟨hn, h64, hu⟩ := hg
  obtain ⟨hgo, c, r, hcr, hlt⟩ := name_ok hn
  have hul := Iz.use_le x.name
  have hN : Here s p x.name.data.toList := h.left
  have hT : Here s (p + x.name.data.toList.length) (prT (Iz.use x.name) x.n x.key) := h.right
  have hlen : (prI x).length = x.name.data.toList.length + (prT (Iz.use x.name) x.n x.key).length := List.length_append
  have hp : isLt (bt s p) = true := by
    have h2 := hN
    rw [hcr] at h2
    rw [h2.hd.1]
    exact hlt
  have hstop2 : goes (bt s (p + (prI x).length)) = false := by rcases hstop with h | h <;> rw [h] <;> rfl
  have hend : goes (bt s (p + x.name.data.toList.length)) = false := by
    unfold prT at hT hlen
    split at hT
    · rw [hT.hd.1]; rfl
    · split at hT
      · rw [hT.hd.1]; rfl
      · rename_i h1 h2
        rw [if_neg h1, if_neg h2] at hlen
        rw [show p + x.name.data.toList.length = p + (prI x).length by rw [hlen]; simp]
        exact hstop2
  have hwe : wE s p = p + x.name.data.toList.length := by
    unfold wE
    rw [if_pos hp, span_runP hN hgo hend]
  have hwd : wd s i = x.name := by
    unfold wd
    rw [hi, hwe]
    exact ba_list (sub_here hN)
  have hq : isLt (bt s (bl s i)) = true := by rw [hi]; exact hp
  rcases (by omega : Iz.use x.name = 0 ∨ Iz.use x.name = 1 ∨ (Iz.use x.name = 2 ∨ Iz.use x.name = 3) ∨ Iz.use x.name = 4) with h1 | h1 | h1 | h1
  · rw [h1] at hu; exact hu.elim
  · rw [h1] at hu hlen
    rw [oneI_3 hq (by rw [hwd]; exact h1), hwd, hi, hwe, hlen]
    obtain ⟨nm, n, k⟩ := x
    obtain ⟨h2, h3⟩ := hu
    simp only at h2 h3
    subst h2 h3
    rfl
  · have hpt : prT (Iz.use x.name) x.n x.key = 32 :: Lib.itoa x.n := by unfold prT; rw [if_pos h1]
    rw [hpt] at hT hlen
    obtain ⟨b1, b2, b3⟩ := hT.hd
    have hst : isDg (bt s (p + x.name.data.toList.length + 1 + (Lib.itoa x.n).length)) = false := by
      rw [show p + x.name.data.toList.length + 1 + (Lib.itoa x.n).length = p + (prI x).length by rw [hlen, List.length_cons]; omega]
      rcases hstop with h | h <;> rw [h] <;> rfl
    obtain ⟨e1, e2, e3, e4⟩ := num_here b3 (De.itoa_form x.n).1 hst
    have hbl : bl s (p + x.name.data.toList.length) = p + x.name.data.toList.length + 1 := bl_one b1 (by
      rcases e4 with h | h
      · rw [h]; rfl
      · rw [isDg_iff] at h
        rw [Bool.eq_false_iff]; intro h2; rw [isBl_iff] at h2; omega)
    have hN2 : De.numL (sub s (p + x.name.data.toList.length + 1) (intE s (p + x.name.data.toList.length + 1))).data.toList = x.n := by
      rw [e1, sub_here b3]; exact (De.itoa_form x.n).2
    have h5 := oneI_5 hq (by rw [hwd]; exact h1)
    rw [hwd, hi, hwe, hbl] at h5
    rw [h5, numI_5 e2 e3 (by rw [hN2]; exact h64) (by
      rw [hN2]
      rintro ⟨a, b⟩
      rw [a] at hu
      exact hu.1 b), hN2, e1, hlen]
    have hkey : x.key = nix := by
      rcases h1 with a | a <;> rw [a] at hu
      · exact hu
      · exact hu.2
    obtain ⟨nm, n, k⟩ := x
    simp only at hkey
    subst hkey
    simp only [List.length_cons]
    congr 1
    omega
  · have hpt : prT (Iz.use x.name) x.n x.key = 32 :: Q.quo x.key.data.toList := by unfold prT; rw [if_neg (by omega), if_pos h1]
    rw [hpt] at hT hlen
    rw [h1] at hu
    obtain ⟨b1, b2, b3⟩ := hT.hd
    obtain ⟨k1, k2⟩ := quo_tok hu.2 b3
    have hbl : bl s (p + x.name.data.toList.length) = p + x.name.data.toList.length + 1 := bl_one b1 (by rw [k1]; rfl)
    have h4 := oneI_4 hq (by rw [hwd]; exact h1)
    rw [hwd, hi, hwe, hbl] at h4
    rw [h4]
    unfold Iz.keyI
    rw [if_pos k1, k2, hlen]
    obtain ⟨nm, n, k⟩ := x
    have h0 := hu.1
    simp only at h0
    subst h0
    simp only [List.length_cons]
    congr 1
    omega
theorem prI_pos {x : Iz.Iso} (hg : GoodP x) : 0 < (prI x).length := by
  obtain ⟨_, c, r, hcr, _⟩ := name_ok hg.1
  unfold prI
  rw [hcr]
  simp
theorem prA_len (r : List Iz.Iso) : r.length ≤ (prA r).length := by
  induction r with
  | nil => exact Nat.le_refl _
  | cons x r ih => rw [prA, List.length_append, List.length_append]; simp only [List.length_cons, List.length_nil]; omega
theorem lt_here {s : ByteArray} {p : Nat} {x : Iz.Iso} (hg : GoodP x) (h : Here s p (prI x)) : isBl (bt s p) = false := by
  obtain ⟨_, c, r, hcr, hlt⟩ := name_ok hg.1
  have h2 : Here s p x.name.data.toList := h.left
  rw [hcr] at h2
  rw [h2.hd.1]
  rw [Bool.eq_false_iff]
  intro hb
  rw [isBl_iff] at hb
  revert hlt
  rcases hb with h | h | h | h <;> rw [h] <;> decide
/-- isos' text, with a comma behind it -/
theorem isosF_print {s : ByteArray} : ∀ (r : List Iz.Iso) (x : Iz.Iso) (acc : List Iz.Iso) (i p f : Nat), GoodP x → (∀ y ∈ r, GoodP y) → bl s i = p → Here s p (prI x ++ (prA r ++ [44])) → r.length + 1 ≤ f →
    Iz.isosF s f acc i = .ok (acc ++ x :: r) (p + (prI x).length + (prA r).length)
  | [], x, acc, i, p, 0, hg, hr, hi, h, hf => by omega
  | [], x, acc, i, p, f + 1, hg, hr, hi, h, hf => by
    have h2 : Here s (p + (prI x).length) [44] := h.right
    have b1 := h2.hd.1
    have h1 := one_print hg h.left hi (.inr b1)
    have hb : bl s (p + (prI x).length) = p + (prI x).length := by unfold bl; exact span_no (by rw [b1]; rfl)
    rw [Iz.isosF, h1]
    dsimp only
    rw [hb, if_neg (by rw [b1]; decide)]
    rfl
  | y :: r, x, acc, i, p, 0, hg, hr, hi, h, hf => by omega
  | y :: r, x, acc, i, p, f + 1, hg, hr, hi, h, hf => by
    have hy := hr y List.mem_cons_self
    have h2 : Here s (p + (prI x).length) ([32, 124, 32] ++ (prI y ++ (prA r ++ [44]))) := by
      have := h.right
      rw [prA, List.append_assoc, List.append_assoc] at this
      exact this
    obtain ⟨b1, _, h3⟩ := h2.hd
    obtain ⟨b2, _, h4⟩ := h3.hd
    obtain ⟨b3, _, h5⟩ := h4.hd
    have h5 : Here s (p + (prI x).length + 1 + 1 + 1) (prI y ++ (prA r ++ [44])) := h5
    have b2 : bt s (p + (prI x).length + 1) = 124 := b2
    have h1 := one_print hg h.left hi (.inl b1)
    have hb : bl s (p + (prI x).length) = p + (prI x).length + 1 := bl_one b1 (by rw [b2]; rfl)
    have hb2 : bl s (p + (prI x).length + 1 + 1) = p + (prI x).length + 1 + 1 + 1 := bl_one b3 (lt_here hy h5.left)
    rw [Iz.isosF, h1]
    dsimp only
    rw [hb, if_pos b2, isosF_print r y (acc ++ [x]) _ _ f hy (fun z hz => hr z (List.mem_cons_of_mem _ hz)) hb2 h5 (by simp only [List.length_cons] at hf; omega), List.append_assoc]
    congr 1
    rw [prA, List.length_append, List.length_append]
    simp only [List.length_cons, List.length_nil]
    omega
theorem isos_print {s : ByteArray} {x : Iz.Iso} {r : List Iz.Iso} {R : List UInt8} (hg : GoodP x) (hr : ∀ y ∈ r, GoodP y) (hs : s.data.toList = prI x ++ (prA r ++ (44 :: R))) :
    Iz.isos s 0 = .ok (x :: r) ((prI x).length + (prA r).length) := by
  have h : Here s 0 (prI x ++ (prA r ++ [44])) := ⟨R, by rw [List.drop_zero, hs]; simp⟩
  have hb : bl s 0 = 0 := by unfold bl; exact span_no (lt_here hg h.left)
  have hsz := h.size (Nat.zero_le _)
  have hl := prA_len r
  rw [List.length_append, List.length_append] at hsz
  have := isosF_print r x [] 0 0 (s.size + 2 - 0) hg hr hb h (by omega)
  unfold Iz.isos
  rw [this, List.nil_append]
  congr 1
  omega
end Go.Proofs.YtfiahpeajccinaaGreatDoor
namespace Go.Proofs.YtfiahpeajccinaaGreatDoor
open Go.RowKit Go.ChangeShapes Go.WideShapes Go.Deep
set_option linter.unusedVariables false

theorem add_lit11 (b o j : Nat) : (⟨b, o, none⟩ : Addr).add j = ⟨b, o + j, none⟩ := by unfold Addr.add; split <;> simp_all
/-- an iso by a number, an integer, a text -/
structure Pk where
  a : Nat
  n : Int
  k : ByteArray
/-- they lie in a row -/
def PkRow (w : World) (B : Nat) (A : Option Addr) (l : List Pk) : Prop := l ≠ [] → ∃ b o, A = some ⟨b, o, none⟩ ∧ b < B ∧ ∀ (i : Nat) (x : Pk), l[i]? = some x →
  w.cell? ⟨b, o + i * 3, none⟩ = some (.int .u8 (x.a : Nat)) ∧ w.cell? ⟨b, o + i * 3 + 1, none⟩ = some (.int .i64 x.n) ∧ w.cell? ⟨b, o + i * 3 + 2, none⟩ = some (.string x.k)
section
variable {H : Type} {enc : TypeId × Value → H} {P : Program} {w : World} {base : Nat} {spare : Nat → Bool} {held : Bool}
theorem spot_none {a : Addr} {v : Value} (h : w.cell? (a.add 0) = some v) : ∃ b o, a = ⟨b, o, none⟩ ∧ b < w.heap.size := by
  obtain ⟨b, o, spot⟩ := a
  have hs : spot = none := by simpa [Addr.add] using World.cell?_spot h
  subst hs
  rw [add_lit11] at h
  exact ⟨b, o, rfl, World.block_lt_of_cell? (w := w) (a := ⟨b, o + 0, none⟩) h⟩
theorem open_fields {t e : TypeId} {fs : Array Field} {fuel : Nat} {cs : List Value} {x : DataW H × List MemPlace} (ht : P.underlying t = some (.slice e)) (he : P.underlying e = some (.struct fs))
    (hone : oneCellFields P fs = true) (hC : P.cellsOf e = fs.size) (h : DataW.trod enc P w base spare held fuel t cs = some x) :
    cs = [.slice none 0 0] ∨
    ∃ (a : Addr) (len cap : Nat), cs = [.slice (some a) len cap] ∧ len ≤ cap ∧ cap ≤ maxLen ∧
      ∀ i, i < len → ∃ (ys : List (DataW H × List MemPlace)) (n : Nat),
        ∀ (j : Nat) (f : Field), fs[j]? = some f → ∃ (v : Value) (y : DataW H × List MemPlace), w.cell? (a.add (i * fs.size + j)) = some v ∧ ys[j]? = some y ∧ DataW.trod enc P w base spare held n f.type [v] = some y := by
  rcases open_slice ht h with h0 | ⟨a, len, cap, m, n, D, Pl, hcs, hb, hl, hm, hmm, hx, hi⟩
  · exact .inl h0.1
  · refine .inr ⟨a, len, cap, hcs, hl, hm, fun i hil => ?_⟩
    obtain ⟨cs', hc, ht'⟩ := hi i (by rw [hmm]; split <;> omega)
    rw [hC] at hc
    obtain ⟨ys, n', hn', hy, hlen, hyl, hf⟩ := DataW.trod_struct he ht'
    obtain ⟨_, hcl, hat⟩ := World.cells?_some hc
    refine ⟨ys, n', fun j f hj => ?_⟩
    obtain ⟨ho, hk⟩ := hone_of hone j f hj
    have hjl : j < fs.size := (Array.getElem?_eq_some_iff.1 hj).1
    have hcell := hat j hjl
    have hv : cs'[j]? = some (cs'[j]'(by omega)) := List.getElem?_eq_getElem (by omega)
    have h1 := hf j f hj
    rw [ho, hk] at h1
    have hone' : (cs'.drop j).take 1 = [cs'[j]'(by omega)] := by
      rw [List.drop_eq_getElem_cons (by omega)]
      rfl
    rw [hone'] at h1
    have hys : ys[j]? = some (ys[j]'(by omega)) := List.getElem?_eq_getElem (by omega)
    refine ⟨_, _, ?_, hys, h1.trans hys⟩
    rw [← Go.Deep.add_add, hcell, hv]
end
section
variable {H : Type} {enc : TypeId × Value → H} {w : World} {spare : Nat → Bool} {held : Bool}
theorem picks_open {A : Option Addr} {n c fuel : Nat} {x : DataW H × List MemPlace} (h : DataW.trod enc Tryz.prog w 0 spare held fuel 43 [.slice A n c] = some x) :
    n ≤ c ∧ c ≤ maxLen ∧ ∃ l : List Pk, l.length = n ∧ (∀ y ∈ l, y.a ≤ 255 ∧ -9223372036854775808 ≤ y.n ∧ y.n ≤ 9223372036854775807) ∧ PkRow w w.heap.size A l := by
  rcases open_fields Tryz.underlying43 Tryz.underlying23 (by kernel_rfl) (by kernel_rfl) h with hcs | ⟨a, len, cap, hcs, hl, hm, hi⟩
  · simp at hcs
    obtain ⟨rfl, rfl, rfl⟩ := hcs
    exact ⟨Nat.le_refl _, Nat.zero_le _, [], rfl, fun y hy => (nomatch hy), fun h => absurd rfl h⟩
  · simp at hcs
    obtain ⟨rfl, rfl, rfl⟩ := hcs
    refine ⟨hl, hm, ?_⟩
    rcases Nat.eq_zero_or_pos n with rfl | hn
    · exact ⟨[], rfl, fun y hy => (nomatch hy), fun h => absurd rfl h⟩
    obtain ⟨ys', q', hf'⟩ := hi 0 hn
    obtain ⟨v9, y9, c9, _, _⟩ := hf' 0 _ rfl
    rw [Nat.zero_mul, Nat.zero_add] at c9
    obtain ⟨b, o, rfl, hb⟩ := spot_none c9
    have key : ∀ i, i < n → ∃ y : Pk, (y.a ≤ 255 ∧ -9223372036854775808 ≤ y.n ∧ y.n ≤ 9223372036854775807) ∧ w.cell? ⟨b, o + i * 3, none⟩ = some (.int .u8 (y.a : Nat)) ∧ w.cell? ⟨b, o + i * 3 + 1, none⟩ = some (.int .i64 y.n) ∧ w.cell? ⟨b, o + i * 3 + 2, none⟩ = some (.string y.k) := by
      intro i hin
      obtain ⟨ys, q, hf⟩ := hi i hin
      obtain ⟨v0, y0, c0, _, t0⟩ := hf 0 _ rfl
      obtain ⟨v1, y1, c1, _, t1⟩ := hf 1 _ rfl
      obtain ⟨v2, y2, c2, _, t2⟩ := hf 2 _ rfl
      rw [add_lit11] at c0 c1 c2
      obtain ⟨k, e0, _, w0⟩ := DataW.trod_int Tryz.underlying5 t0
      obtain ⟨m, e1, _, w1⟩ := DataW.trod_int Tryz.underlying2 t1
      obtain ⟨s, e2, _, _⟩ := DataW.trod_string Tryz.underlying9 t2
      injection e0 with e0 _
      injection e1 with e1 _
      injection e2 with e2 _
      subst e0 e1 e2
      obtain ⟨k1, k2⟩ := in8_iz w0
      obtain ⟨a, rfl⟩ : ∃ a : Nat, k = a := ⟨k.toNat, by omega⟩
      exact ⟨⟨a, m, s⟩, ⟨by show a ≤ 255; omega, (in64_iz w1).1, (in64_iz w1).2⟩, c0, c1, c2⟩
    refine ⟨(List.range n).pmap (fun i hi => (key i hi).choose) (fun i hi => List.mem_range.1 hi), by simp, fun y hy => ?_, fun _ => ⟨b, o, rfl, hb, fun i x hx => ?_⟩⟩
    · obtain ⟨i, hi2, rfl⟩ := List.mem_pmap.1 hy
      exact (key i (List.mem_range.1 hi2)).choose_spec.1
    · have hin : i < n := by
        have := (List.getElem?_eq_some_iff.1 hx).1
        simpa using this
      rw [List.getElem?_pmap] at hx
      simp only [List.getElem?_range hin, Option.pmap_some, Option.some.injEq] at hx
      subst hx
      exact (key i hin).choose_spec.2
theorem picks_done : True := trivial
end
end Go.Proofs.YtfiahpeajccinaaGreatDoor
