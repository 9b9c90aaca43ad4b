/- Where a text is cut: plain mathematics. A value's text is a text: plain mathematics. The tokens that stand at a place: plain mathematics. A value's text spells its tokens, and is read as it: plain mathematics. Ways of writing a value: what leads to its tokens: plain mathematics. Writings of arrays and objects: plain mathematics. Two values have one text just if they are the same; a text's characters are no longer than they were written: plain mathematics. -/
import Derived.Test.YthfhlblpjjniiaaGreatDoorMA
import Derived.Lib.Bits
import Derived.Lib.RuneBytes
import Derived.Outline
import Derived.Test.YthfhlblpjjniiaaGreatDoorMM
import Derived.Test.YthfhlblpjjniiaaGreatDoorMG
import Derived.Test.YthfhlblpjjniiaaGreatDoorML
namespace Go.Proofs.YthfhlblpjjniiaaGreatDoor
open Pl
set_option linter.unusedVariables false
theorem byte_of {x : Int} (h0 : 0 ≤ x) (h1 : x < 256) : ((x.toNat.toUInt8).toNat : Int) = x := by
 have h : x.toNat < 256 := by omega
 have : (x.toNat.toUInt8).toNat = x.toNat := by simp; omega
 rw [this]; omega
end Go.Proofs.YthfhlblpjjniiaaGreatDoor
namespace Go.Proofs.YthfhlblpjjniiaaGreatDoor
open Pl
set_option linter.unusedVariables false
theorem esc_high : ∀ n : Fin 256, 128 ≤ n.val → Q.esc (UInt8.ofNat n.val) = [UInt8.ofNat n.val] := by decide +kernel
theorem esc_hi {b : UInt8} (h : 128 ≤ b.toNat) : Q.esc b = [b] := by
 have := esc_high ⟨b.toNat, b.toNat_lt⟩ h
 simpa using this
theorem enc_high (r : Int) (hr : 128 ≤ r) (b : UInt8) (h : b ∈ Lib.encodeRune r) : 128 ≤ b.toNat := by
 unfold Lib.encodeRune at h
 obtain ⟨x, hx, rfl⟩ := List.mem_map.1 h
 have key : 128 ≤ x ∧ x < 256 → 128 ≤ (x.toNat.toUInt8).toNat := fun hh => by
  have := byte_of (x := x) (by omega) (by omega)
  omega
 apply key
 unfold Lib.encodeRuneZ at hx
 split at hx
 · omega
 split at hx
 · simp at hx; omega
 split at hx
 · simp at hx; omega
 split at hx
 · simp at hx; omega
 · simp at hx; omega
theorem hi_flat : ∀ {L : List UInt8}, (∀ b ∈ L, 128 ≤ b.toNat) → L.flatMap Q.esc = L
 | [], _ => rfl
 | b :: L, h => by rw [List.flatMap_cons, esc_hi (h b List.mem_cons_self), hi_flat fun c hc => h c (List.mem_cons_of_mem _ hc)]; rfl
end Go.Proofs.YthfhlblpjjniiaaGreatDoor
namespace Go.Proofs.YthfhlblpjjniiaaGreatDoor.Tk
open Pl
set_option linter.unusedVariables false
def Here (s : ByteArray) (p : Nat) (L : List UInt8) : Prop := ∃ R, s.data.toList.drop p = L ++ R
theorem Here.right {s : ByteArray} {p : Nat} {A B : List UInt8} (h : Here s p (A ++ B)) : Here s (p + A.length) B := by
 obtain ⟨R, h⟩ := h
 exact ⟨R, by rw [← List.drop_drop, h, List.append_assoc, List.drop_left]⟩
theorem Here.hd {s : ByteArray} {p : Nat} {c : UInt8} {L : List UInt8} (h : Here s p (c :: L)) : bt s p = c.toNat ∧ p < s.size ∧ Here s (p + 1) L := by
 have h2 : Here s (p + 1) L := Here.right (A := [c]) h
 obtain ⟨R, h⟩ := h
 have h3 := congrArg (fun l => l[0]?) h
 simp only [List.getElem?_drop, Nat.add_zero, List.cons_append, List.getElem?_cons_zero] at h3
 have h4 := (List.getElem?_eq_some_iff.1 h3).1
 refine ⟨?_, h4, h2⟩
 unfold bt
 rw [List.getD_eq_getElem?_getD, h3]; rfl
def isNo (c : Nat) : Prop := isDg c = false ∧ c ≠ 46 ∧ c ≠ 101 ∧ c ≠ 69
def Chars (s : ByteArray) : Nat → List Int → Nat → Prop
 | p, [], e => p = e
 | p, m :: l, e => ∃ q, bt s p ≠ 34 ∧ chAt s p = .pt m q ∧ Chars s q l e
end Go.Proofs.YthfhlblpjjniiaaGreatDoor.Tk
namespace Go.Proofs.YthfhlblpjjniiaaGreatDoor.Rd
open Tk Pl
set_option linter.unusedVariables false
theorem quo_data (q : ByteArray) : Q.quo q.toList = Q.quo q.data.toList := by rw [ByteArray.toList_eq]
structure Inked (t : T) : Prop where
 num : t.kind = 2 → In64 t.num
 str : t.kind = 3 → okText t.str
 keys : ∀ q ∈ t.keys, okText q
 nokeys : t.kind = 4 → t.keys = []
 lens : t.kind = 5 → t.keys.length = t.items.length
end Go.Proofs.YthfhlblpjjniiaaGreatDoor.Rd
namespace Go.Proofs.YthfhlblpjjniiaaGreatDoor.Rd
open Tk Pl
set_option linter.unusedVariables false
def Leads (a : List Say) (L : List UInt8) : Prop := ∀ (s : ByteArray) (p : Nat), Here s p L → isNo (bt s (p + L.length)) → ∃ m, Spells s p a m ∧ next s m = next s (p + L.length)
def NoHd (B : List UInt8) : Prop := ∀ c, B.head? = some c → isNo c.toNat
def ChL (l : List Int) (L : List UInt8) : Prop := ∀ (s : ByteArray) (p : Nat), Here s p L → Chars s p l (p + L.length)
end Go.Proofs.YthfhlblpjjniiaaGreatDoor.Rd
namespace Go.Proofs.YthfhlblpjjniiaaGreatDoor.Rd
open Tk Pl
set_option linter.unusedVariables false
def LeadsS (a : List Say) (L : List UInt8) : Prop := ∀ (s : ByteArray) (p : Nat), Here s p L → ∃ m, Spells s p a m ∧ next s m = next s (p + L.length)
end Go.Proofs.YthfhlblpjjniiaaGreatDoor.Rd
namespace Go.Proofs.YthfhlblpjjniiaaGreatDoor.Rd
open Tk Pl
set_option linter.unusedVariables false
theorem esc_le (x : Int) {s : ByteArray} {p e : Nat} (h : chAt s p = .pt x e) (h34 : bt s p ≠ 34) : ((Lib.encodeRune x).flatMap Q.esc).length + p ≤ e := by
 obtain ⟨hp, h1, h2⟩ := chAt_pt h
 have hx0 : 0 ≤ x := by rw [pt_iff] at hp; omega
 have hlen := enc_len x
 have hbig : ¬ x < 128 → ((Lib.encodeRune x).flatMap Q.esc).length = (Lib.encodeRune x).length := fun h => by rw [hi_flat (enc_high x (by omega))]
 have hsml : x < 128 → ((Lib.encodeRune x).flatMap Q.esc).length = (Q.esc (UInt8.ofNat x.toNat)).length := fun h => by
  have e : Lib.encodeRune x = [UInt8.ofNat x.toNat] := by
   unfold Lib.encodeRune
   rw [Lib.encodeRuneZ_one (by omega) (by omega)]
   simp
  rw [e]; simp
 have hesc := Q.esc_len (UInt8.ofNat x.toNat)
 have h6 : ((Lib.encodeRune x).flatMap Q.esc).length ≤ 6 := by
  by_cases h : x < 128
  · rw [hsml h]; exact hesc
  · rw [hbig h]; omega
 unfold chAt at h
 split at h
 · cases h
 rename_i h3
 split at h
 ·
  rename_i h92
  unfold escCh at h
  split at h
  ·
   rename_i m hm
   injection h with a1 a2
   subst a1 a2
   unfold shortOf at hm
   repeat' split at hm
   all_goals first
    | (injection hm with hm; subst hm; rw [hsml (by decide)]; exact Nat.le_of_eq (by rw [Nat.add_comm]; rfl))
    | (injection hm with hm; subst hm; rw [hsml (by decide)]; exact Nat.le_trans (Nat.add_le_add_right (show (Q.esc _).length ≤ 2 by decide) p) (by omega))
    | cases hm
  ·
   split at h
   ·
    unfold uniCh at h
    split at h
    · cases h
    split at h
    ·
     rename_i k1 k2
     injection h with a1 a2
     have := four_range s (p + 2)
     omega
    split at h
    ·
     injection h with a1 a2
     omega
    · cases h
   · cases h
 ·
  rename_i h92
  unfold rawCh at h
  split at h
  ·
   rename_i hok
   injection h with a1 a2
   obtain ⟨_, b2, b3⟩ := enc_of_ok _ hok
   rw [a1] at b2 b3
   by_cases hx : x < 128
   ·
    have e : Lib.encodeRune x = [UInt8.ofNat x.toNat] := by
     unfold Lib.encodeRune
     rw [Lib.encodeRuneZ_one (by omega) (by omega)]
     simp
    have hh : Here s p [UInt8.ofNat x.toNat] := ⟨_, by rw [← e]; exact b2⟩
    have hb := hh.hd.1
    rw [hsml hx]
    have : (Q.esc (UInt8.ofNat x.toNat)).length = 1 := by
     generalize UInt8.ofNat x.toNat = c at *
     unfold Q.esc
     have n1 : c ≠ 34 := fun hc => by rw [hc] at hb; exact h34 hb
     have n2 : c ≠ 92 := fun hc => by rw [hc] at hb; exact h92 hb
     have n3 : ¬ c < 32 := fun hc => by have : c.toNat < 32 := hc; omega
     have n4 : ∀ k : UInt8, k < 32 → c ≠ k := fun k hk hc => n3 (hc ▸ hk)
     rw [if_neg n1, if_neg n2, if_neg (n4 8 (by decide)), if_neg (n4 12 (by decide)), if_neg (n4 10 (by decide)), if_neg (n4 13 (by decide)), if_neg (n4 9 (by decide)), if_neg n3]
     rfl
    omega
   · rw [hbig hx]; omega
  · cases h
theorem strF_len {s : ByteArray} : ∀ (n p : Nat) (acc l : List Int) (e : Nat), strF s n p acc = .pts l e → ((flat l).flatMap Q.esc).length + p + 1 ≤ ((flat acc).flatMap Q.esc).length + e := by
 intro n
 induction n with
 | zero => intro p acc l e h; unfold strF at h; cases h
 | succ n ih =>
  intro p acc l e h
  unfold strF at h
  split at h
  ·
   injection h with h1 h2
   subst h1 h2
   omega
  ·
   rename_i h34
   split at h
   ·
    rename_i m q hc
    have h1 := ih _ _ _ _ h
    have h2 := esc_le m hc h34
    rw [flat_append, List.flatMap_append, List.length_append, show flat [m] = Lib.encodeRune m by rw [flat_cons, flat_nil, List.append_nil]] at h1
    omega
   · cases h
theorem tok_quo {s : ByteArray} {i : Nat} {t : Tok} (h : next s i = .tok t) (hk : t.kind = 2) : (Q.quo t.text.data.toList).length + t.at_ ≤ t.fin := by
 have h' : ansAt s (span isBl s i) = .tok t := h
 generalize span isBl s i = a at h'
 unfold ansAt at h'
 split at h'
 · injection h' with h'; subst h'; exact absurd hk (show ¬ (0 : Int) = 2 by decide)
 split at h'
 · injection h' with h'; subst h'; exact absurd hk (show ¬ (1 : Int) = 2 by decide)
 split at h'
 ·
  unfold strAns at h'
  split at h'
  ·
   rename_i l e hs
   injection h' with h'; subst h'
   have := strF_len _ _ _ _ _ hs
   show (Q.quo (flat l)).length + a ≤ e
   unfold Q.quo
   simp only [flat_nil, List.flatMap_nil, List.length_nil] at this
   simp only [List.length_cons, List.length_append, List.length_nil]
   omega
  · cases h'
 split at h'
 ·
  unfold numAns at h'
  repeat' split at h'
  all_goals first
   | (injection h' with h'; subst h'; exact absurd hk (show ¬ (3 : Int) = 2 by decide))
   | cases h'
 split at h'
 ·
  unfold wordAns at h'
  split at h'
  ·
   injection h' with h'; subst h'
   have hk2 : kindOf (bt s a) = 2 := hk
   unfold kindOf at hk2
   split at hk2
   · omega
   split at hk2 <;> omega
  · cases h'
 · cases h'
end Go.Proofs.YthfhlblpjjniiaaGreatDoor.Rd
