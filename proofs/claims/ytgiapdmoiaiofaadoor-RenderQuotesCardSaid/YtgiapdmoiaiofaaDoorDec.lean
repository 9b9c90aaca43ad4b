/- Plain mathematics of numbers' texts: decimal digits, what the library's ParseInt and FormatInt say of them. -/
import Derived.Test.YtgiapdmoiaiofaaDoorPlainInt
import Derived.Lib.ParseIntB
import Derived.Lib.ItoaNum
import Derived.Laws.RangeAny
import Derived.Lib.Strings
namespace Go.Proofs.YtgiapdmoiaiofaaDoor
namespace De

def isDig (c : UInt8) : Bool := decide (48 ≤ c.toNat ∧ c.toNat ≤ 57)
theorem dig_iff (c : UInt8) : isDig c = true ↔ 48 ≤ c.toNat ∧ c.toNat ≤ 57 := by simp [isDig]
/-- the text behind a sign -/
def digs (L : List UInt8) : List UInt8 := if L.head? = some 45 then L.tail else L
def formD (D : List UInt8) : Bool := !D.isEmpty && D.all isDig && (decide (D.length = 1) || !(D.head? == some 48))
def form (L : List UInt8) : Bool := formD (digs L)
/-- the number of digits, behind what stands ahead of them -/
def decF (a : Nat) (D : List UInt8) : Nat := D.foldl (fun a c => 10 * a + (c.toNat - 48)) a
def numL (L : List UInt8) : Int := if L.head? = some 45 then -(decF 0 (digs L) : Int) else decF 0 (digs L)

theorem decF_le (D : List UInt8) : ∀ a, a ≤ decF a D := by
  induction D with
  | nil => intro a; exact Nat.le_refl _
  | cons c D ih => intro a; have := ih (10 * a + (c.toNat - 48)); unfold decF at *; rw [List.foldl_cons]; omega
theorem decF_snoc (D : List UInt8) (c : UInt8) (a : Nat) : decF a (D ++ [c]) = 10 * decF a D + (c.toNat - 48) := by
  unfold decF; rw [List.foldl_append]; rfl
theorem decF_lt (D : List UInt8) (h : ∀ c ∈ D, isDig c = true) : decF 0 D < 10 ^ D.length := by
  obtain ⟨n, hn⟩ : ∃ n, n = D.length := ⟨_, rfl⟩
  induction n generalizing D with
  | zero => rw [← hn, List.eq_nil_of_length_eq_zero hn.symm]; simp [decF]
  | succ n ih =>
    obtain ⟨E, c, rfl⟩ : ∃ E c, D = E ++ [c] := by
      rcases List.eq_nil_or_concat D with rfl | ⟨E, c, h⟩
      · simp at hn
      · exact ⟨E, c, by rw [h, List.concat_eq_append]⟩
    rw [List.length_append, List.length_singleton] at hn
    have h1 := ih E (fun x hx => h x (by simp [hx])) (by omega)
    have h2 := (dig_iff c).1 (h c (by simp))
    rw [decF_snoc, List.length_append, List.length_singleton, Nat.pow_succ]
    omega

theorem parseU (M : Nat) (hM : M = 18446744073709551615) (D : List UInt8) (h : ∀ c ∈ D, isDig c = true) : ∀ a, a ≤ M → Lib.parseUintM M a D = if decF a D ≤ M then .ok (decF a D) else .range := by
  induction D with
  | nil => intro a ha; rw [Lib.parseUintM]; show _ = if a ≤ M then _ else _; rw [if_pos ha]; rfl
  | cons c D ih =>
    intro a ha
    have hc := (dig_iff c).1 (h c (by simp))
    have e : decF a (c :: D) = decF (a * 10 + (c.toNat - 48)) D := by unfold decF; rw [List.foldl_cons, Nat.mul_comm]
    have hle := decF_le D (a * 10 + (c.toNat - 48))
    rw [Lib.parseUintM, if_pos hc, e]
    by_cases h1 : 1844674407370955162 ≤ a
    · rw [if_pos h1, if_neg (by omega)]
    · rw [if_neg h1]
      by_cases h2 : M < a * 10 + (c.toNat - 48)
      · rw [if_pos h2, if_neg (by omega)]
      · rw [if_neg h2]
        exact ih (fun x hx => h x (by simp [hx])) _ (by omega)

theorem form_digs {L : List UInt8} (h : form L = true) : digs L ≠ [] ∧ ∀ c ∈ digs L, isDig c = true := by
  unfold form formD at h
  simp only [Bool.and_eq_true, Bool.not_eq_true', List.all_eq_true] at h
  exact ⟨by intro e; rw [e] at h; simp at h, h.1.2⟩
theorem parseI {L : List UInt8} (h : form L = true) : Lib.parseIntB 64 L = if -9223372036854775808 ≤ numL L ∧ numL L ≤ 9223372036854775807 then Lib.NumEnd.ok (numL L) else Lib.NumEnd.range := by
  obtain ⟨hne, hd⟩ := form_digs h
  have hp := parseU (2 ^ 64 - 1) (by decide) (digs L) hd 0 (Nat.zero_le _)
  have hB : Lib.parseUintB 64 (digs L) = if decF 0 (digs L) ≤ 2 ^ 64 - 1 then .ok (decF 0 (digs L)) else .range := by
    unfold Lib.parseUintB; rw [if_neg hne]; exact hp
  cases L with
  | nil => exact absurd rfl hne
  | cons c r =>
    have e45 : (List.head? (c :: r) = some 45) ↔ c.toNat = 45 := by
      simp only [List.head?_cons, Option.some.injEq]
      constructor
      · rintro rfl; rfl
      · intro h; exact UInt8.toNat_inj.1 (by rw [h]; rfl)
    by_cases hs : c.toNat = 45
    · have hg : digs (c :: r) = r := by unfold digs; rw [if_pos (e45.2 hs)]; rfl
      have hn : numL (c :: r) = -(decF 0 r : Int) := by unfold numL; rw [if_pos (e45.2 hs), hg]
      have ht : (if c.toNat = 43 ∨ c.toNat = 45 then r else c :: r) = r := if_pos (Or.inr hs)
      rw [hg] at hB
      rw [hn]
      simp only [Lib.parseIntB, ht, hB]
      by_cases h1 : decF 0 r ≤ 2 ^ 64 - 1
      · rw [if_pos h1]
        simp only [hs, not_true_eq_false, false_and, if_false, true_and, if_true]
        by_cases h2 : 2 ^ (64 - 1) < decF 0 r
        · rw [if_pos h2, if_neg (by omega)]
        · rw [if_neg h2, if_pos (by omega)]
      · rw [if_neg h1, if_neg (by omega)]
    · have hg : digs (c :: r) = c :: r := by unfold digs; rw [if_neg (fun e => hs (e45.1 e))]
      have hn : numL (c :: r) = (decF 0 (c :: r) : Int) := by unfold numL; rw [if_neg (fun e => hs (e45.1 e)), hg]
      rw [hg] at hB hd
      have hc := (dig_iff c).1 (hd c (by simp))
      have ht : (if c.toNat = 43 ∨ c.toNat = 45 then r else c :: r) = c :: r := if_neg (by omega)
      rw [hn]
      simp only [Lib.parseIntB, ht, hB]
      by_cases h1 : decF 0 (c :: r) ≤ 2 ^ 64 - 1
      · rw [if_pos h1]
        simp only [hs, not_false_eq_true, true_and, false_and, if_false]
        by_cases h2 : 2 ^ (64 - 1) ≤ decF 0 (c :: r)
        · rw [if_pos h2, if_neg (by omega)]
        · rw [if_neg h2, if_pos (by omega)]
      · rw [if_neg h1, if_neg (by omega)]

theorem trim_digs (L : List UInt8) : Lib.trimPrefix L [45] = digs L := by
  unfold Lib.trimPrefix digs Lib.hasPrefix
  cases L with
  | nil => rfl
  | cons c r =>
    by_cases h : c = 45
    · subst h; rfl
    · have h1 : ¬ (45 : UInt8) = c := fun e => h e.symm
      simp [List.isPrefixOf, h, h1]

/-- what a range over a string reads where a byte below 128 stands, and where none does -/
theorem decode_low (s : ByteArray) (k : Nat) (hk : k < s.size) (h : (s.data.toList.getD k 0).toNat < 128) : Utf8.decode s k = ((s.data.toList.getD k 0).toNat, 1) := by
  have e : s.get! k = s.data.toList.getD k 0 := by
    rw [List.getD_eq_getElem?_getD, Array.getElem?_toList]
    rcases s with ⟨d⟩
    show d[k]! = _
    have hd : k < d.size := hk
    simp [hd]
  simp only [Utf8.decode, Nat.add_zero, e]
  rw [if_pos h]
theorem decode_high (s : ByteArray) (k : Nat) (hk : k < s.size) (h : ¬ (s.data.toList.getD k 0).toNat < 128) : 128 ≤ (Utf8.decode s k).1 := by
  have e : s.get! k = s.data.toList.getD k 0 := by
    rw [List.getD_eq_getElem?_getD, Array.getElem?_toList]
    rcases s with ⟨d⟩
    show d[k]! = _
    have hd : k < d.size := hk
    simp [hd]
  simp only [Utf8.decode, Nat.add_zero, e]
  rw [if_neg h]
  repeat' split
  all_goals simp_all [Utf8.runeError]
  all_goals omega
end De
end Go.Proofs.YtgiapdmoiaiofaaDoor
