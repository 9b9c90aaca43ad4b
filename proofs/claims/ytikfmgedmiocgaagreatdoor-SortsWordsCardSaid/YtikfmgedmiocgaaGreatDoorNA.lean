/- Plain mathematics of quotients of integers of 64 bits. Plain mathematics of numbers' texts: decimal digits, what the library's ParseInt and FormatInt say of them. Plain mathematics: an integer's text is a number's text, of it. Contracts of the program's integer calls of layer 2: Add, Sub, Neg, Mul, Div, Mod, and the fixed fact 'awake'. -/
import Derived.WalkKit
import Derived.Lib.ParseIntB
import Derived.Lib.ItoaNum
import Derived.Laws.RangeAny
import Derived.Lib.Strings
import Derived.Test.YtikfmgedmiocgaaGreatDoorRows
import Derived.Lib.Hide
namespace Go.Proofs.YtikfmgedmiocgaaGreatDoor
open Go.RowKit

/-- an integer of 64 bits -/
def In64 (n : Int) : Prop := -9223372036854775808 ≤ n ∧ n ≤ 9223372036854775807

theorem tdiv_abs (a b : Int) : (a.tdiv b).natAbs ≤ a.natAbs := by
  rw [Int.natAbs_tdiv]; exact Nat.div_le_self _ _
theorem tdiv_in (a b : Int) (ha : In64 a) (hb : b ≠ -1) : In64 (a.tdiv b) := by
  unfold In64 at *
  have h1 := tdiv_abs a b
  by_cases h0 : a = -9223372036854775808
  · by_cases hb1 : b = 1
    · subst hb1; rw [Int.tdiv_one]; omega
    · by_cases hb0 : b = 0
      · subst hb0; rw [Int.tdiv_zero]; omega
      · have h2 : (a.tdiv b).natAbs ≤ a.natAbs / 2 := by
          rw [Int.natAbs_tdiv]
          exact Nat.div_le_div_left (by omega) (by omega)
        omega
  · omega
/-- what a quotient leaves -/
theorem tmod_eq (a b : Int) : a.tmod b = a - b * a.tdiv b := by have := Int.mul_tdiv_add_tmod a b; omega
theorem tmod_small (a b : Int) (hb : b ≠ 0) : (a.tmod b).natAbs < b.natAbs := by
  rw [Int.natAbs_tmod]; exact Nat.mod_lt _ (by omega)
theorem tmod_abs (a b : Int) : (a.tmod b).natAbs ≤ a.natAbs := by
  rw [Int.natAbs_tmod]; exact Nat.mod_le _ _
theorem tmod_side (a b : Int) : (0 ≤ a → 0 ≤ a.tmod b) ∧ (a ≤ 0 → a.tmod b ≤ 0) := by
  constructor
  · intro h; exact Int.tmod_nonneg _ h
  · intro h
    have h1 := Int.neg_tmod a b
    have h2 := Int.tmod_nonneg b (a := -a) (by omega)
    omega
theorem tmod_in (a b : Int) (ha : In64 a) : In64 (a.tmod b) := by
  unfold In64 at *
  have h1 := tmod_abs a b
  have h2 := tmod_side a b
  rcases (by omega : 0 ≤ a ∨ a ≤ 0) with h | h
  · have := h2.1 h; omega
  · have := h2.2 h; omega

/-- a product of 64 bits, divided again, is what was multiplied just if it fits -/
theorem mul_back (a b : Int) (hb : b ≠ 0) (h : In64 (a * b)) : (wrap64 (a * b)).tdiv b = a := by
  unfold In64 at h
  have : wrap64 (a * b) = a * b := by unfold wrap64; omega
  rw [this, Int.mul_tdiv_cancel _ hb]
theorem mul_lost (a b : Int) (hb : b ≠ 0) (hi : In64 b) (h : ¬ In64 (a * b)) : (wrap64 (a * b)).tdiv b ≠ a := by
  intro e
  unfold In64 at *
  have h1 := Int.mul_tdiv_add_tmod (wrap64 (a * b)) b
  have h2 := tmod_small (wrap64 (a * b)) b hb
  rw [e, Int.mul_comm b a] at h1
  generalize (wrap64 (a * b)).tmod b = r at *
  unfold wrap64 at h1
  generalize a * b = p at *
  omega
end Go.Proofs.YtikfmgedmiocgaaGreatDoor
namespace Go.Proofs.YtikfmgedmiocgaaGreatDoor
namespace De

def isDig (c : UInt8) : Bool := decide (48 ≤ c.toNat ∧ c.toNat ≤ 57)
theorem dig_iff (c : UInt8) : isDig c = true ↔ 48 ≤ c.toNat ∧ c.toNat ≤ 57 := by simp [isDig]
/-- the text behind a sign -/
def digs (L : List UInt8) : List UInt8 := if L.head? = some 45 then L.tail else L
def formD (D : List UInt8) : Bool := !D.isEmpty && D.all isDig && (decide (D.length = 1) || !(D.head? == some 48))
def form (L : List UInt8) : Bool := formD (digs L)
/-- the number of digits, behind what stands ahead of them -/
def decF (a : Nat) (D : List UInt8) : Nat := D.foldl (fun a c => 10 * a + (c.toNat - 48)) a
def numL (L : List UInt8) : Int := if L.head? = some 45 then -(decF 0 (digs L) : Int) else decF 0 (digs L)

theorem decF_le (D : List UInt8) : ∀ a, a ≤ decF a D := by
  induction D with
  | nil => intro a; exact Nat.le_refl _
  | cons c D ih => intro a; have := ih (10 * a + (c.toNat - 48)); unfold decF at *; rw [List.foldl_cons]; omega
theorem decF_snoc (D : List UInt8) (c : UInt8) (a : Nat) : decF a (D ++ [c]) = 10 * decF a D + (c.toNat - 48) := by
  unfold decF; rw [List.foldl_append]; rfl
theorem decF_lt (D : List UInt8) (h : ∀ c ∈ D, isDig c = true) : decF 0 D < 10 ^ D.length := by
  obtain ⟨n, hn⟩ : ∃ n, n = D.length := ⟨_, rfl⟩
  induction n generalizing D with
  | zero => rw [← hn, List.eq_nil_of_length_eq_zero hn.symm]; simp [decF]
  | succ n ih =>
    obtain ⟨E, c, rfl⟩ : ∃ E c, D = E ++ [c] := by
      rcases List.eq_nil_or_concat D with rfl | ⟨E, c, h⟩
      · simp at hn
      · exact ⟨E, c, by rw [h, List.concat_eq_append]⟩
    rw [List.length_append, List.length_singleton] at hn
    have h1 := ih E (fun x hx => h x (by simp [hx])) (by omega)
    have h2 := (dig_iff c).1 (h c (by simp))
    rw [decF_snoc, List.length_append, List.length_singleton, Nat.pow_succ]
    omega

theorem parseU (M : Nat) (hM : M = 18446744073709551615) (D : List UInt8) (h : ∀ c ∈ D, isDig c = true) : ∀ a, a ≤ M → Lib.parseUintM M a D = if decF a D ≤ M then .ok (decF a D) else .range := by
  induction D with
  | nil => intro a ha; rw [Lib.parseUintM]; show _ = if a ≤ M then _ else _; rw [if_pos ha]; rfl
  | cons c D ih =>
    intro a ha
    have hc := (dig_iff c).1 (h c (by simp))
    have e : decF a (c :: D) = decF (a * 10 + (c.toNat - 48)) D := by unfold decF; rw [List.foldl_cons, Nat.mul_comm]
    have hle := decF_le D (a * 10 + (c.toNat - 48))
    rw [Lib.parseUintM, if_pos hc, e]
    by_cases h1 : 1844674407370955162 ≤ a
    · rw [if_pos h1, if_neg (by omega)]
    · rw [if_neg h1]
      by_cases h2 : M < a * 10 + (c.toNat - 48)
      · rw [if_pos h2, if_neg (by omega)]
      · rw [if_neg h2]
        exact ih (fun x hx => h x (by simp [hx])) _ (by omega)

theorem form_digs {L : List UInt8} (h : form L = true) : digs L ≠ [] ∧ ∀ c ∈ digs L, isDig c = true := by
  unfold form formD at h
  simp only [Bool.and_eq_true, Bool.not_eq_true', List.all_eq_true] at h
  exact ⟨by intro e; rw [e] at h; simp at h, h.1.2⟩
theorem parseI {L : List UInt8} (h : form L = true) : Lib.parseIntB 64 L = if -9223372036854775808 ≤ numL L ∧ numL L ≤ 9223372036854775807 then Lib.NumEnd.ok (numL L) else Lib.NumEnd.range := by
  obtain ⟨hne, hd⟩ := form_digs h
  have hp := parseU (2 ^ 64 - 1) (by decide) (digs L) hd 0 (Nat.zero_le _)
  have hB : Lib.parseUintB 64 (digs L) = if decF 0 (digs L) ≤ 2 ^ 64 - 1 then .ok (decF 0 (digs L)) else .range := by
    unfold Lib.parseUintB; rw [if_neg hne]; exact hp
  cases L with
  | nil => exact absurd rfl hne
  | cons c r =>
    have e45 : (List.head? (c :: r) = some 45) ↔ c.toNat = 45 := by
      simp only [List.head?_cons, Option.some.injEq]
      constructor
      · rintro rfl; rfl
      · intro h; exact UInt8.toNat_inj.1 (by rw [h]; rfl)
    by_cases hs : c.toNat = 45
    · have hg : digs (c :: r) = r := by unfold digs; rw [if_pos (e45.2 hs)]; rfl
      have hn : numL (c :: r) = -(decF 0 r : Int) := by unfold numL; rw [if_pos (e45.2 hs), hg]
      have ht : (if c.toNat = 43 ∨ c.toNat = 45 then r else c :: r) = r := if_pos (Or.inr hs)
      rw [hg] at hB
      rw [hn]
      simp only [Lib.parseIntB, ht, hB]
      by_cases h1 : decF 0 r ≤ 2 ^ 64 - 1
      · rw [if_pos h1]
        simp only [hs, not_true_eq_false, false_and, if_false, true_and, if_true]
        by_cases h2 : 2 ^ (64 - 1) < decF 0 r
        · rw [if_pos h2, if_neg (by omega)]
        · rw [if_neg h2, if_pos (by omega)]
      · rw [if_neg h1, if_neg (by omega)]
    · have hg : digs (c :: r) = c :: r := by unfold digs; rw [if_neg (fun e => hs (e45.1 e))]
      have hn : numL (c :: r) = (decF 0 (c :: r) : Int) := by unfold numL; rw [if_neg (fun e => hs (e45.1 e)), hg]
      rw [hg] at hB hd
      have hc := (dig_iff c).1 (hd c (by simp))
      have ht : (if c.toNat = 43 ∨ c.toNat = 45 then r else c :: r) = c :: r := if_neg (by omega)
      rw [hn]
      simp only [Lib.parseIntB, ht, hB]
      by_cases h1 : decF 0 (c :: r) ≤ 2 ^ 64 - 1
      · rw [if_pos h1]
        simp only [hs, not_false_eq_true, true_and, false_and, if_false]
        by_cases h2 : 2 ^ (64 - 1) ≤ decF 0 (c :: r)
        · rw [if_pos h2, if_neg (by omega)]
        · rw [if_neg h2, if_pos (by omega)]
      · rw [if_neg h1, if_neg (by omega)]

theorem trim_digs (L : List UInt8) : Lib.trimPrefix L [45] = digs L := by
  unfold Lib.trimPrefix digs Lib.hasPrefix
  cases L with
  | nil => rfl
  | cons c r =>
    by_cases h : c = 45
    · subst h; rfl
    · have h1 : ¬ (45 : UInt8) = c := fun e => h e.symm
      simp [List.isPrefixOf, h, h1]

/-- what a range over a string reads where a byte below 128 stands, and where none does -/
theorem decode_low (s : ByteArray) (k : Nat) (hk : k < s.size) (h : (s.data.toList.getD k 0).toNat < 128) : Utf8.decode s k = ((s.data.toList.getD k 0).toNat, 1) := by
  have e : s.get! k = s.data.toList.getD k 0 := by
    rw [List.getD_eq_getElem?_getD, Array.getElem?_toList]
    rcases s with ⟨d⟩
    show d[k]! = _
    have hd : k < d.size := hk
    simp [hd]
  simp only [Utf8.decode, Nat.add_zero, e]
  rw [if_pos h]
theorem decode_high (s : ByteArray) (k : Nat) (hk : k < s.size) (h : ¬ (s.data.toList.getD k 0).toNat < 128) : 128 ≤ (Utf8.decode s k).1 := by
  have e : s.get! k = s.data.toList.getD k 0 := by
    rw [List.getD_eq_getElem?_getD, Array.getElem?_toList]
    rcases s with ⟨d⟩
    show d[k]! = _
    have hd : k < d.size := hk
    simp [hd]
  simp only [Utf8.decode, Nat.add_zero, e]
  rw [if_neg h]
  repeat' split
  all_goals simp_all [Utf8.runeError]
  all_goals omega
end De
end Go.Proofs.YtikfmgedmiocgaaGreatDoor
namespace Go.Proofs.YtikfmgedmiocgaaGreatDoor
namespace De

theorem toNat_dig (d : Nat) (h : d < 10) : (UInt8.ofNat (48 + d)).toNat = 48 + d := by
  rw [UInt8.toNat_ofNat']; omega
theorem dec_small' {M : Nat} (h : M < 10) : Lib.decDigits M = [UInt8.ofNat (48 + M)] := by rw [Lib.decDigits, dif_pos h]
theorem dec_big' {M : Nat} (h : ¬ M < 10) : Lib.decDigits M = Lib.decDigits (M / 10) ++ [UInt8.ofNat (48 + M % 10)] := by
  conv => lhs; rw [Lib.decDigits]
  rw [dif_neg h]
theorem dec_facts (N : Nat) : (∀ c ∈ Lib.decDigits N, isDig c = true) ∧ Lib.decDigits N ≠ [] ∧ (0 < N → (Lib.decDigits N).head? ≠ some 48) ∧ decF 0 (Lib.decDigits N) = N := by
  induction N using Nat.strongRecOn with
  | _ N ih =>
    by_cases h : N < 10
    · have ht := toNat_dig N h
      rw [dec_small' h]
      refine ⟨?_, by simp, ?_, ?_⟩
      · intro c hc
        obtain rfl := List.mem_singleton.1 hc
        exact (dig_iff _).2 (by omega)
      · intro hp he
        simp only [List.head?_cons, Option.some.injEq] at he
        have := congrArg UInt8.toNat he
        rw [ht] at this
        have h48 : (48 : UInt8).toNat = 48 := rfl
        omega
      · show 10 * 0 + ((UInt8.ofNat (48 + N)).toNat - 48) = N
        omega
    · obtain ⟨a, b, c, d⟩ := ih (N / 10) (by omega)
      have ht := toNat_dig (N % 10) (by omega)
      rw [dec_big' h]
      refine ⟨?_, by simp, ?_, ?_⟩
      · intro x hx
        rcases List.mem_append.1 hx with hx | hx
        · exact a x hx
        · obtain rfl := List.mem_singleton.1 hx
          exact (dig_iff _).2 (by omega)
      · intro _
        rw [List.head?_append]
        cases hd : Lib.decDigits (N / 10) with
        | nil => exact absurd hd b
        | cons x y =>
          have h1 := c (by omega)
          rw [hd] at h1
          simpa using h1
      · rw [decF_snoc, d]; omega
theorem dec_len {N k : Nat} (h : N < 10 ^ (k + 1)) : (Lib.decDigits N).length ≤ k + 1 := by
  induction k generalizing N with
  | zero => rw [dec_small' (by simpa using h)]; simp
  | succ k ih =>
    by_cases h10 : N < 10
    · rw [dec_small' h10]; simp
    · rw [dec_big' h10, List.length_append, List.length_singleton]
      have := ih (N := N / 10) (by rw [Nat.pow_succ] at h; omega)
      omega
theorem dec_form (N : Nat) : formD (Lib.decDigits N) = true := by
  obtain ⟨a, b, c, d⟩ := dec_facts N
  unfold formD
  simp only [Bool.and_eq_true, Bool.not_eq_true', List.all_eq_true, Bool.or_eq_true, decide_eq_true_eq]
  refine ⟨⟨by cases h : Lib.decDigits N with | nil => exact absurd h b | cons x y => rfl, a⟩, ?_⟩
  by_cases h : N < 10
  · left; rw [dec_small' h]; rfl
  · right
    have := c (by omega)
    rw [beq_eq_false_iff_ne]
    exact this
theorem dec_head (N : Nat) : (Lib.decDigits N).head? ≠ some 45 := by
  intro e
  obtain ⟨a, b, c, d⟩ := dec_facts N
  cases h : Lib.decDigits N with
  | nil => exact b h
  | cons x y =>
    rw [h] at e
    simp at e
    subst e
    have := (dig_iff _).1 (a 45 (by rw [h]; simp))
    have h45 : (45 : UInt8).toNat = 45 := rfl
    omega
theorem itoa_form (n : Int) : form (Lib.itoa n) = true ∧ numL (Lib.itoa n) = n := by
  unfold Lib.itoa
  by_cases h : n < 0
  · rw [if_pos h]
    have hg : digs (45 :: Lib.decDigits n.natAbs) = Lib.decDigits n.natAbs := rfl
    refine ⟨by unfold form; rw [hg]; exact dec_form _, ?_⟩
    unfold numL
    rw [if_pos (show (45 :: Lib.decDigits n.natAbs).head? = some 45 from rfl), hg, (dec_facts _).2.2.2]
    omega
  · rw [if_neg h]
    have hg : digs (Lib.decDigits n.toNat) = Lib.decDigits n.toNat := by unfold digs; rw [if_neg (dec_head _)]
    refine ⟨by unfold form; rw [hg]; exact dec_form _, ?_⟩
    unfold numL
    rw [if_neg (dec_head _), hg, (dec_facts _).2.2.2]
    omega
theorem itoa_len {n : Int} (h : In64 n) : (Lib.itoa n).length ≤ 30 := by
  unfold In64 at h
  have h1 : n.natAbs < 10 ^ (19 + 1) := by have : (10 : Nat) ^ (19 + 1) = 100000000000000000000 := by decide
                                           omega
  unfold Lib.itoa
  by_cases h0 : n < 0
  · rw [if_pos h0, List.length_cons]
    have := dec_len h1
    omega
  · rw [if_neg h0]
    have := dec_len (N := n.toNat) (k := 19) (by omega)
    omega
end De
end Go.Proofs.YtikfmgedmiocgaaGreatDoor
namespace Go.Proofs.YtikfmgedmiocgaaGreatDoor.W2
open Go.RowKit

theorem ret_num {k m : IntKind} {a b c d : Int} (h : a = b) (g : c = d) : Ending.returned (.tuple #[.int k a, .int m c]) = .returned (.tuple #[.int k b, .int m d]) := by rw [h, g]
theorem ret_bool {a b : Bool} (h : a = b) : Ending.returned (.bool a) = .returned (.bool b) := by rw [h]
theorem ret_int {k : IntKind} {a b : Int} (h : a = b) : Ending.returned (.int k a) = .returned (.int k b) := by rw [h]

theorem add_ok (a b : Int) (w : World) (ha : In64 a) (hb : In64 b) (h : In64 (a + b)) : Calls Tryz.prog 138 #[.int .i64 a, .int .i64 b] w fun e w' => e = .returned (.tuple #[.int .i64 (a + b), .int .i64 0]) ∧ w = w' := by
  obtain ⟨a1, a2⟩ := ha
  obtain ⟨b1, b2⟩ := hb
  obtain ⟨h1, h2⟩ := h
  by_cases hp : 0 < b
  · have t1 : decide (a < (a + b)) = true := decide_eq_true (by omega)
    have t2 : decide (0 < b) = true := decide_eq_true hp
    go_enter Tryz.func138, Tryz.ntmps138
    go_wp2_with fail
    go_ret2
    exact ⟨rfl, rfl⟩
  · have t1 : decide (a < (a + b)) = false := decide_eq_false (by omega)
    have t2 : decide (0 < b) = false := decide_eq_false hp
    go_enter Tryz.func138, Tryz.ntmps138
    go_wp2_with fail
    go_ret2
    exact ⟨rfl, rfl⟩
theorem add_over (a b : Int) (w : World) (ha : In64 a) (hb : In64 b) (h : ¬ In64 (a + b)) : Calls Tryz.prog 138 #[.int .i64 a, .int .i64 b] w fun e w' => e = .returned (.tuple #[.int .i64 0, .int .i64 11]) ∧ w = w' := by
  unfold In64 at *
  by_cases hp : 0 < b
  · have t1 : decide (a < wrap64 (a + b)) = false := decide_eq_false (by unfold wrap64; omega)
    have t2 : decide (0 < b) = true := decide_eq_true hp
    clear ha hb h
    go_enter Tryz.func138, Tryz.ntmps138
    go_wp2_with fail
    go_ret2
    exact ⟨rfl, rfl⟩
  · have t1 : decide (a < wrap64 (a + b)) = true := decide_eq_true (by unfold wrap64; omega)
    have t2 : decide (0 < b) = false := decide_eq_false hp
    clear ha hb h
    go_enter Tryz.func138, Tryz.ntmps138
    go_wp2_with fail
    go_ret2
    exact ⟨rfl, rfl⟩
theorem sub_ok (a b : Int) (w : World) (ha : In64 a) (hb : In64 b) (h : In64 (a - b)) : Calls Tryz.prog 139 #[.int .i64 a, .int .i64 b] w fun e w' => e = .returned (.tuple #[.int .i64 (a - b), .int .i64 0]) ∧ w = w' := by
  obtain ⟨a1, a2⟩ := ha
  obtain ⟨b1, b2⟩ := hb
  obtain ⟨h1, h2⟩ := h
  by_cases hp : 0 < b
  · have t1 : decide ((a - b) < a) = true := decide_eq_true (by omega)
    have t2 : decide (0 < b) = true := decide_eq_true hp
    go_enter Tryz.func139, Tryz.ntmps139
    go_wp2_with fail
    go_ret2
    exact ⟨rfl, rfl⟩
  · have t1 : decide ((a - b) < a) = false := decide_eq_false (by omega)
    have t2 : decide (0 < b) = false := decide_eq_false hp
    go_enter Tryz.func139, Tryz.ntmps139
    go_wp2_with fail
    go_ret2
    exact ⟨rfl, rfl⟩
theorem sub_over (a b : Int) (w : World) (ha : In64 a) (hb : In64 b) (h : ¬ In64 (a - b)) : Calls Tryz.prog 139 #[.int .i64 a, .int .i64 b] w fun e w' => e = .returned (.tuple #[.int .i64 0, .int .i64 11]) ∧ w = w' := by
  unfold In64 at *
  by_cases hp : 0 < b
  · have t1 : decide (wrap64 (a - b) < a) = false := decide_eq_false (by unfold wrap64; omega)
    have t2 : decide (0 < b) = true := decide_eq_true hp
    clear ha hb h
    go_enter Tryz.func139, Tryz.ntmps139
    go_wp2_with fail
    go_ret2
    exact ⟨rfl, rfl⟩
  · have t1 : decide (wrap64 (a - b) < a) = true := decide_eq_true (by unfold wrap64; omega)
    have t2 : decide (0 < b) = false := decide_eq_false hp
    clear ha hb h
    go_enter Tryz.func139, Tryz.ntmps139
    go_wp2_with fail
    go_ret2
    exact ⟨rfl, rfl⟩

theorem neg_ok (a : Int) (w : World) (ha : In64 a) (h : a ≠ -9223372036854775808) : Calls Tryz.prog 143 #[.int .i64 a] w fun e w' => e = .returned (.tuple #[.int .i64 (-a), .int .i64 0]) ∧ w = w' := by
  obtain ⟨a1, a2⟩ := ha
  have t1 : (a == -9223372036854775808) = false := by simp; exact h
  have h3 : -9223372036854775808 < a := by omega
  clear h
  go_enter Tryz.func143, Tryz.ntmps143
  go_wp2_with fail
  go_ret2
  exact ⟨rfl, rfl⟩
theorem neg_over (w : World) : Calls Tryz.prog 143 #[.int .i64 (-9223372036854775808)] w fun e w' => e = .returned (.tuple #[.int .i64 0, .int .i64 11]) ∧ w = w' := by
  go_enter Tryz.func143, Tryz.ntmps143
  go_wp2_with fail
  go_ret2
  exact ⟨rfl, rfl⟩

theorem mul_zero (a : Int) (w : World) : Calls Tryz.prog 140 #[.int .i64 a, .int .i64 0] w fun e w' => e = .returned (.tuple #[.int .i64 0, .int .i64 0]) ∧ w = w' := by
  go_enter Tryz.func140, Tryz.ntmps140
  go_wp2_with fail
  go_ret2
  exact ⟨rfl, rfl⟩
theorem mul_ok (a b : Int) (w : World) (ha : In64 a) (hb : In64 b) (h : In64 (a * b)) : Calls Tryz.prog 140 #[.int .i64 a, .int .i64 b] w fun e w' => e = .returned (.tuple #[.int .i64 (a * b), .int .i64 0]) ∧ w = w' := by
  by_cases h0 : b = 0
  · subst h0; rw [Int.mul_zero]; exact mul_zero a w
  · by_cases h1 : b = -1
    · subst h1
      have e : a * -1 = -a := by omega
      rw [e] at h ⊢
      have hm : a ≠ -9223372036854775808 := by unfold In64 at h; omega
      have Ha := Lib.hid ha
      clear hb h h0 e ha
      go_enter Tryz.func140, Tryz.ntmps140
      go_wp2_with (go_at_call 143; refine (neg_ok _ _ Ha.out hm).mono ?_; rintro e w' ⟨rfl, rfl⟩)
      go_ret2
      exact ⟨rfl, rfl⟩
    · have t0 : (b == 0) = false := by simp; exact h0
      have t1 : (b == -1) = false := by simp; exact h1
      have hq := mul_back a b h0 h
      have hqi := tdiv_in (a * b) b h h1
      have hw : wrap64 (a * b) = a * b := by unfold In64 at h; unfold wrap64; omega
      rw [hw] at hq
      rw [hq] at hqi
      obtain ⟨q1, q2⟩ := hqi
      obtain ⟨p1, p2⟩ := h
      have hq' : IntKind.i64.wrap ((a * b).tdiv b) = a := by rw [hq]; exact IntWalk.i64_in _ (by omega)
      have hw' : wrap64 ((a * b).tdiv b) = a := by rw [hq]; unfold wrap64; omega
      have t2 : (a != a) = false := by simp
      clear h1 ha hb hw hq
      go_enter Tryz.func140, Tryz.ntmps140
      go_wp2_with fail
      go_ret2
      exact ⟨rfl, rfl⟩
theorem mul_over (a b : Int) (w : World) (ha : In64 a) (hb : In64 b) (h : ¬ In64 (a * b)) : Calls Tryz.prog 140 #[.int .i64 a, .int .i64 b] w fun e w' => e = .returned (.tuple #[.int .i64 0, .int .i64 11]) ∧ w = w' := by
  have h0 : ¬ b = 0 := by rintro rfl; apply h; rw [Int.mul_zero]; constructor <;> decide
  by_cases h1 : b = -1
  · subst h1
    have e : a = -9223372036854775808 := by unfold In64 at *; omega
    subst e
    clear ha hb h h0
    go_enter Tryz.func140, Tryz.ntmps140
    go_wp2_with (go_at_call 143; refine (neg_over _).mono ?_; rintro e w' ⟨rfl, rfl⟩)
    go_ret2
    exact ⟨rfl, rfl⟩
  · have t0 : (b == 0) = false := by simp; exact h0
    have t1 : (b == -1) = false := by simp; exact h1
    have hq := mul_lost a b h0 hb h
    have hqi := tdiv_in (wrap64 (a * b)) b (by unfold In64 wrap64; omega) h1
    have hq' : IntKind.i64.wrap ((wrap64 (a * b)).tdiv b) = (wrap64 (a * b)).tdiv b := IntWalk.i64_in _ hqi
    have hw' : wrap64 ((wrap64 (a * b)).tdiv b) = (wrap64 (a * b)).tdiv b := by have := hqi; unfold In64 at this; generalize (wrap64 (a * b)).tdiv b = x at *; unfold wrap64; omega
    have t2 : (((wrap64 (a * b)).tdiv b) != a) = true := by simp; exact hq
    clear h1 ha hb hq hqi h
    go_enter Tryz.func140, Tryz.ntmps140
    go_wp2_with fail
    go_ret2
    exact ⟨rfl, rfl⟩

theorem div_zero (a : Int) (w : World) : Calls Tryz.prog 141 #[.int .i64 a, .int .i64 0] w fun e w' => e = .returned (.tuple #[.int .i64 0, .int .i64 10]) ∧ w = w' := by
  go_enter Tryz.func141, Tryz.ntmps141
  go_wp2_with fail
  go_ret2
  exact ⟨rfl, rfl⟩
theorem mod_zero (a : Int) (w : World) : Calls Tryz.prog 142 #[.int .i64 a, .int .i64 0] w fun e w' => e = .returned (.tuple #[.int .i64 0, .int .i64 10]) ∧ w = w' := by
  go_enter Tryz.func142, Tryz.ntmps142
  go_wp2_with fail
  go_ret2
  exact ⟨rfl, rfl⟩
theorem div_over (w : World) : Calls Tryz.prog 141 #[.int .i64 (-9223372036854775808), .int .i64 (-1)] w fun e w' => e = .returned (.tuple #[.int .i64 0, .int .i64 11]) ∧ w = w' := by
  go_enter Tryz.func141, Tryz.ntmps141
  go_wp2_with (go_at_call 143; refine (neg_over _).mono ?_; rintro e w' ⟨rfl, rfl⟩)
  go_ret2
  exact ⟨rfl, rfl⟩
theorem div_ok (a b : Int) (w : World) (ha : In64 a) (hb : b ≠ 0) (h : ¬ (a = -9223372036854775808 ∧ b = -1)) : Calls Tryz.prog 141 #[.int .i64 a, .int .i64 b] w fun e w' => e = .returned (.tuple #[.int .i64 (a.tdiv b), .int .i64 0]) ∧ w = w' := by
  by_cases h1 : b = -1
  · subst h1
    have e : a.tdiv (-1) = -a := by rw [Int.tdiv_neg, Int.tdiv_one]
    have hm : a ≠ -9223372036854775808 := by omega
    rw [e]
    have Ha := Lib.hid ha
    clear hb h e ha
    go_enter Tryz.func141, Tryz.ntmps141
    go_wp2_with (go_at_call 143; refine (neg_ok _ _ Ha.out hm).mono ?_; rintro e w' ⟨rfl, rfl⟩)
    go_ret2
    exact ⟨rfl, rfl⟩
  · have t0 : (b == 0) = false := by simp; exact hb
    have t1 : (b == -1) = false := by simp; exact h1
    have hqi := tdiv_in a b ha h1
    have hq' : IntKind.i64.wrap (a.tdiv b) = a.tdiv b := IntWalk.i64_in _ hqi
    have h0 : ¬ b = 0 := hb
    clear h1 ha hb hqi h
    go_enter Tryz.func141, Tryz.ntmps141
    go_wp2_with fail
    go_ret2
    exact ⟨rfl, rfl⟩
theorem mod_ok (a b : Int) (w : World) (ha : In64 a) (hb : b ≠ 0) : Calls Tryz.prog 142 #[.int .i64 a, .int .i64 b] w fun e w' => e = .returned (.tuple #[.int .i64 (a.tmod b), .int .i64 0]) ∧ w = w' := by
  have t0 : (b == 0) = false := by simp; exact hb
  have hqi := tmod_in a b ha
  have hq' : IntKind.i64.wrap (a.tmod b) = a.tmod b := IntWalk.i64_in _ hqi
  have h0 : ¬ b = 0 := hb
  clear ha hb hqi
  go_enter Tryz.func142, Tryz.ntmps142
  go_wp2_with fail
  go_ret2
  exact ⟨rfl, rfl⟩

theorem in_of (a : Int) (h : (Lit.int .i64 a).wf = true) : In64 a := by
  simp [Lit.wf, IntKind.min, IntKind.max, IntKind.signed, IntKind.bits] at h
  exact h

/-- the same, what comes out under a name -/
theorem add_is (a b n : Int) (w : World) (ha : In64 a) (hb : In64 b) (h : In64 n) (e : a + b = n) : Calls Tryz.prog 138 #[.int .i64 a, .int .i64 b] w fun e w' => e = .returned (.tuple #[.int .i64 n, .int .i64 0]) ∧ w = w' := by
  subst e; exact add_ok a b w ha hb h
theorem sub_is (a b n : Int) (w : World) (ha : In64 a) (hb : In64 b) (h : In64 n) (e : a - b = n) : Calls Tryz.prog 139 #[.int .i64 a, .int .i64 b] w fun e w' => e = .returned (.tuple #[.int .i64 n, .int .i64 0]) ∧ w = w' := by
  subst e; exact sub_ok a b w ha hb h
theorem mul_is (a b n : Int) (w : World) (ha : In64 a) (hb : In64 b) (h : In64 n) (e : a * b = n) : Calls Tryz.prog 140 #[.int .i64 a, .int .i64 b] w fun e w' => e = .returned (.tuple #[.int .i64 n, .int .i64 0]) ∧ w = w' := by
  subst e; exact mul_ok a b w ha hb h
theorem div_is (a b n : Int) (w : World) (ha : In64 a) (hb : b ≠ 0) (h : ¬ (a = -9223372036854775808 ∧ b = -1)) (e : a.tdiv b = n) : Calls Tryz.prog 141 #[.int .i64 a, .int .i64 b] w fun e w' => e = .returned (.tuple #[.int .i64 n, .int .i64 0]) ∧ w = w' := by
  subst e; exact div_ok a b w ha hb h
theorem mod_is (a b n : Int) (w : World) (ha : In64 a) (hb : b ≠ 0) (e : a.tmod b = n) : Calls Tryz.prog 142 #[.int .i64 a, .int .i64 b] w fun e w' => e = .returned (.tuple #[.int .i64 n, .int .i64 0]) ∧ w = w' := by
  subst e; exact mod_ok a b w ha hb
end Go.Proofs.YtikfmgedmiocgaaGreatDoor.W2
