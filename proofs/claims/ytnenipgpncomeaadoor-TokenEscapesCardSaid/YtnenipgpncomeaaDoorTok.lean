/- The tokens of a text: plain mathematics. -/
import Derived.Test.YtnenipgpncomeaaDoorSpan
import Derived.Test.YtnenipgpncomeaaDoorPlain
import Derived.Test.YtnenipgpncomeaaDoorSplit
import Derived.Test.YtnenipgpncomeaaDoorDec
namespace Go.Proofs.YtnenipgpncomeaaDoor.Tk
open Pl

structure Tok where
  kind : Int
  text : ByteArray
  num : Int
  at_ : Nat
  fin : Nat
/-- an answer: a token, or a place and an error -/
inductive Ans where
  | tok (t : Tok)
  | err (p : Nat) (e : Int)
def nix : ByteArray := ⟨#[]⟩
def isMark (c : Nat) : Bool := c == 123 || c == 125 || c == 91 || c == 93 || c == 58 || c == 44
def one (c : Nat) : ByteArray := ⟨#[c.toUInt8]⟩
/-- behind a word's bytes, as far as they stand there -/
def wordE (s : ByteArray) : List Nat → Nat → Nat
  | [], i => i
  | c :: r, i => if bt s i = c then wordE s r (i + 1) else i
theorem wordE_ge (s : ByteArray) : ∀ l i, i ≤ wordE s l i := by
  intro l
  induction l with
  | nil => intro i; exact Nat.le_refl _
  | cons c r ih => intro i; unfold wordE; split; exact Nat.le_trans (Nat.le_succ i) (ih _); exact Nat.le_refl _
theorem wordE_le (s : ByteArray) : ∀ l i, wordE s l i ≤ i + l.length := by
  intro l
  induction l with
  | nil => intro i; exact Nat.le_refl _
  | cons c r ih => intro i; unfold wordE; split; (have := ih (i + 1); simp; omega); simp
theorem wordE_size {s : ByteArray} : ∀ l i, (∀ c ∈ l, c ≠ 0) → i ≤ s.size → wordE s l i ≤ s.size := by
  intro l
  induction l with
  | nil => intro i _ h; exact h
  | cons c r ih =>
    intro i hc h
    unfold wordE
    split
    · rename_i hb
      have h1 := lt_of_bt (s := s) (i := i) (by rw [hb]; exact hc c List.mem_cons_self)
      exact ih (i + 1) (fun c hm => hc c (List.mem_cons_of_mem _ hm)) h1
    · exact h
def wordOf (c : Nat) : List Nat := if c = 116 then [116, 114, 117, 101] else if c = 102 then [102, 97, 108, 115, 101] else [110, 117, 108, 108]
def kindOf (c : Nat) : Int := if c = 116 then 4 else if c = 102 then 5 else 6
def wordAns (s : ByteArray) (a : Nat) : Ans :=
  if wordE s (wordOf (bt s a)) a = a + (wordOf (bt s a)).length then .tok ⟨kindOf (bt s a), nix, 0, a, a + (wordOf (bt s a)).length⟩ else .err (wordE s (wordOf (bt s a)) a) 1

/-- behind a number's text; false: it is none, and the place is that of what can't stand there -/
def signE (s : ByteArray) (a : Nat) : Nat := if bt s a = 45 then a + 1 else a
def intE (s : ByteArray) (a : Nat) : Nat := if bt s (signE s a) = 48 then signE s a + 1 else span isDg s (signE s a)
def intB (s : ByteArray) (a : Nat) : Bool := isDg (bt s (signE s a))
def fracE (s : ByteArray) (b : Nat) : Nat := if bt s b = 46 then span isDg s (b + 1) else b
def fracB (s : ByteArray) (b : Nat) : Bool := !(bt s b == 46) || isDg (bt s (b + 1))
def isE (c : Nat) : Bool := c == 101 || c == 69
def isSg (c : Nat) : Bool := c == 43 || c == 45
def expS (s : ByteArray) (f : Nat) : Nat := if isSg (bt s (f + 1)) = true then f + 2 else f + 1
def expE (s : ByteArray) (f : Nat) : Nat := if isE (bt s f) = true then span isDg s (expS s f) else f
def expB (s : ByteArray) (f : Nat) : Bool := !isE (bt s f) || isDg (bt s (expS s f))
def sub (s : ByteArray) (a b : Nat) : ByteArray := s.extract a b
def In64 (z : Int) : Prop := -9223372036854775808 ≤ z ∧ z ≤ 9223372036854775807
instance (z : Int) : Decidable (In64 z) := by unfold In64; infer_instance
def numAns (s : ByteArray) (a : Nat) : Ans :=
  if intB s a = false then .err (intE s a) 1
  else if fracB s (intE s a) = false then .err (fracE s (intE s a)) 1
  else if expB s (fracE s (intE s a)) = false then .err (expE s (fracE s (intE s a))) 1
  else if intE s a < expE s (fracE s (intE s a)) then .err a 4
  else if In64 (De.numL (sub s a (intE s a)).data.toList) then .tok ⟨3, nix, De.numL (sub s a (intE s a)).data.toList, a, intE s a⟩
  else .err a 4

/-- a character of a text: a point and the place behind it, or what is wrong -/
inductive Ch where
  | pt (n : Int) (e : Nat)
  | bad (p : Nat) (c : Int)
def shortOf (c : Nat) : Option Int :=
  if c = 34 then some 34 else if c = 92 then some 92 else if c = 47 then some 47 else if c = 98 then some 8 else if c = 102 then some 12 else if c = 110 then some 10 else if c = 114 then some 13 else if c = 116 then some 9 else none
def isHigh (n : Int) : Bool := decide (55296 ≤ n ∧ n < 56320)
def isLow (n : Int) : Bool := decide (56320 ≤ n ∧ n < 57344)
/-- the escape \u at p: four digits behind it -/
def uniCh (s : ByteArray) (p : Nat) : Ch :=
  if (four s (p + 2)).1 < 0 then .bad (four s (p + 2)).2 1
  else if pt (four s (p + 2)).1 = true then .pt (four s (p + 2)).1 (four s (p + 2)).2
  else if isHigh (four s (p + 2)).1 = true ∧ bt s (p + 6) = 92 ∧ bt s (p + 7) = 117 ∧ isLow (four s (p + 8)).1 = true then
    .pt (65536 + ((four s (p + 2)).1 - 55296) * 1024 + ((four s (p + 8)).1 - 56320)) (p + 12)
  else .bad p 3
def escCh (s : ByteArray) (p : Nat) : Ch :=
  match shortOf (bt s (p + 1)) with
  | some n => .pt n (p + 2)
  | none => if bt s (p + 1) = 117 then uniCh s p else .bad (p + 1) 1
def rawCh (s : ByteArray) (p : Nat) : Ch :=
  if ok (s.data.toList.drop p) = true then .pt ((decL (s.data.toList.drop p)).1 : Nat) (p + (decL (s.data.toList.drop p)).2) else .bad p 2
def chAt (s : ByteArray) (p : Nat) : Ch :=
  if s.size ≤ p ∨ bt s p < 32 then .bad p 1 else if bt s p = 92 then escCh s p else rawCh s p
/-- what a character's answer is: a point, in the text still -/
theorem shortOf_pt {c : Nat} {n : Int} (h : shortOf c = some n) : pt n = true ∧ c ≠ 0 := by
  unfold shortOf at h
  repeat' split at h
  all_goals first
    | (injection h with h; subst h; subst_vars; decide)
    | cases h
theorem uniCh_pt {s : ByteArray} {p : Nat} {n : Int} {e : Nat} (h : uniCh s p = .pt n e) : pt n = true ∧ p < e ∧ e ≤ s.size := by
  unfold uniCh at h
  split at h
  · cases h
  · rename_i h0
    have h1 := four_range s (p + 2)
    split at h
    · rename_i h2
      injection h with h3 h4
      subst h3 h4
      exact ⟨h2, by omega, by omega⟩
    · split at h
      · rename_i h2 h3
        injection h with h4 h5
        subst h4 h5
        obtain ⟨a, b, c, d⟩ := h3
        have h6 := four_range s (p + 8)
        simp only [isHigh, isLow, decide_eq_true_eq] at a d
        refine ⟨?_, by omega, by omega⟩
        rw [pt_iff]; right; omega
      · cases h
theorem chAt_pt {s : ByteArray} {p : Nat} {n : Int} {e : Nat} (h : chAt s p = .pt n e) : pt n = true ∧ p < e ∧ e ≤ s.size := by
  unfold chAt at h
  split at h
  · cases h
  · rename_i h0
    split at h
    · unfold escCh at h
      split at h
      · rename_i m hm
        injection h with h1 h2
        subst h1 h2
        obtain ⟨a, b⟩ := shortOf_pt hm
        exact ⟨a, by omega, by have := lt_of_bt b; omega⟩
      · split at h
        · exact uniCh_pt h
        · cases h
    · unfold rawCh at h
      split at h
      · rename_i h1
        injection h with h2 h3
        subst h2 h3
        obtain ⟨a, b, c⟩ := enc_of_ok _ h1
        have h4 := enc_len ((decL (s.data.toList.drop p)).1 : Int)
        have h5 := congrArg List.length b
        rw [List.length_append, c, List.length_drop, size_toList] at h5
        exact ⟨a, by omega, by omega⟩
      · cases h
/-- a text's points from p on, behind those of acc; the place behind its end, or what is wrong -/
inductive St where
  | pts (l : List Int) (e : Nat)
  | bad (p : Nat) (c : Int)
def strF (s : ByteArray) : Nat → Nat → List Int → St
  | 0, p, _ => .bad p 1
  | n + 1, p, acc => if bt s p = 34 then .pts acc (p + 1) else
    match chAt s p with
    | .pt m e => strF s n e (acc ++ [m])
    | .bad q c => .bad q c
def str (s : ByteArray) (p : Nat) (acc : List Int) : St := strF s (s.size + 1 - p) p acc
theorem strF_more (s : ByteArray) : ∀ n p acc, s.size + 1 - p ≤ n → p ≤ s.size → strF s n p acc = str s p acc := by
  have key : ∀ n m p acc, s.size + 1 - p ≤ n → s.size + 1 - p ≤ m → p ≤ s.size → strF s n p acc = strF s m p acc := by
    intro n
    induction n with
    | zero => intro m p acc h1 h2 h3; omega
    | succ n ih =>
      intro m p acc h1 h2 h3
      obtain ⟨m, rfl⟩ : ∃ k, m = k + 1 := ⟨m - 1, by omega⟩
      unfold strF
      split
      · rfl
      · split
        · rename_i k e hk
          obtain ⟨_, h4, h5⟩ := chAt_pt hk
          exact ih m e _ (by omega) (by omega) h5
        · rfl
  intro n p acc h1 h2
  exact key _ _ _ _ h1 (Nat.le_refl _) h2
theorem str_end {s : ByteArray} {p : Nat} {acc : List Int} (hp : p ≤ s.size) (h : bt s p = 34) : str s p acc = .pts acc (p + 1) := by
  unfold str
  obtain ⟨n, hn⟩ : ∃ n, s.size + 1 - p = n + 1 := ⟨s.size - p, by omega⟩
  rw [hn]; simp [strF, h]
theorem str_pt {s : ByteArray} {p : Nat} {acc : List Int} {m : Int} {e : Nat} (hp : p ≤ s.size) (h : bt s p ≠ 34) (hc : chAt s p = .pt m e) : str s p acc = str s e (acc ++ [m]) := by
  obtain ⟨_, h4, h5⟩ := chAt_pt hc
  have e1 : str s p acc = strF s (s.size + 1 - p) p acc := rfl
  obtain ⟨n, hn⟩ : ∃ n, s.size + 1 - p = n + 1 := ⟨s.size - p, by omega⟩
  rw [e1, hn]
  unfold strF
  rw [if_neg h, hc]
  exact strF_more s n e _ (by omega) h5
theorem str_bad {s : ByteArray} {p : Nat} {acc : List Int} {q : Nat} {c : Int} (hp : p ≤ s.size) (h : bt s p ≠ 34) (hc : chAt s p = .bad q c) : str s p acc = .bad q c := by
  unfold str
  obtain ⟨n, hn⟩ : ∃ n, s.size + 1 - p = n + 1 := ⟨s.size - p, by omega⟩
  rw [hn]; simp [strF, h, hc]
def textOf (l : List Int) : ByteArray := ⟨(flat l).toArray⟩
def strAns (s : ByteArray) (a : Nat) : Ans :=
  match str s (a + 1) [] with
  | .pts l e => .tok ⟨2, textOf l, 0, a, e⟩
  | .bad q c => .err q c
/-- the token that stands at a, where no blank stands -/
def ansAt (s : ByteArray) (a : Nat) : Ans :=
  if s.size ≤ a then .tok ⟨0, nix, 0, a, a⟩
  else if isMark (bt s a) = true then .tok ⟨1, one (bt s a), 0, a, a + 1⟩
  else if bt s a = 34 then strAns s a
  else if bt s a = 45 ∨ isDg (bt s a) = true then numAns s a
  else if bt s a = 116 ∨ bt s a = 102 ∨ bt s a = 110 then wordAns s a
  else .err a 1
/-- the token behind a place -/
def next (s : ByteArray) (i : Nat) : Ans := ansAt s (span isBl s i)
end Go.Proofs.YtnenipgpncomeaaDoor.Tk
