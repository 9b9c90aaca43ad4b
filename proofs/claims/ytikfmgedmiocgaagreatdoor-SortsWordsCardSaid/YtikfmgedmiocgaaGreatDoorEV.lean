/- The trees of two small texts: plain mathematics. A text in quotation marks, a value's text: plain mathematics. A tree's text: plain mathematics. -/
import Derived.Test.YtikfmgedmiocgaaGreatDoorEA
import Derived.KernelRfl
import Derived.Test.YtikfmgedmiocgaaGreatDoorMA
import Derived.Lib.ItoaNum
import Derived.Lib.Bytealg
namespace Go.Proofs.YtikfmgedmiocgaaGreatDoor.Ex
open Tk
set_option linter.unusedVariables false

def numE (n : Int) : E := litE (Rd.numT n)
def awk8 : E := .mk plusB nix Rd.nulT [numE 1, .mk starB nix Rd.nulT [numE 2, .mk varB ⟨#[120]⟩ Rd.nulT []]]
def awk9 : E := .mk plusB nix Rd.nulT [.mk getB ⟨#[97]⟩ Rd.nulT [.mk thisB nix Rd.nulT []], numE 1]
set_option maxRecDepth 100000 in
theorem parse_awk8 : parse ⟨#[49, 32, 43, 32, 50, 32, 42, 32, 120]⟩ = .ok awk8 0 := by kernel_rfl
set_option maxRecDepth 100000 in
theorem parse_awk9 : parse ⟨#[116, 104, 105, 115, 46, 97, 32, 43, 32, 49]⟩ = .ok awk9 0 := by kernel_rfl
end Go.Proofs.YtikfmgedmiocgaaGreatDoor.Ex
namespace Go.Proofs.YtikfmgedmiocgaaGreatDoor
set_option linter.unusedVariables false
namespace Q

/-- a digit of base sixteen -/
def hex (d : UInt8) : UInt8 := if d < 10 then 48 + d else 87 + d
/-- how a byte stands in quotation marks -/
def esc (c : UInt8) : List UInt8 :=
  if c = 34 then [92, 34] else if c = 92 then [92, 92] else if c = 8 then [92, 98] else if c = 12 then [92, 102] else if c = 10 then [92, 110] else if c = 13 then [92, 114] else if c = 9 then [92, 116]
  else if c < 32 then [92, 117, 48, 48, hex (c / 16), hex (c % 16)] else [c]
/-- a text in quotation marks -/
def quo (l : List UInt8) : List UInt8 := 34 :: (l.flatMap esc ++ [34])
def unhex (d : UInt8) : UInt8 := if d < 58 then d - 48 else d - 87
/-- what an escape stands for -/
def unesc : List UInt8 → UInt8
  | [a] => a
  | [_, b] => if b = 98 then 8 else if b = 102 then 12 else if b = 110 then 10 else if b = 114 then 13 else if b = 116 then 9 else b
  | [_, _, _, _, p, q] => unhex p * 16 + unhex q
  | _ => 0
theorem unesc_all : ∀ n : Fin 256, unesc (esc (UInt8.ofNat n.val)) = UInt8.ofNat n.val := by decide +kernel
theorem unesc_esc (c : UInt8) : unesc (esc c) = c := by
  have := unesc_all ⟨c.toNat, c.toNat_lt⟩
  simpa using this
theorem esc_inj {c d : UInt8} (h : esc c = esc d) : c = d := by rw [← unesc_esc c, h, unesc_esc]
theorem esc_shape (c : UInt8) : (∃ a, esc c = [a] ∧ a ≠ 92 ∧ a ≠ 34) ∨ (∃ b, esc c = [92, b] ∧ b ≠ 117) ∨ ∃ p q, esc c = [92, 117, 48, 48, p, q] := by
  unfold esc
  split
  · exact .inr (.inl ⟨34, rfl, by decide⟩)
  split
  · exact .inr (.inl ⟨92, rfl, by decide⟩)
  split
  · exact .inr (.inl ⟨98, rfl, by decide⟩)
  split
  · exact .inr (.inl ⟨102, rfl, by decide⟩)
  split
  · exact .inr (.inl ⟨110, rfl, by decide⟩)
  split
  · exact .inr (.inl ⟨114, rfl, by decide⟩)
  split
  · exact .inr (.inl ⟨116, rfl, by decide⟩)
  split
  · exact .inr (.inr ⟨_, _, rfl⟩)
  · rename_i h1 h2 _ _ _ _ _ _
    exact .inl ⟨c, rfl, h2, h1⟩
theorem esc_len (c : UInt8) : (esc c).length ≤ 6 := by
  rcases esc_shape c with ⟨a, h, _⟩ | ⟨b, h, _⟩ | ⟨p, q, h⟩ <;> rw [h] <;> simp
theorem esc_split {c d : UInt8} {x y : List UInt8} (h : esc c ++ x = esc d ++ y) : c = d ∧ x = y := by
  have hl : (esc c).length = (esc d).length := by
    rcases esc_shape c with ⟨a, h1, a1, a2⟩ | ⟨b, h1, a1⟩ | ⟨p, q, h1⟩ <;> rcases esc_shape d with ⟨a', k1, b1, b2⟩ | ⟨b', k1, b1⟩ | ⟨p', q', k1⟩ <;> rw [h1, k1] at h ⊢ <;> simp at h ⊢
    · exact absurd h.1 a1
    · exact absurd h.1 a1
    · exact absurd h.1.symm b1
    · exact absurd h.1 a1
    · exact absurd h.1.symm b1
    · exact absurd h.1.symm b1
  obtain ⟨h1, h2⟩ := List.append_inj h hl
  exact ⟨esc_inj h1, h2⟩
theorem flat_inj : ∀ {a b : List UInt8}, a.flatMap esc ++ [34] = b.flatMap esc ++ [34] → a = b
  | [], [], _ => rfl
  | [], d :: b, h => by
    exfalso
    rcases esc_shape d with ⟨x, k, k1, k2⟩ | ⟨x, k, k1⟩ | ⟨p, q, k⟩ <;> simp [k] at h
  | c :: a, [], h => by
    exfalso
    rcases esc_shape c with ⟨x, k, k1, k2⟩ | ⟨x, k, k1⟩ | ⟨p, q, k⟩ <;> simp [k] at h
  | c :: a, d :: b, h => by
    simp only [List.flatMap_cons, List.append_assoc] at h
    obtain ⟨h1, h2⟩ := esc_split h
    rw [h1, flat_inj h2]
theorem quo_inj {a b : List UInt8} : quo a = quo b ↔ a = b := by
  constructor
  · intro h
    unfold quo at h
    injection h with _ h
    exact flat_inj h
  · intro h; rw [h]
theorem flat_len (l : List UInt8) : (l.flatMap esc).length ≤ 6 * l.length := by
  induction l with
  | nil => simp
  | cons c l ih => have := esc_len c; simp only [List.flatMap_cons, List.length_append, List.length_cons]; omega
theorem quo_len (l : List UInt8) : (quo l).length ≤ 6 * l.length + 2 := by
  have := flat_len l
  unfold quo
  simp only [List.length_cons, List.length_append, List.length_nil]; omega
end Q
namespace T
mutual
/-- a value's text -/
def txt : T → List UInt8
  | .mk k tr n s l ks => if k = 1 then (if tr then [116, 114, 117, 101] else [102, 97, 108, 115, 101]) else if k = 2 then Lib.itoa n else if k = 3 then Q.quo s.toList
      else if k = 4 then 91 :: (txts ks l 0 ++ [93]) else if k = 5 then 123 :: (txts ks l 0 ++ [125]) else [110, 117, 108, 108]
def txts : List ByteArray → List T → Nat → List UInt8
  | _, [], _ => []
  | ks, x :: r, i => (if i = 0 then [] else [44]) ++ ((match ks[i]? with | some q => Q.quo q.toList ++ [58] | none => []) ++ (x.txt ++ txts ks r (i + 1)))
end
theorem txt_eq (t : T) : t.txt = if t.kind = 1 then (if t.tr then [116, 114, 117, 101] else [102, 97, 108, 115, 101]) else if t.kind = 2 then Lib.itoa t.num else if t.kind = 3 then Q.quo t.str.toList
      else if t.kind = 4 then 91 :: (txts t.keys t.items 0 ++ [93]) else if t.kind = 5 then 123 :: (txts t.keys t.items 0 ++ [125]) else [110, 117, 108, 108] := by cases t; rfl
end T
end Go.Proofs.YtikfmgedmiocgaaGreatDoor
namespace Go.Proofs.YtikfmgedmiocgaaGreatDoor
namespace Q
/-- the points that have an escape of their own, and its letters -/
def P7 : List (UInt8 × UInt8) := [(34, 34), (92, 92), (8, 98), (12, 102), (10, 110), (13, 114), (9, 116)]
def escK (c : UInt8) (k : Nat) : List UInt8 := (P7.take k).flatMap fun pq => if pq.1 = c then [92, pq.2] else []
theorem escK_succ (c : UInt8) {k : Nat} {p : UInt8 × UInt8} (h : P7[k]? = some p) : escK c (k + 1) = escK c k ++ (if p.1 = c then [92, p.2] else []) := by
  unfold escK
  rw [List.take_add_one, h, List.flatMap_append]
  simp
theorem escK_all : ∀ n : Fin 256, esc (UInt8.ofNat n.val) = if escK (UInt8.ofNat n.val) 7 = [] then (if UInt8.ofNat n.val < 32 then [92, 117, 48, 48, hex (UInt8.ofNat n.val / 16), hex (UInt8.ofNat n.val % 16)] else [UInt8.ofNat n.val]) else escK (UInt8.ofNat n.val) 7 := by decide +kernel
theorem esc_K (c : UInt8) : esc c = if escK c 7 = [] then (if c < 32 then [92, 117, 48, 48, hex (c / 16), hex (c % 16)] else [c]) else escK c 7 := by
  have := escK_all ⟨c.toNat, c.toNat_lt⟩
  simpa using this
theorem hex_all : ∀ n : Fin 16, (hex (UInt8.ofNat n.val)).toNat = [48, 49, 50, 51, 52, 53, 54, 55, 56, 57, 97, 98, 99, 100, 101, 102][n.val]! := by decide +kernel
theorem idx_all : ∀ n : Fin 256, Lib.indexByte [34, 92, 8, 12, 10, 13, 9] (UInt8.ofNat n.val) = (if n.val = 34 then 0 else if n.val = 92 then 1 else if n.val = 8 then 2 else if n.val = 12 then 3 else if n.val = 10 then 4 else if n.val = 13 then 5 else if n.val = 9 then 6 else -1) := by decide +kernel
theorem idx_of (c : UInt8) : Lib.indexByte [34, 92, 8, 12, 10, 13, 9] c = (if c.toNat = 34 then 0 else if c.toNat = 92 then 1 else if c.toNat = 8 then 2 else if c.toNat = 12 then 3 else if c.toNat = 10 then 4 else if c.toNat = 13 then 5 else if c.toNat = 9 then 6 else -1) := by
  have := idx_all ⟨c.toNat, c.toNat_lt⟩
  simpa using this
end Q
end Go.Proofs.YtikfmgedmiocgaaGreatDoor
namespace Go.Proofs.YtikfmgedmiocgaaGreatDoor.Ex
open Tk
set_option linter.unusedVariables false

/-- what stands ahead of a tree's parts, between each two, and behind them -/
def ahead (e : E) : List UInt8 :=
  if eqb e.op litB = true then e.lit.txt else if eqb e.op thisB = true then thisB.data.toList else if eqb e.op varB = true then e.name.data.toList
  else if eqb e.op getB = true then [] else if eqb e.op atB = true then [] else if eqb e.op notB = true then [40, 110, 111, 116, 32] else if eqb e.op negB = true then [40, 45]
  else if 0 < argsN e.op then e.op.data.toList ++ [40] else [40]
def between (e : E) : List UInt8 :=
  if eqb e.op litB = true then [] else if eqb e.op thisB = true then [] else if eqb e.op varB = true then []
  else if eqb e.op getB = true then [] else if eqb e.op atB = true then [91] else if eqb e.op notB = true then [] else if eqb e.op negB = true then []
  else if 0 < argsN e.op then [44, 32] else [32] ++ e.op.data.toList ++ [32]
def behind (e : E) : List UInt8 :=
  if eqb e.op litB = true then [] else if eqb e.op thisB = true then [] else if eqb e.op varB = true then []
  else if eqb e.op getB = true then [46] ++ Q.quo e.name.data.toList else if eqb e.op atB = true then [93] else [41]
mutual
def E.pr : E → List UInt8
  | .mk o n v l => ahead (.mk o n v l) ++ (E.prs (between (.mk o n v l)) l 0 ++ behind (.mk o n v l))
def E.prs (sep : List UInt8) : List E → Nat → List UInt8
  | [], _ => []
  | x :: r, i => (if i = 0 then [] else sep) ++ (x.pr ++ E.prs sep r (i + 1))
end
theorem E.pr_eq (e : E) : e.pr = ahead e ++ (E.prs (between e) e.args 0 ++ behind e) := by cases e; rfl
theorem E.prs_append (sep : List UInt8) : ∀ (a b : List E) (i : Nat), E.prs sep (a ++ b) i = E.prs sep a i ++ E.prs sep b (i + a.length)
  | [], b, i => by simp [E.prs]
  | x :: a, b, i => by
    rw [List.cons_append, E.prs, E.prs, E.prs_append sep a b (i + 1), show i + 1 + a.length = i + (x :: a).length by simp; omega]
    simp only [List.append_assoc]
def gap (sep : List UInt8) (i : Nat) : List UInt8 := if i = 0 then [] else sep
theorem E.prs_take {sep : List UInt8} {l : List E} {j : Nat} {x : E} (h : l[j]? = some x) : E.prs sep (l.take (j + 1)) 0 = E.prs sep (l.take j) 0 ++ (gap sep j ++ x.pr) := by
  have hj : j < l.length := (List.getElem?_eq_some_iff.1 h).1
  rw [List.take_add_one, h]
  show E.prs sep (l.take j ++ [x]) 0 = _
  rw [E.prs_append, E.prs, E.prs, List.append_nil, List.length_take, Nat.min_eq_left (Nat.le_of_lt hj), Nat.zero_add]
  rfl
theorem E.prs_le {sep : List UInt8} {l : List E} (j : Nat) : (E.prs sep (l.take j) 0).length ≤ (E.prs sep l 0).length := by
  have h := E.prs_append sep (l.take j) (l.drop j) 0
  rw [List.take_append_drop] at h
  rw [h, List.length_append]; omega
theorem pr_awk8 : awk8.pr = [40, 49, 32, 43, 32, 40, 50, 32, 42, 32, 120, 41, 41] := by decide +kernel
end Go.Proofs.YtikfmgedmiocgaaGreatDoor.Ex
