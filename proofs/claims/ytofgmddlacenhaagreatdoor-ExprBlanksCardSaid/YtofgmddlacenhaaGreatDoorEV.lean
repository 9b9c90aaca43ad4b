/- The trees of two small texts: plain mathematics. A text in quotation marks, a value's text: plain mathematics. A tree's text: plain mathematics. -/
import Derived.Test.YtofgmddlacenhaaGreatDoorEA
import Derived.KernelRfl
import Derived.Lib.ItoaNum
import Derived.Lib.Bytealg
set_option linter.unusedVariables false
set_option maxRecDepth 100000
set_option maxHeartbeats 8000000
open Go.Lib (hid)
namespace Go.Proofs.YtofgmddlacenhaaGreatDoor.Ex
open Tk
def numE (n : Int) : E := litE (Rd.numT n)
def awk8 : E := .mk plusB nix Rd.nulT [numE 1, .mk starB nix Rd.nulT [numE 2, .mk varB ⟨#[120]⟩ Rd.nulT []]]
theorem parse_awk8 : parse ⟨#[49, 32, 43, 32, 50, 32, 42, 32, 120]⟩ = .ok awk8 0 := by kernel_rfl
end Go.Proofs.YtofgmddlacenhaaGreatDoor.Ex
namespace Go.Proofs.YtofgmddlacenhaaGreatDoor
namespace Q
def hex (d : UInt8) : UInt8 := if d < 10 then 48 + d else 87 + d
def esc (c : UInt8) : List UInt8 :=
 if c = 34 then [92, 34] else if c = 92 then [92, 92] else if c = 8 then [92, 98] else if c = 12 then [92, 102] else if c = 10 then [92, 110] else if c = 13 then [92, 114] else if c = 9 then [92, 116]
 else if c < 32 then [92, 117, 48, 48, hex (c / 16), hex (c % 16)] else [c]
def quo (l : List UInt8) : List UInt8 := 34 :: (l.flatMap esc ++ [34])
end Q
namespace T
mutual
def txt : T → List UInt8
 | .mk k tr n s l ks => if k = 1 then (if tr then [116, 114, 117, 101] else [102, 97, 108, 115, 101]) else if k = 2 then Lib.itoa n else if k = 3 then Q.quo s.toList
  else if k = 4 then 91 :: (txts ks l 0 ++ [93]) else if k = 5 then 123 :: (txts ks l 0 ++ [125]) else [110, 117, 108, 108]
def txts : List ByteArray → List T → Nat → List UInt8
 | _, [], _ => []
 | ks, x :: r, i => (if i = 0 then [] else [44]) ++ ((match ks[i]? with | some q => Q.quo q.toList ++ [58] | none => []) ++ (x.txt ++ txts ks r (i + 1)))
end
end T
namespace Q
end Q
end Go.Proofs.YtofgmddlacenhaaGreatDoor
namespace Go.Proofs.YtofgmddlacenhaaGreatDoor.Ex
open Tk
def ahead (e : E) : List UInt8 :=
 if eqb e.op litB = true then e.lit.txt else if eqb e.op thisB = true then thisB.data.toList else if eqb e.op varB = true then e.name.data.toList
 else if eqb e.op getB = true then [] else if eqb e.op atB = true then [] else if eqb e.op notB = true then [40, 110, 111, 116, 32] else if eqb e.op negB = true then [40, 45]
 else if 0 < argsN e.op then e.op.data.toList ++ [40] else [40]
def between (e : E) : List UInt8 :=
 if eqb e.op litB = true then [] else if eqb e.op thisB = true then [] else if eqb e.op varB = true then []
 else if eqb e.op getB = true then [] else if eqb e.op atB = true then [91] else if eqb e.op notB = true then [] else if eqb e.op negB = true then []
 else if 0 < argsN e.op then [44, 32] else [32] ++ e.op.data.toList ++ [32]
def behind (e : E) : List UInt8 :=
 if eqb e.op litB = true then [] else if eqb e.op thisB = true then [] else if eqb e.op varB = true then []
 else if eqb e.op getB = true then [46] ++ Q.quo e.name.data.toList else if eqb e.op atB = true then [93] else [41]
mutual
def E.pr : E → List UInt8
 | .mk o n v l => ahead (.mk o n v l) ++ (E.prs (between (.mk o n v l)) l 0 ++ behind (.mk o n v l))
def E.prs (sep : List UInt8) : List E → Nat → List UInt8
 | [], _ => []
 | x :: r, i => (if i = 0 then [] else sep) ++ (x.pr ++ E.prs sep r (i + 1))
end
theorem E.pr_eq (e : E) : e.pr = ahead e ++ (E.prs (between e) e.args 0 ++ behind e) := by cases e; rfl
theorem E.prs_append (sep : List UInt8) : ∀ (a b : List E) (i : Nat), E.prs sep (a ++ b) i = E.prs sep a i ++ E.prs sep b (i + a.length)
 | [], b, i => by simp [E.prs]
 | x :: a, b, i => by
  rw [List.cons_append, E.prs, E.prs, E.prs_append sep a b (i + 1), show i + 1 + a.length = i + (x :: a).length by simp; omega]
  simp only [List.append_assoc]
def gap (sep : List UInt8) (i : Nat) : List UInt8 := if i = 0 then [] else sep
theorem E.prs_take {sep : List UInt8} {l : List E} {j : Nat} {x : E} (h : l[j]? = some x) : E.prs sep (l.take (j + 1)) 0 = E.prs sep (l.take j) 0 ++ (gap sep j ++ x.pr) := by
 have hj : j < l.length := (List.getElem?_eq_some_iff.1 h).1
 rw [List.take_add_one, h]
 show E.prs sep (l.take j ++ [x]) 0 = _
 rw [E.prs_append, E.prs, E.prs, List.append_nil, List.length_take, Nat.min_eq_left (Nat.le_of_lt hj), Nat.zero_add]
 rfl
theorem E.prs_le {sep : List UInt8} {l : List E} (j : Nat) : (E.prs sep (l.take j) 0).length ≤ (E.prs sep l 0).length := by
 have h := E.prs_append sep (l.take j) (l.drop j) 0
 rw [List.take_append_drop] at h
 rw [h, List.length_append]; omega
theorem pr_awk8 : awk8.pr = [40, 49, 32, 43, 32, 40, 50, 32, 42, 32, 120, 41, 41] := by decide +kernel
end Go.Proofs.YtofgmddlacenhaaGreatDoor.Ex
