/- Two trees that are the same, by the reference: contract of Same. A value without parts in the document's words: contract of the law's Ref of values. The values in a tree that is read have no parts: plain mathematics. A tree out of a row of its parts, with a value that has none. A tree in the document's words: contract of the law's Ref, of any tree whose values have no parts. What the program's and the reference's parsers answer, in one form: a tree (the empty one beside an error), a place, an error's number. -/
import Derived.Deep.DeepCutAuto
import Derived.Deep.RegionLaw
import Derived.Test.YtfbipnflgjhaiaaGreatDoorYF
set_option linter.unusedVariables false
set_option maxRecDepth 100000
set_option maxHeartbeats 8000000
open Go.Lib (hid)
namespace Go.Proofs.YtfbipnflgjhaiaaGreatDoor
open Go.RowKit
open Tk Ex
inductive Lf : E → Prop
 | mk (e : E) (h1 : e.lit.items = []) (h2 : e.lit.keys = []) (h3 : ∀ x ∈ e.args, Lf x) : Lf e
theorem Lf.i {e : E} (h : Lf e) : e.lit.items = [] := by cases h; assumption
theorem Lf.k {e : E} (h : Lf e) : e.lit.keys = [] := by cases h; assumption
theorem Lf.a {e : E} (h : Lf e) : ∀ x ∈ e.args, Lf x := by cases h; assumption
open Go.RowKit
open Tk Ex
open Tk Ex
def LfR (r : Res) : Prop := ∀ e p, r = .ok e p → Lf e
theorem lf_err {p : Nat} {c : Int} : LfR (.err p c) := fun e q h => by cases h
theorem lf_out : LfR .out := fun e q h => by cases h
theorem lf_ok {e : E} {p : Nat} (h : Lf e) : LfR (.ok e p) := fun e' p' k => by injection k with k1 k2; subst k1; exact h
theorem lf_nil {o n : ByteArray} {v : T} (h1 : v.items = []) (h2 : v.keys = []) : Lf (.mk o n v []) := .mk _ h1 h2 (fun x hx => by simp [E.args] at hx)
theorem lf_one {o n : ByteArray} {e : E} (h : Lf e) : Lf (.mk o n Rd.nulT [e]) := .mk _ rfl rfl (fun x hx => by simp [E.args] at hx; subst hx; exact h)
theorem lf_two {o n : ByteArray} {e y : E} (h : Lf e) (k : Lf y) : Lf (.mk o n Rd.nulT [e, y]) := .mk _ rfl rfl (fun x hx => by simp [E.args] at hx; rcases hx with rfl | rfl <;> assumption)
theorem lf_row {o n : ByteArray} {l : List E} (h : ∀ x ∈ l, Lf x) : Lf (.mk o n Rd.nulT l) := .mk _ rfl rfl h
theorem lf_snoc {l : List E} {y : E} (h : ∀ x ∈ l, Lf x) (k : Lf y) : ∀ x ∈ l ++ [y], Lf x := fun x hx => by
 rcases List.mem_append.1 hx with h1 | h1
 · exact h x h1
 · rw [List.mem_singleton.1 h1]; exact k
theorem lf_ite {c : Prop} [Decidable c] {a b : Res} (h1 : LfR a) (h2 : LfR b) : LfR (if c then a else b) := by
 by_cases h : c
 · rw [if_pos h]; exact h1
 · rw [if_neg h]; exact h2
theorem lf_up {o : ByteArray} {r : Res} (h : LfR r) : LfR (up o r) := by
 cases r with
 | ok e p => exact lf_ok (lf_one (h e p rfl))
 | err p c => exact lf_err
 | out => exact lf_out
theorem lf_key {s : ByteArray} {e : E} {i : Nat} (he : Lf e) : LfR (key s e i) := by
 intro x p hx
 unfold key at hx
 split at hx
 ·
  split at hx
  · injection hx with h1 _; subst h1; exact lf_one he
  · cases hx
 ·
  split at hx
  · injection hx with h1 _; subst h1; exact lf_one he
  · cases hx
theorem lf_num {s : ByteArray} {a : Nat} : LfR (num s a) := by
 intro e p h
 unfold num at h
 split at h
 · cases h
 ·
  split at h
  ·
   split at h
   · cases h
   · injection h with h1 _; subst h1; exact lf_nil rfl rfl
  · cases h
theorem lf_strs {s : ByteArray} {a : Nat} : LfR (strs s a) := by
 intro e p h
 unfold strs at h
 split at h
 · injection h with h1 _; subst h1; exact lf_nil rfl rfl
 · cases h
theorem lf_all (s : ByteArray) : ∀ f, (∀ n i, LfR (lev s f n i)) ∧ (∀ n e i, Lf e → LfR (chn s f n e i)) ∧ (∀ e i, Lf e → LfR (prt s f e i)) ∧ (∀ w acc i, (∀ x ∈ acc, Lf x) → LfR (cal s f w acc i)) := by
 intro f
 induction f with
 | zero => exact ⟨fun n i => by rw [lev]; exact lf_out, fun n e i _ => by rw [chn]; exact lf_out, fun e i _ => by rw [prt]; exact lf_out, fun w acc i _ => by rw [cal]; exact lf_out⟩
 | succ f ih =>
  obtain ⟨ih1, ih2, ih3, ih4⟩ := ih
  refine ⟨fun n i => ?_, fun n e i he => ?_, fun e i he => ?_, fun w acc i ha => ?_⟩
  ·
   rw [lev]
   repeat' (first | exact lf_num | exact lf_strs | refine lf_ite ?_ ?_)
   all_goals (repeat' split)
   all_goals first
    | exact lf_err
    | exact lf_out
    | exact lf_up (ih1 _ _)
    | exact ih1 _ _
    | exact lf_num
    | exact lf_strs
    | exact ih2 _ _ _ (ih1 _ _ _ _ (by assumption))
    | exact ih3 _ _ (ih1 _ _ _ _ (by assumption))
    | exact lf_ok (ih1 _ _ _ _ (by assumption))
    | exact ih4 _ _ _ (fun x hx => absurd hx (by simp))
    | exact lf_ok (lf_nil (v := Rd.nulT) rfl rfl)
    | exact lf_ok (lf_nil (v := Rd.truT true) rfl rfl)
    | exact lf_ok (lf_nil (v := Rd.truT false) rfl rfl)
  ·
   rw [chn]
   repeat' split
   all_goals first
    | exact lf_err
    | exact lf_out
    | exact lf_ok he
    | exact lf_ok (lf_two he (ih1 _ _ _ _ (by assumption)))
    | exact ih2 _ _ _ (lf_two he (ih1 _ _ _ _ (by assumption)))
  ·
   rw [prt]
   repeat' split
   all_goals first
    | exact lf_err
    | exact lf_out
    | exact lf_ok he
    | exact ih3 _ _ (lf_key he _ _ (by assumption))
    | exact ih3 _ _ (lf_two he (ih1 _ _ _ _ (by assumption)))
  ·
   rw [cal]
   repeat' split
   all_goals first
    | exact lf_err
    | exact lf_out
    | exact lf_ok (lf_row (lf_snoc ha (ih1 _ _ _ _ (by assumption))))
    | exact ih4 _ _ _ (lf_snoc ha (ih1 _ _ _ _ (by assumption)))
open Go.RowKit
open Tk Ex
open Go.RowKit
open Tk Ex
open Go.RowKit
open Tk Ex
def nulE : E := .mk ⟨#[]⟩ ⟨#[]⟩ Rd.nulT []
def resE : Res → E
 | .ok x _ => x
 | _ => nulE
def resP : Res → Nat
 | .ok _ p => p
 | .err p _ => p
 | .out => 0
def resC : Res → Int
 | .err _ c => c
 | _ => 0
theorem nulE_ev (w : World) (S : Nat → Prop) : EV w S nulE hd0 := EV.leaf rfl rfl
def acn (x : E) (h : Hd) (p : Nat) (c : Int) : Array Value :=
 #[.string x.op, .string x.name, .int .i64 x.lit.kind, .bool x.lit.tr, .int .i64 x.lit.num, .string x.lit.str, .slice h.L x.lit.items.length h.l, .slice h.L' x.lit.keys.length h.l', .slice h.A x.args.length h.c, .int .i64 p, .int .i64 c]
theorem ReadP.any {R : Res} {w : World} {e : Ending} {w' : World} (h : ReadP R w e w') (hR : R ≠ .out) : ∃ q, e = .returned (.tuple #[.agg (ecs (resE R) q), .int .i64 (resP R : Nat), .int .i64 (resC R)]) ∧ EV w' (· < w'.heap.size) (resE R) q ∧ Below w.heap.size w w' := by
 cases R with
 | out => exact absurd rfl hR
 | ok x p => obtain ⟨q, he, hv, hb⟩ := h; exact ⟨q, he, hv.wide fun k hk => hk.2, hb⟩
 | err p c => obtain ⟨he, hb⟩ := h; exact ⟨hd0, he, nulE_ev _ _, hb⟩
theorem ReadR.any {R : Res} {w : World} {e : Ending} {w' : World} (h : ReadR R w e w') (hR : R ≠ .out) : ∃ q, e = .returned (.agg (acn (resE R) q (resP R) (resC R))) ∧ EV w' (· < w'.heap.size) (resE R) q ∧ Below w.heap.size w w' := by
 cases R with
 | out => exact absurd rfl hR
 | ok x p => obtain ⟨q, he, hv, hb⟩ := h; exact ⟨q, he, hv.wide fun k hk => hk.2, hb⟩
 | err p c => obtain ⟨he, hc, hb⟩ := h; exact ⟨hd0, he, nulE_ev _ _, hb⟩
end Go.Proofs.YtfbipnflgjhaiaaGreatDoor
