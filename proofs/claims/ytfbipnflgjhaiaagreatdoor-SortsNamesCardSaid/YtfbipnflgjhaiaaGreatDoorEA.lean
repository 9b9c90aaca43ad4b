/- The expression of a text: plain mathematics. The expression of a text: where things stand, and that the steps suffice: plain mathematics. A tree is no deeper than its text is long: plain mathematics. Just a name is a var by itself: plain mathematics. -/
import Derived.Test.YtfbipnflgjhaiaaGreatDoorMA
set_option linter.unusedVariables false
set_option maxRecDepth 100000
set_option maxHeartbeats 8000000
open Go.Lib (hid)
namespace Go.Proofs.YtfbipnflgjhaiaaGreatDoor.Ex
open Tk
inductive E where
 | mk (op name : ByteArray) (lit : T) (args : List E)
namespace E
def op : E → ByteArray | .mk o _ _ _ => o
def name : E → ByteArray | .mk _ n _ _ => n
def lit : E → T | .mk _ _ v _ => v
def args : E → List E | .mk _ _ _ l => l
mutual
def size : E → Nat
 | .mk _ _ _ l => 1 + sizes l
def sizes : List E → Nat
 | [] => 0
 | x :: r => x.size + sizes r
end
mutual
def depth : E → Nat
 | .mk _ _ _ l => 1 + depths l
def depths : List E → Nat
 | [] => 0
 | x :: r => max x.depth (depths r)
end
theorem size_eq (t : E) : t.size = 1 + sizes t.args := by cases t; rfl
theorem size_pos (t : E) : 1 ≤ t.size := by rw [size_eq]; omega
theorem depth_eq (t : E) : t.depth = 1 + depths t.args := by cases t; rfl
theorem depth_pos (t : E) : 1 ≤ t.depth := by rw [depth_eq]; omega
theorem mem_size {l : List E} {x : E} (h : x ∈ l) : x.size ≤ sizes l := by
 induction l with
 | nil => cases h
 | cons y r ih =>
  rcases List.mem_cons.1 h with rfl | h
  · simp only [sizes]; omega
  · have := ih h; simp only [sizes]; omega
theorem mem_depth {l : List E} {x : E} (h : x ∈ l) : x.depth ≤ depths l := by
 induction l with
 | nil => cases h
 | cons y r ih =>
  rcases List.mem_cons.1 h with rfl | h
  · simp only [depths]; omega
  · have := ih h; simp only [depths]; omega
theorem sizes_append (a b : List E) : sizes (a ++ b) = sizes a + sizes b := by
 induction a with
 | nil => simp [sizes]
 | cons x r ih => simp only [List.cons_append, sizes, ih]; omega
theorem depths_append (a b : List E) : depths (a ++ b) = max (depths a) (depths b) := by
 induction a with
 | nil => simp [depths]
 | cons x r ih => simp only [List.cons_append, depths, ih]; omega
theorem ind {P : E → Prop} (h : ∀ t : E, (∀ x ∈ t.args, P x) → P t) : ∀ t, P t := by
 have : ∀ n (t : E), t.size ≤ n → P t := by
  intro n
  induction n with
  | zero => intro t ht; have := t.size_pos; omega
  | succ n ih => exact fun t ht => h t fun x hx => ih x (by have := mem_size hx; rw [size_eq] at ht; omega)
 exact fun t => this _ t (Nat.le_refl _)
inductive All (P : E → Prop) : E → Prop
 | mk (t : E) (h : P t) (hs : ∀ x ∈ t.args, All P x) : All P t
theorem All.mem {P : E → Prop} {t x : E} (h : All P t) (hx : x ∈ t.args) : All P x := by cases h with | mk _ _ hs => exact hs x hx
theorem All.imp {P Q : E → Prop} {t : E} (h : All P t) (hi : ∀ t, P t → Q t) : All Q t := by
 induction h with
 | mk t h _ ih => exact .mk t (hi t h) ih
end E
inductive Res where
 | ok (e : E) (p : Nat)
 | err (p : Nat) (c : Int)
 | out
def isLt (c : Nat) : Bool := (decide (97 ≤ c) && decide (c ≤ 122)) || (decide (65 ≤ c) && decide (c ≤ 90))
def isIn (c : Nat) : Bool := isLt c || c == 95
def goes (c : Nat) : Bool := isIn c || isDg c
theorem isLt_iff {c : Nat} : isLt c = true ↔ (97 ≤ c ∧ c ≤ 122) ∨ (65 ≤ c ∧ c ≤ 90) := by simp [isLt]
theorem isLt_no {c : Nat} : isLt c = false ↔ ¬ ((97 ≤ c ∧ c ≤ 122) ∨ (65 ≤ c ∧ c ≤ 90)) := by rw [← isLt_iff, Bool.not_eq_true]
theorem isLt_goes {c : Nat} (h : isLt c = true) : goes c = true := by simp [goes, isIn, h]
def bl (s : ByteArray) (i : Nat) : Nat := span isBl s i
def wE (s : ByteArray) (a : Nat) : Nat := if isLt (bt s a) = true then span goes s a else a
def wd (s : ByteArray) (i : Nat) : ByteArray := sub s (bl s i) (wE s (bl s i))
def eqb (a b : ByteArray) : Bool := a.data.toList == b.data.toList
def has (s : ByteArray) (a : Nat) (t : ByteArray) : Bool := t.data.toList.isPrefixOf (s.data.toList.drop a)
def stands (s : ByteArray) (i : Nat) (t : ByteArray) : Bool :=
 if isLt (bt s (bl s i)) = true then eqb (wd s i) t else has s (bl s i) t
def orB : ByteArray := ⟨#[111, 114]⟩
def andB : ByteArray := ⟨#[97, 110, 100]⟩
def notB : ByteArray := ⟨#[110, 111, 116]⟩
def trueB : ByteArray := ⟨#[116, 114, 117, 101]⟩
def falseB : ByteArray := ⟨#[102, 97, 108, 115, 101]⟩
def nullB : ByteArray := ⟨#[110, 117, 108, 108]⟩
def thisB : ByteArray := ⟨#[116, 104, 105, 115]⟩
def litB : ByteArray := ⟨#[108, 105, 116]⟩
def varB : ByteArray := ⟨#[118, 97, 114]⟩
def getB : ByteArray := ⟨#[103, 101, 116]⟩
def atB : ByteArray := ⟨#[97, 116]⟩
def negB : ByteArray := ⟨#[110, 101, 103]⟩
def minusB : ByteArray := ⟨#[45]⟩
def plusB : ByteArray := ⟨#[43]⟩
def starB : ByteArray := ⟨#[42]⟩
def slashB : ByteArray := ⟨#[47]⟩
def remB : ByteArray := ⟨#[37]⟩
def eqB : ByteArray := ⟨#[61, 61]⟩
def neB : ByteArray := ⟨#[33, 61]⟩
def leB : ByteArray := ⟨#[60, 61]⟩
def geB : ByteArray := ⟨#[62, 61]⟩
def ltB : ByteArray := ⟨#[60]⟩
def gtB : ByteArray := ⟨#[62]⟩
def dotB : ByteArray := ⟨#[46]⟩
def commaB : ByteArray := ⟨#[44]⟩
def opnB : ByteArray := ⟨#[40]⟩
def clsB : ByteArray := ⟨#[41]⟩
def osqB : ByteArray := ⟨#[91]⟩
def csqB : ByteArray := ⟨#[93]⟩
def ones : List ByteArray := [⟨#[108, 101, 110]⟩, ⟨#[115, 117, 109]⟩, ⟨#[109, 105, 110]⟩, ⟨#[109, 97, 120]⟩, ⟨#[97, 108, 108]⟩, ⟨#[97, 110, 121]⟩, ⟨#[107, 101, 121, 115]⟩]
def twos : List ByteArray := [⟨#[104, 97, 115]⟩, ⟨#[99, 111, 117, 110, 116]⟩, ⟨#[115, 116, 97, 114, 116, 115]⟩, ⟨#[101, 110, 100, 115]⟩, ⟨#[106, 111, 105, 110]⟩]
def argsN (w : ByteArray) : Nat := if ones.any (eqb w) = true then 1 else if twos.any (eqb w) = true then 2 else 0
def words : List ByteArray := [orB, andB, notB, trueB, falseB, nullB, thisB]
def isWord (w : ByteArray) : Bool := words.any (eqb w)
def sg : Nat → List ByteArray
 | 0 => [orB]
 | 1 => [andB]
 | 3 => [eqB, neB, leB, geB, ltB, gtB]
 | 4 => [plusB, minusB]
 | 5 => [starB, slashB, remB]
 | _ => []
def btw (s : ByteArray) (n i : Nat) : Option ByteArray := (sg n).find? (stands s i)
def past (s : ByteArray) (i : Nat) (t : ByteArray) : Nat := bl s i + t.size
def litE (v : T) : E := .mk litB nix v []
def up (o : ByteArray) (r : Res) : Res := match r with
 | .ok e p => .ok (.mk o nix Rd.nulT [e]) p
 | .err p c => .err p c
 | .out => .out
def num (s : ByteArray) (a : Nat) : Res :=
 if bt s a = 48 ∧ a + 1 < span isDg s a then .err (a + 1) 1
 else if Tk.In64 (De.numL (sub s a (span isDg s a)).data.toList) then
  (if goes (bt s (span isDg s a)) = true then .err (span isDg s a) 1 else .ok (litE (Rd.numT (De.numL (sub s a (span isDg s a)).data.toList))) (span isDg s a))
 else .err a 4
def strs (s : ByteArray) (a : Nat) : Res := match strAns s a with
 | .tok t => .ok (litE (Rd.strT t.text)) t.fin
 | .err p c => .err p c
def key (s : ByteArray) (e : E) (i : Nat) : Res :=
 if bt s (bl s i) = 34 then (match strAns s (bl s i) with
  | .tok t => .ok (.mk getB t.text Rd.nulT [e]) t.fin
  | .err p c => .err p c)
 else if isLt (bt s (bl s i)) = true then .ok (.mk getB (wd s i) Rd.nulT [e]) (wE s (bl s i))
 else .err (bl s i) 1
mutual
def lev (s : ByteArray) : Nat → Nat → Nat → Res
 | 0, _, _ => .out
 | f + 1, n, i =>
  if n = 2 then (if stands s i notB = true then up notB (lev s f 2 (past s i notB)) else lev s f 3 i)
  else if n = 6 then (if stands s i minusB = true then up negB (lev s f 6 (past s i minusB)) else lev s f 7 i)
  else if n = 7 then (match lev s f 8 i with
   | .ok e p => prt s f e p
   | .err p c => .err p c
   | .out => .out)
  else if n = 8 then
   (if isDg (bt s (bl s i)) = true then num s (bl s i)
   else if bt s (bl s i) = 34 then strs s (bl s i)
   else if isLt (bt s (bl s i)) = true then
    (if isWord (wd s i) = true then
     (if eqb (wd s i) trueB = true then .ok (litE (Rd.truT true)) (wE s (bl s i))
     else if eqb (wd s i) falseB = true then .ok (litE (Rd.truT false)) (wE s (bl s i))
     else if eqb (wd s i) nullB = true then .ok (litE Rd.nulT) (wE s (bl s i))
     else if eqb (wd s i) thisB = true then .ok (.mk thisB nix Rd.nulT []) (wE s (bl s i))
     else .err (bl s i) 1)
    else if 0 < argsN (wd s i) then
     (if stands s (wE s (bl s i)) opnB = true then cal s f (wd s i) [] (past s (wE s (bl s i)) opnB) else .err (bl s (wE s (bl s i))) 1)
    else .ok (.mk varB (wd s i) Rd.nulT []) (wE s (bl s i)))
   else if stands s i opnB = true then (match lev s f 0 (past s i opnB) with
    | .ok e p => if stands s p clsB = true then .ok e (past s p clsB) else .err (bl s p) 1
    | .err p c => .err p c
    | .out => .out)
   else .err (bl s i) 1)
  else (match lev s f (n + 1) i with
   | .ok e p => chn s f n e p
   | .err p c => .err p c
   | .out => .out)
def chn (s : ByteArray) : Nat → Nat → E → Nat → Res
 | 0, _, _, _ => .out
 | f + 1, n, e, i => match btw s n i with
  | none => .ok e i
  | some o => match lev s f (n + 1) (past s i o) with
   | .ok y p => if n = 3 then .ok (.mk o nix Rd.nulT [e, y]) p else chn s f n (.mk o nix Rd.nulT [e, y]) p
   | .err p c => .err p c
   | .out => .out
def prt (s : ByteArray) : Nat → E → Nat → Res
 | 0, _, _ => .out
 | f + 1, e, i =>
  if stands s i dotB = true then (match key s e (past s i dotB) with
   | .ok y p => prt s f y p
   | .err p c => .err p c
   | .out => .out)
  else if stands s i osqB = true then (match lev s f 0 (past s i osqB) with
   | .ok y p => if stands s p csqB = true then prt s f (.mk atB nix Rd.nulT [e, y]) (past s p csqB) else .err (bl s p) 1
   | .err p c => .err p c
   | .out => .out)
  else .ok e i
def cal (s : ByteArray) : Nat → ByteArray → List E → Nat → Res
 | 0, _, _, _ => .out
 | f + 1, w, acc, i => match lev s f 0 i with
  | .ok y p =>
   if stands s p clsB = true then (if acc.length + 1 < argsN w then .err (bl s p) 12 else .ok (.mk w nix Rd.nulT (acc ++ [y])) (past s p clsB))
   else if stands s p commaB = true then (if acc.length + 1 < argsN w then cal s f w (acc ++ [y]) (past s p commaB) else .err (bl s p) 12)
   else .err (bl s p) 1
  | .err p c => .err p c
  | .out => .out
end
def many (s : ByteArray) : Nat := 12 * s.size + 24
def top (s : ByteArray) (i : Nat) : Res := lev s (many s) 0 i
def parse (s : ByteArray) : Res :=
 if 2048 < s.size then .err 0 7 else match top s 0 with
  | .ok e p => if bl s p < s.size then .err (bl s p) 1 else if 32 < e.depth then .err 0 6 else .ok e 0
  | .err p c => .err p c
  | .out => .out
end Go.Proofs.YtfbipnflgjhaiaaGreatDoor.Ex
namespace Go.Proofs.YtfbipnflgjhaiaaGreatDoor.Ex
open Tk
theorem ba_ext {a b : ByteArray} (h : a.data.toList = b.data.toList) : a = b := by
 obtain ⟨⟨x⟩⟩ := a
 obtain ⟨⟨y⟩⟩ := b
 simp at h
 rw [h]
theorem eqb_yes {a b : ByteArray} (h : eqb a b = true) : a = b := by unfold eqb at h; exact ba_ext (beq_iff_eq.1 h)
theorem eqb_no {a b : ByteArray} (h : a ≠ b) : eqb a b = false := by
 cases hb : eqb a b with
 | false => rfl
 | true => exact absurd (eqb_yes hb) h
theorem tl_eqb (a b : ByteArray) : (a.toList == b.toList) = eqb a b := by rw [ByteArray.toList_eq, ByteArray.toList_eq]; rfl
theorem bl_ge (s : ByteArray) (i : Nat) : i ≤ bl s i := span_ge _ _ _
theorem bl_le {s : ByteArray} {i : Nat} (h : i ≤ s.size) : bl s i ≤ s.size := span_le _ h
theorem wE_ge (s : ByteArray) (a : Nat) : a ≤ wE s a := by unfold wE; split; exact span_ge _ _ _; exact Nat.le_refl _
theorem wE_le {s : ByteArray} {a : Nat} (h : a ≤ s.size) : wE s a ≤ s.size := by unfold wE; split; exact span_le _ h; exact h
theorem lt_lt {s : ByteArray} {a : Nat} (h : isLt (bt s a) = true) : a < s.size := lt_of_bt fun e => by rw [e] at h; cases h
theorem dg_lt {s : ByteArray} {a : Nat} (h : isDg (bt s a) = true) : a < s.size := lt_of_bt fun e => by rw [e] at h; cases h
theorem wE_pos {s : ByteArray} {a : Nat} (h : isLt (bt s a) = true) : a < wE s a := by
 unfold wE; rw [if_pos h]; exact span_pos (lt_lt h) (isLt_goes h)
theorem wE_no {s : ByteArray} {a : Nat} (h : isLt (bt s a) = false) : wE s a = a := by unfold wE; rw [if_neg (by rw [h]; decide)]
theorem sub_size {s : ByteArray} {a b : Nat} (h : b ≤ s.size) : (sub s a b).size = b - a := by
 unfold sub; rw [ByteArray.size_extract]; omega
theorem wd_size {s : ByteArray} {i : Nat} (h : i ≤ s.size) : (wd s i).size = wE s (bl s i) - bl s i := sub_size (wE_le (bl_le h))
theorem has_le {s : ByteArray} {a : Nat} {t : ByteArray} (h : has s a t = true) : t.size ≤ s.size - a := by
 unfold has at h
 have h1 := (List.isPrefixOf_iff_prefix.1 h).length_le
 rw [List.length_drop, size_toList, size_toList] at h1
 exact h1
theorem stands_le {s : ByteArray} {i : Nat} {t : ByteArray} (hi : i ≤ s.size) (h : stands s i t = true) : i + t.size ≤ past s i t ∧ past s i t ≤ s.size := by
 have h1 := bl_ge s i
 have h2 := bl_le hi
 unfold stands at h
 unfold past
 split at h
 ·
  have := eqb_yes h
  subst this
  rw [wd_size hi]
  have := wE_ge s (bl s i)
  have := wE_le h2
  omega
 ·
  have := has_le h
  omega
theorem stands_word {s : ByteArray} {i : Nat} {t : ByteArray} (hi : i ≤ s.size) (hl : isLt (bt s (bl s i)) = true) (h : stands s i t = true) : wd s i = t ∧ past s i t = wE s (bl s i) := by
 unfold stands at h
 rw [if_pos hl] at h
 have := eqb_yes h
 subst this
 refine ⟨rfl, ?_⟩
 unfold past
 rw [wd_size hi]
 have := wE_ge s (bl s i)
 omega
def Fit (q : Prop) (s : ByteArray) (i : Nat) (r : Res) : Prop := (q → r ≠ .out) ∧ ∀ e p, r = .ok e p → i < p ∧ p ≤ s.size
theorem fit_err {q : Prop} (s : ByteArray) (i p : Nat) (c : Int) : Fit q s i (.err p c) := ⟨fun _ => (by intro h; cases h), fun e p h => by cases h⟩
theorem fit_ok {q : Prop} {s : ByteArray} {i p : Nat} {e : E} (h1 : i < p) (h2 : p ≤ s.size) : Fit q s i (.ok e p) := ⟨fun _ => (by intro h; cases h), fun e' p' h => by injection h with _ h; subst h; exact ⟨h1, h2⟩⟩
theorem fit_out {q : Prop} {s : ByteArray} {i : Nat} (h : ¬ q) : Fit q s i .out := ⟨fun hq => absurd hq h, fun e p h => by cases h⟩
theorem Fit.later {q q' : Prop} {s : ByteArray} {i j : Nat} {r : Res} (h : Fit q' s j r) (hq : q → q') (hu : i ≤ j) : Fit q s i r := ⟨fun k => h.1 (hq k), fun e p he => by have := h.2 e p he; omega⟩
theorem fit_up {q : Prop} {s : ByteArray} {i : Nat} {o : ByteArray} {r : Res} (h : Fit q s i r) : Fit q s i (up o r) := by
 cases r with
 | ok e p => have := h.2 e p rfl; exact fit_ok this.1 this.2
 | err p c => exact fit_err _ _ _ _
 | out => exact fit_out fun hq => absurd rfl (h.1 hq)
theorem fit_num {q : Prop} {s : ByteArray} {a : Nat} (h : isDg (bt s a) = true) : Fit q s a (num s a) := by
 have h1 := dg_lt h
 have h2 := span_pos h1 h
 have h3 := span_le isDg (s := s) (i := a) (Nat.le_of_lt h1)
 unfold num
 split
 · exact fit_err _ _ _ _
 ·
  split
  ·
   split
   · exact fit_err _ _ _ _
   · exact fit_ok h2 h3
  · exact fit_err _ _ _ _
theorem str_fin {s : ByteArray} {a : Nat} {t : Tok} (ha : a < s.size) (h : strAns s a = .tok t) : a < t.fin ∧ t.fin ≤ s.size := by
 unfold strAns at h
 split at h
 ·
  rename_i l e hs
  injection h with h; subst h
  obtain ⟨h1, h2, _⟩ := strF_pts _ _ _ _ _ (by omega) hs
  exact ⟨by show a < e; omega, h2⟩
 · cases h
theorem fit_strs {q : Prop} {s : ByteArray} {a : Nat} (h : bt s a = 34) : Fit q s a (strs s a) := by
 have h1 := lt_of_bt (s := s) (i := a) (by rw [h]; decide)
 unfold strs
 split
 ·
  rename_i t ht
  obtain ⟨h2, h3⟩ := str_fin h1 ht
  exact fit_ok h2 h3
 · exact fit_err _ _ _ _
theorem fit_key {q : Prop} {s : ByteArray} {i : Nat} {e : E} : Fit q s i (key s e i) := by
 have hb := bl_ge s i
 unfold key
 split
 ·
  rename_i h
  have h1 := lt_of_bt (s := s) (i := bl s i) (by rw [h]; decide)
  split
  ·
   rename_i t ht
   obtain ⟨h2, h3⟩ := str_fin h1 ht
   exact fit_ok (by omega) h3
  · exact fit_err _ _ _ _
 ·
  split
  ·
   rename_i h
   have := wE_pos h
   exact fit_ok (by omega) (wE_le (Nat.le_of_lt (lt_lt h)))
  · exact fit_err _ _ _ _
theorem sg_size {n : Nat} {t : ByteArray} (h : t ∈ sg n) : 1 ≤ t.size := by
 unfold sg at h
 split at h <;> simp at h
 · subst h; decide
 · subst h; decide
 · rcases h with rfl | rfl | rfl | rfl | rfl | rfl <;> decide
 · rcases h with rfl | rfl <;> decide
 · rcases h with rfl | rfl | rfl <;> decide
theorem sg_lt {n : Nat} {t : ByteArray} (h : t ∈ sg n) : n < 8 := by
 unfold sg at h
 split at h <;> first | omega | cases h
theorem btw_some {s : ByteArray} {n i : Nat} {t : ByteArray} (h : btw s n i = some t) : t ∈ sg n ∧ stands s i t = true :=
 ⟨List.mem_of_find?_eq_some h, List.find?_some h⟩
theorem btw_le {s : ByteArray} {n i : Nat} {t : ByteArray} (hi : i ≤ s.size) (h : btw s n i = some t) : i < past s i t ∧ past s i t ≤ s.size := by
 obtain ⟨h1, h2⟩ := btw_some h
 have := stands_le hi h2
 have := sg_size h1
 omega
def Fit0 (q : Prop) (s : ByteArray) (i : Nat) (r : Res) : Prop := (q → r ≠ .out) ∧ ∀ e p, r = .ok e p → i ≤ p ∧ p ≤ s.size
theorem fit0_err {q : Prop} (s : ByteArray) (i p : Nat) (c : Int) : Fit0 q s i (.err p c) := ⟨fun _ => (by intro h; cases h), fun e p h => by cases h⟩
theorem fit0_ok {q : Prop} {s : ByteArray} {i p : Nat} {e : E} (h1 : i ≤ p) (h2 : p ≤ s.size) : Fit0 q s i (.ok e p) := ⟨fun _ => (by intro h; cases h), fun e' p' h => by injection h with _ h; subst h; exact ⟨h1, h2⟩⟩
theorem fit0_out {q : Prop} {s : ByteArray} {i : Nat} (h : ¬ q) : Fit0 q s i .out := ⟨fun hq => absurd hq h, fun e p h => by cases h⟩
theorem Fit0.later {q q' : Prop} {s : ByteArray} {i j : Nat} {r : Res} (h : Fit0 q' s j r) (hq : q → q') (hu : i ≤ j) : Fit0 q s i r := ⟨fun k => h.1 (hq k), fun e p he => by have := h.2 e p he; omega⟩
theorem Fit0.go {q q' : Prop} {s : ByteArray} {i j : Nat} {r : Res} (h : Fit0 q' s j r) (hq : q → q') (hu : i < j) : Fit q s i r := ⟨fun k => h.1 (hq k), fun e p he => by have := h.2 e p he; omega⟩
theorem enough (s : ByteArray) : ∀ f, (∀ n i, n ≤ 8 → i ≤ s.size → Fit (12 * (s.size - i) + 10 ≤ f + n) s i (lev s f n i)) ∧ (∀ n e i, i ≤ s.size → Fit0 (12 * (s.size - i) + 1 ≤ f) s i (chn s f n e i)) ∧ (∀ e i, i ≤ s.size → Fit0 (12 * (s.size - i) + 1 ≤ f) s i (prt s f e i)) ∧ (∀ w acc i, i ≤ s.size → Fit (12 * (s.size - i) + 11 ≤ f) s i (cal s f w acc i)) := by
 intro f
 induction f with
 | zero =>
  refine ⟨fun n i hn _ => ?_, fun n e i _ => ?_, fun e i _ => ?_, fun w acc i _ => ?_⟩
  · rw [lev]; exact fit_out (by omega)
  · rw [chn]; exact fit0_out (by omega)
  · rw [prt]; exact fit0_out (by omega)
  · rw [cal]; exact fit_out (by omega)
 | succ f ih =>
  obtain ⟨ih1, ih2, ih3, ih4⟩ := ih
  have hnot : notB.size = 3 := rfl
  have hmin : minusB.size = 1 := rfl
  have hopn : opnB.size = 1 := rfl
  have hcls : clsB.size = 1 := rfl
  have hcom : commaB.size = 1 := rfl
  have hdot : dotB.size = 1 := rfl
  have hosq : osqB.size = 1 := rfl
  have hcsq : csqB.size = 1 := rfl
  refine ⟨fun n i hn hi => ?_, fun n e i hi => ?_, fun e i hi => ?_, fun w acc i hi => ?_⟩
  ·
   have hb1 := bl_ge s i
   have hb2 := bl_le hi
   rcases (by omega : n = 2 ∨ n = 6 ∨ n = 7 ∨ n = 8 ∨ (n = 0 ∨ n = 1 ∨ n = 3 ∨ n = 4 ∨ n = 5)) with rfl | rfl | rfl | rfl | hn'
   ·
    rw [lev, if_pos rfl]
    by_cases h : stands s i notB = true
    ·
     rw [if_pos h]
     obtain ⟨h1, h2⟩ := stands_le hi h
     exact fit_up ((ih1 2 _ (by omega) h2).later (by omega) (by omega))
    ·
     rw [if_neg h]
     exact (ih1 3 i (by omega) hi).later (by omega) (Nat.le_refl _)
   ·
    rw [lev, if_neg (by decide), if_pos rfl]
    by_cases h : stands s i minusB = true
    ·
     rw [if_pos h]
     obtain ⟨h1, h2⟩ := stands_le hi h
     exact fit_up ((ih1 6 _ (by omega) h2).later (by omega) (by omega))
    ·
     rw [if_neg h]
     exact (ih1 7 i (by omega) hi).later (by omega) (Nat.le_refl _)
   ·
    rw [lev, if_neg (by decide), if_neg (by decide), if_pos rfl]
    have hx := ih1 8 i (by omega) hi
    cases he : lev s f 8 i with
    | ok e p =>
     obtain ⟨h1, h2⟩ := hx.2 e p he
     exact (ih3 e p h2).go (by omega) h1
    | err p c => exact fit_err _ _ _ _
    | out => exact fit_out fun hq => absurd he (hx.1 (by omega))
   ·
    rw [lev, if_neg (by decide), if_neg (by decide), if_neg (by decide), if_pos rfl]
    by_cases h : isDg (bt s (bl s i)) = true
    ·
     rw [if_pos h]
     exact (fit_num (q := True) h).later (fun _ => trivial) hb1
    rw [if_neg h]
    by_cases h : bt s (bl s i) = 34
    ·
     rw [if_pos h]
     exact (fit_strs (q := True) h).later (fun _ => trivial) hb1
    rw [if_neg h]
    by_cases h : isLt (bt s (bl s i)) = true
    ·
     rw [if_pos h]
     have h1 := wE_pos h
     have h2 := wE_le hb2
     by_cases h3 : isWord (wd s i) = true
     ·
      rw [if_pos h3]
      by_cases h4 : eqb (wd s i) trueB = true
      · rw [if_pos h4]; exact fit_ok (by omega) h2
      rw [if_neg h4]
      by_cases h4 : eqb (wd s i) falseB = true
      · rw [if_pos h4]; exact fit_ok (by omega) h2
      rw [if_neg h4]
      by_cases h4 : eqb (wd s i) nullB = true
      · rw [if_pos h4]; exact fit_ok (by omega) h2
      rw [if_neg h4]
      by_cases h4 : eqb (wd s i) thisB = true
      · rw [if_pos h4]; exact fit_ok (by omega) h2
      · rw [if_neg h4]; exact fit_err _ _ _ _
     rw [if_neg h3]
     by_cases h4 : 0 < argsN (wd s i)
     ·
      rw [if_pos h4]
      by_cases h5 : stands s (wE s (bl s i)) opnB = true
      ·
       rw [if_pos h5]
       obtain ⟨h6, h7⟩ := stands_le h2 h5
       exact (ih4 _ _ _ h7).later (by omega) (by omega)
      · rw [if_neg h5]; exact fit_err _ _ _ _
     · rw [if_neg h4]; exact fit_ok (by omega) h2
    rw [if_neg h]
    by_cases h3 : stands s i opnB = true
    ·
     rw [if_pos h3]
     obtain ⟨h4, h5⟩ := stands_le hi h3
     have hx := ih1 0 _ (by omega) h5
     cases he : lev s f 0 (past s i opnB) with
     | ok e p =>
      obtain ⟨h6, h7⟩ := hx.2 e p he
      dsimp only
      by_cases h8 : stands s p clsB = true
      ·
       rw [if_pos h8]
       obtain ⟨h9, h10⟩ := stands_le h7 h8
       exact fit_ok (by omega) h10
      · rw [if_neg h8]; exact fit_err _ _ _ _
     | err p c => exact fit_err _ _ _ _
     | out => exact fit_out fun hq => absurd he (hx.1 (by omega))
    · rw [if_neg h3]; exact fit_err _ _ _ _
   ·
    rw [lev, if_neg (by omega), if_neg (by omega), if_neg (by omega), if_neg (by omega)]
    have hx := ih1 (n + 1) i (by omega) hi
    cases he : lev s f (n + 1) i with
    | ok e p =>
     obtain ⟨h1, h2⟩ := hx.2 e p he
     exact (ih2 n e p h2).go (by omega) h1
    | err p c => exact fit_err _ _ _ _
    | out => exact fit_out fun hq => absurd he (hx.1 (by omega))
  ·
   rw [chn]
   split
   · exact fit0_ok (Nat.le_refl _) hi
   ·
    rename_i o ho
    obtain ⟨h1, h2⟩ := btw_le hi ho
    have hn8 := sg_lt (btw_some ho).1
    have hx := ih1 (n + 1) _ (by omega) h2
    split
    ·
     rename_i y p he
     obtain ⟨h3, h4⟩ := hx.2 y p he
     split
     · exact fit0_ok (by omega) h4
     · exact (ih2 n (.mk o nix Rd.nulT [e, y]) p h4).later (by omega) (by omega)
    · exact fit0_err _ _ _ _
    · rename_i ho; exact fit0_out fun hq => absurd ho (hx.1 (by omega))
  ·
   rw [prt]
   split
   ·
    rename_i h
    obtain ⟨h1, h2⟩ := stands_le hi h
    have hx := fit_key (q := True) (s := s) (i := past s i dotB) (e := e)
    split
    ·
     rename_i y p he
     obtain ⟨h3, h4⟩ := hx.2 y p he
     exact (ih3 y p h4).later (by omega) (by omega)
    · exact fit0_err _ _ _ _
    · rename_i ho; exact absurd ho (hx.1 trivial)
   split
   ·
    rename_i h
    obtain ⟨h1, h2⟩ := stands_le hi h
    have hx := ih1 0 _ (by omega) h2
    split
    ·
     rename_i y p he
     obtain ⟨h3, h4⟩ := hx.2 y p he
     split
     ·
      rename_i h5
      obtain ⟨h6, h7⟩ := stands_le h4 h5
      exact (ih3 (.mk atB nix Rd.nulT [e, y]) _ h7).later (by omega) (by omega)
     · exact fit0_err _ _ _ _
    · exact fit0_err _ _ _ _
    · rename_i ho; exact fit0_out fun hq => absurd ho (hx.1 (by omega))
   · exact fit0_ok (Nat.le_refl _) hi
  ·
   rw [cal]
   have hx := ih1 0 i (by omega) hi
   split
   ·
    rename_i y p he
    obtain ⟨h3, h4⟩ := hx.2 y p he
    split
    ·
     rename_i h
     obtain ⟨h5, h6⟩ := stands_le h4 h
     split
     · exact fit_err _ _ _ _
     · exact fit_ok (by omega) h6
    split
    ·
     rename_i h
     obtain ⟨h5, h6⟩ := stands_le h4 h
     split
     · exact (ih4 _ _ _ h6).later (by omega) (by omega)
     · exact fit_err _ _ _ _
    · exact fit_err _ _ _ _
   · exact fit_err _ _ _ _
   · rename_i ho; exact fit_out fun hq => absurd ho (hx.1 (by omega))
theorem top_out {s : ByteArray} {i : Nat} (hi : i ≤ s.size) : top s i ≠ .out := ((enough s (many s)).1 0 i (by omega) hi).1 (by unfold many; omega)
theorem lev_le {s : ByteArray} {f n i : Nat} {e : E} {p : Nat} (hn : n ≤ 8) (hi : i ≤ s.size) (h : lev s f n i = .ok e p) : i < p ∧ p ≤ s.size := ((enough s f).1 n i hn hi).2 e p h
theorem top_le {s : ByteArray} {i : Nat} {e : E} {p : Nat} (hi : i ≤ s.size) (h : top s i = .ok e p) : i < p ∧ p ≤ s.size := lev_le (by omega) hi h
end Go.Proofs.YtfbipnflgjhaiaaGreatDoor.Ex
namespace Go.Proofs.YtfbipnflgjhaiaaGreatDoor.Ex
open Tk
def Dp (i d : Nat) (r : Res) : Prop := ∀ e p, r = .ok e p → e.depth + i ≤ p + d
theorem dp_err (i d p : Nat) (c : Int) : Dp i d (.err p c) := fun e q h => by cases h
theorem dp_out (i d : Nat) : Dp i d .out := fun e q h => by cases h
theorem dp_ok {i d p : Nat} {e : E} (h : e.depth + i ≤ p + d) : Dp i d (.ok e p) := fun e' p' k => by injection k with k1 k2; subst k1 k2; exact h
theorem leaf_depth (o n : ByteArray) (v : T) : (E.mk o n v []).depth = 1 := rfl
theorem one_depth (o n : ByteArray) (v : T) (e : E) : (E.mk o n v [e]).depth = 1 + e.depth := by
 show 1 + max e.depth 0 = _; omega
theorem two_depth (o n : ByteArray) (v : T) (e y : E) : (E.mk o n v [e, y]).depth = 1 + max e.depth y.depth := by
 show 1 + max e.depth (max y.depth 0) = _; omega
theorem dp_up {i j : Nat} {o : ByteArray} {r : Res} (h : Dp j 0 r) (hij : i < j) : Dp i 0 (up o r) := by
 cases r with
 | ok e p => have := h e p rfl; refine dp_ok ?_; rw [one_depth]; omega
 | err p c => exact dp_err _ _ _ _
 | out => exact dp_out _ _
theorem dp_key {s : ByteArray} {e : E} {i d : Nat} (hi : i ≤ s.size) (hd : e.depth ≤ d) : Dp i d (key s e i) := by
 have hf := (fit_key (q := True) (s := s) (i := i) (e := e)).2
 intro x p hx
 have := hf x p hx
 have hdx : x.depth = 1 + e.depth := by
  unfold key at hx
  split at hx
  ·
   split at hx
   · injection hx with h1 _; subst h1; exact one_depth _ _ _ _
   · cases hx
  ·
   split at hx
   · injection hx with h1 _; subst h1; exact one_depth _ _ _ _
   · cases hx
 omega
theorem leaf_num {s : ByteArray} {a : Nat} {e : E} {p : Nat} (h : num s a = .ok e p) : e.depth = 1 := by
 unfold num at h
 split at h
 · cases h
 ·
  split at h
  ·
   split at h
   · cases h
   · injection h with h1 _; subst h1; rfl
  · cases h
theorem leaf_strs {s : ByteArray} {a : Nat} {e : E} {p : Nat} (h : strs s a = .ok e p) : e.depth = 1 := by
 unfold strs at h
 split at h
 · injection h with h1 _; subst h1; rfl
 · cases h
theorem dp_leaf {i p : Nat} {r : Res} (hf : ∀ e p, r = .ok e p → i < p) (hd : ∀ e p, r = .ok e p → e.depth = 1) : Dp i 0 r := fun e p h => by
 have := hf e p h
 have := hd e p h
 omega
theorem deep_enough (s : ByteArray) : ∀ f, (∀ n i, n ≤ 8 → i ≤ s.size → Dp i 0 (lev s f n i)) ∧ (∀ n e i, i ≤ s.size → Dp i e.depth (chn s f n e i)) ∧ (∀ e i, i ≤ s.size → Dp i e.depth (prt s f e i)) ∧ (∀ w acc i, i ≤ s.size → Dp i (E.depths acc) (cal s f w acc i)) := by
 intro f
 induction f with
 | zero =>
  refine ⟨fun n i hn _ => ?_, fun n e i _ => ?_, fun e i _ => ?_, fun w acc i _ => ?_⟩
  · rw [lev]; exact dp_out _ _
  · rw [chn]; exact dp_out _ _
  · rw [prt]; exact dp_out _ _
  · rw [cal]; exact dp_out _ _
 | succ f ih =>
  obtain ⟨ih1, ih2, ih3, ih4⟩ := ih
  have hnot : notB.size = 3 := rfl
  have hmin : minusB.size = 1 := rfl
  have hopn : opnB.size = 1 := rfl
  have hcls : clsB.size = 1 := rfl
  have hcom : commaB.size = 1 := rfl
  have hdot : dotB.size = 1 := rfl
  have hosq : osqB.size = 1 := rfl
  have hcsq : csqB.size = 1 := rfl
  refine ⟨fun n i hn hi => ?_, fun n e i hi => ?_, fun e i hi => ?_, fun w acc i hi => ?_⟩
  ·
   have hb1 := bl_ge s i
   have hb2 := bl_le hi
   rcases (by omega : n = 2 ∨ n = 6 ∨ n = 7 ∨ n = 8 ∨ (n = 0 ∨ n = 1 ∨ n = 3 ∨ n = 4 ∨ n = 5)) with rfl | rfl | rfl | rfl | hn'
   ·
    rw [lev, if_pos rfl]
    by_cases h : stands s i notB = true
    ·
     rw [if_pos h]
     obtain ⟨h1, h2⟩ := stands_le hi h
     exact dp_up (ih1 2 _ (by omega) h2) (by omega)
    ·
     rw [if_neg h]
     exact ih1 3 i (by omega) hi
   ·
    rw [lev, if_neg (by decide), if_pos rfl]
    by_cases h : stands s i minusB = true
    ·
     rw [if_pos h]
     obtain ⟨h1, h2⟩ := stands_le hi h
     exact dp_up (ih1 6 _ (by omega) h2) (by omega)
    ·
     rw [if_neg h]
     exact ih1 7 i (by omega) hi
   ·
    rw [lev, if_neg (by decide), if_neg (by decide), if_pos rfl]
    have hx := ih1 8 i (by omega) hi
    cases he : lev s f 8 i with
    | ok e p =>
     have h1 := hx e p he
     obtain ⟨h3, h4⟩ := lev_le (by omega) hi he
     exact fun e' p' h => by have := ih3 e p h4 e' p' h; omega
    | err p c => exact dp_err _ _ _ _
    | out => exact dp_out _ _
   ·
    rw [lev, if_neg (by decide), if_neg (by decide), if_neg (by decide), if_pos rfl]
    by_cases h : isDg (bt s (bl s i)) = true
    ·
     rw [if_pos h]
     exact dp_leaf (p := 0) (fun e p k => by have := (fit_num (q := True) h).2 e p k; omega) fun e p k => leaf_num k
    rw [if_neg h]
    by_cases h : bt s (bl s i) = 34
    ·
     rw [if_pos h]
     exact dp_leaf (p := 0) (fun e p k => by have := (fit_strs (q := True) h).2 e p k; omega) fun e p k => leaf_strs k
    rw [if_neg h]
    by_cases h : isLt (bt s (bl s i)) = true
    ·
     rw [if_pos h]
     have h1 := wE_pos h
     have h2 := wE_le hb2
     by_cases h3 : isWord (wd s i) = true
     ·
      rw [if_pos h3]
      by_cases h4 : eqb (wd s i) trueB = true
      · rw [if_pos h4]; exact dp_ok (by rw [show (litE (Rd.truT true)).depth = 1 from rfl]; omega)
      rw [if_neg h4]
      by_cases h4 : eqb (wd s i) falseB = true
      · rw [if_pos h4]; exact dp_ok (by rw [show (litE (Rd.truT false)).depth = 1 from rfl]; omega)
      rw [if_neg h4]
      by_cases h4 : eqb (wd s i) nullB = true
      · rw [if_pos h4]; exact dp_ok (by rw [show (litE Rd.nulT).depth = 1 from rfl]; omega)
      rw [if_neg h4]
      by_cases h4 : eqb (wd s i) thisB = true
      · rw [if_pos h4]; exact dp_ok (by rw [leaf_depth]; omega)
      · rw [if_neg h4]; exact dp_err _ _ _ _
     rw [if_neg h3]
     by_cases h4 : 0 < argsN (wd s i)
     ·
      rw [if_pos h4]
      by_cases h5 : stands s (wE s (bl s i)) opnB = true
      ·
       rw [if_pos h5]
       obtain ⟨h6, h7⟩ := stands_le h2 h5
       exact fun e' p' h => by have := ih4 _ _ _ h7 e' p' h; simp only [E.depths] at this; omega
      · rw [if_neg h5]; exact dp_err _ _ _ _
     · rw [if_neg h4]; exact dp_ok (by rw [leaf_depth]; omega)
    rw [if_neg h]
    by_cases h3 : stands s i opnB = true
    ·
     rw [if_pos h3]
     obtain ⟨h4, h5⟩ := stands_le hi h3
     have hx := ih1 0 _ (by omega) h5
     cases he : lev s f 0 (past s i opnB) with
     | ok e p =>
      have h6 := hx e p he
      obtain ⟨h7, h8⟩ := lev_le (by omega) h5 he
      dsimp only
      by_cases h9 : stands s p clsB = true
      ·
       rw [if_pos h9]
       obtain ⟨h10, h11⟩ := stands_le h8 h9
       exact dp_ok (by omega)
      · rw [if_neg h9]; exact dp_err _ _ _ _
     | err p c => exact dp_err _ _ _ _
     | out => exact dp_out _ _
    · rw [if_neg h3]; exact dp_err _ _ _ _
   ·
    rw [lev, if_neg (by omega), if_neg (by omega), if_neg (by omega), if_neg (by omega)]
    have hx := ih1 (n + 1) i (by omega) hi
    cases he : lev s f (n + 1) i with
    | ok e p =>
     have h1 := hx e p he
     obtain ⟨h3, h4⟩ := lev_le (by omega) hi he
     exact fun e' p' h => by have := ih2 n e p h4 e' p' h; omega
    | err p c => exact dp_err _ _ _ _
    | out => exact dp_out _ _
  ·
   rw [chn]
   split
   · exact dp_ok (by omega)
   ·
    rename_i o ho
    obtain ⟨h1, h2⟩ := btw_le hi ho
    have hn8 := sg_lt (btw_some ho).1
    have hx := ih1 (n + 1) _ (by omega) h2
    split
    ·
     rename_i y p he
     have h3 := hx y p he
     obtain ⟨h5, h6⟩ := lev_le (by omega) h2 he
     split
     · refine dp_ok ?_; rw [two_depth]; omega
     · exact fun e' p' h => by
        have := ih2 n (.mk o nix Rd.nulT [e, y]) p h6 e' p' h
        rw [two_depth] at this; omega
    · exact dp_err _ _ _ _
    · exact dp_out _ _
  ·
   rw [prt]
   split
   ·
    rename_i h
    obtain ⟨h1, h2⟩ := stands_le hi h
    have hx := dp_key (s := s) (e := e) (i := past s i dotB) (d := e.depth) h2 (Nat.le_refl _)
    have hf := (fit_key (q := True) (s := s) (i := past s i dotB) (e := e)).2
    split
    ·
     rename_i y p he
     have h3 := hx y p he
     obtain ⟨h4, h5⟩ := hf y p he
     exact fun e' p' h => by have := ih3 y p h5 e' p' h; omega
    · exact dp_err _ _ _ _
    · exact dp_out _ _
   split
   ·
    rename_i h
    obtain ⟨h1, h2⟩ := stands_le hi h
    have hx := ih1 0 _ (by omega) h2
    split
    ·
     rename_i y p he
     have h3 := hx y p he
     obtain ⟨h4, h5⟩ := lev_le (by omega) h2 he
     split
     ·
      rename_i h6
      obtain ⟨h7, h8⟩ := stands_le h5 h6
      exact fun e' p' h => by
       have := ih3 (.mk atB nix Rd.nulT [e, y]) _ h8 e' p' h
       rw [two_depth] at this; omega
     · exact dp_err _ _ _ _
    · exact dp_err _ _ _ _
    · exact dp_out _ _
   · exact dp_ok (by omega)
  ·
   rw [cal]
   have hx := ih1 0 i (by omega) hi
   have hac : ∀ y : E, E.depths (acc ++ [y]) = max (E.depths acc) y.depth := fun y => by rw [E.depths_append]; simp only [E.depths]; omega
   split
   ·
    rename_i y p he
    have h3 := hx y p he
    obtain ⟨h4, h5⟩ := lev_le (by omega) hi he
    split
    ·
     rename_i h
     obtain ⟨h6, h7⟩ := stands_le h5 h
     split
     · exact dp_err _ _ _ _
     ·
      refine dp_ok ?_
      show 1 + E.depths (acc ++ [y]) + i ≤ _
      rw [hac]; omega
    split
    ·
     rename_i h
     obtain ⟨h6, h7⟩ := stands_le h5 h
     split
     · exact fun e' p' h => by
        have := ih4 w (acc ++ [y]) _ h7 e' p' h
        rw [hac] at this; omega
     · exact dp_err _ _ _ _
    · exact dp_err _ _ _ _
   · exact dp_err _ _ _ _
   · exact dp_out _ _
theorem lev_dp {s : ByteArray} {f n i : Nat} {e : E} {p : Nat} (hn : n ≤ 8) (hi : i ≤ s.size) (h : lev s f n i = .ok e p) : e.depth + i ≤ p := by
 have h1 := (deep_enough s f).1 n i hn hi e p h
 omega
end Go.Proofs.YtfbipnflgjhaiaaGreatDoor.Ex
namespace Go.Proofs.YtfbipnflgjhaiaaGreatDoor.Ex
open Tk
theorem has_end {s : ByteArray} {i : Nat} {t : ByteArray} (h : s.size ≤ i) (ht : 1 ≤ t.size) : has s i t = false := by
 cases hh : has s i t with
 | false => rfl
 | true => have := has_le hh; omega
theorem stands_lt {s : ByteArray} {i : Nat} {t : ByteArray} (h : isLt (bt s (bl s i)) = true) : stands s i t = eqb (wd s i) t := by unfold stands; rw [if_pos h]
theorem word_first {s : ByteArray} {i : Nat} (hi : i ≤ s.size) (h : isLt (bt s (bl s i)) = true) : ∃ c r, (wd s i).data.toList = c :: r ∧ isLt c.toNat = true := by
 have h1 := lt_lt h
 have h2 := wE_pos h
 have h3 := wE_le (bl_le hi)
 unfold wd
 rw [sub_list, drop_cons h1]
 obtain ⟨n, hn⟩ : ∃ n, wE s (bl s i) - bl s i = n + 1 := ⟨wE s (bl s i) - bl s i - 1, by omega⟩
 rw [hn, List.take_succ_cons]
 exact ⟨_, _, rfl, by rw [bt_at s _ h1]; exact h⟩
theorem stands_sign {s : ByteArray} {i : Nat} {t : ByteArray} (hi : i ≤ s.size) (h : isLt (bt s (bl s i)) = true) (ht : ∀ c ∈ t.data.toList, isLt c.toNat = false) : stands s i t = false := by
 rw [stands_lt h]
 apply eqb_no
 intro e
 obtain ⟨c, r, h1, h2⟩ := word_first hi h
 rw [e] at h1
 rw [ht c (by rw [h1]; exact List.mem_cons_self)] at h2
 cases h2
end Go.Proofs.YtfbipnflgjhaiaaGreatDoor.Ex
