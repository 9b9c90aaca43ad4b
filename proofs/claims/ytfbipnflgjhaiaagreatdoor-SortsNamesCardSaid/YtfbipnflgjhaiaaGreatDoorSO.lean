/- Sorts as numbers below 64; only, meets, Has, Of: contracts. Rows of sorts that meet: plain mathematics. Rows of sorts, met one by one; what an Op makes: contracts (get, and the sum). The reference's sorts of a number: contract. What kinds of values an expression may have: plain mathematics. What an Op makes of its Args' sorts, whatever the Op: contracts of done and called. -/
import Derived.Outline
import Derived.Deep.DeepCutAuto
import Derived.Maps.AppendAt
import Derived.Test.YtfbipnflgjhaiaaGreatDoorEF
set_option linter.unusedVariables false
set_option maxRecDepth 100000
set_option maxHeartbeats 8000000
open Go.Lib (hid)
namespace Go.Proofs.YtfbipnflgjhaiaaGreatDoor
open Go.RowKit
theorem wrap_and : ∀ s m : Fin 64, IntKind.i64.wrap ((BitVec.ofInt IntKind.i64.bits (s.val : Int) &&& BitVec.ofInt IntKind.i64.bits (m.val : Int)).toNat) = ((s.val &&& m.val : Nat) : Int) := by decide +kernel
theorem bits_and (s m : Nat) (hs : s < 64) (hm : m < 64) : bits BinOp.and .i64 (s : Int) (m : Int) = ((s &&& m : Nat) : Int) := wrap_and ⟨s, hs⟩ ⟨m, hm⟩
def onlyN (k : Int) : Nat := if 0 ≤ k ∧ k ≤ 5 then 2 ^ k.toNat else 0
theorem onlyN_no {k : Int} (h : ¬ (0 ≤ k ∧ k ≤ 5)) : onlyN k = 0 := if_neg h
theorem oonly_any (k : Int) (w : World) : Calls Tryz.prog 25 #[.int .i64 k] w fun e w' => e = .returned (.int .i64 (onlyN k : Nat)) ∧ w = w' := by
 by_cases h0 : k < 0
 ·
  have HO := hid (onlyN_no (k := k) (by omega))
  have u1 : decide (k < 0) = true := decide_eq_true h0
  go_enter Tryz.func25, Tryz.ntmps25
  go_wp2_with fail
  go_ret
  exact ⟨by rw [HO.out] <;> rfl, rfl⟩
 ·
  have u1 : decide (k < 0) = false := decide_eq_false h0
  by_cases h5 : 5 < k
  ·
   have HO := hid (onlyN_no (k := k) (by omega))
   have u2 : decide (5 < k) = true := decide_eq_true h5
   go_enter Tryz.func25, Tryz.ntmps25
   go_wp2_with fail
   go_ret
   exact ⟨by rw [HO.out] <;> rfl, rfl⟩
  ·
   rcases (by omega : k = 0 ∨ k = 1 ∨ k = 2 ∨ k = 3 ∨ k = 4 ∨ k = 5) with rfl | rfl | rfl | rfl | rfl | rfl <;>
   (
    clear h0 h5 u1
    go_enter Tryz.func25, Tryz.ntmps25
    go_wp2_with fail
    go_ret
    exact ⟨rfl, rfl⟩)
theorem omeets_any (s m : Nat) (hs : s < 64) (hm : m < 64) (w : World) : Calls Tryz.prog 44 #[.int .i64 (s : Int), .int .i64 (m : Int)] w fun e w' => e = .returned (.bool (!decide (s &&& m = 0))) ∧ w = w' := by
 have hrun := bits_and s m hs hm
 have HZ := hid (show ∃ z, s &&& m = z from ⟨_, rfl⟩)
 obtain ⟨z, hz⟩ := HZ.out
 rw [hz] at hrun ⊢
 clear HZ hz hs hm
 by_cases h : z = 0
 ·
  subst h
  go_enter Tryz.func44, Tryz.ntmps44
  go_wp2_with fail
  go_ret
  exact ⟨rfl, rfl⟩
 ·
  have u1 : ((z : Int) != 0) = true := by simp; omega
  have u2 : ((z : Int) == 0) = false := by simp; omega
  have u3 : decide ((z : Int) = 0) = false := decide_eq_false (by omega)
  have HD := hid (show (!decide (z = 0)) = true by rw [decide_eq_false h]; rfl)
  clear h
  go_enter Tryz.func44, Tryz.ntmps44
  go_wp2_with fail
  go_ret
  exact ⟨by rw [HD.out] <;> rfl, rfl⟩
theorem oof_any (k : Int) (v1 v2 v3 v4 v5 : Value) (w : World) : Calls Tryz.prog 12 #[.agg #[.int .i64 k, v1, v2, v3, v4, v5]] w fun e w' => e = .returned (.int .i64 (onlyN k : Nat)) ∧ Below w.heap.size w w' := by
 go_enter Tryz.func12, Tryz.ntmps12
 go_upto_region 1 with fail
 have hB := Blk.new w 49 #[.int .i64 k, v1, v2, v3, v4, v5]
 have hW : Below w.heap.size w (w.alloc (.cells #[.int .i64 k, v1, v2, v3, v4, v5] 49)) := (Below.refl _ _).alloc (Nat.le_refl _) _
 change Code.wp _ _ _ _ (w.alloc (.cells #[.int .i64 k, v1, v2, v3, v4, v5] 49))
 generalize (w.alloc (.cells #[.int .i64 k, v1, v2, v3, v4, v5] 49)) = W at *
 have HW := hid hW
 have a0 := hB.cell 0
 clear hB hW
 go_wp2_with fail
 refine (oonly_any k W).mono ?_
 rintro e w2 ⟨rfl, rfl⟩
 go_wp2_with fail
 go_ret
 exact ⟨rfl, HW.out⟩
def meetsAll : List Nat → List Nat → Bool
 | [], [] => true
 | x :: l, y :: m => !decide (x &&& y = 0) && meetsAll l m
 | _, _ => false
theorem meets_len : ∀ {l m : List Nat}, l.length ≠ m.length → meetsAll l m = false
 | [], [], h => absurd rfl h
 | [], _ :: _, _ => rfl
 | _ :: _, [], _ => rfl
 | x :: l, y :: m, h => by
  unfold meetsAll
  rw [meets_len (l := l) (m := m) (fun e => h (by rw [List.length_cons, List.length_cons, e]))]
  simp
theorem meets_yes : ∀ {l m : List Nat}, l.length = m.length → (∀ i x y : Nat, l[i]? = some x → m[i]? = some y → x &&& y ≠ 0) → meetsAll l m = true
 | [], [], _, _ => rfl
 | [], _ :: _, h, _ => by cases h
 | _ :: _, [], h, _ => by cases h
 | x :: l, y :: m, h, ha => by
  unfold meetsAll
  rw [meets_yes (l := l) (m := m) (by simpa using h) (fun i x y h1 h2 => ha (i + 1) x y (by simpa using h1) (by simpa using h2))]
  have := ha 0 x y rfl rfl
  simp [this]
theorem meets_no : ∀ {l m : List Nat} {i x y : Nat}, l[i]? = some x → m[i]? = some y → x &&& y = 0 → meetsAll l m = false
 | [], _, _, _, _, h, _, _ => by simp at h
 | _ :: _, [], _, _, _, _, h, _ => by simp at h
 | a :: l, b :: m, i, x, y, h1, h2, h => by
  unfold meetsAll
  cases i with
  | zero =>
   simp at h1 h2
   subst h1 h2
   simp [h]
  | succ i =>
   rw [meets_no (l := l) (m := m) (i := i) (by simpa using h1) (by simpa using h2) h]
   simp
open Go.RowKit
def SRow (w : World) (b o : Nat) (l : List Nat) : Prop := b < w.heap.size ∧ ∀ (i x : Nat), l[i]? = some x → w.cell? ⟨b, o + i, none⟩ = some (.int .i64 (x : Int))
theorem SRow.on {w w' : World} {b o : Nat} {l : List Nat} (h : SRow w b o l) (hb : Below w.heap.size w w') : SRow w' b o l :=
 ⟨Nat.lt_of_lt_of_le h.1 hb.size, fun i x hx => (hb.cell (p := ⟨b, o + i, none⟩) h.1).trans (h.2 i x hx)⟩
theorem eqf_any (l m : List Nat) (b1 o1 c1 b2 o2 c2 : Nat) (w : World) (hn : l.length ≤ 1000) (hk : m.length ≤ 1000) (hl : ∀ x ∈ l, x < 64) (hm : ∀ x ∈ m, x < 64) (h1 : SRow w b1 o1 l) (h2 : SRow w b2 o2 m) :
 Calls Tryz.prog 43 #[.slice (some ⟨b1, o1, none⟩) l.length c1, .slice (some ⟨b2, o2, none⟩) m.length c2, .func (.func 44) #[] #[]] w fun e w' => e = .returned (.bool (meetsAll l m)) ∧ w = w' := by
 have H1 := hid h1
 have H2 := hid h2
 have HL := hid hl
 have HM := hid hm
 clear h1 h2 hl hm
 by_cases hlm : l.length = m.length
 ·
  have HY := hid (fun h => meets_yes (l := l) (m := m) hlm h)
  have HN := hid (fun i x y h1 h2 h3 => meets_no (l := l) (m := m) (i := i) (x := x) (y := y) h1 h2 h3)
  generalize meetsAll l m = R at *
  rw [← hlm]
  have HLM := hid hlm
  clear hlm
  have v1 : ((l.length : Int) != (l.length : Int)) = false := by simp
  go_enter Tryz.func43, Tryz.ntmps43
  go_wp2_with fail
  go_loop [17] (fun x => ∃ k : Nat, k ≤ l.length ∧ x = .int .i64 k ∧ ∀ i x y : Nat, i < k → l[i]? = some x → m[i]? = some y → x &&& y ≠ 0) (fun x => l.length - (intOf x).toNat)
  case atStart => exact ⟨0, Nat.zero_le _, rfl, fun i x y h => absurd h (Nat.not_lt_zero i)⟩
  case round =>
   obtain ⟨k, hk2, rfl, hall⟩ := hrel
   have HALL := hid hall
   clear hall
   by_cases hlt : k < l.length
   ·
    have u1 : decide (k < l.length) = true := decide_eq_true hlt
    have u2 : decide ((k : Int) < (l.length : Int)) = true := decide_eq_true (by omega)
    have i1 : (k : Int) < (l.length : Int) := by omega
    have i2 : (0 : Int) ≤ (k : Int) := by omega
    obtain ⟨x, hx⟩ : ∃ x, l[k]? = some x := ⟨_, List.getElem?_eq_getElem hlt⟩
    obtain ⟨y, hy⟩ : ∃ y, m[k]? = some y := ⟨_, List.getElem?_eq_getElem (by rw [← HLM.out]; exact hlt)⟩
    have c1 := H1.out.2 k x hx
    have c2 := H2.out.2 k y hy
    have HX := hid hx
    have HYY := hid hy
    have hx64 := HL.out x (List.mem_of_getElem? hx)
    have hy64 := HM.out y (List.mem_of_getElem? hy)
    have HMT := hid (fun w1 => omeets_any x y hx64 hy64 w1)
    clear hx hy hx64 hy64
    obtain ⟨z, hz⟩ : ∃ z, (x &&& y = 0) = z := ⟨_, rfl⟩
    by_cases h0 : x &&& y = 0
    ·
     have HMF := hid (show ∀ w1, Calls Tryz.prog 44 #[.int .i64 (x : Int), .int .i64 (y : Int)] w1 fun e w' => e = .returned (.bool false) ∧ w1 = w' from fun w1 => by have := HMT.out w1; rw [decide_eq_true h0] at this; exact this)
     have HRF := hid (HN.out k x y HX.out HYY.out h0)
     clear h0 hz HMT
     go_wp2_with fail
     refine (HMF.out _).mono ?_
     rintro e w2 ⟨rfl, rfl⟩
     go_wp2_with fail
     go_ret
     exact ⟨by rw [HRF.out] <;> rfl, rfl⟩
    ·
     have HMF := hid (show ∀ w1, Calls Tryz.prog 44 #[.int .i64 (x : Int), .int .i64 (y : Int)] w1 fun e w' => e = .returned (.bool true) ∧ w1 = w' from fun w1 => by have := HMT.out w1; rw [decide_eq_false h0] at this; exact this)
     have HNE := hid h0
     clear h0 hz HMT
     go_wp2_with fail
     refine (HMF.out _).mono ?_
     rintro e w2 ⟨rfl, rfl⟩
     go_wp2_with fail
     go_round
     case rel => exact ⟨k + 1, hlt, by go_num, fun i x' y' hi hx' hy' => by
      rcases Nat.lt_or_ge i k with h | h
      · exact HALL.out i x' y' h hx' hy'
      ·
       obtain rfl : i = k := by omega
       rw [HX.out] at hx'
       rw [HYY.out] at hy'
       injection hx' with hx'
       injection hy' with hy'
       subst hx' hy'
       exact HNE.out⟩
     case measure => simp [intOf]; omega
   ·
    obtain rfl : k = l.length := by omega
    have u1 : decide (l.length < l.length) = false := decide_eq_false (by omega)
    have u2 : decide ((l.length : Int) < (l.length : Int)) = false := decide_eq_false (by omega)
    have HRT := hid (HY.out (fun i x y hx hy => HALL.out i x y (List.getElem?_eq_some_iff.1 hx).1 hx hy))
    go_wp2_with fail
    go_ret
    exact ⟨by rw [HRT.out] <;> rfl, rfl⟩
 ·
  have HF := hid (meets_len hlm)
  have v1 : ((l.length : Int) != (m.length : Int)) = true := by simp; omega
  have v2 : ((l.length : Int) == (m.length : Int)) = false := beq_eq_false_iff_ne.2 (by omega)
  have v3 : decide ((l.length : Int) = (m.length : Int)) = false := decide_eq_false (by omega)
  generalize l.length = ll at *
  generalize m.length = mm at *
  clear hlm
  go_enter Tryz.func43, Tryz.ntmps43
  go_wp2_with fail
  go_ret
  exact ⟨by rw [HF.out] <;> rfl, rfl⟩
theorem omay_any (l m : List Nat) (b1 o1 c1 b2 o2 c2 : Nat) (w : World) (hn : l.length ≤ 1000) (hk : m.length ≤ 1000) (hl : ∀ x ∈ l, x < 64) (hm : ∀ x ∈ m, x < 64) (h1 : SRow w b1 o1 l) (h2 : SRow w b2 o2 m) :
 Calls Tryz.prog 33 #[.slice (some ⟨b1, o1, none⟩) l.length c1, .slice (some ⟨b2, o2, none⟩) m.length c2] w fun e w' => e = .returned (.bool (meetsAll l m)) ∧ w = w' := by
 have HE := hid (eqf_any l m b1 o1 c1 b2 o2 c2 w hn hk hl hm h1 h2)
 clear hl hm h1 h2
 go_enter Tryz.func33, Tryz.ntmps33
 go_wp2_with fail
 refine HE.out.mono ?_
 rintro e w2 ⟨rfl, rfl⟩
 go_wp2_with fail
 go_ret
 exact ⟨rfl, rfl⟩
open Go.RowKit
open Tk Ex
structure En where
 this : Nat
 names : List ByteArray
 sorts : List Nat
def kindS (k : Int) : Nat := if k = 0 then 1 else if k = 1 then 2 else if k = 2 then 4 else if k = 3 then 8 else if k = 4 then 16 else if k = 5 then 32 else 0
def findS : List ByteArray → List Nat → ByteArray → Option Nat
 | n :: ns, s :: ss, m => if eqb n m = true then some s else findS ns ss m
 | _, _, _ => none
def calledRow (o : ByteArray) : List (List Nat) × Nat :=
 if eqb o ⟨#[108, 101, 110]⟩ = true then ([[56]], 4)
 else if eqb o ⟨#[115, 117, 109]⟩ = true then ([[16]], 4)
 else if eqb o ⟨#[109, 105, 110]⟩ = true then ([[16]], 4)
 else if eqb o ⟨#[109, 97, 120]⟩ = true then ([[16]], 4)
 else if eqb o ⟨#[97, 108, 108]⟩ = true then ([[16]], 2)
 else if eqb o ⟨#[97, 110, 121]⟩ = true then ([[16]], 2)
 else if eqb o ⟨#[107, 101, 121, 115]⟩ = true then ([[32]], 16)
 else if eqb o ⟨#[104, 97, 115]⟩ = true then ([[32, 8]], 2)
 else if eqb o ⟨#[99, 111, 117, 110, 116]⟩ = true then ([[16, 63]], 4)
 else if eqb o ⟨#[115, 116, 97, 114, 116, 115]⟩ = true then ([[8, 8]], 2)
 else if eqb o ⟨#[101, 110, 100, 115]⟩ = true then ([[8, 8]], 2)
 else if eqb o ⟨#[106, 111, 105, 110]⟩ = true then ([[16, 8]], 8)
 else ([], 0)
def doneRow (o : ByteArray) : List (List Nat) × Nat :=
 if eqb o getB = true then ([[32]], 63)
 else if eqb o atB = true then ([[16, 4]], 63)
 else if eqb o orB = true then ([[2, 2]], 2)
 else if eqb o andB = true then ([[2, 2]], 2)
 else if eqb o notB = true then ([[2]], 2)
 else if eqb o eqB = true then ([[63, 63]], 2)
 else if eqb o neB = true then ([[63, 63]], 2)
 else if eqb o ltB = true then ([[4, 4], [8, 8]], 2)
 else if eqb o leB = true then ([[4, 4], [8, 8]], 2)
 else if eqb o gtB = true then ([[4, 4], [8, 8]], 2)
 else if eqb o geB = true then ([[4, 4], [8, 8]], 2)
 else if eqb o plusB = true then ([[4, 4]], 4)
 else if eqb o minusB = true then ([[4, 4]], 4)
 else if eqb o starB = true then ([[4, 4]], 4)
 else if eqb o slashB = true then ([[4, 4]], 4)
 else if eqb o remB = true then ([[4, 4]], 4)
 else if eqb o negB = true then ([[4]], 4)
 else calledRow o
def doneB (o : ByteArray) (vs : List Nat) : Bool := (doneRow o).1.any (meetsAll vs)
mutual
def chk (n : En) : E → Nat × Int
 | .mk o m v l => match chks n l with
  | .inr c => (0, c)
  | .inl vs => if eqb o litB = true then (kindS v.kind, 0) else if eqb o thisB = true then (n.this, 0)
   else if eqb o varB = true then (match findS n.names n.sorts m with
    | some s => (s, 0)
    | none => (0, 13))
   else if doneB o vs = true then ((doneRow o).2, 0) else (0, 9)
def chks (n : En) : List E → List Nat ⊕ Int
 | [] => .inl []
 | x :: r => if (chk n x).2 = 0 then (match chks n r with
  | .inl vs => .inl ((chk n x).1 :: vs)
  | .inr c => .inr c) else .inr (chk n x).2
end
theorem chk_eq (n : En) (e : E) : chk n e = (match chks n e.args with
 | .inr c => (0, c)
 | .inl vs => if eqb e.op litB = true then (kindS e.lit.kind, 0) else if eqb e.op thisB = true then (n.this, 0)
  else if eqb e.op varB = true then (match findS n.names n.sorts e.name with
   | some s => (s, 0)
   | none => (0, 13))
  else if doneB e.op vs = true then ((doneRow e.op).2, 0) else (0, 9)) := by
 obtain ⟨o, m, v, l⟩ := e
 rfl
theorem chks_cons (n : En) (x : E) (r : List E) : chks n (x :: r) = if (chk n x).2 = 0 then (match chks n r with
 | .inl vs => .inl ((chk n x).1 :: vs)
 | .inr c => .inr c) else .inr (chk n x).2 := rfl
theorem chks_snoc (n : En) (x : E) : ∀ {l : List E} {vs : List Nat}, chks n l = .inl vs → (chk n x).2 = 0 → chks n (l ++ [x]) = .inl (vs ++ [(chk n x).1])
 | [], vs, h, hx => by
  have : vs = [] := by rw [chks] at h; injection h with h; exact h.symm
  subst this
  rw [List.nil_append, chks_cons, if_pos hx]; rfl
 | y :: l, vs, h, hx => by
  rw [chks_cons] at h
  rw [List.cons_append, chks_cons]
  by_cases hy : (chk n y).2 = 0
  ·
   rw [if_pos hy] at h ⊢
   cases hl : chks n l with
   | inr c => rw [hl] at h; cases h
   | inl ws =>
    rw [hl] at h
    injection h with h
    subst h
    rw [chks_snoc n x hl hx]; rfl
  · rw [if_neg hy] at h; cases h
theorem chks_bad (n : En) (x : E) (r : List E) : ∀ {l : List E} {vs : List Nat}, chks n l = .inl vs → (chk n x).2 ≠ 0 → chks n (l ++ x :: r) = .inr (chk n x).2
 | [], vs, h, hx => by rw [List.nil_append, chks_cons, if_neg hx]
 | y :: l, vs, h, hx => by
  rw [chks_cons] at h
  rw [List.cons_append, chks_cons]
  by_cases hy : (chk n y).2 = 0
  ·
   rw [if_pos hy] at h ⊢
   cases hl : chks n l with
   | inr c => rw [hl] at h; cases h
   | inl ws => rw [chks_bad n x r hl hx]
  · rw [if_neg hy] at h; cases h
theorem kindS_lt (k : Int) : kindS k < 64 := by unfold kindS; split; decide; split; decide; split; decide; split; decide; split; decide; split <;> decide
theorem ite_snd {c : Prop} [Decidable c] {x y : List (List Nat) × Nat} (hx : x.2 < 64) (hy : y.2 < 64) : (if c then x else y).2 < 64 := by
 split
 · exact hx
 · exact hy
theorem doneRow_lt (o : ByteArray) : (doneRow o).2 < 64 := by
 unfold doneRow
 repeat' (refine ite_snd (by decide) ?_)
 decide
theorem findS_lt : ∀ {ns : List ByteArray} {ss : List Nat} {m : ByteArray} {s : Nat}, (∀ x ∈ ss, x < 64) → findS ns ss m = some s → s < 64
 | [], _, _, _, _, h => by simp [findS] at h
 | n :: ns, [], _, _, _, h => by simp [findS] at h
 | n :: ns, s :: ss, m, t, hs, h => by
  rw [findS] at h
  split at h
  · injection h with h; subst h; exact hs _ List.mem_cons_self
  · exact findS_lt (fun x hx => hs x (List.mem_cons_of_mem _ hx)) h
theorem chk_lt {n : En} (h1 : n.this < 64) (h2 : ∀ x ∈ n.sorts, x < 64) (e : E) : (chk n e).1 < 64 := by
 rw [chk_eq]
 split
 ·
  show 0 < 64
  decide
 ·
  split
  · exact kindS_lt _
  ·
   split
   · exact h1
   ·
    split
    ·
     split
     · rename_i s hs; exact findS_lt h2 hs
     ·
      show 0 < 64
      decide
    ·
     split
     · exact doneRow_lt _
     ·
      show 0 < 64
      decide
theorem chks_lt {n : En} (h1 : n.this < 64) (h2 : ∀ x ∈ n.sorts, x < 64) : ∀ {l : List E} {vs : List Nat}, chks n l = .inl vs → ∀ x ∈ vs, x < 64
 | [], vs, h => by rw [chks] at h; injection h with h; subst h; intro x hx; cases hx
 | y :: l, vs, h => by
  rw [chks_cons] at h
  split at h
  ·
   cases hl : chks n l with
   | inr c => rw [hl] at h; cases h
   | inl ws =>
    rw [hl] at h
    injection h with h
    subst h
    intro x hx
    rcases List.mem_cons.1 hx with rfl | hx
    · exact chk_lt h1 h2 y
    · exact chks_lt h1 h2 hl x hx
  · cases h
theorem chks_ne (n : En) : ∀ l : List E, chks n l ≠ .inr 0
 | [], h => by rw [chks] at h; cases h
 | y :: l, h => by
  rw [chks_cons] at h
  split at h
  ·
   cases hl : chks n l with
   | inl ws => rw [hl] at h; cases h
   | inr c => rw [hl] at h; injection h with h; subst h; exact chks_ne n l hl
  ·
   rename_i hy
   injection h with h
   exact hy h
def Sub (a b : Nat) : Prop := a &&& b = a
theorem sub_self (a : Nat) : Sub a a := Nat.and_self a
open Go.RowKit
open Tk Ex
theorem kindS_only (k : Int) : kindS k = onlyN k := by
 unfold kindS onlyN
 by_cases h : 0 ≤ k ∧ k ≤ 5
 ·
  rw [if_pos h]
  rcases (by omega : k = 0 ∨ k = 1 ∨ k = 2 ∨ k = 3 ∨ k = 4 ∨ k = 5) with rfl | rfl | rfl | rfl | rfl | rfl <;> rfl
 · rw [if_neg h, if_neg (by omega), if_neg (by omega), if_neg (by omega), if_neg (by omega), if_neg (by omega), if_neg (by omega)]
theorem omay_1 (x : Nat) (hx : x < 64) {vs : List Nat} {b c : Nat} {w w0 : World} (hb : Below w0.heap.size w0 w) (hn : vs.length ≤ 1000) (hv : ∀ y ∈ vs, y < 64) (h : SRow w0 b 0 vs) :
 Calls Tryz.prog 33 #[.slice (some ⟨b, 0, none⟩) vs.length c, .slice (some ⟨w.heap.size, 0, none⟩) 1 1] (w.alloc (.cells #[.int .i64 (x : Int)] 33)) fun e w' => e = .returned (.bool (meetsAll vs [x])) ∧ Below w0.heap.size w0 w' := by
 have hW : Below w.heap.size w (w.alloc (.cells #[.int .i64 (x : Int)] 33)) := (Below.refl _ _).alloc (Nat.le_refl _) _
 refine (omay_any vs [x] b 0 c w.heap.size 0 1 _ hn (by simp) hv (fun y hy => by simp at hy; omega) ((h.on hb).on hW) ⟨(Blk.new w _ _).lt, fun i y hy => ?_⟩).mono fun e w' k => ⟨k.1, by rw [← k.2]; exact hb.trans (hW.mono hb.size)⟩
 rcases i with _ | i
 · injection hy with hy; subst hy; exact (Blk.new w 33 #[.int .i64 (x : Int)]).cell 0
 · simp at hy
theorem omay_2 (x y : Nat) (hx : x < 64) (hy : y < 64) {vs : List Nat} {b c : Nat} {w w0 : World} (hb : Below w0.heap.size w0 w) (hn : vs.length ≤ 1000) (hv : ∀ y ∈ vs, y < 64) (h : SRow w0 b 0 vs) :
 Calls Tryz.prog 33 #[.slice (some ⟨b, 0, none⟩) vs.length c, .slice (some ⟨w.heap.size, 0, none⟩) 2 2] (w.alloc (.cells #[.int .i64 (x : Int), .int .i64 (y : Int)] 33)) fun e w' => e = .returned (.bool (meetsAll vs [x, y])) ∧ Below w0.heap.size w0 w' := by
 have hW : Below w.heap.size w (w.alloc (.cells #[.int .i64 (x : Int), .int .i64 (y : Int)] 33)) := (Below.refl _ _).alloc (Nat.le_refl _) _
 refine (omay_any vs [x, y] b 0 c w.heap.size 0 2 _ hn (by simp) hv (fun z hz => by simp at hz; omega) ((h.on hb).on hW) ⟨(Blk.new w _ _).lt, fun i z hz => ?_⟩).mono fun e w' k => ⟨k.1, by rw [← k.2]; exact hb.trans (hW.mono hb.size)⟩
 rcases i with _ | _ | i
 · injection hz with hz; subst hz; exact (Blk.new w 33 #[.int .i64 (x : Int), .int .i64 (y : Int)]).cell 0
 · injection hz with hz; subst hz; exact (Blk.new w 33 #[.int .i64 (x : Int), .int .i64 (y : Int)]).cell 1
 · simp at hz
theorem done1 {D : List (List Nat) × Nat} {m : List Nat} {r : Nat} {vs : List Nat} (h : D = ([m], r)) : D.1.any (meetsAll vs) = meetsAll vs m := by rw [h]; simp
theorem done2 {D : List (List Nat) × Nat} {m k : List Nat} {r : Nat} {vs : List Nat} (h : D = ([m, k], r)) : D.1.any (meetsAll vs) = (meetsAll vs m || meetsAll vs k) := by rw [h]; simp
theorem ocalled_any (o : ByteArray) (vs : List Nat) (b c : Nat) (w : World) (hn : vs.length ≤ 1000) (hv : ∀ y ∈ vs, y < 64) (h : SRow w b 0 vs) :
 Calls Tryz.prog 34 #[.string o, .slice (some ⟨b, 0, none⟩) vs.length c] w fun e w' => e = .returned (.tuple #[.int .i64 ((calledRow o).2 : Nat), .bool ((calledRow o).1.any (meetsAll vs))]) ∧ Below w.heap.size w w' := by
 obtain ⟨b0, h0⟩ : ∃ b, eqb o (⟨#[108, 101, 110]⟩ : ByteArray) = b := ⟨_, rfl⟩
 obtain ⟨b1, h1⟩ : ∃ b, eqb o (⟨#[115, 117, 109]⟩ : ByteArray) = b := ⟨_, rfl⟩
 obtain ⟨b2, h2⟩ : ∃ b, eqb o (⟨#[109, 105, 110]⟩ : ByteArray) = b := ⟨_, rfl⟩
 obtain ⟨b3, h3⟩ : ∃ b, eqb o (⟨#[109, 97, 120]⟩ : ByteArray) = b := ⟨_, rfl⟩
 obtain ⟨b4, h4⟩ : ∃ b, eqb o (⟨#[97, 108, 108]⟩ : ByteArray) = b := ⟨_, rfl⟩
 obtain ⟨b5, h5⟩ : ∃ b, eqb o (⟨#[97, 110, 121]⟩ : ByteArray) = b := ⟨_, rfl⟩
 obtain ⟨b6, h6⟩ : ∃ b, eqb o (⟨#[107, 101, 121, 115]⟩ : ByteArray) = b := ⟨_, rfl⟩
 obtain ⟨b7, h7⟩ : ∃ b, eqb o (⟨#[104, 97, 115]⟩ : ByteArray) = b := ⟨_, rfl⟩
 obtain ⟨b8, h8⟩ : ∃ b, eqb o (⟨#[99, 111, 117, 110, 116]⟩ : ByteArray) = b := ⟨_, rfl⟩
 obtain ⟨b9, h9⟩ : ∃ b, eqb o (⟨#[115, 116, 97, 114, 116, 115]⟩ : ByteArray) = b := ⟨_, rfl⟩
 obtain ⟨b10, h10⟩ : ∃ b, eqb o (⟨#[101, 110, 100, 115]⟩ : ByteArray) = b := ⟨_, rfl⟩
 obtain ⟨b11, h11⟩ : ∃ b, eqb o (⟨#[106, 111, 105, 110]⟩ : ByteArray) = b := ⟨_, rfl⟩
 have HR := hid (show calledRow o = (if b0 = true then ([[56]], 4) else if b1 = true then ([[16]], 4) else if b2 = true then ([[16]], 4) else if b3 = true then ([[16]], 4) else if b4 = true then ([[16]], 2) else if b5 = true then ([[16]], 2) else if b6 = true then ([[32]], 16) else if b7 = true then ([[32, 8]], 2) else if b8 = true then ([[16, 63]], 4) else if b9 = true then ([[8, 8]], 2) else if b10 = true then ([[8, 8]], 2) else if b11 = true then ([[16, 8]], 8) else ([], 0)) by unfold calledRow; simp only [h0, h1, h2, h3, h4, h5, h6, h7, h8, h9, h10, h11])
 have f0 : (o.toList == [108, 101, 110]) = b0 := tl_lit rfl h0
 have g0 : (o.toList == (⟨#[108, 101, 110]⟩ : ByteArray).toList) = b0 := by rw [tl_eqb]; exact h0
 have f1 : (o.toList == [115, 117, 109]) = b1 := tl_lit rfl h1
 have g1 : (o.toList == (⟨#[115, 117, 109]⟩ : ByteArray).toList) = b1 := by rw [tl_eqb]; exact h1
 have f2 : (o.toList == [109, 105, 110]) = b2 := tl_lit rfl h2
 have g2 : (o.toList == (⟨#[109, 105, 110]⟩ : ByteArray).toList) = b2 := by rw [tl_eqb]; exact h2
 have f3 : (o.toList == [109, 97, 120]) = b3 := tl_lit rfl h3
 have g3 : (o.toList == (⟨#[109, 97, 120]⟩ : ByteArray).toList) = b3 := by rw [tl_eqb]; exact h3
 have f4 : (o.toList == [97, 108, 108]) = b4 := tl_lit rfl h4
 have g4 : (o.toList == (⟨#[97, 108, 108]⟩ : ByteArray).toList) = b4 := by rw [tl_eqb]; exact h4
 have f5 : (o.toList == [97, 110, 121]) = b5 := tl_lit rfl h5
 have g5 : (o.toList == (⟨#[97, 110, 121]⟩ : ByteArray).toList) = b5 := by rw [tl_eqb]; exact h5
 have f6 : (o.toList == [107, 101, 121, 115]) = b6 := tl_lit rfl h6
 have g6 : (o.toList == (⟨#[107, 101, 121, 115]⟩ : ByteArray).toList) = b6 := by rw [tl_eqb]; exact h6
 have f7 : (o.toList == [104, 97, 115]) = b7 := tl_lit rfl h7
 have g7 : (o.toList == (⟨#[104, 97, 115]⟩ : ByteArray).toList) = b7 := by rw [tl_eqb]; exact h7
 have f8 : (o.toList == [99, 111, 117, 110, 116]) = b8 := tl_lit rfl h8
 have g8 : (o.toList == (⟨#[99, 111, 117, 110, 116]⟩ : ByteArray).toList) = b8 := by rw [tl_eqb]; exact h8
 have f9 : (o.toList == [115, 116, 97, 114, 116, 115]) = b9 := tl_lit rfl h9
 have g9 : (o.toList == (⟨#[115, 116, 97, 114, 116, 115]⟩ : ByteArray).toList) = b9 := by rw [tl_eqb]; exact h9
 have f10 : (o.toList == [101, 110, 100, 115]) = b10 := tl_lit rfl h10
 have g10 : (o.toList == (⟨#[101, 110, 100, 115]⟩ : ByteArray).toList) = b10 := by rw [tl_eqb]; exact h10
 have f11 : (o.toList == [106, 111, 105, 110]) = b11 := tl_lit rfl h11
 have g11 : (o.toList == (⟨#[106, 111, 105, 110]⟩ : ByteArray).toList) = b11 := by rw [tl_eqb]; exact h11
 clear h0 h1 h2 h3 h4 h5 h6 h7 h8 h9 h10 h11
 have H := hid h
 have HV := hid hv
 have HBW := hid (Below.refl w.heap.size w)
 clear h hv
 cases b0 with
 | true =>
  have HE := hid (done1 (D := calledRow o) (vs := vs) (m := [56]) (r := 4) HR.out)
  generalize (calledRow o).1.any (meetsAll vs) = Z at *
  go_enter Tryz.func34, Tryz.ntmps34
  go_wp2_with fail
  refine (omay_1 56 (by decide) HBW.out hn HV.out H.out).mono ?_
  rintro e w2 ⟨rfl, hb⟩
  have HB := hid hb
  clear hb
  go_wp2_with fail
  go_ret2
  exact ⟨by rw [HR.out, HE.out] <;> rfl, HB.out⟩
 | false =>
 cases b1 with
 | true =>
  have HE := hid (done1 (D := calledRow o) (vs := vs) (m := [16]) (r := 4) HR.out)
  generalize (calledRow o).1.any (meetsAll vs) = Z at *
  go_enter Tryz.func34, Tryz.ntmps34
  go_wp2_with fail
  refine (omay_1 16 (by decide) HBW.out hn HV.out H.out).mono ?_
  rintro e w2 ⟨rfl, hb⟩
  have HB := hid hb
  clear hb
  go_wp2_with fail
  go_ret2
  exact ⟨by rw [HR.out, HE.out] <;> rfl, HB.out⟩
 | false =>
 cases b2 with
 | true =>
  have HE := hid (done1 (D := calledRow o) (vs := vs) (m := [16]) (r := 4) HR.out)
  generalize (calledRow o).1.any (meetsAll vs) = Z at *
  go_enter Tryz.func34, Tryz.ntmps34
  go_wp2_with fail
  refine (omay_1 16 (by decide) HBW.out hn HV.out H.out).mono ?_
  rintro e w2 ⟨rfl, hb⟩
  have HB := hid hb
  clear hb
  go_wp2_with fail
  go_ret2
  exact ⟨by rw [HR.out, HE.out] <;> rfl, HB.out⟩
 | false =>
 cases b3 with
 | true =>
  have HE := hid (done1 (D := calledRow o) (vs := vs) (m := [16]) (r := 4) HR.out)
  generalize (calledRow o).1.any (meetsAll vs) = Z at *
  go_enter Tryz.func34, Tryz.ntmps34
  go_wp2_with fail
  refine (omay_1 16 (by decide) HBW.out hn HV.out H.out).mono ?_
  rintro e w2 ⟨rfl, hb⟩
  have HB := hid hb
  clear hb
  go_wp2_with fail
  go_ret2
  exact ⟨by rw [HR.out, HE.out] <;> rfl, HB.out⟩
 | false =>
 cases b4 with
 | true =>
  have HE := hid (done1 (D := calledRow o) (vs := vs) (m := [16]) (r := 2) HR.out)
  generalize (calledRow o).1.any (meetsAll vs) = Z at *
  go_enter Tryz.func34, Tryz.ntmps34
  go_wp2_with fail
  refine (omay_1 16 (by decide) HBW.out hn HV.out H.out).mono ?_
  rintro e w2 ⟨rfl, hb⟩
  have HB := hid hb
  clear hb
  go_wp2_with fail
  go_ret2
  exact ⟨by rw [HR.out, HE.out] <;> rfl, HB.out⟩
 | false =>
 cases b5 with
 | true =>
  have HE := hid (done1 (D := calledRow o) (vs := vs) (m := [16]) (r := 2) HR.out)
  generalize (calledRow o).1.any (meetsAll vs) = Z at *
  go_enter Tryz.func34, Tryz.ntmps34
  go_wp2_with fail
  refine (omay_1 16 (by decide) HBW.out hn HV.out H.out).mono ?_
  rintro e w2 ⟨rfl, hb⟩
  have HB := hid hb
  clear hb
  go_wp2_with fail
  go_ret2
  exact ⟨by rw [HR.out, HE.out] <;> rfl, HB.out⟩
 | false =>
 cases b6 with
 | true =>
  have HE := hid (done1 (D := calledRow o) (vs := vs) (m := [32]) (r := 16) HR.out)
  generalize (calledRow o).1.any (meetsAll vs) = Z at *
  go_enter Tryz.func34, Tryz.ntmps34
  go_wp2_with fail
  refine (omay_1 32 (by decide) HBW.out hn HV.out H.out).mono ?_
  rintro e w2 ⟨rfl, hb⟩
  have HB := hid hb
  clear hb
  go_wp2_with fail
  go_ret2
  exact ⟨by rw [HR.out, HE.out] <;> rfl, HB.out⟩
 | false =>
 cases b7 with
 | true =>
  have HE := hid (done1 (D := calledRow o) (vs := vs) (m := [32, 8]) (r := 2) HR.out)
  generalize (calledRow o).1.any (meetsAll vs) = Z at *
  go_enter Tryz.func34, Tryz.ntmps34
  go_wp2_with fail
  refine (omay_2 32 8 (by decide) (by decide) HBW.out hn HV.out H.out).mono ?_
  rintro e w2 ⟨rfl, hb⟩
  have HB := hid hb
  clear hb
  go_wp2_with fail
  go_ret2
  exact ⟨by rw [HR.out, HE.out] <;> rfl, HB.out⟩
 | false =>
 cases b8 with
 | true =>
  have HE := hid (done1 (D := calledRow o) (vs := vs) (m := [16, 63]) (r := 4) HR.out)
  generalize (calledRow o).1.any (meetsAll vs) = Z at *
  go_enter Tryz.func34, Tryz.ntmps34
  go_wp2_with fail
  refine (omay_2 16 63 (by decide) (by decide) HBW.out hn HV.out H.out).mono ?_
  rintro e w2 ⟨rfl, hb⟩
  have HB := hid hb
  clear hb
  go_wp2_with fail
  go_ret2
  exact ⟨by rw [HR.out, HE.out] <;> rfl, HB.out⟩
 | false =>
 cases b9 with
 | true =>
  have HE := hid (done1 (D := calledRow o) (vs := vs) (m := [8, 8]) (r := 2) HR.out)
  generalize (calledRow o).1.any (meetsAll vs) = Z at *
  go_enter Tryz.func34, Tryz.ntmps34
  go_wp2_with fail
  refine (omay_2 8 8 (by decide) (by decide) HBW.out hn HV.out H.out).mono ?_
  rintro e w2 ⟨rfl, hb⟩
  have HB := hid hb
  clear hb
  go_wp2_with fail
  go_ret2
  exact ⟨by rw [HR.out, HE.out] <;> rfl, HB.out⟩
 | false =>
 cases b10 with
 | true =>
  have HE := hid (done1 (D := calledRow o) (vs := vs) (m := [8, 8]) (r := 2) HR.out)
  generalize (calledRow o).1.any (meetsAll vs) = Z at *
  go_enter Tryz.func34, Tryz.ntmps34
  go_wp2_with fail
  refine (omay_2 8 8 (by decide) (by decide) HBW.out hn HV.out H.out).mono ?_
  rintro e w2 ⟨rfl, hb⟩
  have HB := hid hb
  clear hb
  go_wp2_with fail
  go_ret2
  exact ⟨by rw [HR.out, HE.out] <;> rfl, HB.out⟩
 | false =>
 cases b11 with
 | true =>
  have HE := hid (done1 (D := calledRow o) (vs := vs) (m := [16, 8]) (r := 8) HR.out)
  generalize (calledRow o).1.any (meetsAll vs) = Z at *
  go_enter Tryz.func34, Tryz.ntmps34
  go_wp2_with fail
  refine (omay_2 16 8 (by decide) (by decide) HBW.out hn HV.out H.out).mono ?_
  rintro e w2 ⟨rfl, hb⟩
  have HB := hid hb
  clear hb
  go_wp2_with fail
  go_ret2
  exact ⟨by rw [HR.out, HE.out] <;> rfl, HB.out⟩
 | false =>
 have HE := hid (show (calledRow o).1.any (meetsAll vs) = false by rw [show calledRow o = ([], 0) from HR.out]; rfl)
 generalize (calledRow o).1.any (meetsAll vs) = Z at *
 go_enter Tryz.func34, Tryz.ntmps34
 go_wp2_with fail
 go_ret2
 exact ⟨by rw [HR.out, HE.out] <;> rfl, HBW.out⟩
theorem odone_any (o : ByteArray) (vs : List Nat) (b c : Nat) (w : World) (hn : vs.length ≤ 1000) (hv : ∀ y ∈ vs, y < 64) (h : SRow w b 0 vs) :
 Calls Tryz.prog 19 #[.string o, .slice (some ⟨b, 0, none⟩) vs.length c] w fun e w' => e = .returned (.tuple #[.int .i64 ((doneRow o).2 : Nat), .bool ((doneRow o).1.any (meetsAll vs))]) ∧ Below w.heap.size w w' := by
 obtain ⟨b0, h0⟩ : ∃ b, eqb o getB = b := ⟨_, rfl⟩
 obtain ⟨b1, h1⟩ : ∃ b, eqb o atB = b := ⟨_, rfl⟩
 obtain ⟨b2, h2⟩ : ∃ b, eqb o orB = b := ⟨_, rfl⟩
 obtain ⟨b3, h3⟩ : ∃ b, eqb o andB = b := ⟨_, rfl⟩
 obtain ⟨b4, h4⟩ : ∃ b, eqb o notB = b := ⟨_, rfl⟩
 obtain ⟨b5, h5⟩ : ∃ b, eqb o eqB = b := ⟨_, rfl⟩
 obtain ⟨b6, h6⟩ : ∃ b, eqb o neB = b := ⟨_, rfl⟩
 obtain ⟨b7, h7⟩ : ∃ b, eqb o ltB = b := ⟨_, rfl⟩
 obtain ⟨b8, h8⟩ : ∃ b, eqb o leB = b := ⟨_, rfl⟩
 obtain ⟨b9, h9⟩ : ∃ b, eqb o gtB = b := ⟨_, rfl⟩
 obtain ⟨b10, h10⟩ : ∃ b, eqb o geB = b := ⟨_, rfl⟩
 obtain ⟨b11, h11⟩ : ∃ b, eqb o plusB = b := ⟨_, rfl⟩
 obtain ⟨b12, h12⟩ : ∃ b, eqb o minusB = b := ⟨_, rfl⟩
 obtain ⟨b13, h13⟩ : ∃ b, eqb o starB = b := ⟨_, rfl⟩
 obtain ⟨b14, h14⟩ : ∃ b, eqb o slashB = b := ⟨_, rfl⟩
 obtain ⟨b15, h15⟩ : ∃ b, eqb o remB = b := ⟨_, rfl⟩
 obtain ⟨b16, h16⟩ : ∃ b, eqb o negB = b := ⟨_, rfl⟩
 have HC := hid (ocalled_any o vs b c w hn hv h)
 have HR := hid (show doneRow o = (if b0 = true then ([[32]], 63) else if b1 = true then ([[16, 4]], 63) else if b2 = true then ([[2, 2]], 2) else if b3 = true then ([[2, 2]], 2) else if b4 = true then ([[2]], 2) else if b5 = true then ([[63, 63]], 2) else if b6 = true then ([[63, 63]], 2) else if b7 = true then ([[4, 4], [8, 8]], 2) else if b8 = true then ([[4, 4], [8, 8]], 2) else if b9 = true then ([[4, 4], [8, 8]], 2) else if b10 = true then ([[4, 4], [8, 8]], 2) else if b11 = true then ([[4, 4]], 4) else if b12 = true then ([[4, 4]], 4) else if b13 = true then ([[4, 4]], 4) else if b14 = true then ([[4, 4]], 4) else if b15 = true then ([[4, 4]], 4) else if b16 = true then ([[4]], 4) else calledRow o) by unfold doneRow; simp only [h0, h1, h2, h3, h4, h5, h6, h7, h8, h9, h10, h11, h12, h13, h14, h15, h16])
 have f0 : (o.toList == [103, 101, 116]) = b0 := tl_lit rfl h0
 have g0 : (o.toList == (⟨#[103, 101, 116]⟩ : ByteArray).toList) = b0 := by rw [tl_eqb]; exact h0
 have f1 : (o.toList == [97, 116]) = b1 := tl_lit rfl h1
 have g1 : (o.toList == (⟨#[97, 116]⟩ : ByteArray).toList) = b1 := by rw [tl_eqb]; exact h1
 have f2 : (o.toList == [111, 114]) = b2 := tl_lit rfl h2
 have g2 : (o.toList == (⟨#[111, 114]⟩ : ByteArray).toList) = b2 := by rw [tl_eqb]; exact h2
 have f3 : (o.toList == [97, 110, 100]) = b3 := tl_lit rfl h3
 have g3 : (o.toList == (⟨#[97, 110, 100]⟩ : ByteArray).toList) = b3 := by rw [tl_eqb]; exact h3
 have f4 : (o.toList == [110, 111, 116]) = b4 := tl_lit rfl h4
 have g4 : (o.toList == (⟨#[110, 111, 116]⟩ : ByteArray).toList) = b4 := by rw [tl_eqb]; exact h4
 have f5 : (o.toList == [61, 61]) = b5 := tl_lit rfl h5
 have g5 : (o.toList == (⟨#[61, 61]⟩ : ByteArray).toList) = b5 := by rw [tl_eqb]; exact h5
 have f6 : (o.toList == [33, 61]) = b6 := tl_lit rfl h6
 have g6 : (o.toList == (⟨#[33, 61]⟩ : ByteArray).toList) = b6 := by rw [tl_eqb]; exact h6
 have f7 : (o.toList == [60]) = b7 := tl_lit rfl h7
 have g7 : (o.toList == (⟨#[60]⟩ : ByteArray).toList) = b7 := by rw [tl_eqb]; exact h7
 have f8 : (o.toList == [60, 61]) = b8 := tl_lit rfl h8
 have g8 : (o.toList == (⟨#[60, 61]⟩ : ByteArray).toList) = b8 := by rw [tl_eqb]; exact h8
 have f9 : (o.toList == [62]) = b9 := tl_lit rfl h9
 have g9 : (o.toList == (⟨#[62]⟩ : ByteArray).toList) = b9 := by rw [tl_eqb]; exact h9
 have f10 : (o.toList == [62, 61]) = b10 := tl_lit rfl h10
 have g10 : (o.toList == (⟨#[62, 61]⟩ : ByteArray).toList) = b10 := by rw [tl_eqb]; exact h10
 have f11 : (o.toList == [43]) = b11 := tl_lit rfl h11
 have g11 : (o.toList == (⟨#[43]⟩ : ByteArray).toList) = b11 := by rw [tl_eqb]; exact h11
 have f12 : (o.toList == [45]) = b12 := tl_lit rfl h12
 have g12 : (o.toList == (⟨#[45]⟩ : ByteArray).toList) = b12 := by rw [tl_eqb]; exact h12
 have f13 : (o.toList == [42]) = b13 := tl_lit rfl h13
 have g13 : (o.toList == (⟨#[42]⟩ : ByteArray).toList) = b13 := by rw [tl_eqb]; exact h13
 have f14 : (o.toList == [47]) = b14 := tl_lit rfl h14
 have g14 : (o.toList == (⟨#[47]⟩ : ByteArray).toList) = b14 := by rw [tl_eqb]; exact h14
 have f15 : (o.toList == [37]) = b15 := tl_lit rfl h15
 have g15 : (o.toList == (⟨#[37]⟩ : ByteArray).toList) = b15 := by rw [tl_eqb]; exact h15
 have f16 : (o.toList == [110, 101, 103]) = b16 := tl_lit rfl h16
 have g16 : (o.toList == (⟨#[110, 101, 103]⟩ : ByteArray).toList) = b16 := by rw [tl_eqb]; exact h16
 clear h0 h1 h2 h3 h4 h5 h6 h7 h8 h9 h10 h11 h12 h13 h14 h15 h16
 have H := hid h
 have HV := hid hv
 have HBW := hid (Below.refl w.heap.size w)
 clear h hv
 cases b0 with
 | true =>
  have HE := hid (done1 (D := doneRow o) (vs := vs) (m := [32]) (r := 63) HR.out)
  generalize (doneRow o).1.any (meetsAll vs) = Z at *
  go_enter Tryz.func19, Tryz.ntmps19
  go_wp2_with fail
  refine (omay_1 32 (by decide) HBW.out hn HV.out H.out).mono ?_
  rintro e w2 ⟨rfl, hb⟩
  have HB := hid hb
  clear hb
  go_wp2_with fail
  go_ret2
  exact ⟨by rw [HR.out, HE.out] <;> rfl, HB.out⟩
 | false =>
 cases b1 with
 | true =>
  have HE := hid (done1 (D := doneRow o) (vs := vs) (m := [16, 4]) (r := 63) HR.out)
  generalize (doneRow o).1.any (meetsAll vs) = Z at *
  go_enter Tryz.func19, Tryz.ntmps19
  go_wp2_with fail
  refine (omay_2 16 4 (by decide) (by decide) HBW.out hn HV.out H.out).mono ?_
  rintro e w2 ⟨rfl, hb⟩
  have HB := hid hb
  clear hb
  go_wp2_with fail
  go_ret2
  exact ⟨by rw [HR.out, HE.out] <;> rfl, HB.out⟩
 | false =>
 cases b2 with
 | true =>
  have HE := hid (done1 (D := doneRow o) (vs := vs) (m := [2, 2]) (r := 2) HR.out)
  generalize (doneRow o).1.any (meetsAll vs) = Z at *
  go_enter Tryz.func19, Tryz.ntmps19
  go_wp2_with fail
  refine (omay_2 2 2 (by decide) (by decide) HBW.out hn HV.out H.out).mono ?_
  rintro e w2 ⟨rfl, hb⟩
  have HB := hid hb
  clear hb
  go_wp2_with fail
  go_ret2
  exact ⟨by rw [HR.out, HE.out] <;> rfl, HB.out⟩
 | false =>
 cases b3 with
 | true =>
  have HE := hid (done1 (D := doneRow o) (vs := vs) (m := [2, 2]) (r := 2) HR.out)
  generalize (doneRow o).1.any (meetsAll vs) = Z at *
  go_enter Tryz.func19, Tryz.ntmps19
  go_wp2_with fail
  refine (omay_2 2 2 (by decide) (by decide) HBW.out hn HV.out H.out).mono ?_
  rintro e w2 ⟨rfl, hb⟩
  have HB := hid hb
  clear hb
  go_wp2_with fail
  go_ret2
  exact ⟨by rw [HR.out, HE.out] <;> rfl, HB.out⟩
 | false =>
 cases b4 with
 | true =>
  have HE := hid (done1 (D := doneRow o) (vs := vs) (m := [2]) (r := 2) HR.out)
  generalize (doneRow o).1.any (meetsAll vs) = Z at *
  go_enter Tryz.func19, Tryz.ntmps19
  go_wp2_with fail
  refine (omay_1 2 (by decide) HBW.out hn HV.out H.out).mono ?_
  rintro e w2 ⟨rfl, hb⟩
  have HB := hid hb
  clear hb
  go_wp2_with fail
  go_ret2
  exact ⟨by rw [HR.out, HE.out] <;> rfl, HB.out⟩
 | false =>
 cases b5 with
 | true =>
  have HE := hid (done1 (D := doneRow o) (vs := vs) (m := [63, 63]) (r := 2) HR.out)
  generalize (doneRow o).1.any (meetsAll vs) = Z at *
  go_enter Tryz.func19, Tryz.ntmps19
  go_wp2_with fail
  refine (omay_2 63 63 (by decide) (by decide) HBW.out hn HV.out H.out).mono ?_
  rintro e w2 ⟨rfl, hb⟩
  have HB := hid hb
  clear hb
  go_wp2_with fail
  go_ret2
  exact ⟨by rw [HR.out, HE.out] <;> rfl, HB.out⟩
 | false =>
 cases b6 with
 | true =>
  have HE := hid (done1 (D := doneRow o) (vs := vs) (m := [63, 63]) (r := 2) HR.out)
  generalize (doneRow o).1.any (meetsAll vs) = Z at *
  go_enter Tryz.func19, Tryz.ntmps19
  go_wp2_with fail
  refine (omay_2 63 63 (by decide) (by decide) HBW.out hn HV.out H.out).mono ?_
  rintro e w2 ⟨rfl, hb⟩
  have HB := hid hb
  clear hb
  go_wp2_with fail
  go_ret2
  exact ⟨by rw [HR.out, HE.out] <;> rfl, HB.out⟩
 | false =>
 cases b7 with
 | true =>
  have HE := hid (done2 (D := doneRow o) (vs := vs) (m := [4, 4]) (k := [8, 8]) (r := 2) HR.out)
  generalize (doneRow o).1.any (meetsAll vs) = Z at *
  have HM1 := hid (fun (w1 : World) (hb : Below w.heap.size w w1) => omay_2 4 4 (by decide) (by decide) (c := c) hb hn HV.out H.out)
  have HM2 := hid (fun (w1 : World) (hb : Below w.heap.size w w1) => omay_2 8 8 (by decide) (by decide) (c := c) hb hn HV.out H.out)
  generalize meetsAll vs [4, 4] = z1 at *
  generalize meetsAll vs [8, 8] = z2 at *
  cases z1
  ·
   go_enter Tryz.func19, Tryz.ntmps19
   go_wp2_with fail
   refine (HM1.out _ HBW.out).mono ?_
   rintro e w2 ⟨rfl, hb⟩
   have HB := hid hb
   clear hb
   go_wp2_with fail
   refine (HM2.out _ HB.out).mono ?_
   rintro e w3 ⟨rfl, hb⟩
   have HB3 := hid hb
   clear hb
   go_wp2_with fail
   go_ret2
   exact ⟨by rw [HR.out, HE.out] <;> rfl, HB3.out⟩
  ·
   go_enter Tryz.func19, Tryz.ntmps19
   go_wp2_with fail
   refine (HM1.out _ HBW.out).mono ?_
   rintro e w2 ⟨rfl, hb⟩
   have HB := hid hb
   clear hb
   go_wp2_with fail
   go_ret2
   exact ⟨by rw [HR.out, HE.out] <;> rfl, HB.out⟩
 | false =>
 cases b8 with
 | true =>
  have HE := hid (done2 (D := doneRow o) (vs := vs) (m := [4, 4]) (k := [8, 8]) (r := 2) HR.out)
  generalize (doneRow o).1.any (meetsAll vs) = Z at *
  have HM1 := hid (fun (w1 : World) (hb : Below w.heap.size w w1) => omay_2 4 4 (by decide) (by decide) (c := c) hb hn HV.out H.out)
  have HM2 := hid (fun (w1 : World) (hb : Below w.heap.size w w1) => omay_2 8 8 (by decide) (by decide) (c := c) hb hn HV.out H.out)
  generalize meetsAll vs [4, 4] = z1 at *
  generalize meetsAll vs [8, 8] = z2 at *
  cases z1
  ·
   go_enter Tryz.func19, Tryz.ntmps19
   go_wp2_with fail
   refine (HM1.out _ HBW.out).mono ?_
   rintro e w2 ⟨rfl, hb⟩
   have HB := hid hb
   clear hb
   go_wp2_with fail
   refine (HM2.out _ HB.out).mono ?_
   rintro e w3 ⟨rfl, hb⟩
   have HB3 := hid hb
   clear hb
   go_wp2_with fail
   go_ret2
   exact ⟨by rw [HR.out, HE.out] <;> rfl, HB3.out⟩
  ·
   go_enter Tryz.func19, Tryz.ntmps19
   go_wp2_with fail
   refine (HM1.out _ HBW.out).mono ?_
   rintro e w2 ⟨rfl, hb⟩
   have HB := hid hb
   clear hb
   go_wp2_with fail
   go_ret2
   exact ⟨by rw [HR.out, HE.out] <;> rfl, HB.out⟩
 | false =>
 cases b9 with
 | true =>
  have HE := hid (done2 (D := doneRow o) (vs := vs) (m := [4, 4]) (k := [8, 8]) (r := 2) HR.out)
  generalize (doneRow o).1.any (meetsAll vs) = Z at *
  have HM1 := hid (fun (w1 : World) (hb : Below w.heap.size w w1) => omay_2 4 4 (by decide) (by decide) (c := c) hb hn HV.out H.out)
  have HM2 := hid (fun (w1 : World) (hb : Below w.heap.size w w1) => omay_2 8 8 (by decide) (by decide) (c := c) hb hn HV.out H.out)
  generalize meetsAll vs [4, 4] = z1 at *
  generalize meetsAll vs [8, 8] = z2 at *
  cases z1
  ·
   go_enter Tryz.func19, Tryz.ntmps19
   go_wp2_with fail
   refine (HM1.out _ HBW.out).mono ?_
   rintro e w2 ⟨rfl, hb⟩
   have HB := hid hb
   clear hb
   go_wp2_with fail
   refine (HM2.out _ HB.out).mono ?_
   rintro e w3 ⟨rfl, hb⟩
   have HB3 := hid hb
   clear hb
   go_wp2_with fail
   go_ret2
   exact ⟨by rw [HR.out, HE.out] <;> rfl, HB3.out⟩
  ·
   go_enter Tryz.func19, Tryz.ntmps19
   go_wp2_with fail
   refine (HM1.out _ HBW.out).mono ?_
   rintro e w2 ⟨rfl, hb⟩
   have HB := hid hb
   clear hb
   go_wp2_with fail
   go_ret2
   exact ⟨by rw [HR.out, HE.out] <;> rfl, HB.out⟩
 | false =>
 cases b10 with
 | true =>
  have HE := hid (done2 (D := doneRow o) (vs := vs) (m := [4, 4]) (k := [8, 8]) (r := 2) HR.out)
  generalize (doneRow o).1.any (meetsAll vs) = Z at *
  have HM1 := hid (fun (w1 : World) (hb : Below w.heap.size w w1) => omay_2 4 4 (by decide) (by decide) (c := c) hb hn HV.out H.out)
  have HM2 := hid (fun (w1 : World) (hb : Below w.heap.size w w1) => omay_2 8 8 (by decide) (by decide) (c := c) hb hn HV.out H.out)
  generalize meetsAll vs [4, 4] = z1 at *
  generalize meetsAll vs [8, 8] = z2 at *
  cases z1
  ·
   go_enter Tryz.func19, Tryz.ntmps19
   go_wp2_with fail
   refine (HM1.out _ HBW.out).mono ?_
   rintro e w2 ⟨rfl, hb⟩
   have HB := hid hb
   clear hb
   go_wp2_with fail
   refine (HM2.out _ HB.out).mono ?_
   rintro e w3 ⟨rfl, hb⟩
   have HB3 := hid hb
   clear hb
   go_wp2_with fail
   go_ret2
   exact ⟨by rw [HR.out, HE.out] <;> rfl, HB3.out⟩
  ·
   go_enter Tryz.func19, Tryz.ntmps19
   go_wp2_with fail
   refine (HM1.out _ HBW.out).mono ?_
   rintro e w2 ⟨rfl, hb⟩
   have HB := hid hb
   clear hb
   go_wp2_with fail
   go_ret2
   exact ⟨by rw [HR.out, HE.out] <;> rfl, HB.out⟩
 | false =>
 cases b11 with
 | true =>
  have HE := hid (done1 (D := doneRow o) (vs := vs) (m := [4, 4]) (r := 4) HR.out)
  generalize (doneRow o).1.any (meetsAll vs) = Z at *
  go_enter Tryz.func19, Tryz.ntmps19
  go_wp2_with fail
  refine (omay_2 4 4 (by decide) (by decide) HBW.out hn HV.out H.out).mono ?_
  rintro e w2 ⟨rfl, hb⟩
  have HB := hid hb
  clear hb
  go_wp2_with fail
  go_ret2
  exact ⟨by rw [HR.out, HE.out] <;> rfl, HB.out⟩
 | false =>
 cases b12 with
 | true =>
  have HE := hid (done1 (D := doneRow o) (vs := vs) (m := [4, 4]) (r := 4) HR.out)
  generalize (doneRow o).1.any (meetsAll vs) = Z at *
  go_enter Tryz.func19, Tryz.ntmps19
  go_wp2_with fail
  refine (omay_2 4 4 (by decide) (by decide) HBW.out hn HV.out H.out).mono ?_
  rintro e w2 ⟨rfl, hb⟩
  have HB := hid hb
  clear hb
  go_wp2_with fail
  go_ret2
  exact ⟨by rw [HR.out, HE.out] <;> rfl, HB.out⟩
 | false =>
 cases b13 with
 | true =>
  have HE := hid (done1 (D := doneRow o) (vs := vs) (m := [4, 4]) (r := 4) HR.out)
  generalize (doneRow o).1.any (meetsAll vs) = Z at *
  go_enter Tryz.func19, Tryz.ntmps19
  go_wp2_with fail
  refine (omay_2 4 4 (by decide) (by decide) HBW.out hn HV.out H.out).mono ?_
  rintro e w2 ⟨rfl, hb⟩
  have HB := hid hb
  clear hb
  go_wp2_with fail
  go_ret2
  exact ⟨by rw [HR.out, HE.out] <;> rfl, HB.out⟩
 | false =>
 cases b14 with
 | true =>
  have HE := hid (done1 (D := doneRow o) (vs := vs) (m := [4, 4]) (r := 4) HR.out)
  generalize (doneRow o).1.any (meetsAll vs) = Z at *
  go_enter Tryz.func19, Tryz.ntmps19
  go_wp2_with fail
  refine (omay_2 4 4 (by decide) (by decide) HBW.out hn HV.out H.out).mono ?_
  rintro e w2 ⟨rfl, hb⟩
  have HB := hid hb
  clear hb
  go_wp2_with fail
  go_ret2
  exact ⟨by rw [HR.out, HE.out] <;> rfl, HB.out⟩
 | false =>
 cases b15 with
 | true =>
  have HE := hid (done1 (D := doneRow o) (vs := vs) (m := [4, 4]) (r := 4) HR.out)
  generalize (doneRow o).1.any (meetsAll vs) = Z at *
  go_enter Tryz.func19, Tryz.ntmps19
  go_wp2_with fail
  refine (omay_2 4 4 (by decide) (by decide) HBW.out hn HV.out H.out).mono ?_
  rintro e w2 ⟨rfl, hb⟩
  have HB := hid hb
  clear hb
  go_wp2_with fail
  go_ret2
  exact ⟨by rw [HR.out, HE.out] <;> rfl, HB.out⟩
 | false =>
 cases b16 with
 | true =>
  have HE := hid (done1 (D := doneRow o) (vs := vs) (m := [4]) (r := 4) HR.out)
  generalize (doneRow o).1.any (meetsAll vs) = Z at *
  go_enter Tryz.func19, Tryz.ntmps19
  go_wp2_with fail
  refine (omay_1 4 (by decide) HBW.out hn HV.out H.out).mono ?_
  rintro e w2 ⟨rfl, hb⟩
  have HB := hid hb
  clear hb
  go_wp2_with fail
  go_ret2
  exact ⟨by rw [HR.out, HE.out] <;> rfl, HB.out⟩
 | false =>
 rw [show doneRow o = calledRow o from HR.out]
 go_enter Tryz.func19, Tryz.ntmps19
 go_wp2_with fail
 refine HC.out.mono ?_
 rintro e w2 ⟨rfl, hb⟩
 have HB := hid hb
 clear hb
 go_wp2_with fail
 go_ret2
 exact ⟨rfl, HB.out⟩
end Go.Proofs.YtfbipnflgjhaiaaGreatDoor
