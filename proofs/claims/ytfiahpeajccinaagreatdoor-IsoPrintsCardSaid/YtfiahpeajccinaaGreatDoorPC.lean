/- Contracts of the program's integer calls of layer 2: Add, Sub, Neg, Mul, Div, Mod, and the fixed fact 'awake'. Contract of the program's isNumber. Contracts of the program's Parse and Text. Plain mathematics: an integer's text is a number's text, of it. -/
import Derived.Test.YtfiahpeajccinaaGreatDoorRows
import Derived.Test.YtfiahpeajccinaaGreatDoorPA
import Derived.WalkKit
import Derived.Lib.Hide
import Derived.Test.YtfiahpeajccinaaGreatDoorShelfP
import Derived.Below
import Derived.Laws.RangeString
import Derived.Laws.RangeAny
import Derived.WalkSpells
import Derived.Lib.AtoiErrMem
import Derived.Lib.AppendIntMem
import Derived.Lib.LaidTab
namespace Go.Proofs.YtfiahpeajccinaaGreatDoor.W2
open Go.RowKit

theorem ret_num {k m : IntKind} {a b c d : Int} (h : a = b) (g : c = d) : Ending.returned (.tuple #[.int k a, .int m c]) = .returned (.tuple #[.int k b, .int m d]) := by rw [h, g]
theorem ret_bool {a b : Bool} (h : a = b) : Ending.returned (.bool a) = .returned (.bool b) := by rw [h]
theorem ret_int {k : IntKind} {a b : Int} (h : a = b) : Ending.returned (.int k a) = .returned (.int k b) := by rw [h]

theorem add_ok (a b : Int) (w : World) (ha : In64 a) (hb : In64 b) (h : In64 (a + b)) : Calls Tryz.prog 78 #[.int .i64 a, .int .i64 b] w fun e w' => e = .returned (.tuple #[.int .i64 (a + b), .int .i64 0]) ∧ w = w' := by
  obtain ⟨a1, a2⟩ := ha
  obtain ⟨b1, b2⟩ := hb
  obtain ⟨h1, h2⟩ := h
  by_cases hp : 0 < b
  · have t1 : decide (a < (a + b)) = true := decide_eq_true (by omega)
    have t2 : decide (0 < b) = true := decide_eq_true hp
    go_enter Tryz.func78, Tryz.ntmps78
    go_wp2_with fail
    go_ret2
    exact ⟨rfl, rfl⟩
  · have t1 : decide (a < (a + b)) = false := decide_eq_false (by omega)
    have t2 : decide (0 < b) = false := decide_eq_false hp
    go_enter Tryz.func78, Tryz.ntmps78
    go_wp2_with fail
    go_ret2
    exact ⟨rfl, rfl⟩
theorem add_over (a b : Int) (w : World) (ha : In64 a) (hb : In64 b) (h : ¬ In64 (a + b)) : Calls Tryz.prog 78 #[.int .i64 a, .int .i64 b] w fun e w' => e = .returned (.tuple #[.int .i64 0, .int .i64 11]) ∧ w = w' := by
  unfold In64 at *
  by_cases hp : 0 < b
  · have t1 : decide (a < wrap64 (a + b)) = false := decide_eq_false (by unfold wrap64; omega)
    have t2 : decide (0 < b) = true := decide_eq_true hp
    clear ha hb h
    go_enter Tryz.func78, Tryz.ntmps78
    go_wp2_with fail
    go_ret2
    exact ⟨rfl, rfl⟩
  · have t1 : decide (a < wrap64 (a + b)) = true := decide_eq_true (by unfold wrap64; omega)
    have t2 : decide (0 < b) = false := decide_eq_false hp
    clear ha hb h
    go_enter Tryz.func78, Tryz.ntmps78
    go_wp2_with fail
    go_ret2
    exact ⟨rfl, rfl⟩
theorem sub_ok (a b : Int) (w : World) (ha : In64 a) (hb : In64 b) (h : In64 (a - b)) : Calls Tryz.prog 80 #[.int .i64 a, .int .i64 b] w fun e w' => e = .returned (.tuple #[.int .i64 (a - b), .int .i64 0]) ∧ w = w' := by
  obtain ⟨a1, a2⟩ := ha
  obtain ⟨b1, b2⟩ := hb
  obtain ⟨h1, h2⟩ := h
  by_cases hp : 0 < b
  · have t1 : decide ((a - b) < a) = true := decide_eq_true (by omega)
    have t2 : decide (0 < b) = true := decide_eq_true hp
    go_enter Tryz.func80, Tryz.ntmps80
    go_wp2_with fail
    go_ret2
    exact ⟨rfl, rfl⟩
  · have t1 : decide ((a - b) < a) = false := decide_eq_false (by omega)
    have t2 : decide (0 < b) = false := decide_eq_false hp
    go_enter Tryz.func80, Tryz.ntmps80
    go_wp2_with fail
    go_ret2
    exact ⟨rfl, rfl⟩
theorem sub_over (a b : Int) (w : World) (ha : In64 a) (hb : In64 b) (h : ¬ In64 (a - b)) : Calls Tryz.prog 80 #[.int .i64 a, .int .i64 b] w fun e w' => e = .returned (.tuple #[.int .i64 0, .int .i64 11]) ∧ w = w' := by
  unfold In64 at *
  by_cases hp : 0 < b
  · have t1 : decide (wrap64 (a - b) < a) = false := decide_eq_false (by unfold wrap64; omega)
    have t2 : decide (0 < b) = true := decide_eq_true hp
    clear ha hb h
    go_enter Tryz.func80, Tryz.ntmps80
    go_wp2_with fail
    go_ret2
    exact ⟨rfl, rfl⟩
  · have t1 : decide (wrap64 (a - b) < a) = true := decide_eq_true (by unfold wrap64; omega)
    have t2 : decide (0 < b) = false := decide_eq_false hp
    clear ha hb h
    go_enter Tryz.func80, Tryz.ntmps80
    go_wp2_with fail
    go_ret2
    exact ⟨rfl, rfl⟩

theorem neg_ok (a : Int) (w : World) (ha : In64 a) (h : a ≠ -9223372036854775808) : Calls Tryz.prog 76 #[.int .i64 a] w fun e w' => e = .returned (.tuple #[.int .i64 (-a), .int .i64 0]) ∧ w = w' := by
  obtain ⟨a1, a2⟩ := ha
  have t1 : (a == -9223372036854775808) = false := by simp; exact h
  have h3 : -9223372036854775808 < a := by omega
  clear h
  go_enter Tryz.func76, Tryz.ntmps76
  go_wp2_with fail
  go_ret2
  exact ⟨rfl, rfl⟩
theorem neg_over (w : World) : Calls Tryz.prog 76 #[.int .i64 (-9223372036854775808)] w fun e w' => e = .returned (.tuple #[.int .i64 0, .int .i64 11]) ∧ w = w' := by
  go_enter Tryz.func76, Tryz.ntmps76
  go_wp2_with fail
  go_ret2
  exact ⟨rfl, rfl⟩

theorem mul_zero (a : Int) (w : World) : Calls Tryz.prog 82 #[.int .i64 a, .int .i64 0] w fun e w' => e = .returned (.tuple #[.int .i64 0, .int .i64 0]) ∧ w = w' := by
  go_enter Tryz.func82, Tryz.ntmps82
  go_wp2_with fail
  go_ret2
  exact ⟨rfl, rfl⟩
theorem mul_ok (a b : Int) (w : World) (ha : In64 a) (hb : In64 b) (h : In64 (a * b)) : Calls Tryz.prog 82 #[.int .i64 a, .int .i64 b] w fun e w' => e = .returned (.tuple #[.int .i64 (a * b), .int .i64 0]) ∧ w = w' := by
  by_cases h0 : b = 0
  · subst h0; rw [Int.mul_zero]; exact mul_zero a w
  · by_cases h1 : b = -1
    · subst h1
      have e : a * -1 = -a := by omega
      rw [e] at h ⊢
      have hm : a ≠ -9223372036854775808 := by unfold In64 at h; omega
      have Ha := Lib.hid ha
      clear hb h h0 e ha
      go_enter Tryz.func82, Tryz.ntmps82
      go_wp2_with (go_at_call 76; refine (neg_ok _ _ Ha.out hm).mono ?_; rintro e w' ⟨rfl, rfl⟩)
      go_ret2
      exact ⟨rfl, rfl⟩
    · have t0 : (b == 0) = false := by simp; exact h0
      have t1 : (b == -1) = false := by simp; exact h1
      have hq := mul_back a b h0 h
      have hqi := tdiv_in (a * b) b h h1
      have hw : wrap64 (a * b) = a * b := by unfold In64 at h; unfold wrap64; omega
      rw [hw] at hq
      rw [hq] at hqi
      obtain ⟨q1, q2⟩ := hqi
      obtain ⟨p1, p2⟩ := h
      have hq' : IntKind.i64.wrap ((a * b).tdiv b) = a := by rw [hq]; exact IntWalk.i64_in _ (by omega)
      have hw' : wrap64 ((a * b).tdiv b) = a := by rw [hq]; unfold wrap64; omega
      have t2 : (a != a) = false := by simp
      clear h1 ha hb hw hq
      go_enter Tryz.func82, Tryz.ntmps82
      go_wp2_with fail
      go_ret2
      exact ⟨rfl, rfl⟩
theorem mul_over (a b : Int) (w : World) (ha : In64 a) (hb : In64 b) (h : ¬ In64 (a * b)) : Calls Tryz.prog 82 #[.int .i64 a, .int .i64 b] w fun e w' => e = .returned (.tuple #[.int .i64 0, .int .i64 11]) ∧ w = w' := by
  have h0 : ¬ b = 0 := by rintro rfl; apply h; rw [Int.mul_zero]; constructor <;> decide
  by_cases h1 : b = -1
  · subst h1
    have e : a = -9223372036854775808 := by unfold In64 at *; omega
    subst e
    clear ha hb h h0
    go_enter Tryz.func82, Tryz.ntmps82
    go_wp2_with (go_at_call 76; refine (neg_over _).mono ?_; rintro e w' ⟨rfl, rfl⟩)
    go_ret2
    exact ⟨rfl, rfl⟩
  · have t0 : (b == 0) = false := by simp; exact h0
    have t1 : (b == -1) = false := by simp; exact h1
    have hq := mul_lost a b h0 hb h
    have hqi := tdiv_in (wrap64 (a * b)) b (by unfold In64 wrap64; omega) h1
    have hq' : IntKind.i64.wrap ((wrap64 (a * b)).tdiv b) = (wrap64 (a * b)).tdiv b := IntWalk.i64_in _ hqi
    have hw' : wrap64 ((wrap64 (a * b)).tdiv b) = (wrap64 (a * b)).tdiv b := by have := hqi; unfold In64 at this; generalize (wrap64 (a * b)).tdiv b = x at *; unfold wrap64; omega
    have t2 : (((wrap64 (a * b)).tdiv b) != a) = true := by simp; exact hq
    clear h1 ha hb hq hqi h
    go_enter Tryz.func82, Tryz.ntmps82
    go_wp2_with fail
    go_ret2
    exact ⟨rfl, rfl⟩

theorem div_zero (a : Int) (w : World) : Calls Tryz.prog 85 #[.int .i64 a, .int .i64 0] w fun e w' => e = .returned (.tuple #[.int .i64 0, .int .i64 10]) ∧ w = w' := by
  go_enter Tryz.func85, Tryz.ntmps85
  go_wp2_with fail
  go_ret2
  exact ⟨rfl, rfl⟩
theorem mod_zero (a : Int) (w : World) : Calls Tryz.prog 84 #[.int .i64 a, .int .i64 0] w fun e w' => e = .returned (.tuple #[.int .i64 0, .int .i64 10]) ∧ w = w' := by
  go_enter Tryz.func84, Tryz.ntmps84
  go_wp2_with fail
  go_ret2
  exact ⟨rfl, rfl⟩
theorem div_over (w : World) : Calls Tryz.prog 85 #[.int .i64 (-9223372036854775808), .int .i64 (-1)] w fun e w' => e = .returned (.tuple #[.int .i64 0, .int .i64 11]) ∧ w = w' := by
  go_enter Tryz.func85, Tryz.ntmps85
  go_wp2_with (go_at_call 76; refine (neg_over _).mono ?_; rintro e w' ⟨rfl, rfl⟩)
  go_ret2
  exact ⟨rfl, rfl⟩
theorem div_ok (a b : Int) (w : World) (ha : In64 a) (hb : b ≠ 0) (h : ¬ (a = -9223372036854775808 ∧ b = -1)) : Calls Tryz.prog 85 #[.int .i64 a, .int .i64 b] w fun e w' => e = .returned (.tuple #[.int .i64 (a.tdiv b), .int .i64 0]) ∧ w = w' := by
  by_cases h1 : b = -1
  · subst h1
    have e : a.tdiv (-1) = -a := by rw [Int.tdiv_neg, Int.tdiv_one]
    have hm : a ≠ -9223372036854775808 := by omega
    rw [e]
    have Ha := Lib.hid ha
    clear hb h e ha
    go_enter Tryz.func85, Tryz.ntmps85
    go_wp2_with (go_at_call 76; refine (neg_ok _ _ Ha.out hm).mono ?_; rintro e w' ⟨rfl, rfl⟩)
    go_ret2
    exact ⟨rfl, rfl⟩
  · have t0 : (b == 0) = false := by simp; exact hb
    have t1 : (b == -1) = false := by simp; exact h1
    have hqi := tdiv_in a b ha h1
    have hq' : IntKind.i64.wrap (a.tdiv b) = a.tdiv b := IntWalk.i64_in _ hqi
    have h0 : ¬ b = 0 := hb
    clear h1 ha hb hqi h
    go_enter Tryz.func85, Tryz.ntmps85
    go_wp2_with fail
    go_ret2
    exact ⟨rfl, rfl⟩
theorem mod_ok (a b : Int) (w : World) (ha : In64 a) (hb : b ≠ 0) : Calls Tryz.prog 84 #[.int .i64 a, .int .i64 b] w fun e w' => e = .returned (.tuple #[.int .i64 (a.tmod b), .int .i64 0]) ∧ w = w' := by
  have t0 : (b == 0) = false := by simp; exact hb
  have hqi := tmod_in a b ha
  have hq' : IntKind.i64.wrap (a.tmod b) = a.tmod b := IntWalk.i64_in _ hqi
  have h0 : ¬ b = 0 := hb
  clear ha hb hqi
  go_enter Tryz.func84, Tryz.ntmps84
  go_wp2_with fail
  go_ret2
  exact ⟨rfl, rfl⟩

theorem in_of (a : Int) (h : (Lit.int .i64 a).wf = true) : In64 a := by
  simp [Lit.wf, IntKind.min, IntKind.max, IntKind.signed, IntKind.bits] at h
  exact h

/-- the same, what comes out under a name -/
theorem add_is (a b n : Int) (w : World) (ha : In64 a) (hb : In64 b) (h : In64 n) (e : a + b = n) : Calls Tryz.prog 78 #[.int .i64 a, .int .i64 b] w fun e w' => e = .returned (.tuple #[.int .i64 n, .int .i64 0]) ∧ w = w' := by
  subst e; exact add_ok a b w ha hb h
theorem sub_is (a b n : Int) (w : World) (ha : In64 a) (hb : In64 b) (h : In64 n) (e : a - b = n) : Calls Tryz.prog 80 #[.int .i64 a, .int .i64 b] w fun e w' => e = .returned (.tuple #[.int .i64 n, .int .i64 0]) ∧ w = w' := by
  subst e; exact sub_ok a b w ha hb h
theorem mul_is (a b n : Int) (w : World) (ha : In64 a) (hb : In64 b) (h : In64 n) (e : a * b = n) : Calls Tryz.prog 82 #[.int .i64 a, .int .i64 b] w fun e w' => e = .returned (.tuple #[.int .i64 n, .int .i64 0]) ∧ w = w' := by
  subst e; exact mul_ok a b w ha hb h
theorem div_is (a b n : Int) (w : World) (ha : In64 a) (hb : b ≠ 0) (h : ¬ (a = -9223372036854775808 ∧ b = -1)) (e : a.tdiv b = n) : Calls Tryz.prog 85 #[.int .i64 a, .int .i64 b] w fun e w' => e = .returned (.tuple #[.int .i64 n, .int .i64 0]) ∧ w = w' := by
  subst e; exact div_ok a b w ha hb h
theorem mod_is (a b n : Int) (w : World) (ha : In64 a) (hb : b ≠ 0) (e : a.tmod b = n) : Calls Tryz.prog 84 #[.int .i64 a, .int .i64 b] w fun e w' => e = .returned (.tuple #[.int .i64 n, .int .i64 0]) ∧ w = w' := by
  subst e; exact mod_ok a b w ha hb
end Go.Proofs.YtfiahpeajccinaaGreatDoor.W2
namespace Go.Proofs.YtfiahpeajccinaaGreatDoor.W2
open Go.RowKit
open De

/-- what has been looked through of the digits D -/
def okTo (D : List UInt8) (k : Nat) : Prop := (∀ i, i < k → isDig (D.getD i 0) = true) ∧ (2 ≤ k → D.getD 0 0 ≠ 48)
theorem okTo.zero (D : List UInt8) : okTo D 0 := ⟨fun i hi => absurd hi (by omega), fun h => absurd h (by omega)⟩
theorem okTo.succ {D : List UInt8} {k : Nat} (h : okTo D k) (h1 : isDig (D.getD k 0) = true) (h2 : k = 1 → D.getD 0 0 ≠ 48) : okTo D (k + 1) := by
  refine ⟨fun i hi => ?_, fun hk => ?_⟩
  · rcases Nat.lt_or_ge i k with h3 | h3
    · exact h.1 i h3
    · rw [show i = k by omega]; exact h1
  · rcases Nat.lt_or_ge k 2 with h3 | h3
    · exact h2 (by omega)
    · exact h.2 h3
theorem okTo.all {D : List UInt8} (h : okTo D D.length) (hne : D ≠ []) : formD D = true := by
  unfold formD
  simp only [Bool.and_eq_true, Bool.not_eq_true', List.all_eq_true, Bool.or_eq_true, decide_eq_true_eq]
  refine ⟨⟨by cases D <;> simp_all, fun c hc => ?_⟩, ?_⟩
  · obtain ⟨i, hi, rfl⟩ := List.mem_iff_getElem.1 hc
    have := h.1 i hi
    rwa [List.getD_eq_getElem?_getD, List.getElem?_eq_getElem hi] at this
  · rcases (by omega : D.length = 1 ∨ D.length ≤ 0 ∨ 2 ≤ D.length) with h1 | h1 | h1
    · exact .inl h1
    · exact absurd (List.eq_nil_of_length_eq_zero (by omega)) hne
    · right
      have := h.2 h1
      cases D with
      | nil => exact absurd rfl hne
      | cons c D => simpa using this
theorem form_stop {D : List UInt8} {k : Nat} (hk : k < D.length) (h : isDig (D.getD k 0) = false) : formD D = false := by
  rw [← Bool.not_eq_true]
  intro e
  unfold formD at e
  simp only [Bool.and_eq_true, List.all_eq_true] at e
  have := e.1.2 _ (List.getElem_mem hk)
  rw [List.getD_eq_getElem?_getD, List.getElem?_eq_getElem hk] at h
  simp only [Option.getD_some] at h
  rw [h] at this
  cases this
theorem form_lead {D : List UInt8} (hk : 1 < D.length) (h : D.getD 0 0 = 48) : formD D = false := by
  rw [← Bool.not_eq_true]
  intro e
  unfold formD at e
  simp only [Bool.and_eq_true, Bool.or_eq_true, decide_eq_true_eq, Bool.not_eq_true'] at e
  cases D with
  | nil => simp at hk
  | cons c D =>
    simp at h
    subst h
    simp at e
    simp at hk
    exact absurd e.2 (by rintro rfl; simp at hk)
theorem form_nil : formD [] = false := rfl

set_option maxRecDepth 100000 in
set_option maxHeartbeats 2000000 in
theorem isnum_any (s : ByteArray) (w : World) (hs : s.size ≤ 100000) :
    Calls Tryz.prog 122 #[.string s] w fun e w' => e = .returned (.bool (form s.data.toList)) ∧ Below w.heap.size w w' := by
  obtain ⟨D, HD⟩ : ∃ D, Hid (digs s.data.toList = D) := ⟨_, Lib.hid rfl⟩
  have Hf := Lib.hid (show form s.data.toList = formD D by unfold form; rw [HD.out])
  have hDl : D.length ≤ 100000 := by
    rw [← HD.out]
    unfold digs
    have : s.data.toList.length = s.size := Array.length_toList
    split
    · rw [List.length_tail]; omega
    · omega
  obtain ⟨S, HS⟩ : ∃ S : ByteArray, Hid ((⟨(Lib.trimPrefix s.data.toList [45]).toArray⟩ : ByteArray) = S) := ⟨_, Lib.hid rfl⟩
  have HSL := Lib.hid (show S.data.toList = D by rw [← HS.out, trim_digs, HD.out])
  have HSs := Lib.hid (show S.size = D.length by rw [← HSL.out, Array.length_toList]; rfl)
  have htrim : Calls Tryz.prog 143 #[.string s, .string ⟨#[45]⟩] w fun e w' => e = .returned (.string S) ∧ w = w' := by
    refine (Tryz.strings_TrimPrefix s ⟨#[45]⟩ w).mono ?_
    rintro e w' ⟨rfl, rfl⟩
    exact ⟨by rw [← HS.out], rfl⟩
  have Htrim := Lib.hid htrim
  clear htrim
  rw [Hf.out]
  go_enter Tryz.func122, Tryz.ntmps122
  go_wp2_with fail
  refine Htrim.out.mono ?_
  rintro e w' ⟨rfl, rfl⟩
  go_wp2_with fail
  go_loopw [4, 5] (fun _ _ wr => ∃ k : Nat, k ≤ D.length ∧ okTo D k ∧ wr = w.iter S k) (fun _ _ wr => S.size + 1 - wr.iterPos w.heap.size)
  case atStart => exact ⟨0, Nat.zero_le _, okTo.zero D, rfl⟩
  case round =>
    obtain ⟨k, hk, hok, rfl⟩ := hrel
    have Hok := Lib.hid hok
    clear hok
    by_cases hlt : k < D.length
    · have hpos : k < S.size := by rw [HSs.out]; exact hlt
      cases hd : isDig (D.getD k 0) with
      | false =>
        have Hst := Lib.hid (form_stop hlt hd)
        have hnd : ¬ (48 ≤ (D.getD k 0).toNat ∧ (D.getD k 0).toNat ≤ 57) := by rw [← dig_iff, hd]; simp
        have hr : (Utf8.decode S k).1 < 48 ∨ 57 < (Utf8.decode S k).1 := by
          rcases Nat.lt_or_ge (S.data.toList.getD k 0).toNat 128 with h | h
          · rw [De.decode_low S k hpos h, HSL.out]; show (D.getD k 0).toNat < 48 ∨ 57 < (D.getD k 0).toNat; omega
          · have h2 := De.decode_high S k hpos (Nat.not_lt.2 h); omega
        have hnx : ∀ ty, (Instr.next (.pointer (some ⟨w.heap.size, 0, none⟩)) true ty).run Tryz.prog (w.iter S k) = .ok (.tuple #[.bool true, .int .i64 k, .int .i32 (Utf8.decode S k).1]) (w.iter S (k + (Utf8.decode S k).2)) := fun ty => run_next_any w S k ty hpos
        generalize (Utf8.decode S k).1 = r at *
        generalize k + (Utf8.decode S k).2 = q at *
        clear hd hnd
        rcases hr with hr | hr
        · have x1 : decide ((r : Int) < 48) = true := decide_eq_true (by omega)
          go_wp2_with fail
          go_ret
          exact ⟨ret_bool Hst.out.symm, (Below.refl _ _).alloc (Nat.le_refl _) _⟩
        · have x1 : decide ((r : Int) < 48) = false := decide_eq_false (by omega)
          have x2 : decide ((57 : Int) < (r : Int)) = true := decide_eq_true (by omega)
          go_wp2_with fail
          go_ret
          exact ⟨ret_bool Hst.out.symm, (Below.refl _ _).alloc (Nat.le_refl _) _⟩
      | true =>
        have hc := (dig_iff _).1 hd
        have hdec := De.decode_low S k hpos (by rw [HSL.out]; omega)
        rw [HSL.out] at hdec
        have hnx : ∀ ty, (Instr.next (.pointer (some ⟨w.heap.size, 0, none⟩)) true ty).run Tryz.prog (w.iter S k) = .ok (.tuple #[.bool true, .int .i64 k, .int .i32 (D.getD k 0).toNat]) (w.iter S (k + 1)) := by
          intro ty
          rw [run_next_any w S k ty hpos, hdec]
        have Hd := Lib.hid hd
        have hmeas : D.length = S.size := HSs.out.symm
        obtain ⟨c0, c1⟩ := hc
        clear hdec hd
        by_cases h1 : k = 1
        · subst h1
          have hS0 : 0 < S.size := by omega
          have he : ∀ h, (S[0]'h).toNat = (D.getD 0 0).toNat := by
            intro h
            have h2 : S.data.toList.getD 0 0 = D.getD 0 0 := by rw [HSL.out]
            rw [← h2, List.getD_eq_getElem?_getD, Array.getElem?_toList]
            rcases S with ⟨d⟩
            have hd : 0 < d.size := h
            simp [hd]; rfl
          generalize (D.getD 1 0).toNat = x at *
          have x1 : decide ((x : Int) < 48) = false := decide_eq_false (by omega)
          have x2 : decide ((57 : Int) < (x : Int)) = false := decide_eq_false (by omega)
          by_cases hz : D.getD 0 0 = 48
          · have Hst := Lib.hid (form_lead hlt hz)
            have t5 : (((D[0]'(by omega)).toNat : Int) == 48) = true := by
              rw [List.getD_eq_getElem?_getD, List.getElem?_eq_getElem (by omega : 0 < D.length)] at hz
              simp only [Option.getD_some] at hz
              rw [hz]; rfl
            clear hz
            go_wp2_with fail
            go_ret
            exact ⟨ret_bool Hst.out.symm, (Below.refl _ _).alloc (Nat.le_refl _) _⟩
          · have Hs := Lib.hid (Hok.out.succ Hd.out (fun _ => hz))
            have t5 : (((D[0]'(by omega)).toNat : Int) == 48) = false := by
              rw [List.getD_eq_getElem?_getD, List.getElem?_eq_getElem (by omega : 0 < D.length)] at hz
              simp only [Option.getD_some] at hz
              have : (D[0]'(by omega)).toNat ≠ 48 := fun h => hz (UInt8.toNat_inj.1 (by rw [h]; rfl))
              simp; omega
            clear hz
            go_wp2_with fail
            go_roundw
            case rel => exact ⟨2, by omega, Hs.out, rfl⟩
            case measure => simp; omega
        · have t1 : ((k : Int) == 1) = false := by simp; omega
          have Hs := Lib.hid (Hok.out.succ Hd.out (fun e => absurd e h1))
          generalize (D.getD k 0).toNat = x at *
          have x1 : decide ((x : Int) < 48) = false := decide_eq_false (by omega)
          have x2 : decide ((57 : Int) < (x : Int)) = false := decide_eq_false (by omega)
          clear h1
          go_wp2_with fail
          go_roundw
          case rel => exact ⟨k + 1, by omega, Hs.out, rfl⟩
          case measure => simp; omega
    · obtain rfl : D.length = k := by omega
      have hend : ¬ D.length < S.size := by have := HSs.out; omega
      have hnx : ∀ ty, (Instr.next (.pointer (some ⟨w.heap.size, 0, none⟩)) true ty).run Tryz.prog (w.iter S D.length) = _ := fun ty => run_next_end w S D.length ty hend
      by_cases hD : D = []
      · have hS : S.toList.isEmpty = true := by rw [ByteArray.toList_eq, HSL.out, hD]; rfl
        have HF := Lib.hid (show formD D = false by rw [hD]; rfl)
        clear hD hend
        go_wp2_with fail
        go_ret
        exact ⟨ret_bool HF.out.symm, (Below.refl _ _).alloc (Nat.le_refl _) _⟩
      · have hS : S.toList.isEmpty = false := by
          rw [ByteArray.toList_eq, HSL.out]
          cases D with
          | nil => exact absurd rfl hD
          | cons c D => rfl
        have HF := Lib.hid (Hok.out.all hD)
        clear hD hend
        go_wp2_with fail
        go_ret
        exact ⟨ret_bool HF.out.symm, (Below.refl _ _).alloc (Nat.le_refl _) _⟩
end Go.Proofs.YtfiahpeajccinaaGreatDoor.W2
namespace Go.Proofs.YtfiahpeajccinaaGreatDoor.W2
open Go.RowKit
open De

theorem isnum_f {s : ByteArray} {w : World} (hs : s.size ≤ 100000) (b : Bool) (h : form s.data.toList = b) :
    Calls Tryz.prog 122 #[.string s] w fun e w' => e = .returned (.bool b) ∧ Below w.heap.size w w' := by
  have := isnum_any s w hs; rwa [h] at this

set_option maxRecDepth 100000 in
set_option maxHeartbeats 2000000 in
theorem parse_bad (s : ByteArray) (w : World) (hs : s.size ≤ 100000) (hf : form s.data.toList = false) :
    Calls Tryz.prog 95 #[.string s] w fun e w' => e = .returned (.tuple #[.int .i64 0, .int .i64 1]) ∧ Below w.heap.size w w' := by
  have Hf := Lib.hid hf
  clear hf
  go_enter Tryz.func95, Tryz.ntmps95
  go_wp2_with fail
  refine (isnum_f hs false Hf.out).mono ?_
  rintro e w2 ⟨rfl, hb2⟩
  have Hb2 := Lib.hid hb2
  clear hb2
  go_wp2_with fail
  go_ret2
  exact ⟨rfl, Hb2.out⟩
/-- a package-level variable reads on -/
theorem var_on {P : Program} {w w' : World} {n : String} {cs : Array Value} (h : w.var? P n = some cs) (hb : Below w.heap.size w w') : w'.var? P n = some cs := by
  unfold World.var? at h ⊢
  cases hg : P.globalNamed n with
  | none => rw [hg] at h; cases h
  | some g =>
    rw [hg] at h
    simp only [Option.bind_some] at h ⊢
    have hlt : g < w.heap.size := by
      rcases Nat.lt_or_ge g w.heap.size with hl | hl
      · exact hl
      · rw [Array.getElem?_eq_none hl] at h; cases h
    rw [hb.block g hlt]
    exact h

set_option maxRecDepth 100000 in
set_option maxHeartbeats 2000000 in
theorem parse_ok (s : ByteArray) (w : World) (hs : s.size ≤ 100000) (hf : form s.data.toList = true) (hi : In64 (numL s.data.toList)) :
    Calls Tryz.prog 95 #[.string s] w fun e w' => e = .returned (.tuple #[.int .i64 (numL s.data.toList), .int .i64 0]) ∧ Below w.heap.size w w' := by
  have hp : Lib.parseIntB 64 s.data.toList = Lib.NumEnd.ok (numL s.data.toList) := (parseI hf).trans (if_pos hi)
  have Hf := Lib.hid hf
  have Hp := Lib.hid hp
  clear hf hi hp
  generalize numL s.data.toList = z at *
  go_enter Tryz.func95, Tryz.ntmps95
  go_wp2_with fail
  refine (isnum_f hs true Hf.out).mono ?_
  rintro e w2 ⟨rfl, hb2⟩
  have Hb2 := Lib.hid hb2
  clear hb2
  go_wp2_with fail
  refine (Tryz.strconv_ParseInt_10_at64_ok s (by omega) z Hp.out w2).mono ?_
  rintro e w3 ⟨rfl, hw3⟩
  have hb3 : Below w2.heap.size w2 w3 := by
    rcases hw3 with rfl | ⟨t, rfl⟩
    · exact Below.refl _ _
    · exact Lib.bytesWorld_below _ _ _
  have Hb3 := Lib.hid (Hb2.out.trans (hb3.mono Hb2.out.size))
  clear hw3 hb3
  go_wp2_with fail
  go_ret2
  exact ⟨rfl, Hb3.out⟩

set_option maxRecDepth 100000 in
set_option maxHeartbeats 2000000 in
theorem parse_far (s : ByteArray) (tp : TypeId) (p : Value) (w : World) (hs : s.size ≤ 100000) (hf : form s.data.toList = true) (hi : ¬ In64 (numL s.data.toList)) (hv : w.var? Tryz.prog "strconv.ErrRange" = some #[.iface tp p]) :
    Calls Tryz.prog 95 #[.string s] w fun e w' => e = .returned (.tuple #[.int .i64 0, .int .i64 4]) ∧ Below w.heap.size w w' := by
  have hp : Lib.parseIntB 64 s.data.toList = Lib.NumEnd.range := (parseI hf).trans (if_neg hi)
  have Hf := Lib.hid hf
  have Hp := Lib.hid hp
  have Hv := Lib.hid hv
  clear hf hi hp hv
  go_enter Tryz.func95, Tryz.ntmps95
  go_wp2_with fail
  refine (isnum_f hs true Hf.out).mono ?_
  rintro e w2 ⟨rfl, hb2⟩
  have Hb2 := Lib.hid hb2
  have Hv2 := Lib.hid (show w2.var? Tryz.prog "strconv.ErrRange" = some #[.iface tp p] from var_on Hv.out hb2)
  clear hb2
  go_wp2_with fail
  refine (Tryz.strconv_ParseInt_10_at64_range_var s (by omega) Hp.out tp p w2 Hv2.out).mono ?_
  rintro e w3 ⟨M, rfl, hM, _, hb3⟩
  have Hb3 := Lib.hid (Hb2.out.trans (hb3.mono Hb2.out.size))
  clear hb3
  go_wp2_with fail
  go_ret2
  exact ⟨rfl, Hb3.out⟩

set_option maxRecDepth 100000 in
set_option maxHeartbeats 2000000 in
theorem text_any (n : Int) (w : World) (hn : In64 n) (ht : Lib.TabIs Tryz.prog w "internal/strconv.uint64pow10" .u64 Lib.pow10Tab) :
    Calls Tryz.prog 29 #[.int .i64 n] w fun e w' => e = .returned (.string ⟨(Lib.itoa n).toArray⟩) ∧ Below w.heap.size w w' := by
  have Hn := Lib.hid hn
  have Ht := Lib.hid ht
  clear hn ht
  go_enter Tryz.func29, Tryz.ntmps29
  go_wp2_with fail
  refine (Tryz.strconv_FormatInt_10 n Hn.out.1 Hn.out.2 w Ht.out).mono ?_
  rintro e w2 ⟨rfl, k, os, hw⟩
  have Hb := Lib.hid (show Below w.heap.size w w2 by rw [hw]; exact Lib.below_grow _ _ (Nat.le_refl _) _ _)
  clear hw
  go_wp2_with fail
  go_ret
  exact ⟨rfl, Hb.out⟩
end Go.Proofs.YtfiahpeajccinaaGreatDoor.W2
namespace Go.Proofs.YtfiahpeajccinaaGreatDoor
namespace De

theorem toNat_dig (d : Nat) (h : d < 10) : (UInt8.ofNat (48 + d)).toNat = 48 + d := by
  rw [UInt8.toNat_ofNat']; omega
theorem dec_small' {M : Nat} (h : M < 10) : Lib.decDigits M = [UInt8.ofNat (48 + M)] := by rw [Lib.decDigits, dif_pos h]
theorem dec_big' {M : Nat} (h : ¬ M < 10) : Lib.decDigits M = Lib.decDigits (M / 10) ++ [UInt8.ofNat (48 + M % 10)] := by
  conv => lhs; rw [Lib.decDigits]
  rw [dif_neg h]
theorem dec_facts (N : Nat) : (∀ c ∈ Lib.decDigits N, isDig c = true) ∧ Lib.decDigits N ≠ [] ∧ (0 < N → (Lib.decDigits N).head? ≠ some 48) ∧ decF 0 (Lib.decDigits N) = N := by
  induction N using Nat.strongRecOn with
  | _ N ih =>
    by_cases h : N < 10
    · have ht := toNat_dig N h
      rw [dec_small' h]
      refine ⟨?_, by simp, ?_, ?_⟩
      · intro c hc
        obtain rfl := List.mem_singleton.1 hc
        exact (dig_iff _).2 (by omega)
      · intro hp he
        simp only [List.head?_cons, Option.some.injEq] at he
        have := congrArg UInt8.toNat he
        rw [ht] at this
        have h48 : (48 : UInt8).toNat = 48 := rfl
        omega
      · show 10 * 0 + ((UInt8.ofNat (48 + N)).toNat - 48) = N
        omega
    · obtain ⟨a, b, c, d⟩ := ih (N / 10) (by omega)
      have ht := toNat_dig (N % 10) (by omega)
      rw [dec_big' h]
      refine ⟨?_, by simp, ?_, ?_⟩
      · intro x hx
        rcases List.mem_append.1 hx with hx | hx
        · exact a x hx
        · obtain rfl := List.mem_singleton.1 hx
          exact (dig_iff _).2 (by omega)
      · intro _
        rw [List.head?_append]
        cases hd : Lib.decDigits (N / 10) with
        | nil => exact absurd hd b
        | cons x y =>
          have h1 := c (by omega)
          rw [hd] at h1
          simpa using h1
      · rw [decF_snoc, d]; omega
theorem dec_len {N k : Nat} (h : N < 10 ^ (k + 1)) : (Lib.decDigits N).length ≤ k + 1 := by
  induction k generalizing N with
  | zero => rw [dec_small' (by simpa using h)]; simp
  | succ k ih =>
    by_cases h10 : N < 10
    · rw [dec_small' h10]; simp
    · rw [dec_big' h10, List.length_append, List.length_singleton]
      have := ih (N := N / 10) (by rw [Nat.pow_succ] at h; omega)
      omega
theorem dec_form (N : Nat) : formD (Lib.decDigits N) = true := by
  obtain ⟨a, b, c, d⟩ := dec_facts N
  unfold formD
  simp only [Bool.and_eq_true, Bool.not_eq_true', List.all_eq_true, Bool.or_eq_true, decide_eq_true_eq]
  refine ⟨⟨by cases h : Lib.decDigits N with | nil => exact absurd h b | cons x y => rfl, a⟩, ?_⟩
  by_cases h : N < 10
  · left; rw [dec_small' h]; rfl
  · right
    have := c (by omega)
    rw [beq_eq_false_iff_ne]
    exact this
theorem dec_head (N : Nat) : (Lib.decDigits N).head? ≠ some 45 := by
  intro e
  obtain ⟨a, b, c, d⟩ := dec_facts N
  cases h : Lib.decDigits N with
  | nil => exact b h
  | cons x y =>
    rw [h] at e
    simp at e
    subst e
    have := (dig_iff _).1 (a 45 (by rw [h]; simp))
    have h45 : (45 : UInt8).toNat = 45 := rfl
    omega
theorem itoa_form (n : Int) : form (Lib.itoa n) = true ∧ numL (Lib.itoa n) = n := by
  unfold Lib.itoa
  by_cases h : n < 0
  · rw [if_pos h]
    have hg : digs (45 :: Lib.decDigits n.natAbs) = Lib.decDigits n.natAbs := rfl
    refine ⟨by unfold form; rw [hg]; exact dec_form _, ?_⟩
    unfold numL
    rw [if_pos (show (45 :: Lib.decDigits n.natAbs).head? = some 45 from rfl), hg, (dec_facts _).2.2.2]
    omega
  · rw [if_neg h]
    have hg : digs (Lib.decDigits n.toNat) = Lib.decDigits n.toNat := by unfold digs; rw [if_neg (dec_head _)]
    refine ⟨by unfold form; rw [hg]; exact dec_form _, ?_⟩
    unfold numL
    rw [if_neg (dec_head _), hg, (dec_facts _).2.2.2]
    omega
theorem itoa_len {n : Int} (h : In64 n) : (Lib.itoa n).length ≤ 30 := by
  unfold In64 at h
  have h1 : n.natAbs < 10 ^ (19 + 1) := by have : (10 : Nat) ^ (19 + 1) = 100000000000000000000 := by decide
                                           omega
  unfold Lib.itoa
  by_cases h0 : n < 0
  · rw [if_pos h0, List.length_cons]
    have := dec_len h1
    omega
  · rw [if_neg h0]
    have := dec_len (N := n.toNat) (k := 19) (by omega)
    omega
end De
end Go.Proofs.YtfiahpeajccinaaGreatDoor
