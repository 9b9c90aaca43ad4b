/- Contracts of the program's and the reference's small functions of layer 1 that use no memory: Is (both), isHalf, Pair, Halves, and the fixed fact 'awake'. Blocks in memory: words for the contracts. The lexer's small steps: contracts. The lexer's ways of a number, and of a hexadecimal digit: contracts. The lexer's readers of the end, a sign, nothing; a sign behind a backslash: contracts. -/
import Derived.Test.YtfiahpeajccinaaGreatDoorRows
import Derived.WalkKit
import Derived.WalkSpells
import Derived.Deep.QuietTactic
import Derived.BigQuiet
import Derived.Below
import Derived.OwnWalk
import Derived.Laws.AppendOwn
import Derived.Laws.MakeOwn
import Derived.OneCell
import Derived.LoopTactic
import Derived.Deep.RegionHeld3
import Derived.RegionTactic
import Derived.Lib.Hide
import Derived.Test.YtfiahpeajccinaaGreatDoorPA
import Derived.Test.YtfiahpeajccinaaGreatDoorShelfP
import Derived.IntWalk
import Derived.Outline
namespace Go.Proofs.YtfiahpeajccinaaGreatDoor
open Go.RowKit

/-- A point: a number from 0 to 0x10FFFF that is no half. -/
def isPt (n : Int) : Bool := decide ((0 ≤ n ∧ n < 55296) ∨ (57343 < n ∧ n ≤ 1114111))

theorem isPt_iff (n : Int) : isPt n = true ↔ ((0 ≤ n ∧ n < 55296) ∨ (57343 < n ∧ n ≤ 1114111)) := by simp [isPt]
theorem isPt_not (n : Int) : isPt n = false ↔ (n < 0 ∨ (55296 ≤ n ∧ n ≤ 57343) ∨ 1114111 < n) := by
  rw [← Bool.not_eq_true, isPt_iff]; omega

theorem ret_int {k : IntKind} {a b : Int} (h : a = b) : Ending.returned (.int k a) = .returned (.int k b) := by rw [h]
theorem ret_bool {a b : Bool} (h : a = b) : Ending.returned (.bool a) = .returned (.bool b) := by rw [h]

theorem gis_yes (n : Int) (w : World) (h : isPt n = true) : Calls Tryz.prog 120 #[.int .i64 n] w fun e w' => e = .returned (.bool true) ∧ w = w' := by
  rcases (isPt_iff n).1 h with ⟨h1, h2⟩ | ⟨h1, h2⟩ <;> clear h
  all_goals
    go_enter Tryz.func120, Tryz.ntmps120
    go_wp2
    all_goals go_ret
    all_goals exact ⟨ret_bool (by simp <;> omega), rfl⟩
theorem gis_no (n : Int) (w : World) (h : isPt n = false) : Calls Tryz.prog 120 #[.int .i64 n] w fun e w' => e = .returned (.bool false) ∧ w = w' := by
  rcases (isPt_not n).1 h with h1 | ⟨h1, h2⟩ | h1 <;> clear h
  all_goals
    go_enter Tryz.func120, Tryz.ntmps120
    go_wp2
    all_goals go_ret
    all_goals exact ⟨ret_bool (by simp <;> omega), rfl⟩
theorem ris_yes (n : Int) (w : World) (h : isPt n = true) : Calls Tryz.prog 117 #[.int .i64 n] w fun e w' => e = .returned (.bool true) ∧ w = w' := by
  rcases (isPt_iff n).1 h with ⟨h1, h2⟩ | ⟨h1, h2⟩ <;> clear h
  all_goals
    go_enter Tryz.func117, Tryz.ntmps117
    go_wp2
    all_goals go_ret
    all_goals exact ⟨ret_bool (by simp <;> omega), rfl⟩
theorem ris_no (n : Int) (w : World) (h : isPt n = false) : Calls Tryz.prog 117 #[.int .i64 n] w fun e w' => e = .returned (.bool false) ∧ w = w' := by
  rcases (isPt_not n).1 h with h1 | ⟨h1, h2⟩ | h1 <;> clear h
  all_goals
    go_enter Tryz.func117, Tryz.ntmps117
    go_wp2
    all_goals go_ret
    all_goals exact ⟨ret_bool (by simp <;> omega), rfl⟩

def half (n f : Int) : Bool := decide (f ≤ n ∧ n < f + 1024)
theorem half_any (n f : Int) (w : World) (h0 : 0 ≤ f) (h1 : f ≤ 65536) : Calls Tryz.prog 205 #[.int .i64 n, .int .i64 f] w fun e w' => e = .returned (.bool (half n f)) ∧ w = w' := by
  unfold half
  by_cases a : f ≤ n
  · by_cases b : n < f + 1024
    · go_enter Tryz.func205, Tryz.ntmps205
      go_wp2
      go_ret
      exact ⟨ret_bool (by simp <;> omega), rfl⟩
    · go_enter Tryz.func205, Tryz.ntmps205
      go_wp2
      go_ret
      exact ⟨ret_bool (by simp <;> omega), rfl⟩
  · go_enter Tryz.func205, Tryz.ntmps205
    go_wp2
    go_ret
    exact ⟨ret_bool (by simp <;> omega), rfl⟩

theorem encode_no (n : Int) (w : World) (h : isPt n = false) : Calls Tryz.prog 96 #[.int .i64 n] w fun e w' => e = .returned (.string ByteArray.empty) ∧ w = w' := by
  go_enter Tryz.func96, Tryz.ntmps96
  go_wp2_with (go_at_call 120; refine (gis_no _ _ h).mono ?_; rintro e w' ⟨rfl, rfl⟩)
  go_ret
  exact ⟨rfl, rfl⟩
theorem encode_yes (n : Int) (w : World) (h : isPt n = true) : Calls Tryz.prog 96 #[.int .i64 n] w fun e w' => e = .returned (.string (Utf8.encode n)) ∧ w = w' := by
  have hb : 0 ≤ n ∧ n ≤ 1114111 := by rcases (isPt_iff n).1 h with h | h <;> omega
  obtain ⟨hb1, hb2⟩ := hb
  go_enter Tryz.func96, Tryz.ntmps96
  go_wp2_with (go_at_call 120; refine (gis_yes _ _ h).mono ?_; rintro e w' ⟨rfl, rfl⟩)
  go_ret
  exact ⟨rfl, rfl⟩

theorem half_iff (n f : Int) : half n f = true ↔ f ≤ n ∧ n < f + 1024 := by simp [half]
theorem half_not (n f : Int) : half n f = false ↔ n < f ∨ f + 1024 ≤ n := by
  rw [← Bool.not_eq_true, half_iff]; omega
theorem half_yes (n f : Int) (w : World) (h0 : 0 ≤ f) (h1 : f ≤ 65536) (h : half n f = true) : Calls Tryz.prog 205 #[.int .i64 n, .int .i64 f] w fun e w' => e = .returned (.bool true) ∧ w = w' := by
  rw [← h]; exact half_any n f w h0 h1
theorem half_no (n f : Int) (w : World) (h0 : 0 ≤ f) (h1 : f ≤ 65536) (h : half n f = false) : Calls Tryz.prog 205 #[.int .i64 n, .int .i64 f] w fun e w' => e = .returned (.bool false) ∧ w = w' := by
  rw [← h]; exact half_any n f w h0 h1

theorem pair_yes (a b : Int) (w : World) (ha : 55296 ≤ a ∧ a < 56320) (hb : 56320 ≤ b ∧ b < 57344) : Calls Tryz.prog 203 #[.int .i64 a, .int .i64 b] w fun e w' => e = .returned (.int .i64 (65536 + (a - 55296) * 1024 + (b - 56320))) ∧ w = w' := by
  have h1 : half a 55296 = true := (half_iff _ _).2 (by omega)
  have h2 : half b 56320 = true := (half_iff _ _).2 (by omega)
  obtain ⟨a1, a2⟩ := ha
  obtain ⟨b1, b2⟩ := hb
  go_enter Tryz.func203, Tryz.ntmps203
  go_wp2_with fail
  refine (half_yes a 55296 _ (by omega) (by omega) h1).mono ?_
  rintro e w' ⟨rfl, rfl⟩
  go_wp2_with fail
  refine (half_yes b 56320 _ (by omega) (by omega) h2).mono ?_
  rintro e w' ⟨rfl, rfl⟩
  go_wp2_with fail
  go_ret
  exact ⟨rfl, rfl⟩
theorem pair_no (a b : Int) (w : World) (h : ¬ ((55296 ≤ a ∧ a < 56320) ∧ (56320 ≤ b ∧ b < 57344))) : Calls Tryz.prog 203 #[.int .i64 a, .int .i64 b] w fun e w' => e = .returned (.int .i64 (-1)) ∧ w = w' := by
  cases h1 : half a 55296 with
  | false =>
    go_enter Tryz.func203, Tryz.ntmps203
    go_wp2_with fail
    refine (half_no a 55296 _ (by omega) (by omega) h1).mono ?_
    rintro e w' ⟨rfl, rfl⟩
    go_wp2_with fail
    go_ret
    exact ⟨rfl, rfl⟩
  | true =>
    have h2 : half b 56320 = false := by
      rw [half_iff] at h1
      rw [half_not]
      omega
    clear h
    go_enter Tryz.func203, Tryz.ntmps203
    go_wp2_with fail
    refine (half_yes a 55296 _ (by omega) (by omega) h1).mono ?_
    rintro e w' ⟨rfl, rfl⟩
    go_wp2_with fail
    refine (half_no b 56320 _ (by omega) (by omega) h2).mono ?_
    rintro e w' ⟨rfl, rfl⟩
    go_wp2_with fail
    go_ret
    exact ⟨rfl, rfl⟩

end Go.Proofs.YtfiahpeajccinaaGreatDoor
namespace Go.Proofs.YtfiahpeajccinaaGreatDoor
open Go.RowKit

theorem below_drewN {B : Nat} {a w : World} (h : Below B a w) (n : Nat) : Below B a (w.drewN n) := h.trans ⟨rfl, rfl, rfl, Nat.le_refl _, fun _ _ => rfl⟩

/-- a block known whole -/
def Blk (w : World) (g : Nat) (t : TypeId) (cs : Array Value) : Prop := w.heap[g]? = some (Obj.cells cs t (0, 0))
theorem Blk.lt {w : World} {g : Nat} {t : TypeId} {cs : Array Value} (h : Blk w g t cs) : g < w.heap.size := (Array.getElem?_eq_some_iff.1 h).1
theorem Blk.cell {w : World} {g : Nat} {t : TypeId} {cs : Array Value} (h : Blk w g t cs) (i : Nat) : w.cell? ⟨g, i, none⟩ = cs[i]? := cell_of_row w g i cs t (0, 0) h
theorem Blk.free {w : World} {g : Nat} {t : TypeId} {cs : Array Value} (h : Blk w g t cs) (i : Nat) : w.frozen? ⟨g, i, none⟩ = false := by
  unfold Blk at h
  simp [World.frozen?, h]
theorem Blk.new (w : World) (t : TypeId) (cs : Array Value) : Blk (w.alloc (.cells cs t)) w.heap.size t cs := heap_alloc_new w _
theorem Blk.alloc {w : World} {g : Nat} {t : TypeId} {cs : Array Value} (h : Blk w g t cs) (o : Obj) : Blk (w.alloc o) g t cs := (Below.heap_alloc w o g h.lt).trans h
theorem Blk.drew {w : World} {g : Nat} {t : TypeId} {cs : Array Value} (h : Blk w g t cs) : Blk w.drew g t cs := h
theorem Blk.on {w w' : World} {g B : Nat} {t : TypeId} {cs : Array Value} (h : Blk w g t cs) (hb : Below B w w') (hB : g < B) : Blk w' g t cs := (hb.block g hB).trans h
theorem Blk.onto {w w' : World} {g : Nat} {t : TypeId} {cs : Array Value} (h : Blk w g t cs) (hb : Below w.heap.size w w') : Blk w' g t cs := h.on hb h.lt
theorem Blk.set_ {w : World} {g : Nat} {t : TypeId} {cs : Array Value} (h : Blk w g t cs) (i : Nat) (u : Value) : Blk (w.setCell ⟨g, i, none⟩ u) g t (cs.setIfInBounds i u) := by
  unfold Blk at h ⊢
  simp [World.setCell, Array.getElem?_modify, h]
theorem Blk.far {w : World} {g : Nat} {t : TypeId} {cs : Array Value} (h : Blk w g t cs) {p : Addr} (hp : g ≠ p.block) (u : Value) : Blk (w.setCell p u) g t cs := (Below.heap_setCell w p u g hp).trans h

/-- w' has w's blocks of S -/
def Keeps (S : Nat → Prop) (w w' : World) : Prop := ∀ b, S b → w'.heap[b]? = w.heap[b]?
theorem Keeps.cell {S : Nat → Prop} {w w' : World} (h : Keeps S w w') {b : Nat} (hb : S b) (o : Nat) : w'.cell? ⟨b, o, none⟩ = w.cell? ⟨b, o, none⟩ := World.cell?_of_block (h b hb)
theorem Keeps.of_below {B : Nat} {w w' : World} (h : Below B w w') : Keeps (· < B) w w' := fun b hb => h.block b hb
theorem Keeps.mono {S S' : Nat → Prop} {w w' : World} (h : Keeps S' w w') (hs : ∀ b, S b → S' b) : Keeps S w w' := fun b hb => h b (hs b hb)
theorem Keeps.trans {S : Nat → Prop} {a b c : World} (h : Keeps S a b) (k : Keeps S b c) : Keeps S a c := fun x hx => (k x hx).trans (h x hx)
end Go.Proofs.YtfiahpeajccinaaGreatDoor
namespace Go.Proofs.YtfiahpeajccinaaGreatDoor
open Go.RowKit
open Tk
set_option linter.unusedVariables false

theorem ret_i {k : IntKind} {a b : Int} (h : a = b) : Ending.returned (.int k a) = .returned (.int k b) := by rw [h]
theorem ret_ib2 {a b : Int} {c d : Bool} (h : a = b) (k : c = d) : Ending.returned (.tuple #[.int .i64 a, .bool c]) = .returned (.tuple #[.int .i64 b, .bool d]) := by rw [h, k]
/-- the set of bytes is that of some text's -/
def SetIs (some : ByteArray) (p : Nat → Bool) : Prop := (∀ c : UInt8, p c.toNat = true → 0 ≤ Lib.indexByte some.data.toList c) ∧ (∀ c : UInt8, p c.toNat = false → Lib.indexByte some.data.toList c < 0)
theorem idx_any (some : ByteArray) (p : Nat → Bool) (hs : SetIs some p) (c : UInt8) (w : World) :
    Calls Tryz.prog 139 #[.string some, .int .u8 (c.toNat : Int)] w fun e w' => e = .returned (.int .i64 (Lib.indexByte some.data.toList c)) ∧ w = w' := by
  have h := Tryz.strings_IndexByte some (c.toNat : Int) w
  rw [show ((c.toNat : Int)).toNat.toUInt8 = c by simp] at h
  exact h.mono fun e w' ⟨a, b⟩ => ⟨a, b.symm⟩
set_option maxRecDepth 100000 in
theorem one_any (b : Nat) (s some : ByteArray) (p : Nat → Bool) (at_ : Nat) (w : World) (hs : s.size ≤ 1000000) (hc : w.cell? ⟨b, 0, none⟩ = Option.some (.string s)) (hp : SetIs some p) (h0 : p 0 = false) :
    Calls Tryz.prog 197 #[.pointer (.some ⟨b, 0, none⟩), .int .i64 at_, .string some] w fun e w' => e = .returned (.int .i64 (if p (bt s at_) = true then at_ + 1 else at_ : Nat)) ∧ w = w' := by
  have HP := Lib.hid hp
  clear hp
  by_cases hlt : at_ < s.size
  · have u1 : decide (at_ < s.size) = true := decide_eq_true hlt
    have u2 : decide ((at_ : Int) < (s.size : Int)) = true := decide_eq_true (by omega)
    have i1 : (at_ : Int) < (s.size : Int) := by omega
    have i2 : (0 : Int) ≤ (at_ : Int) := by omega
    have hb := bt_at s at_ hlt
    have HB := Lib.hid hb
    clear hb
    cases hq : p (bt s at_) with
    | true =>
      have hr := HP.out.1 s[at_] (by rw [HB.out]; exact hq)
      have HQ := Lib.hid hq
      clear hq
      go_enter Tryz.func197, Tryz.ntmps197
      go_wp2_with fail
      refine (idx_any some p HP.out _ _).mono ?_
      rintro e w2 ⟨rfl, rfl⟩
      go_wp2_with fail
      go_ret
      exact ⟨rfl, rfl⟩
    | false =>
      have hr := HP.out.2 s[at_] (by rw [HB.out]; exact hq)
      have hr2 : ¬ 0 ≤ Lib.indexByte some.data.toList s[at_] := by omega
      have HQ := Lib.hid hq
      clear hq
      go_enter Tryz.func197, Tryz.ntmps197
      go_wp2_with fail
      refine (idx_any some p HP.out _ _).mono ?_
      rintro e w2 ⟨rfl, rfl⟩
      go_wp2_with fail
      go_ret
      exact ⟨rfl, rfl⟩
  · have u1 : decide (at_ < s.size) = false := decide_eq_false hlt
    have u2 : decide ((at_ : Int) < (s.size : Int)) = false := decide_eq_false (by omega)
    have hq : p (bt s at_) = false := by rw [bt_end (by omega)]; exact h0
    rw [hq]
    clear hq h0
    go_enter Tryz.func197, Tryz.ntmps197
    go_wp2_with fail
    go_ret
    exact ⟨rfl, rfl⟩
set_option maxRecDepth 100000 in
set_option maxHeartbeats 2000000 in
theorem digits_any (b : Nat) (s : ByteArray) (at_ : Nat) (w : World) (hs : s.size ≤ 1000000) (hc : w.cell? ⟨b, 0, none⟩ = Option.some (.string s)) (ha : at_ ≤ s.size) :
    Calls Tryz.prog 198 #[.pointer (Option.some ⟨b, 0, none⟩), .int .i64 at_] w fun e w' => e = .returned (.tuple #[.int .i64 (span isDg s at_ : Nat), .bool (isDg (bt s at_))]) ∧ w = w' := by
  have HE := Lib.hid (span_le isDg ha)
  go_enter Tryz.func198, Tryz.ntmps198
  go_wp2_with fail
  go_loop [6] (fun i => ∃ k : Nat, at_ ≤ k ∧ k ≤ span isDg s at_ ∧ i = .int .i64 k) (fun i => span isDg s at_ - (intOf i).toNat)
  case atStart => exact ⟨at_, Nat.le_refl _, span_ge _ _ _, rfl⟩
  case round =>
    obtain ⟨k, h1, h2, rfl⟩ := hrel
    have hle := HE.out
    by_cases hlt : k < span isDg s at_
    · have hk : k < s.size := by omega
      have u1 : decide (k < s.size) = true := decide_eq_true hk
      have u2 : decide ((k : Int) < (s.size : Int)) = true := decide_eq_true (by omega)
      have i1 : (k : Int) < (s.size : Int) := by omega
      have i2 : (0 : Int) ≤ (k : Int) := by omega
      have hd := isDg_iff.1 (span_in (p := isDg) h1 hlt)
      rw [← bt_at s k hk] at hd
      have v1 : (48 : Int) ≤ (s[k].toNat : Int) := by omega
      have v2 : (s[k].toNat : Int) ≤ 57 := by omega
      clear hd
      go_wp2_with fail
      go_round
      case rel => exact ⟨k + 1, by omega, hlt, by go_num⟩
      case measure => simp [intOf]; omega
    · obtain rfl : k = span isDg s at_ := by omega
      have hp := dgs_pos s at_
      have HPO := Lib.hid hp
      have e1 : decide ((at_ : Int) < (span isDg s at_ : Nat)) = isDg (bt s at_) := by rw [← hp]; congr 1; simp
      have e2 : decide (at_ < span isDg s at_) = isDg (bt s at_) := hp
      by_cases hk : span isDg s at_ < s.size
      · have ho := isDg_no.1 (span_out (p := isDg) hk)
        generalize hq : span isDg s at_ = q at *
        have HQ := Lib.hid hq
        clear hq
        have u1 : decide (q < s.size) = true := decide_eq_true hk
        have u2 : decide ((q : Int) < (s.size : Int)) = true := decide_eq_true (by omega)
        have i1 : (q : Int) < (s.size : Int) := by omega
        have i2 : (0 : Int) ≤ (q : Int) := by omega
        rw [← bt_at s q hk] at ho
        generalize hz : isDg (bt s at_) = z at *
        have HZ := Lib.hid hz
        clear hz hp HPO HE
        by_cases h48 : (48 : Int) ≤ (s[q].toNat : Int)
        · have v2 : ¬ (s[q].toNat : Int) ≤ 57 := by omega
          clear ho
          go_wp2_with fail
          go_ret2
          exact ⟨ret_ib2 (by rw [HQ.out]) HZ.out.symm, rfl⟩
        · clear ho
          go_wp2_with fail
          go_ret2
          exact ⟨ret_ib2 (by rw [HQ.out]) HZ.out.symm, rfl⟩
      · generalize hq : span isDg s at_ = q at *
        generalize hz : isDg (bt s at_) = z at *
        have HQ := Lib.hid hq
        have HZ := Lib.hid hz
        clear hq hz hp HPO HE
        have u1 : decide (q < s.size) = false := decide_eq_false hk
        have u2 : decide ((q : Int) < (s.size : Int)) = false := decide_eq_false (by omega)
        go_wp2_with fail
        go_ret2
        exact ⟨ret_ib2 (by rw [HQ.out]) HZ.out.symm, rfl⟩
end Go.Proofs.YtfiahpeajccinaaGreatDoor
namespace Go.Proofs.YtfiahpeajccinaaGreatDoor
open Go.RowKit
open Tk
set_option linter.unusedVariables false

def eq1 (k : Nat) (c : Nat) : Bool := c == k
theorem set1 (k : UInt8) : SetIs ⟨#[k]⟩ (eq1 k.toNat) := by
  constructor
  · intro c h
    have hc : c = k := UInt8.toNat_inj.1 (by simpa [eq1] using h)
    subst hc
    simp [Lib.indexByte]
  · intro c h
    have hc : ¬ k = c := fun e => by subst e; simp [eq1] at h
    simp [Lib.indexByte, hc]
theorem set2 (j k : UInt8) : SetIs ⟨#[j, k]⟩ (fun c => c == j.toNat || c == k.toNat) := by
  constructor
  · intro c h
    simp only [Bool.or_eq_true, beq_iff_eq] at h
    rcases h with h | h
    · have := UInt8.toNat_inj.1 h; subst this; simp [Lib.indexByte]
    · have := UInt8.toNat_inj.1 h; subst this
      by_cases hj : j = c
      · subst hj; simp [Lib.indexByte]
      · simp [Lib.indexByte, hj]
  · intro c h
    simp only [Bool.or_eq_false_iff, beq_eq_false_iff_ne] at h
    have h1 : ¬ j = c := fun e => h.1 (by rw [e])
    have h2 : ¬ k = c := fun e => h.2 (by rw [e])
    simp [Lib.indexByte, h1, h2]
theorem sign_eq (s : ByteArray) (a : Nat) : (if eq1 45 (bt s a) = true then a + 1 else a) = signE s a := by
  unfold signE eq1
  by_cases h : bt s a = 45
  · simp [h]
  · simp [h]
theorem signE_le {s : ByteArray} {a : Nat} (h : a ≤ s.size) : signE s a ≤ s.size := by
  unfold signE
  split
  · rename_i h1; have := lt_of_bt (s := s) (i := a) (by omega); omega
  · exact h
set_option maxRecDepth 100000 in
theorem int_any5 (b : Nat) (s : ByteArray) (a : Nat) (w : World) (hs : s.size ≤ 1000000) (hc : w.cell? ⟨b, 0, none⟩ = Option.some (.string s)) (ha : a ≤ s.size) :
    Calls Tryz.prog 189 #[.pointer (Option.some ⟨b, 0, none⟩), .int .i64 a] w fun e w' => e = .returned (.tuple #[.int .i64 (intE s a : Nat), .bool (intB s a)]) ∧ w = w' := by
  have HS := Lib.hid (sign_eq s a)
  have hf := signE_le ha
  have HI := Lib.hid (show intE s a = (if bt s (signE s a) = 48 then signE s a + 1 else span isDg s (signE s a)) ∧ intB s a = isDg (bt s (signE s a)) from ⟨rfl, rfl⟩)
  generalize intE s a = E at *
  generalize intB s a = B at *
  generalize signE s a = f at *
  by_cases h48 : bt s f = 48
  · have q1 : (if eq1 48 (bt s f) = true then f + 1 else f) = f + 1 := by simp [eq1, h48]
    have HQ := Lib.hid q1
    have HE := Lib.hid (show E = f + 1 by rw [HI.out.1, if_pos h48])
    have HB := Lib.hid (show B = true by rw [HI.out.2, h48]; rfl)
    have t1 : decide ((f : Int) < (f : Int) + 1) = true := decide_eq_true (by omega)
    have t2 : decide (f < f + 1) = true := decide_eq_true (by omega)
    clear q1 h48
    go_enter Tryz.func189, Tryz.ntmps189
    go_wp2_with fail
    refine (one_any b s ⟨#[45]⟩ (eq1 45) a _ hs hc (set1 45) rfl).mono ?_
    rintro e w2 ⟨rfl, rfl⟩
    rw [HS.out]
    go_wp2_with fail
    refine (one_any b s ⟨#[48]⟩ (eq1 48) f _ hs hc (set1 48) rfl).mono ?_
    rintro e w2 ⟨rfl, rfl⟩
    rw [HQ.out]
    go_wp2_with fail
    go_ret2
    exact ⟨ret_ib2 (by have h := HE.out; omega) HB.out.symm, rfl⟩
  · have q1 : (if eq1 48 (bt s f) = true then f + 1 else f) = f := by simp [eq1, h48]
    have HQ := Lib.hid q1
    have HE := Lib.hid (show E = span isDg s f by rw [HI.out.1, if_neg h48])
    have HB := Lib.hid HI.out.2
    have t1 : decide ((f : Int) < (f : Int)) = false := decide_eq_false (by omega)
    have t2 : decide (f < f) = false := decide_eq_false (by omega)
    clear q1 h48
    go_enter Tryz.func189, Tryz.ntmps189
    go_wp2_with fail
    refine (one_any b s ⟨#[45]⟩ (eq1 45) a _ hs hc (set1 45) rfl).mono ?_
    rintro e w2 ⟨rfl, rfl⟩
    rw [HS.out]
    go_wp2_with fail
    refine (one_any b s ⟨#[48]⟩ (eq1 48) f _ hs hc (set1 48) rfl).mono ?_
    rintro e w2 ⟨rfl, rfl⟩
    rw [HQ.out]
    go_wp2_with fail
    refine (digits_any b s f _ hs hc hf).mono ?_
    rintro e w2 ⟨rfl, rfl⟩
    go_wp2_with fail
    go_ret2
    exact ⟨ret_ib2 (by have h := HE.out; omega) HB.out.symm, rfl⟩
set_option maxRecDepth 100000 in
theorem frac_any5 (b : Nat) (s : ByteArray) (a : Nat) (w : World) (hs : s.size ≤ 1000000) (hc : w.cell? ⟨b, 0, none⟩ = Option.some (.string s)) (ha : a ≤ s.size) :
    Calls Tryz.prog 190 #[.pointer (Option.some ⟨b, 0, none⟩), .int .i64 a] w fun e w' => e = .returned (.tuple #[.int .i64 (fracE s a : Nat), .bool (fracB s a)]) ∧ w = w' := by
  by_cases h46 : bt s a = 46
  · have hl := lt_of_bt (s := s) (i := a) (by omega)
    have HQ := Lib.hid (show (if eq1 46 (bt s a) = true then a + 1 else a) = a + 1 by simp [eq1, h46])
    have HE := Lib.hid (show fracE s a = span isDg s (a + 1) by unfold fracE; rw [if_pos h46])
    have HB := Lib.hid (show fracB s a = isDg (bt s (a + 1)) by unfold fracB; rw [h46]; rfl)
    generalize fracE s a = E at *
    generalize fracB s a = B at *
    have t1 : ((a : Int) + 1 == (a : Int)) = false := by rw [beq_eq_false_iff_ne]; omega
    clear h46
    go_enter Tryz.func190, Tryz.ntmps190
    go_wp2_with fail
    refine (one_any b s ⟨#[46]⟩ (eq1 46) a _ hs hc (set1 46) rfl).mono ?_
    rintro e w2 ⟨rfl, rfl⟩
    rw [HQ.out]
    go_wp2_with fail
    refine (digits_any b s (a + 1) _ hs hc (by omega)).mono ?_
    rintro e w2 ⟨rfl, rfl⟩
    go_wp2_with fail
    go_ret2
    exact ⟨ret_ib2 (by have h := HE.out; omega) HB.out.symm, rfl⟩
  · have HQ := Lib.hid (show (if eq1 46 (bt s a) = true then a + 1 else a) = a by simp [eq1, h46])
    have HE := Lib.hid (show fracE s a = a by unfold fracE; rw [if_neg h46])
    have HB := Lib.hid (show fracB s a = true by unfold fracB; simp [h46])
    generalize fracE s a = E at *
    generalize fracB s a = B at *
    have t1 : ((a : Int) == (a : Int)) = true := by simp
    clear h46
    go_enter Tryz.func190, Tryz.ntmps190
    go_wp2_with fail
    refine (one_any b s ⟨#[46]⟩ (eq1 46) a _ hs hc (set1 46) rfl).mono ?_
    rintro e w2 ⟨rfl, rfl⟩
    rw [HQ.out]
    go_wp2_with fail
    go_ret2
    exact ⟨ret_ib2 (by have h := HE.out; omega) HB.out.symm, rfl⟩
theorem expS_eq (s : ByteArray) (f : Nat) : (if isSg (bt s (f + 1)) = true then f + 1 + 1 else f + 1) = expS s f := rfl
theorem expS_le {s : ByteArray} {f : Nat} (h : f < s.size) : expS s f ≤ s.size := by
  unfold expS
  split
  · rename_i h1
    have := lt_of_bt (s := s) (i := f + 1) (fun e => by rw [e] at h1; cases h1)
    omega
  · omega
set_option maxRecDepth 100000 in
theorem exp_any5 (b : Nat) (s : ByteArray) (a : Nat) (w : World) (hs : s.size ≤ 1000000) (hc : w.cell? ⟨b, 0, none⟩ = Option.some (.string s)) (ha : a ≤ s.size) :
    Calls Tryz.prog 191 #[.pointer (Option.some ⟨b, 0, none⟩), .int .i64 a] w fun e w' => e = .returned (.tuple #[.int .i64 (expE s a : Nat), .bool (expB s a)]) ∧ w = w' := by
  cases hE : isE (bt s a) with
  | true =>
    have hl := lt_of_bt (s := s) (i := a) (fun e => by rw [e] at hE; cases hE)
    have HQ := Lib.hid (show (if isE (bt s a) = true then a + 1 else a) = a + 1 by rw [hE]; rfl)
    have HE := Lib.hid (show expE s a = span isDg s (expS s a) by unfold expE; rw [if_pos hE])
    have HB := Lib.hid (show expB s a = isDg (bt s (expS s a)) by unfold expB; rw [hE]; rfl)
    have HS := Lib.hid (expS_eq s a)
    have hle := expS_le hl
    generalize expE s a = E at *
    generalize expB s a = B at *
    generalize expS s a = f at *
    have t1 : ((a : Int) + 1 == (a : Int)) = false := by rw [beq_eq_false_iff_ne]; omega
    clear hE
    go_enter Tryz.func191, Tryz.ntmps191
    go_wp2_with fail
    refine (one_any b s ⟨#[101, 69]⟩ isE a _ hs hc (set2 101 69) rfl).mono ?_
    rintro e w2 ⟨rfl, rfl⟩
    rw [HQ.out]
    go_wp2_with fail
    refine (one_any b s ⟨#[43, 45]⟩ isSg (a + 1) _ hs hc (set2 43 45) rfl).mono ?_
    rintro e w2 ⟨rfl, rfl⟩
    rw [HS.out]
    go_wp2_with fail
    refine (digits_any b s f _ hs hc hle).mono ?_
    rintro e w2 ⟨rfl, rfl⟩
    go_wp2_with fail
    go_ret2
    exact ⟨ret_ib2 (by have h := HE.out; omega) HB.out.symm, rfl⟩
  | false =>
    have HQ := Lib.hid (show (if isE (bt s a) = true then a + 1 else a) = a by rw [hE]; rfl)
    have HE := Lib.hid (show expE s a = a by unfold expE; rw [hE]; rfl)
    have HB := Lib.hid (show expB s a = true by unfold expB; rw [hE]; rfl)
    generalize expE s a = E at *
    generalize expB s a = B at *
    have t1 : ((a : Int) == (a : Int)) = true := by simp
    clear hE
    go_enter Tryz.func191, Tryz.ntmps191
    go_wp2_with fail
    refine (one_any b s ⟨#[101, 69]⟩ isE a _ hs hc (set2 101 69) rfl).mono ?_
    rintro e w2 ⟨rfl, rfl⟩
    rw [HQ.out]
    go_wp2_with fail
    go_ret2
    exact ⟨ret_ib2 (by have h := HE.out; omega) HB.out.symm, rfl⟩
set_option maxRecDepth 100000 in
theorem hex_any5 (c : Nat) (w : World) (h : c < 256) : Calls Tryz.prog 204 #[.int .u8 c] w fun e w' => e = .returned (.int .i64 (hexOf c)) ∧ w = w' := by
  by_cases h1 : 48 ≤ c ∧ c ≤ 57
  · have HE := Lib.hid (show hexOf c = (c : Int) - 48 by unfold hexOf; rw [if_pos h1])
    have v1 : (48 : Int) ≤ (c : Int) := by omega
    have v2 : (c : Int) ≤ 57 := by omega
    clear h1
    go_enter Tryz.func204, Tryz.ntmps204
    go_wp2_with fail
    go_ret
    exact ⟨ret_i HE.out.symm, rfl⟩
  · by_cases h2 : 97 ≤ c ∧ c ≤ 102
    · have HE := Lib.hid (show hexOf c = (c : Int) - 87 by unfold hexOf; rw [if_neg h1, if_pos h2])
      have v1 : (97 : Int) ≤ (c : Int) := by omega
      have v2 : (c : Int) ≤ 102 := by omega
      have v3 : (48 : Int) ≤ (c : Int) := by omega
      have v4 : ¬ (c : Int) ≤ 57 := by omega
      clear h1 h2
      go_enter Tryz.func204, Tryz.ntmps204
      go_wp2_with fail
      go_ret
      exact ⟨ret_i (by rw [HE.out]; omega), rfl⟩
    · by_cases h3 : 65 ≤ c ∧ c ≤ 70
      · have HE := Lib.hid (show hexOf c = (c : Int) - 55 by unfold hexOf; rw [if_neg h1, if_neg h2, if_pos h3])
        have v1 : (65 : Int) ≤ (c : Int) := by omega
        have v2 : (c : Int) ≤ 70 := by omega
        have v3 : (48 : Int) ≤ (c : Int) := by omega
        have v4 : ¬ (c : Int) ≤ 57 := by omega
        have v5 : ¬ (97 : Int) ≤ (c : Int) := by omega
        clear h1 h2 h3
        go_enter Tryz.func204, Tryz.ntmps204
        go_wp2_with fail
        go_ret
        exact ⟨ret_i (by rw [HE.out]; omega), rfl⟩
      · have HE := Lib.hid (show hexOf c = -1 by unfold hexOf; rw [if_neg h1, if_neg h2, if_neg h3])
        by_cases g1 : c < 48
        · have v3 : ¬ (48 : Int) ≤ (c : Int) := by omega
          have v5 : ¬ (97 : Int) ≤ (c : Int) := by omega
          have v6 : ¬ (65 : Int) ≤ (c : Int) := by omega
          clear h1 h2 h3
          go_enter Tryz.func204, Tryz.ntmps204
          go_wp2_with fail
          go_ret
          exact ⟨ret_i HE.out.symm, rfl⟩
        · have v3 : (48 : Int) ≤ (c : Int) := by omega
          have v4 : ¬ (c : Int) ≤ 57 := by omega
          by_cases g2 : c < 65
          · have v5 : ¬ (97 : Int) ≤ (c : Int) := by omega
            have v6 : ¬ (65 : Int) ≤ (c : Int) := by omega
            clear h1 h2 h3
            go_enter Tryz.func204, Tryz.ntmps204
            go_wp2_with fail
            go_ret
            exact ⟨ret_i HE.out.symm, rfl⟩
          · have v6 : (65 : Int) ≤ (c : Int) := by omega
            have v7 : ¬ (c : Int) ≤ 70 := by omega
            by_cases g3 : c < 97
            · have v5 : ¬ (97 : Int) ≤ (c : Int) := by omega
              clear h1 h2 h3
              go_enter Tryz.func204, Tryz.ntmps204
              go_wp2_with fail
              go_ret
              exact ⟨ret_i HE.out.symm, rfl⟩
            · have v5 : (97 : Int) ≤ (c : Int) := by omega
              have v8 : ¬ (c : Int) ≤ 102 := by omega
              clear h1 h2 h3
              go_enter Tryz.func204, Tryz.ntmps204
              go_wp2_with fail
              go_ret
              exact ⟨ret_i HE.out.symm, rfl⟩
end Go.Proofs.YtfiahpeajccinaaGreatDoor
namespace Go.Proofs.YtfiahpeajccinaaGreatDoor
open Go.RowKit
open Tk
set_option linter.unusedVariables false

def Tk.Tok.agg (t : Tok) : Value := .agg #[.int .i64 t.kind, .string t.text, .int .i64 t.num, .int .i64 t.at_, .int .i64 t.fin]
def Tk.Ans.val : Ans → Value
  | .tok t => .tuple #[.agg #[.int .i64 t.kind, .string t.text, .int .i64 t.num, .int .i64 t.at_, .int .i64 t.fin], .int .i64 0, .int .i64 0]
  | .err p e => .tuple #[.agg #[.int .i64 0, .string ⟨#[]⟩, .int .i64 0, .int .i64 0, .int .i64 0], .int .i64 p, .int .i64 e]
theorem end_any5 (b : Nat) (a : Nat) (w : World) : Calls Tryz.prog 170 #[.pointer (some ⟨b, 0, none⟩), .int .i64 a] w fun e w' => e = .returned (Ans.tok ⟨0, nix, 0, a, a⟩).val ∧ Below w.heap.size w w' := by
  go_enter Tryz.func170, Tryz.ntmps170
  go_wp2_with fail
  exact bodyPost_ret (v := (Ans.tok ⟨0, nix, 0, a, a⟩).val) (by simp [results, Tryz.results170, go_sem, Ans.val, nix]) rfl ⟨rfl, (Below.refl _ _).alloc (Nat.le_refl _) _⟩
theorem nothing_any5 (b : Nat) (a : Nat) (w : World) : Calls Tryz.prog 175 #[.pointer (some ⟨b, 0, none⟩), .int .i64 a] w fun e w' => e = .returned (Ans.err a 1).val ∧ Below w.heap.size w w' := by
  go_enter Tryz.func175, Tryz.ntmps175
  go_wp2_with fail
  exact bodyPost_ret (v := (Ans.err a 1).val) (by simp [results, Tryz.results175, go_sem, Ans.val]) rfl ⟨rfl, (Below.refl _ _).alloc (Nat.le_refl _) _⟩
theorem ba_list {a b : ByteArray} (h : a.data.toList = b.data.toList) : a = b := by
  obtain ⟨⟨x⟩⟩ := a
  obtain ⟨⟨y⟩⟩ := b
  simp at h
  rw [h]
theorem extract_one {s : ByteArray} {a : Nat} (h : a < s.size) : s.extract a (a + 1) = Tk.one (bt s a) := by
  apply ba_list
  rw [show (s.extract a (a + 1)).data.toList = (s.data.toList.drop a).take (a + 1 - a) from sub_list s a (a + 1), drop_cons h, show a + 1 - a = 1 by omega]
  show [s[a]] = [(bt s a).toUInt8]
  rw [← bt_at s a h]
  simp
set_option maxRecDepth 100000 in
theorem mark_any5 (b : Nat) (s : ByteArray) (a : Nat) (w : World) (hs : s.size ≤ 1000000) (hc : w.cell? ⟨b, 0, none⟩ = some (.string s)) (ha : a < s.size) : Calls Tryz.prog 171 #[.pointer (some ⟨b, 0, none⟩), .int .i64 a] w fun e w' => e = .returned (Ans.tok ⟨1, Tk.one (bt s a), 0, a, a + 1⟩).val ∧ Below w.heap.size w w' := by
  have HX := Lib.hid (extract_one ha)
  have hb : b < w.heap.size := by
    rcases Nat.lt_or_ge b w.heap.size with h | h
    · exact h
    · unfold World.cell? at hc; rw [Array.getElem?_eq_none h] at hc; cases hc
  have i1 : (0 : Int) ≤ (a : Int) := by omega
  have i2 : (a : Int) + 1 ≤ (s.size : Int) := by omega
  go_enter Tryz.func171, Tryz.ntmps171
  go_wp2_with fail
  exact bodyPost_ret (v := .tuple #[.agg #[.int .i64 1, .string (s.extract a (a + 1)), .int .i64 0, .int .i64 a, .int .i64 (a + 1)], .int .i64 0, .int .i64 0]) (by simp [results, Tryz.results171, go_sem]) rfl ⟨by rw [HX.out]; rfl, (Below.refl _ _).alloc (Nat.le_refl _) _⟩
def Tk.Ch.val : Ch → Value
  | .pt n e => .tuple #[.int .i64 n, .int .i64 e, .int .i64 0]
  | .bad p c => .tuple #[.int .i64 0, .int .i64 p, .int .i64 c]
/-- a sign behind a backslash -/
def shortCh (s : ByteArray) (a : Nat) : Ch := match shortOf (bt s a) with | some n => .pt n (a + 1) | none => .bad a 1
def signs : ByteArray := ⟨#[34, 92, 47, 98, 102, 110, 114, 116]⟩
theorem idx_eq (some : ByteArray) (c : UInt8) (r : Int) (h : Lib.indexByte some.data.toList c = r) (w : World) :
    Calls Tryz.prog 139 #[.string some, .int .u8 (c.toNat : Int)] w fun e w' => e = .returned (.int .i64 r) ∧ w = w' := by
  have h2 := Tryz.strings_IndexByte some (c.toNat : Int) w
  rw [show ((c.toNat : Int)).toNat.toUInt8 = c by simp, h] at h2
  exact h2.mono fun e w' ⟨a, b⟩ => ⟨a, b.symm⟩
theorem shortOf_cases (c : Nat) : c = 34 ∨ c = 92 ∨ c = 47 ∨ c = 98 ∨ c = 102 ∨ c = 110 ∨ c = 114 ∨ c = 116 ∨ (c ≠ 34 ∧ c ≠ 92 ∧ c ≠ 47 ∧ c ≠ 98 ∧ c ≠ 102 ∧ c ≠ 110 ∧ c ≠ 114 ∧ c ≠ 116) := by omega
theorem sig_end {x y : Int} (h : x = y) (p q : Value) : Ending.returned (.tuple #[.int .i64 x, p, q]) = Ending.returned (.tuple #[.int .i64 y, p, q]) := by rw [h]
set_option maxRecDepth 100000 in
set_option maxHeartbeats 2000000 in
theorem short_any5 (b : Nat) (s : ByteArray) (a : Nat) (w : World) (hs : s.size ≤ 1000000) (hc : w.cell? ⟨b, 0, none⟩ = some (.string s)) (ha : a ≤ s.size) : Calls Tryz.prog 196 #[.pointer (some ⟨b, 0, none⟩), .int .i64 a] w fun e w' => e = .returned (shortCh s a).val ∧ w = w' := by
  by_cases hl : a < s.size
  · have u1 : decide (a < s.size) = true := decide_eq_true hl
    have u2 : decide ((a : Int) < (s.size : Int)) = true := decide_eq_true (by omega)
    have i1 : (a : Int) < (s.size : Int) := by omega
    have i2 : (0 : Int) ≤ (a : Int) := by omega
    rcases shortOf_cases (bt s a) with h | h | h | h | h | h | h | h | h
    · have hx : s[a] = 34 := UInt8.toNat_inj.1 ((bt_at s a hl).trans h)
      have HR := Lib.hid (show Lib.indexByte signs.data.toList s[a] = 0 by rw [hx]; decide)
      have HN := Lib.hid (show shortCh s a = .pt 34 (a + 1) by unfold shortCh; rw [h]; rfl)
      clear hx h
      generalize shortCh s a = z at *
      go_enter Tryz.func196, Tryz.ntmps196
      go_wp2_with fail
      refine (idx_eq signs _ 0 HR.out _).mono ?_
      rintro e w2 ⟨rfl, rfl⟩
      go_wp2_with fail
      go_ret3
      exact ⟨by rw [HN.out]; exact sig_end (x := wrap64 (((⟨#[34, 92, 47, 8, 12, 10, 13, 9]⟩ : ByteArray)[0]).toNat : Int)) (by unfold wrap64; decide) _ _, rfl⟩
    · have hx : s[a] = 92 := UInt8.toNat_inj.1 ((bt_at s a hl).trans h)
      have HR := Lib.hid (show Lib.indexByte signs.data.toList s[a] = 1 by rw [hx]; decide)
      have HN := Lib.hid (show shortCh s a = .pt 92 (a + 1) by unfold shortCh; rw [h]; rfl)
      clear hx h
      generalize shortCh s a = z at *
      go_enter Tryz.func196, Tryz.ntmps196
      go_wp2_with fail
      refine (idx_eq signs _ 1 HR.out _).mono ?_
      rintro e w2 ⟨rfl, rfl⟩
      go_wp2_with fail
      go_ret3
      exact ⟨by rw [HN.out]; exact sig_end (x := wrap64 (((⟨#[34, 92, 47, 8, 12, 10, 13, 9]⟩ : ByteArray)[1]).toNat : Int)) (by unfold wrap64; decide) _ _, rfl⟩
    · have hx : s[a] = 47 := UInt8.toNat_inj.1 ((bt_at s a hl).trans h)
      have HR := Lib.hid (show Lib.indexByte signs.data.toList s[a] = 2 by rw [hx]; decide)
      have HN := Lib.hid (show shortCh s a = .pt 47 (a + 1) by unfold shortCh; rw [h]; rfl)
      clear hx h
      generalize shortCh s a = z at *
      go_enter Tryz.func196, Tryz.ntmps196
      go_wp2_with fail
      refine (idx_eq signs _ 2 HR.out _).mono ?_
      rintro e w2 ⟨rfl, rfl⟩
      go_wp2_with fail
      go_ret3
      exact ⟨by rw [HN.out]; exact sig_end (x := wrap64 (((⟨#[34, 92, 47, 8, 12, 10, 13, 9]⟩ : ByteArray)[2]).toNat : Int)) (by unfold wrap64; decide) _ _, rfl⟩
    · have hx : s[a] = 98 := UInt8.toNat_inj.1 ((bt_at s a hl).trans h)
      have HR := Lib.hid (show Lib.indexByte signs.data.toList s[a] = 3 by rw [hx]; decide)
      have HN := Lib.hid (show shortCh s a = .pt 8 (a + 1) by unfold shortCh; rw [h]; rfl)
      clear hx h
      generalize shortCh s a = z at *
      go_enter Tryz.func196, Tryz.ntmps196
      go_wp2_with fail
      refine (idx_eq signs _ 3 HR.out _).mono ?_
      rintro e w2 ⟨rfl, rfl⟩
      go_wp2_with fail
      go_ret3
      exact ⟨by rw [HN.out]; exact sig_end (x := wrap64 (((⟨#[34, 92, 47, 8, 12, 10, 13, 9]⟩ : ByteArray)[3]).toNat : Int)) (by unfold wrap64; decide) _ _, rfl⟩
    · have hx : s[a] = 102 := UInt8.toNat_inj.1 ((bt_at s a hl).trans h)
      have HR := Lib.hid (show Lib.indexByte signs.data.toList s[a] = 4 by rw [hx]; decide)
      have HN := Lib.hid (show shortCh s a = .pt 12 (a + 1) by unfold shortCh; rw [h]; rfl)
      clear hx h
      generalize shortCh s a = z at *
      go_enter Tryz.func196, Tryz.ntmps196
      go_wp2_with fail
      refine (idx_eq signs _ 4 HR.out _).mono ?_
      rintro e w2 ⟨rfl, rfl⟩
      go_wp2_with fail
      go_ret3
      exact ⟨by rw [HN.out]; exact sig_end (x := wrap64 (((⟨#[34, 92, 47, 8, 12, 10, 13, 9]⟩ : ByteArray)[4]).toNat : Int)) (by unfold wrap64; decide) _ _, rfl⟩
    · have hx : s[a] = 110 := UInt8.toNat_inj.1 ((bt_at s a hl).trans h)
      have HR := Lib.hid (show Lib.indexByte signs.data.toList s[a] = 5 by rw [hx]; decide)
      have HN := Lib.hid (show shortCh s a = .pt 10 (a + 1) by unfold shortCh; rw [h]; rfl)
      clear hx h
      generalize shortCh s a = z at *
      go_enter Tryz.func196, Tryz.ntmps196
      go_wp2_with fail
      refine (idx_eq signs _ 5 HR.out _).mono ?_
      rintro e w2 ⟨rfl, rfl⟩
      go_wp2_with fail
      go_ret3
      exact ⟨by rw [HN.out]; exact sig_end (x := wrap64 (((⟨#[34, 92, 47, 8, 12, 10, 13, 9]⟩ : ByteArray)[5]).toNat : Int)) (by unfold wrap64; decide) _ _, rfl⟩
    · have hx : s[a] = 114 := UInt8.toNat_inj.1 ((bt_at s a hl).trans h)
      have HR := Lib.hid (show Lib.indexByte signs.data.toList s[a] = 6 by rw [hx]; decide)
      have HN := Lib.hid (show shortCh s a = .pt 13 (a + 1) by unfold shortCh; rw [h]; rfl)
      clear hx h
      generalize shortCh s a = z at *
      go_enter Tryz.func196, Tryz.ntmps196
      go_wp2_with fail
      refine (idx_eq signs _ 6 HR.out _).mono ?_
      rintro e w2 ⟨rfl, rfl⟩
      go_wp2_with fail
      go_ret3
      exact ⟨by rw [HN.out]; exact sig_end (x := wrap64 (((⟨#[34, 92, 47, 8, 12, 10, 13, 9]⟩ : ByteArray)[6]).toNat : Int)) (by unfold wrap64; decide) _ _, rfl⟩
    · have hx : s[a] = 116 := UInt8.toNat_inj.1 ((bt_at s a hl).trans h)
      have HR := Lib.hid (show Lib.indexByte signs.data.toList s[a] = 7 by rw [hx]; decide)
      have HN := Lib.hid (show shortCh s a = .pt 9 (a + 1) by unfold shortCh; rw [h]; rfl)
      clear hx h
      generalize shortCh s a = z at *
      go_enter Tryz.func196, Tryz.ntmps196
      go_wp2_with fail
      refine (idx_eq signs _ 7 HR.out _).mono ?_
      rintro e w2 ⟨rfl, rfl⟩
      go_wp2_with fail
      go_ret3
      exact ⟨by rw [HN.out]; exact sig_end (x := wrap64 (((⟨#[34, 92, 47, 8, 12, 10, 13, 9]⟩ : ByteArray)[7]).toNat : Int)) (by unfold wrap64; decide) _ _, rfl⟩
    · have hr : Lib.indexByte signs.data.toList s[a] = -1 := by
        have hne : ∀ k : UInt8, bt s a ≠ k.toNat → ¬ k = s[a] := fun k hk e => hk (by rw [e, bt_at s a hl])
        have g1 := hne 34 h.1
        have g2 := hne 92 h.2.1
        have g3 := hne 47 h.2.2.1
        have g4 := hne 98 h.2.2.2.1
        have g5 := hne 102 h.2.2.2.2.1
        have g6 := hne 110 h.2.2.2.2.2.1
        have g7 := hne 114 h.2.2.2.2.2.2.1
        have g8 := hne 116 h.2.2.2.2.2.2.2
        simp [signs, Lib.indexByte, g1, g2, g3, g4, g5, g6, g7, g8]
      have HN := Lib.hid (show shortCh s a = .bad a 1 by unfold shortCh shortOf; simp [h])
      have HR := Lib.hid hr
      clear hr h
      generalize shortCh s a = z at *
      go_enter Tryz.func196, Tryz.ntmps196
      go_wp2_with fail
      refine (idx_eq signs _ (-1) HR.out _).mono ?_
      rintro e w2 ⟨rfl, rfl⟩
      go_wp2_with fail
      go_ret3
      exact ⟨by rw [HN.out]; rfl, rfl⟩
  · have u1 : decide (a < s.size) = false := decide_eq_false hl
    have u2 : decide ((a : Int) < (s.size : Int)) = false := decide_eq_false (by omega)
    have HN := Lib.hid (show shortCh s a = .bad a 1 by unfold shortCh; rw [bt_end (by omega)]; rfl)
    generalize shortCh s a = z at *
    go_enter Tryz.func196, Tryz.ntmps196
    go_wp2_with fail
    go_ret3
    exact ⟨by rw [HN.out]; rfl, rfl⟩
end Go.Proofs.YtfiahpeajccinaaGreatDoor
