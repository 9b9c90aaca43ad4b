/- The lexer's small steps: contracts. -/
import Derived.Test.YtnenipgpncomeaaDoorTokNum
import Derived.Test.YtnenipgpncomeaaDoorShelfP
import Derived.WalkKit
import Derived.WalkSpells
import Derived.LoopTactic
import Derived.IntWalk
import Derived.Lib.Hide
import Derived.Outline
namespace Go.Proofs.YtnenipgpncomeaaDoor
open Go.RowKit
open Tk
set_option linter.unusedVariables false

theorem ret_i {k : IntKind} {a b : Int} (h : a = b) : Ending.returned (.int k a) = .returned (.int k b) := by rw [h]
theorem ret_ib2 {a b : Int} {c d : Bool} (h : a = b) (k : c = d) : Ending.returned (.tuple #[.int .i64 a, .bool c]) = .returned (.tuple #[.int .i64 b, .bool d]) := by rw [h, k]
/-- the set of bytes is that of some text's -/
def SetIs (some : ByteArray) (p : Nat → Bool) : Prop := (∀ c : UInt8, p c.toNat = true → 0 ≤ Lib.indexByte some.data.toList c) ∧ (∀ c : UInt8, p c.toNat = false → Lib.indexByte some.data.toList c < 0)
theorem idx_any (some : ByteArray) (p : Nat → Bool) (hs : SetIs some p) (c : UInt8) (w : World) :
    Calls Tryd.prog 61 #[.string some, .int .u8 (c.toNat : Int)] w fun e w' => e = .returned (.int .i64 (Lib.indexByte some.data.toList c)) ∧ w = w' := by
  have h := Tryd.strings_IndexByte some (c.toNat : Int) w
  rw [show ((c.toNat : Int)).toNat.toUInt8 = c by simp] at h
  exact h.mono fun e w' ⟨a, b⟩ => ⟨a, b.symm⟩
set_option maxRecDepth 100000 in
theorem one_any (b : Nat) (s some : ByteArray) (p : Nat → Bool) (at_ : Nat) (w : World) (hs : s.size ≤ 1000000) (hc : w.cell? ⟨b, 0, none⟩ = Option.some (.string s)) (hp : SetIs some p) (h0 : p 0 = false) :
    Calls Tryd.prog 52 #[.pointer (.some ⟨b, 0, none⟩), .int .i64 at_, .string some] w fun e w' => e = .returned (.int .i64 (if p (bt s at_) = true then at_ + 1 else at_ : Nat)) ∧ w = w' := by
  have HP := Lib.hid hp
  clear hp
  by_cases hlt : at_ < s.size
  · have u1 : decide (at_ < s.size) = true := decide_eq_true hlt
    have u2 : decide ((at_ : Int) < (s.size : Int)) = true := decide_eq_true (by omega)
    have i1 : (at_ : Int) < (s.size : Int) := by omega
    have i2 : (0 : Int) ≤ (at_ : Int) := by omega
    have hb := bt_at s at_ hlt
    have HB := Lib.hid hb
    clear hb
    cases hq : p (bt s at_) with
    | true =>
      have hr := HP.out.1 s[at_] (by rw [HB.out]; exact hq)
      have HQ := Lib.hid hq
      clear hq
      go_enter Tryd.func52, Tryd.ntmps52
      go_wp2_with fail
      refine (idx_any some p HP.out _ _).mono ?_
      rintro e w2 ⟨rfl, rfl⟩
      go_wp2_with fail
      go_ret
      exact ⟨rfl, rfl⟩
    | false =>
      have hr := HP.out.2 s[at_] (by rw [HB.out]; exact hq)
      have hr2 : ¬ 0 ≤ Lib.indexByte some.data.toList s[at_] := by omega
      have HQ := Lib.hid hq
      clear hq
      go_enter Tryd.func52, Tryd.ntmps52
      go_wp2_with fail
      refine (idx_any some p HP.out _ _).mono ?_
      rintro e w2 ⟨rfl, rfl⟩
      go_wp2_with fail
      go_ret
      exact ⟨rfl, rfl⟩
  · have u1 : decide (at_ < s.size) = false := decide_eq_false hlt
    have u2 : decide ((at_ : Int) < (s.size : Int)) = false := decide_eq_false (by omega)
    have hq : p (bt s at_) = false := by rw [bt_end (by omega)]; exact h0
    rw [hq]
    clear hq h0
    go_enter Tryd.func52, Tryd.ntmps52
    go_wp2_with fail
    go_ret
    exact ⟨rfl, rfl⟩
set_option maxRecDepth 100000 in
set_option maxHeartbeats 2000000 in
theorem digits_any (b : Nat) (s : ByteArray) (at_ : Nat) (w : World) (hs : s.size ≤ 1000000) (hc : w.cell? ⟨b, 0, none⟩ = Option.some (.string s)) (ha : at_ ≤ s.size) :
    Calls Tryd.prog 53 #[.pointer (Option.some ⟨b, 0, none⟩), .int .i64 at_] w fun e w' => e = .returned (.tuple #[.int .i64 (span isDg s at_ : Nat), .bool (isDg (bt s at_))]) ∧ w = w' := by
  have HE := Lib.hid (span_le isDg ha)
  go_enter Tryd.func53, Tryd.ntmps53
  go_wp2_with fail
  go_loop [6] (fun i => ∃ k : Nat, at_ ≤ k ∧ k ≤ span isDg s at_ ∧ i = .int .i64 k) (fun i => span isDg s at_ - (intOf i).toNat)
  case atStart => exact ⟨at_, Nat.le_refl _, span_ge _ _ _, rfl⟩
  case round =>
    obtain ⟨k, h1, h2, rfl⟩ := hrel
    have hle := HE.out
    by_cases hlt : k < span isDg s at_
    · have hk : k < s.size := by omega
      have u1 : decide (k < s.size) = true := decide_eq_true hk
      have u2 : decide ((k : Int) < (s.size : Int)) = true := decide_eq_true (by omega)
      have i1 : (k : Int) < (s.size : Int) := by omega
      have i2 : (0 : Int) ≤ (k : Int) := by omega
      have hd := isDg_iff.1 (span_in (p := isDg) h1 hlt)
      rw [← bt_at s k hk] at hd
      have v1 : (48 : Int) ≤ (s[k].toNat : Int) := by omega
      have v2 : (s[k].toNat : Int) ≤ 57 := by omega
      clear hd
      go_wp2_with fail
      go_round
      case rel => exact ⟨k + 1, by omega, hlt, by go_num⟩
      case measure => simp [intOf]; omega
    · obtain rfl : k = span isDg s at_ := by omega
      have hp := dgs_pos s at_
      have HPO := Lib.hid hp
      have e1 : decide ((at_ : Int) < (span isDg s at_ : Nat)) = isDg (bt s at_) := by rw [← hp]; congr 1; simp
      have e2 : decide (at_ < span isDg s at_) = isDg (bt s at_) := hp
      by_cases hk : span isDg s at_ < s.size
      · have ho := isDg_no.1 (span_out (p := isDg) hk)
        generalize hq : span isDg s at_ = q at *
        have HQ := Lib.hid hq
        clear hq
        have u1 : decide (q < s.size) = true := decide_eq_true hk
        have u2 : decide ((q : Int) < (s.size : Int)) = true := decide_eq_true (by omega)
        have i1 : (q : Int) < (s.size : Int) := by omega
        have i2 : (0 : Int) ≤ (q : Int) := by omega
        rw [← bt_at s q hk] at ho
        generalize hz : isDg (bt s at_) = z at *
        have HZ := Lib.hid hz
        clear hz hp HPO HE
        by_cases h48 : (48 : Int) ≤ (s[q].toNat : Int)
        · have v2 : ¬ (s[q].toNat : Int) ≤ 57 := by omega
          clear ho
          go_wp2_with fail
          go_ret2
          exact ⟨ret_ib2 (by rw [HQ.out]) HZ.out.symm, rfl⟩
        · clear ho
          go_wp2_with fail
          go_ret2
          exact ⟨ret_ib2 (by rw [HQ.out]) HZ.out.symm, rfl⟩
      · generalize hq : span isDg s at_ = q at *
        generalize hz : isDg (bt s at_) = z at *
        have HQ := Lib.hid hq
        have HZ := Lib.hid hz
        clear hq hz hp HPO HE
        have u1 : decide (q < s.size) = false := decide_eq_false hk
        have u2 : decide ((q : Int) < (s.size : Int)) = false := decide_eq_false (by omega)
        go_wp2_with fail
        go_ret2
        exact ⟨ret_ib2 (by rw [HQ.out]) HZ.out.symm, rfl⟩
end Go.Proofs.YtnenipgpncomeaaDoor
