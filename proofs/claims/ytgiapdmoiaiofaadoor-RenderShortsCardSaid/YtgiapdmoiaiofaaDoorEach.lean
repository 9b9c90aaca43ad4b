/- Contracts of glyph.each with each of its three closures, and of Valid and Decode. -/
import Derived.Test.YtgiapdmoiaiofaaDoorBase
import Derived.Test.YtgiapdmoiaiofaaDoorSplit
import Derived.Test.YtgiapdmoiaiofaaDoorShelf3
import Derived.Lib.OthersKept
import Derived.Lib.Hide
import Derived.Lib.Strings
import Derived.WalkKit
import Derived.WalkSpells
import Derived.Deep.QuietTactic
import Derived.BigQuiet
import Derived.WalkSmall
import Derived.Deep.QuietTactic
import Derived.BigQuiet
import Derived.WalkSmall
namespace Go.Proofs.YtgiapdmoiaiofaaDoor
open Go.RowKit
open Pl

theorem pt_isPt (n : Int) : pt n = isPt n := rfl

theorem prefix_any (s : ByteArray) (i : Nat) (w : World) :
    Calls Tryd.prog 73 #[.string (s.extract i s.size), .string ⟨#[239, 191, 189]⟩] w fun e w' => e = .returned (.bool (fffd (s.data.toList.drop i))) ∧ w = w' := by
  refine (Tryd.strings_HasPrefix _ _ w).mono ?_
  rintro e w' ⟨rfl, rfl⟩
  refine ⟨ret_bool ?_, rfl⟩
  have hl : (s.data.toList.drop i).length = s.size - i := by rw [List.length_drop, Array.length_toList]; rfl
  rw [Lib.extract_data, ← hl, List.take_length]
  generalize s.data.toList.drop i = L
  unfold Lib.hasPrefix fffd
  rw [Bool.eq_iff_iff, List.isPrefixOf_iff_prefix, beq_iff_eq, List.prefix_iff_eq_take]
  exact ⟨fun h => h.symm, fun h => h.symm⟩
theorem prefix_yes (s : ByteArray) (i : Nat) (w : World) (h : fffd (s.data.toList.drop i) = true) :
    Calls Tryd.prog 73 #[.string (s.extract i s.size), .string ⟨#[239, 191, 189]⟩] w fun e w' => e = .returned (.bool true) ∧ w = w' := by
  rw [← h]; exact prefix_any s i w
theorem prefix_no (s : ByteArray) (i : Nat) (w : World) (h : fffd (s.data.toList.drop i) = false) :
    Calls Tryd.prog 73 #[.string (s.extract i s.size), .string ⟨#[239, 191, 189]⟩] w fun e w' => e = .returned (.bool false) ∧ w = w' := by
  rw [← h]; exact prefix_any s i w

theorem prefix_all (s : ByteArray) (w : World) :
    Calls Tryd.prog 73 #[.string s, .string ⟨#[239, 191, 189]⟩] w fun e w' => e = .returned (.bool (fffd (s.data.toList.drop 0))) ∧ w = w' := by
  have := prefix_any s 0 w
  rwa [show s.extract 0 s.size = s by simp] at this
theorem prefix_yes0 (s : ByteArray) (w : World) (h : fffd (s.data.toList.drop 0) = true) :
    Calls Tryd.prog 73 #[.string s, .string ⟨#[239, 191, 189]⟩] w fun e w' => e = .returned (.bool true) ∧ w = w' := by
  rw [← h]; exact prefix_all s w
theorem prefix_no0 (s : ByteArray) (w : World) (h : fffd (s.data.toList.drop 0) = false) :
    Calls Tryd.prog 73 #[.string s, .string ⟨#[239, 191, 189]⟩] w fun e w' => e = .returned (.bool false) ∧ w = w' := by
  rw [← h]; exact prefix_all s w

theorem valid1_any (r : Int) (w : World) : Calls Tryd.prog 58 #[.int .i32 r] w fun e w' => e = .returned (.bool true) ∧ w = w' := by
  go_enter Tryd.func58, Tryd.ntmps58
  go_wp2
  go_ret
  exact ⟨rfl, rfl⟩

/-- what each answers: the place at which no point begins (0: there is none), and whether there is none -/
def stopAt (l : List Int) (R : List UInt8) : Int := if R = [] then 0 else (flat l).length
def isFull (R : List UInt8) : Bool := decide (R = [])
theorem stopAt_nil (l : List Int) {R : List UInt8} (h : R = []) : stopAt l R = 0 := if_pos h
theorem stopAt_not (l : List Int) {R : List UInt8} (h : R ≠ []) : stopAt l R = (flat l).length := if_neg h
theorem isFull_nil {R : List UInt8} (h : R = []) : isFull R = true := decide_eq_true h
theorem isFull_not {R : List UInt8} (h : R ≠ []) : isFull R = false := decide_eq_false h
theorem ret_ib {a b : Int} {c d : Bool} (h : a = b) (k : c = d) : Ending.returned (.tuple #[.int .i64 a, .bool c]) = .returned (.tuple #[.int .i64 b, .bool d]) := by rw [h, k]
theorem below_iter (w : World) (s : ByteArray) (p : Nat) : Below w.heap.size w (w.iter s p) := (Below.refl _ _).alloc (Nat.le_refl _) _

set_option maxHeartbeats 1000000 in
/-- each with the closure that always goes on and does nothing -/
theorem each_valid (s : ByteArray) (l : List Int) (R : List UInt8) (h : Split s.data.toList l R) (w : World) :
    Calls Tryd.prog 57 #[.string s, .func (.func 58) #[] #[]] w fun e w' => e = .returned (.tuple #[.int .i64 (stopAt l R), .bool (isFull R)]) ∧ Below w.heap.size w w' := by
  have hsz := Lib.hid h.size
  have hge : (flat l).length ≤ s.size := by have := h.size; omega
  go_enter Tryd.func57, Tryd.ntmps57
  go_wp2_with fail
  go_loopw [] (fun wr => ∃ k : Nat, k ≤ l.length ∧ wr = w.iter s (off l k)) (fun wr => s.size + 1 - wr.iterPos w.heap.size)
  case atStart => exact ⟨0, Nat.zero_le _, rfl⟩
  case round =>
    obtain ⟨k, hk, rfl⟩ := hrel
    by_cases hlt : k < l.length
    · obtain ⟨e1, e2, hpos, h3, h4, hb, e3, hf⟩ := h.step hlt
      have hnx : ∀ ty, (Instr.next (.pointer (some ⟨w.heap.size, 0, none⟩)) true ty).run Tryd.prog (w.iter s (off l k)) = .ok (.tuple #[.bool true, .int .i64 (off l k), .int .i32 (l.getD k 0).toNat]) (w.iter s (off l (k + 1))) := by
        intro ty
        rw [run_next_any w s (off l k) ty hpos, e1, e2]
      clear e1 e2 e3
      generalize (l.getD k 0).toNat = x at hnx hb hf
      by_cases he : x = 65533
      · have Hp := Lib.hid (hf he)
        have he' : ((x : Int) == 65533) = true := by simp; omega
        clear hf he
        go_wp2_with (first | (go_at_call 73; refine (prefix_yes _ _ _ Hp.out).mono ?_; rintro e w' ⟨rfl, rfl⟩) | (go_at_call 58; refine (valid1_any _ _).mono ?_; rintro e w' ⟨rfl, rfl⟩))
        go_roundw
        case rel => exact ⟨k + 1, hlt, rfl⟩
        case measure => simp; omega
      · have he' : ((x : Int) == 65533) = false := by simp; omega
        clear hf he
        go_wp2_with (first | (go_at_call 58; refine (valid1_any _ _).mono ?_; rintro e w' ⟨rfl, rfl⟩))
        go_roundw
        case rel => exact ⟨k + 1, hlt, rfl⟩
        case measure => simp; omega
    · obtain rfl : l.length = k := by omega
      by_cases hR : R = []
      · have hend : ¬ off l l.length < s.size := by rw [off_all, hsz.out, hR]; simp
        have hnx : ∀ ty, (Instr.next (.pointer (some ⟨w.heap.size, 0, none⟩)) true ty).run Tryd.prog (w.iter s (off l l.length)) = _ := fun ty => run_next_end w s (off l l.length) ty hend
        have HR := Lib.hid hR
        clear hR hend
        go_wp2_with fail
        go_ret2
        exact ⟨ret_ib (stopAt_nil l HR.out).symm (isFull_nil HR.out).symm, below_iter _ _ _⟩
      · have hpos : off l l.length < s.size := by
          have : 0 < R.length := List.length_pos_iff.2 hR
          rw [off_all, hsz.out]; omega
        obtain ⟨b1, b2⟩ := h.bad hR
        rw [← off_all] at b1 b2
        have hnx : ∀ ty, (Instr.next (.pointer (some ⟨w.heap.size, 0, none⟩)) true ty).run Tryd.prog (w.iter s (off l l.length)) = .ok (.tuple #[.bool true, .int .i64 (off l l.length), .int .i32 65533]) (w.iter s (off l l.length + (Utf8.decode s (off l l.length)).2)) := by
          intro ty
          rw [run_next_any w s (off l l.length) ty hpos, b1]; rfl
        have HR := Lib.hid hR
        have Hp := Lib.hid b2
        have Ho := Lib.hid (off_all l)
        clear hR b1 b2
        generalize off l l.length + (Utf8.decode s (off l l.length)).2 = q at hnx
        go_wp2_with (go_at_call 73; refine (prefix_no _ _ _ Hp.out).mono ?_; rintro e w' ⟨rfl, rfl⟩)
        go_ret2
        exact ⟨ret_ib (by rw [stopAt_not l HR.out, ← Ho.out]) (isFull_not HR.out).symm, below_iter _ _ _⟩

theorem valid_any (s : ByteArray) (l : List Int) (R : List UInt8) (h : Split s.data.toList l R) (w : World) :
    Calls Tryd.prog 44 #[.string s] w fun e w' => e = .returned (.tuple #[.int .i64 (stopAt l R), .bool (isFull R)]) ∧ Below w.heap.size w w' := by
  go_enter Tryd.func44, Tryd.ntmps44
  go_wp2_with (go_at_call 57; refine (each_valid s l R h _).mono ?_; rintro e w' ⟨rfl, hb⟩)
  go_ret2
  exact ⟨rfl, hb⟩

/-- what Decode answers -/
def decN (L : List UInt8) : Int := if ok L = true then (decL L).1 else -1
def decM (L : List UInt8) : Int := if ok L = true then (decL L).2 else 0
theorem decN_yes {L : List UInt8} (h : ok L = true) : decN L = (decL L).1 := if_pos h
theorem decM_yes {L : List UInt8} (h : ok L = true) : decM L = (decL L).2 := if_pos h
theorem decN_no {L : List UInt8} (h : ok L = false) : decN L = -1 := if_neg (by rw [h]; decide)
theorem decM_no {L : List UInt8} (h : ok L = false) : decM L = 0 := if_neg (by rw [h]; decide)

theorem runeLen_pt (r : Int) (h : pt r = true) : Lib.runeLen r = (Lib.encodeRune r).length := by
  have hp := (pt_iff r).1 h
  unfold Lib.runeLen Lib.encodeRune
  rw [List.length_map]
  rw [if_neg (by omega)]
  by_cases h1 : r ≤ 127
  · rw [if_pos h1, Lib.encodeRuneZ_one (by omega) h1]; rfl
  · rw [if_neg h1]
    by_cases h2 : r ≤ 2047
    · rw [if_pos h2, Lib.encodeRuneZ_two (by omega) h2]; rfl
    · rw [if_neg h2, if_neg (by omega)]
      by_cases h3 : r ≤ 65535
      · rw [if_pos h3, Lib.encodeRuneZ_three (by omega)]; rfl
      · rw [if_neg h3, if_pos (by omega), Lib.encodeRuneZ_four (by omega) (by omega)]; rfl

/-- behind a call of each by Decode: the two variables hold Decode's answers, and nothing below B has turned -/
def DecPost (L : List UInt8) (B p q : Nat) (w : World) (e : Ending) (w' : World) : Prop :=
  (∃ v, e = .returned v) ∧ w'.cell? ⟨p, 0, none⟩ = some (.int .i64 (decN L)) ∧ w'.cell? ⟨q, 0, none⟩ = some (.int .i64 (decM L)) ∧ Below B w w'

theorem decode_zero (s : ByteArray) : Utf8.decode s 0 = decL s.data.toList := by rw [decode_eq]; rfl

end Go.Proofs.YtgiapdmoiaiofaaDoor
