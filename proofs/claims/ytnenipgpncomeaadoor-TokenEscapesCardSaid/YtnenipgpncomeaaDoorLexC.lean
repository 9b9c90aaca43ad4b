/- The lexer's readers of the end, a sign, nothing; a sign behind a backslash: contracts. -/
import Derived.Test.YtnenipgpncomeaaDoorLexB
import Derived.Below
import Derived.Test.YtnenipgpncomeaaDoorMemB
namespace Go.Proofs.YtnenipgpncomeaaDoor
open Go.RowKit
open Tk
set_option linter.unusedVariables false

def Tk.Tok.agg (t : Tok) : Value := .agg #[.int .i64 t.kind, .string t.text, .int .i64 t.num, .int .i64 t.at_, .int .i64 t.fin]
def Tk.Ans.val : Ans → Value
  | .tok t => .tuple #[.agg #[.int .i64 t.kind, .string t.text, .int .i64 t.num, .int .i64 t.at_, .int .i64 t.fin], .int .i64 0, .int .i64 0]
  | .err p e => .tuple #[.agg #[.int .i64 0, .string ⟨#[]⟩, .int .i64 0, .int .i64 0, .int .i64 0], .int .i64 p, .int .i64 e]
theorem end_any5 (b : Nat) (a : Nat) (w : World) : Calls Tryd.prog 25 #[.pointer (some ⟨b, 0, none⟩), .int .i64 a] w fun e w' => e = .returned (Ans.tok ⟨0, nix, 0, a, a⟩).val ∧ Below w.heap.size w w' := by
  go_enter Tryd.func25, Tryd.ntmps25
  go_wp2_with fail
  exact bodyPost_ret (v := (Ans.tok ⟨0, nix, 0, a, a⟩).val) (by simp [results, Tryd.results25, go_sem, Ans.val, nix]) rfl ⟨rfl, (Below.refl _ _).alloc (Nat.le_refl _) _⟩
theorem nothing_any5 (b : Nat) (a : Nat) (w : World) : Calls Tryd.prog 30 #[.pointer (some ⟨b, 0, none⟩), .int .i64 a] w fun e w' => e = .returned (Ans.err a 1).val ∧ Below w.heap.size w w' := by
  go_enter Tryd.func30, Tryd.ntmps30
  go_wp2_with fail
  exact bodyPost_ret (v := (Ans.err a 1).val) (by simp [results, Tryd.results30, go_sem, Ans.val]) rfl ⟨rfl, (Below.refl _ _).alloc (Nat.le_refl _) _⟩
theorem ba_list {a b : ByteArray} (h : a.data.toList = b.data.toList) : a = b := by
  obtain ⟨⟨x⟩⟩ := a
  obtain ⟨⟨y⟩⟩ := b
  simp at h
  rw [h]
theorem extract_one {s : ByteArray} {a : Nat} (h : a < s.size) : s.extract a (a + 1) = Tk.one (bt s a) := by
  apply ba_list
  rw [show (s.extract a (a + 1)).data.toList = (s.data.toList.drop a).take (a + 1 - a) from sub_list s a (a + 1), drop_cons h, show a + 1 - a = 1 by omega]
  show [s[a]] = [(bt s a).toUInt8]
  rw [← bt_at s a h]
  simp
set_option maxRecDepth 100000 in
theorem mark_any5 (b : Nat) (s : ByteArray) (a : Nat) (w : World) (hs : s.size ≤ 1000000) (hc : w.cell? ⟨b, 0, none⟩ = some (.string s)) (ha : a < s.size) : Calls Tryd.prog 26 #[.pointer (some ⟨b, 0, none⟩), .int .i64 a] w fun e w' => e = .returned (Ans.tok ⟨1, Tk.one (bt s a), 0, a, a + 1⟩).val ∧ Below w.heap.size w w' := by
  have HX := Lib.hid (extract_one ha)
  have hb : b < w.heap.size := by
    rcases Nat.lt_or_ge b w.heap.size with h | h
    · exact h
    · unfold World.cell? at hc; rw [Array.getElem?_eq_none h] at hc; cases hc
  have i1 : (0 : Int) ≤ (a : Int) := by omega
  have i2 : (a : Int) + 1 ≤ (s.size : Int) := by omega
  go_enter Tryd.func26, Tryd.ntmps26
  go_wp2_with fail
  exact bodyPost_ret (v := .tuple #[.agg #[.int .i64 1, .string (s.extract a (a + 1)), .int .i64 0, .int .i64 a, .int .i64 (a + 1)], .int .i64 0, .int .i64 0]) (by simp [results, Tryd.results26, go_sem]) rfl ⟨by rw [HX.out]; rfl, (Below.refl _ _).alloc (Nat.le_refl _) _⟩
def Tk.Ch.val : Ch → Value
  | .pt n e => .tuple #[.int .i64 n, .int .i64 e, .int .i64 0]
  | .bad p c => .tuple #[.int .i64 0, .int .i64 p, .int .i64 c]
/-- a sign behind a backslash -/
def shortCh (s : ByteArray) (a : Nat) : Ch := match shortOf (bt s a) with | some n => .pt n (a + 1) | none => .bad a 1
def signs : ByteArray := ⟨#[34, 92, 47, 98, 102, 110, 114, 116]⟩
theorem idx_eq (some : ByteArray) (c : UInt8) (r : Int) (h : Lib.indexByte some.data.toList c = r) (w : World) :
    Calls Tryd.prog 61 #[.string some, .int .u8 (c.toNat : Int)] w fun e w' => e = .returned (.int .i64 r) ∧ w = w' := by
  have h2 := Tryd.strings_IndexByte some (c.toNat : Int) w
  rw [show ((c.toNat : Int)).toNat.toUInt8 = c by simp, h] at h2
  exact h2.mono fun e w' ⟨a, b⟩ => ⟨a, b.symm⟩
theorem shortOf_cases (c : Nat) : c = 34 ∨ c = 92 ∨ c = 47 ∨ c = 98 ∨ c = 102 ∨ c = 110 ∨ c = 114 ∨ c = 116 ∨ (c ≠ 34 ∧ c ≠ 92 ∧ c ≠ 47 ∧ c ≠ 98 ∧ c ≠ 102 ∧ c ≠ 110 ∧ c ≠ 114 ∧ c ≠ 116) := by omega
theorem sig_end {x y : Int} (h : x = y) (p q : Value) : Ending.returned (.tuple #[.int .i64 x, p, q]) = Ending.returned (.tuple #[.int .i64 y, p, q]) := by rw [h]
set_option maxRecDepth 100000 in
set_option maxHeartbeats 2000000 in
theorem short_any5 (b : Nat) (s : ByteArray) (a : Nat) (w : World) (hs : s.size ≤ 1000000) (hc : w.cell? ⟨b, 0, none⟩ = some (.string s)) (ha : a ≤ s.size) : Calls Tryd.prog 48 #[.pointer (some ⟨b, 0, none⟩), .int .i64 a] w fun e w' => e = .returned (shortCh s a).val ∧ w = w' := by
  by_cases hl : a < s.size
  · have u1 : decide (a < s.size) = true := decide_eq_true hl
    have u2 : decide ((a : Int) < (s.size : Int)) = true := decide_eq_true (by omega)
    have i1 : (a : Int) < (s.size : Int) := by omega
    have i2 : (0 : Int) ≤ (a : Int) := by omega
    rcases shortOf_cases (bt s a) with h | h | h | h | h | h | h | h | h
    · have hx : s[a] = 34 := UInt8.toNat_inj.1 ((bt_at s a hl).trans h)
      have HR := Lib.hid (show Lib.indexByte signs.data.toList s[a] = 0 by rw [hx]; decide)
      have HN := Lib.hid (show shortCh s a = .pt 34 (a + 1) by unfold shortCh; rw [h]; rfl)
      clear hx h
      generalize shortCh s a = z at *
      go_enter Tryd.func48, Tryd.ntmps48
      go_wp2_with fail
      refine (idx_eq signs _ 0 HR.out _).mono ?_
      rintro e w2 ⟨rfl, rfl⟩
      go_wp2_with fail
      go_ret3
      exact ⟨by rw [HN.out]; exact sig_end (x := wrap64 (((⟨#[34, 92, 47, 8, 12, 10, 13, 9]⟩ : ByteArray)[0]).toNat : Int)) (by unfold wrap64; decide) _ _, rfl⟩
    · have hx : s[a] = 92 := UInt8.toNat_inj.1 ((bt_at s a hl).trans h)
      have HR := Lib.hid (show Lib.indexByte signs.data.toList s[a] = 1 by rw [hx]; decide)
      have HN := Lib.hid (show shortCh s a = .pt 92 (a + 1) by unfold shortCh; rw [h]; rfl)
      clear hx h
      generalize shortCh s a = z at *
      go_enter Tryd.func48, Tryd.ntmps48
      go_wp2_with fail
      refine (idx_eq signs _ 1 HR.out _).mono ?_
      rintro e w2 ⟨rfl, rfl⟩
      go_wp2_with fail
      go_ret3
      exact ⟨by rw [HN.out]; exact sig_end (x := wrap64 (((⟨#[34, 92, 47, 8, 12, 10, 13, 9]⟩ : ByteArray)[1]).toNat : Int)) (by unfold wrap64; decide) _ _, rfl⟩
    · have hx : s[a] = 47 := UInt8.toNat_inj.1 ((bt_at s a hl).trans h)
      have HR := Lib.hid (show Lib.indexByte signs.data.toList s[a] = 2 by rw [hx]; decide)
      have HN := Lib.hid (show shortCh s a = .pt 47 (a + 1) by unfold shortCh; rw [h]; rfl)
      clear hx h
      generalize shortCh s a = z at *
      go_enter Tryd.func48, Tryd.ntmps48
      go_wp2_with fail
      refine (idx_eq signs _ 2 HR.out _).mono ?_
      rintro e w2 ⟨rfl, rfl⟩
      go_wp2_with fail
      go_ret3
      exact ⟨by rw [HN.out]; exact sig_end (x := wrap64 (((⟨#[34, 92, 47, 8, 12, 10, 13, 9]⟩ : ByteArray)[2]).toNat : Int)) (by unfold wrap64; decide) _ _, rfl⟩
    · have hx : s[a] = 98 := UInt8.toNat_inj.1 ((bt_at s a hl).trans h)
      have HR := Lib.hid (show Lib.indexByte signs.data.toList s[a] = 3 by rw [hx]; decide)
      have HN := Lib.hid (show shortCh s a = .pt 8 (a + 1) by unfold shortCh; rw [h]; rfl)
      clear hx h
      generalize shortCh s a = z at *
      go_enter Tryd.func48, Tryd.ntmps48
      go_wp2_with fail
      refine (idx_eq signs _ 3 HR.out _).mono ?_
      rintro e w2 ⟨rfl, rfl⟩
      go_wp2_with fail
      go_ret3
      exact ⟨by rw [HN.out]; exact sig_end (x := wrap64 (((⟨#[34, 92, 47, 8, 12, 10, 13, 9]⟩ : ByteArray)[3]).toNat : Int)) (by unfold wrap64; decide) _ _, rfl⟩
    · have hx : s[a] = 102 := UInt8.toNat_inj.1 ((bt_at s a hl).trans h)
      have HR := Lib.hid (show Lib.indexByte signs.data.toList s[a] = 4 by rw [hx]; decide)
      have HN := Lib.hid (show shortCh s a = .pt 12 (a + 1) by unfold shortCh; rw [h]; rfl)
      clear hx h
      generalize shortCh s a = z at *
      go_enter Tryd.func48, Tryd.ntmps48
      go_wp2_with fail
      refine (idx_eq signs _ 4 HR.out _).mono ?_
      rintro e w2 ⟨rfl, rfl⟩
      go_wp2_with fail
      go_ret3
      exact ⟨by rw [HN.out]; exact sig_end (x := wrap64 (((⟨#[34, 92, 47, 8, 12, 10, 13, 9]⟩ : ByteArray)[4]).toNat : Int)) (by unfold wrap64; decide) _ _, rfl⟩
    · have hx : s[a] = 110 := UInt8.toNat_inj.1 ((bt_at s a hl).trans h)
      have HR := Lib.hid (show Lib.indexByte signs.data.toList s[a] = 5 by rw [hx]; decide)
      have HN := Lib.hid (show shortCh s a = .pt 10 (a + 1) by unfold shortCh; rw [h]; rfl)
      clear hx h
      generalize shortCh s a = z at *
      go_enter Tryd.func48, Tryd.ntmps48
      go_wp2_with fail
      refine (idx_eq signs _ 5 HR.out _).mono ?_
      rintro e w2 ⟨rfl, rfl⟩
      go_wp2_with fail
      go_ret3
      exact ⟨by rw [HN.out]; exact sig_end (x := wrap64 (((⟨#[34, 92, 47, 8, 12, 10, 13, 9]⟩ : ByteArray)[5]).toNat : Int)) (by unfold wrap64; decide) _ _, rfl⟩
    · have hx : s[a] = 114 := UInt8.toNat_inj.1 ((bt_at s a hl).trans h)
      have HR := Lib.hid (show Lib.indexByte signs.data.toList s[a] = 6 by rw [hx]; decide)
      have HN := Lib.hid (show shortCh s a = .pt 13 (a + 1) by unfold shortCh; rw [h]; rfl)
      clear hx h
      generalize shortCh s a = z at *
      go_enter Tryd.func48, Tryd.ntmps48
      go_wp2_with fail
      refine (idx_eq signs _ 6 HR.out _).mono ?_
      rintro e w2 ⟨rfl, rfl⟩
      go_wp2_with fail
      go_ret3
      exact ⟨by rw [HN.out]; exact sig_end (x := wrap64 (((⟨#[34, 92, 47, 8, 12, 10, 13, 9]⟩ : ByteArray)[6]).toNat : Int)) (by unfold wrap64; decide) _ _, rfl⟩
    · have hx : s[a] = 116 := UInt8.toNat_inj.1 ((bt_at s a hl).trans h)
      have HR := Lib.hid (show Lib.indexByte signs.data.toList s[a] = 7 by rw [hx]; decide)
      have HN := Lib.hid (show shortCh s a = .pt 9 (a + 1) by unfold shortCh; rw [h]; rfl)
      clear hx h
      generalize shortCh s a = z at *
      go_enter Tryd.func48, Tryd.ntmps48
      go_wp2_with fail
      refine (idx_eq signs _ 7 HR.out _).mono ?_
      rintro e w2 ⟨rfl, rfl⟩
      go_wp2_with fail
      go_ret3
      exact ⟨by rw [HN.out]; exact sig_end (x := wrap64 (((⟨#[34, 92, 47, 8, 12, 10, 13, 9]⟩ : ByteArray)[7]).toNat : Int)) (by unfold wrap64; decide) _ _, rfl⟩
    · have hr : Lib.indexByte signs.data.toList s[a] = -1 := by
        have hne : ∀ k : UInt8, bt s a ≠ k.toNat → ¬ k = s[a] := fun k hk e => hk (by rw [e, bt_at s a hl])
        have g1 := hne 34 h.1
        have g2 := hne 92 h.2.1
        have g3 := hne 47 h.2.2.1
        have g4 := hne 98 h.2.2.2.1
        have g5 := hne 102 h.2.2.2.2.1
        have g6 := hne 110 h.2.2.2.2.2.1
        have g7 := hne 114 h.2.2.2.2.2.2.1
        have g8 := hne 116 h.2.2.2.2.2.2.2
        simp [signs, Lib.indexByte, g1, g2, g3, g4, g5, g6, g7, g8]
      have HN := Lib.hid (show shortCh s a = .bad a 1 by unfold shortCh shortOf; simp [h])
      have HR := Lib.hid hr
      clear hr h
      generalize shortCh s a = z at *
      go_enter Tryd.func48, Tryd.ntmps48
      go_wp2_with fail
      refine (idx_eq signs _ (-1) HR.out _).mono ?_
      rintro e w2 ⟨rfl, rfl⟩
      go_wp2_with fail
      go_ret3
      exact ⟨by rw [HN.out]; rfl, rfl⟩
  · have u1 : decide (a < s.size) = false := decide_eq_false hl
    have u2 : decide ((a : Int) < (s.size : Int)) = false := decide_eq_false (by omega)
    have HN := Lib.hid (show shortCh s a = .bad a 1 by unfold shortCh; rw [bt_end (by omega)]; rfl)
    generalize shortCh s a = z at *
    go_enter Tryd.func48, Tryd.ntmps48
    go_wp2_with fail
    go_ret3
    exact ⟨by rw [HN.out]; rfl, rfl⟩
end Go.Proofs.YtnenipgpncomeaaDoor
