/- The tokens of a text with escapes: plain mathematics. -/
import Derived.Test.YtnenipgpncomeaaDoorTokNums
namespace Go.Proofs.YtnenipgpncomeaaDoor.Tk
open Pl

/-- a hexadecimal digit's byte, small or capital -/
def hexB (g : Bool) (d : Nat) : UInt8 := (if g then [48, 49, 50, 51, 52, 53, 54, 55, 56, 57, 65, 66, 67, 68, 69, 70] else [48, 49, 50, 51, 52, 53, 54, 55, 56, 57, 97, 98, 99, 100, 101, 102] : List UInt8).getD d 0
theorem hexB_of (g : Bool) (d : Nat) (h : d < 16) : hexOf (hexB g d).toNat = d := by
  cases g <;> rcases (by omega : d = 0 ∨ d = 1 ∨ d = 2 ∨ d = 3 ∨ d = 4 ∨ d = 5 ∨ d = 6 ∨ d = 7 ∨ d = 8 ∨ d = 9 ∨ d = 10 ∨ d = 11 ∨ d = 12 ∨ d = 13 ∨ d = 14 ∨ d = 15) with rfl | rfl | rfl | rfl | rfl | rfl | rfl | rfl | rfl | rfl | rfl | rfl | rfl | rfl | rfl | rfl <;> rfl
/-- the last k of a number's hexadecimal digits -/
def hexL (g : Bool) : Nat → Nat → List UInt8
  | 0, _ => []
  | k + 1, n => hexL g k (n / 16) ++ [hexB g (n % 16)]
theorem hexL_len (g : Bool) : ∀ k n, (hexL g k n).length = k := by
  intro k
  induction k with
  | zero => intro n; rfl
  | succ k ih => intro n; simp [hexL, ih]
/-- the law's way: digit by digit from the right -/
theorem hexL_cons (g : Bool) (k n : Nat) : hexL g (k + 1) n = hexL g k (n / 16) ++ [hexB g (n % 16)] := rfl
/-- four digits of a number below 65536 are read as it -/
theorem fourF_hex (g : Bool) {S : ByteArray} : ∀ (k n p : Nat) (z : Int) (r : List UInt8), 0 ≤ z → n < 16 ^ k → S.data.toList.drop p = hexL g k n ++ r → ∀ (m : Nat), fourF S (k + m) p z = fourF S m (p + k) (z * 16 ^ k + n) := by
  intro k
  induction k with
  | zero =>
    intro n p z r _ hn hd m
    have : n = 0 := by simpa using hn
    subst this
    simp
  | succ k ih =>
    intro n p z r hz hn hd m
    have hn2 : n / 16 < 16 ^ k := by rw [Nat.pow_succ] at hn; omega
    rw [hexL_cons, List.append_assoc] at hd
    rw [show k + 1 + m = k + (m + 1) by omega, ih (n / 16) p z _ hz hn2 hd (m + 1)]
    have hb : bt S (p + k) = (hexB g (n % 16)).toNat := by
      have := bt_next (T := hexL g k (n / 16)) (c := hexB g (n % 16)) (r := r) (by rw [hd]; rfl)
      rwa [hexL_len] at this
    have hx : hexOf (bt S (p + k)) = (n % 16 : Nat) := by rw [hb]; exact hexB_of g _ (by omega)
    rw [fourF_yes (by rw [hx]; omega), hx]
    congr 1
    rw [Int.pow_succ, Int.add_mul, Int.mul_assoc]
    have : ((n / 16 : Nat) : Int) * 16 + ((n % 16 : Nat) : Int) = (n : Int) := by omega
    omega
theorem four_hex (g : Bool) {S : ByteArray} {n p : Nat} {r : List UInt8} (hn : n < 65536) (hd : S.data.toList.drop p = hexL g 4 n ++ r) : four S p = ((n : Int), p + 4) := by
  unfold four
  have := fourF_hex g 4 n p 0 r (by decide) (by simpa using hn) hd 0
  rw [this]
  simp [fourF]
/-- an escape -/
def escL (g : Bool) (n : Nat) : List UInt8 := 92 :: 117 :: hexL g 4 n
theorem escL_len (g : Bool) (n : Nat) : (escL g n).length = 6 := by simp [escL, hexL_len]
theorem esc_at {S : ByteArray} {g : Bool} {n p : Nat} {r : List UInt8} (hd : S.data.toList.drop p = escL g n ++ r) : bt S p = 92 ∧ bt S (p + 1) = 117 ∧ S.data.toList.drop (p + 2) = hexL g 4 n ++ r ∧ p < S.size := by
  have h0 : bt S p = 92 := bt_of (r := 117 :: (hexL g 4 n ++ r)) hd
  have h1 : bt S (p + 1) = 117 := bt_get (T := [92, 117]) (R := hexL g 4 n ++ r) (k := 1) hd (by decide)
  exact ⟨h0, h1, drop_next (a := [92, 117]) hd, lt_of_bt (by omega)⟩
theorem chAt_uni {S : ByteArray} {p : Nat} (h0 : bt S p = 92) (h1 : bt S (p + 1) = 117) : chAt S p = uniCh S p := by
  have hl := lt_of_bt (s := S) (i := p) (by omega)
  unfold chAt
  rw [if_neg (by omega), if_pos h0]
  unfold escCh
  rw [h1]
  rfl
/-- one escape of a point -/
theorem chAt_one {S : ByteArray} {g : Bool} {n p : Nat} {r : List UInt8} (hd : S.data.toList.drop p = escL g n ++ r) (hn : n < 65536) (hp : pt (n : Int) = true) : chAt S p = .pt n (p + 6) := by
  obtain ⟨h0, h1, h2, _⟩ := esc_at hd
  rw [chAt_uni h0 h1]
  unfold uniCh
  rw [four_hex g hn h2, if_neg (by show ¬ (n : Int) < 0; omega), if_pos hp]
/-- two halves -/
theorem chAt_two {S : ByteArray} {g : Bool} {hi lo p : Nat} {r : List UInt8} (hd : S.data.toList.drop p = escL g hi ++ (escL g lo ++ r)) (h1 : 55296 ≤ hi) (h2 : hi < 56320) (h3 : 56320 ≤ lo) (h4 : lo < 57344) :
    chAt S p = .pt (65536 + ((hi : Int) - 55296) * 1024 + ((lo : Int) - 56320)) (p + 12) := by
  obtain ⟨b0, b1, d2, _⟩ := esc_at hd
  have d6 : S.data.toList.drop (p + 6) = escL g lo ++ r := by have := drop_next hd; rwa [escL_len] at this
  obtain ⟨b6, b7, d8, _⟩ := esc_at d6
  rw [chAt_uni b0 b1]
  unfold uniCh
  rw [four_hex g (by omega) d2, four_hex g (by omega) (show S.data.toList.drop (p + 8) = _ from d8)]
  have hnp : ¬ pt (hi : Int) = true := by rw [pt_iff]; omega
  rw [if_neg (by show ¬ (hi : Int) < 0; omega), if_neg hnp, if_pos ⟨by simp only [isHigh, decide_eq_true_eq]; omega, b6, b7, by simp only [isLow, decide_eq_true_eq]; omega⟩]
/-- a half alone: what stands behind it is no low half's escape -/
theorem chAt_lone {S : ByteArray} {g : Bool} {n p : Nat} {r : List UInt8} (hd : S.data.toList.drop p = escL g n ++ r) (h1 : 55296 ≤ n) (h2 : n ≤ 57343) (hno : isHigh (n : Int) = false ∨ bt S (p + 6) ≠ 92 ∨ bt S (p + 7) ≠ 117 ∨ isLow (four S (p + 8)).1 = false) : chAt S p = .bad p 3 := by
  obtain ⟨b0, b1, d2, _⟩ := esc_at hd
  rw [chAt_uni b0 b1]
  unfold uniCh
  rw [four_hex g (by omega) d2]
  have hnp : ¬ pt (n : Int) = true := by rw [pt_iff]; omega
  rw [if_neg (by show ¬ (n : Int) < 0; omega), if_neg hnp, if_neg]
  rintro ⟨a, b, c, d⟩
  rcases hno with h | h | h | h
  · rw [show ((n : Int), p + 2 + 4).1 = (n : Int) from rfl, h] at a; cases a
  · exact h b
  · exact h c
  · rw [h] at d; cases d
/-- what the law puts behind the escapes: nothing, a, \\n, \\u0041, or a backslash alone -/
def moreL (b : Nat) : List UInt8 := if b = 0 then [] else if b = 1 then [97] else if b = 2 then [92, 110] else if b = 3 then [92, 117, 48, 48, 52, 49] else [92]
def moreP (b : Nat) : List Int := if b = 0 then [] else if b = 1 then [97] else if b = 2 then [10] else [65]
theorem hexL_41 : hexL false 4 65 = [48, 48, 52, 49] := by rfl
/-- behind the escapes: what follows, and the quotation mark -/
theorem str_more {S : ByteArray} {b p : Nat} {acc : List Int} (hb : b < 4) (hp : p ≤ S.size) (hd : S.data.toList.drop p = moreL b ++ [34]) : str S p acc = .pts (acc ++ moreP b) (p + (moreL b).length + 1) := by
  rcases (by omega : b = 0 ∨ b = 1 ∨ b = 2 ∨ b = 3) with rfl | rfl | rfl | rfl
  · rw [str_end hp (bt_of (r := []) hd)]; simp [moreL, moreP]
  · have h0 : bt S p = 97 := bt_of (r := [34]) hd
    have hc := chAt_self (S := S) (p := p) (x := 97) (r := [34]) (by decide) hd (by omega) (by omega)
    have he := chAt_pt hc
    rw [str_pt hp (by omega) hc, str_end he.2.2 (bt_of (r := []) (drop_next (a := [97]) hd))]
    rfl
  · have h0 : bt S p = 92 := bt_of (r := [110, 34]) hd
    have h1 : bt S (p + 1) = 110 := bt_get (T := [92, 110]) (R := [34]) (k := 1) hd (by decide)
    have hc : chAt S p = .pt 10 (p + 2) := by
      have hl := lt_of_bt (s := S) (i := p) (by omega)
      unfold chAt
      rw [if_neg (by omega), if_pos h0]
      unfold escCh
      rw [h1]
      rfl
    have he := chAt_pt hc
    rw [str_pt hp (by omega) hc, str_end he.2.2 (bt_of (r := []) (drop_next (a := [92, 110]) hd))]
    rfl
  · have hd2 : S.data.toList.drop p = escL false 65 ++ [34] := by rw [hd]; unfold escL; rw [hexL_41]; rfl
    have h0 := (esc_at hd2).1
    have hc := chAt_one hd2 (by decide) (by decide)
    have he := chAt_pt hc
    rw [str_pt hp (by omega) hc, str_end he.2.2 (by have := bt_of (r := []) (drop_next hd2); rwa [escL_len] at this)]
    rfl
theorem str_back {S : ByteArray} {p : Nat} {acc : List Int} (hp : p ≤ S.size) (hd : S.data.toList.drop p = [92, 34]) : str S p acc = .bad (p + 2) 1 := by
  have h0 : bt S p = 92 := bt_of (r := [34]) hd
  have h1 : bt S (p + 1) = 34 := bt_get (T := [92, 34]) (R := []) (k := 1) (by rw [hd]; rfl) (by decide)
  have hz : S.size = p + 2 := size_of hd (by decide)
  have hc : chAt S p = .pt 34 (p + 2) := by
    unfold chAt
    rw [if_neg (by omega), if_pos h0]
    unfold escCh
    rw [h1]
    rfl
  rw [str_pt hp (by omega) hc]
  exact str_bad (by omega) (by rw [bt_end (by omega)]; decide) (by unfold chAt; rw [if_pos (.inl (by omega))])
end Go.Proofs.YtnenipgpncomeaaDoor.Tk
