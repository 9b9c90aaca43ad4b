/- Points written by four digits of base sixteen: plain mathematics. A key that stands twice: plain mathematics. -/
import Derived.Test.YthfhlblpjjniiaaGreatDoorMN
namespace Go.Proofs.YthfhlblpjjniiaaGreatDoor.Rd
open Tk Pl
set_option linter.unusedVariables false

/-- a digit, small or capital -/
def hexd (g : Bool) (d : Nat) : UInt8 := if d < 10 then UInt8.ofNat (48 + d) else if g then UInt8.ofNat (55 + d) else UInt8.ofNat (87 + d)
theorem hexd_all : ∀ (g : Bool) (d : Fin 16), hexOf (hexd g d.val).toNat = (d.val : Int) := by decide +kernel
theorem hexd_of (g : Bool) {d : Nat} (h : d < 16) : hexOf (hexd g d).toNat = (d : Int) := hexd_all g ⟨d, h⟩
def fourL (g : Bool) (n : Nat) : List UInt8 := [hexd g (n / 4096 % 16), hexd g (n / 256 % 16), hexd g (n / 16 % 16), hexd g (n % 16)]
theorem four_at {s : ByteArray} {p : Nat} {g : Bool} {n : Nat} (hn : n < 65536) (h : Here s p (fourL g n)) : four s p = ((n : Int), p + 4) ∧ Here s (p + 4) [] := by
  obtain ⟨k1, _, h⟩ := Here.hd h
  obtain ⟨k2, _, h⟩ := h.hd
  obtain ⟨k3, _, h⟩ := h.hd
  obtain ⟨k4, _, h⟩ := h.hd
  have d1 := hexd_of g (d := n / 4096 % 16) (by omega)
  have d2 := hexd_of g (d := n / 256 % 16) (by omega)
  have d3 := hexd_of g (d := n / 16 % 16) (by omega)
  have d4 := hexd_of g (d := n % 16) (by omega)
  rw [← k1] at d1
  rw [← k2] at d2
  rw [← k3] at d3
  rw [← k4] at d4
  refine ⟨?_, h⟩
  unfold four
  rw [fourF_yes (by rw [d1]; omega), fourF_yes (by rw [d2]; omega), fourF_yes (by rw [d3]; omega), fourF_yes (by rw [d4]; omega)]
  rw [d1, d2, d3, d4]
  unfold fourF
  have : (((0 * 16 + ((n / 4096 % 16 : Nat) : Int)) * 16 + ((n / 256 % 16 : Nat) : Int)) * 16 + ((n / 16 % 16 : Nat) : Int)) * 16 + ((n % 16 : Nat) : Int) = (n : Int) := by omega
  rw [this]
/-- a point of one such four -/
theorem chL_four {n : Nat} (g : Bool) (hn : n < 65536) (hp : pt (n : Int) = true) : ChL [(n : Int)] ([92, 117] ++ fourL g n) := fun s p hh => by
  obtain ⟨b1, b2, _⟩ := Here.hd hh
  have b1' : bt s p = 92 := b1
  have b3' : bt s (p + 1) = 117 := (Here.hd (Here.hd hh).2.2).1
  obtain ⟨h4, _⟩ := four_at hn (Here.right (A := [92, 117]) hh)
  have h4' : four s (p + 2) = ((n : Int), p + 6) := h4
  refine ⟨p + 6, by rw [b1']; decide, ?_, rfl⟩
  unfold chAt
  rw [if_neg (by omega), if_pos b1']
  unfold escCh
  rw [b3', show shortOf 117 = none from rfl]
  show (if 117 = 117 then uniCh s p else _) = _
  rw [if_pos rfl]
  unfold uniCh
  rw [h4']
  show (if (n : Int) < 0 then _ else _) = _
  rw [if_neg (by omega), if_pos hp]
/-- a point of two -/
theorem chL_pair {n : Nat} (g h : Bool) (h0 : 65536 ≤ n) (h1 : n < 1114112) : ChL [(n : Int)] (([92, 117] ++ fourL g (55296 + (n - 65536) / 1024)) ++ ([92, 117] ++ fourL h (56320 + (n - 65536) % 1024))) := fun s p hh => by
  have hl := hh.left
  have hr : Here s (p + 6) ([92, 117] ++ fourL h (56320 + (n - 65536) % 1024)) := hh.right
  obtain ⟨b1, b2, _⟩ := Here.hd hl
  have b1' : bt s p = 92 := b1
  have b3' : bt s (p + 1) = 117 := (Here.hd (Here.hd hl).2.2).1
  have b4' : bt s (p + 6) = 92 := (Here.hd hr).1
  have b5' : bt s (p + 7) = 117 := (Here.hd (Here.hd hr).2.2).1
  have f1 : four s (p + 2) = (((55296 + (n - 65536) / 1024 : Nat) : Int), p + 6) := (four_at (by omega) (Here.right (A := [92, 117]) hl)).1
  have f2 : four s (p + 8) = (((56320 + (n - 65536) % 1024 : Nat) : Int), p + 12) := (four_at (by omega) (Here.right (A := [92, 117]) hr)).1
  refine ⟨p + 12, by rw [b1']; decide, ?_, rfl⟩
  unfold chAt
  rw [if_neg (by omega), if_pos b1']
  unfold escCh
  rw [b3', show shortOf 117 = none from rfl]
  show (if 117 = 117 then uniCh s p else _) = _
  rw [if_pos rfl]
  unfold uniCh
  rw [f1, f2]
  dsimp only
  have hnp : ¬ pt ((55296 + (n - 65536) / 1024 : Nat) : Int) = true := by rw [pt_iff]; omega
  have hhi : isHigh ((55296 + (n - 65536) / 1024 : Nat) : Int) = true := by unfold isHigh; rw [decide_eq_true_eq]; omega
  have hlo : isLow ((56320 + (n - 65536) % 1024 : Nat) : Int) = true := by unfold isLow; rw [decide_eq_true_eq]; omega
  rw [if_neg (by omega), if_neg hnp, if_pos ⟨hhi, b4', b5', hlo⟩]
  have e : 65536 + (((55296 + (n - 65536) / 1024 : Nat) : Int) - 55296) * 1024 + (((56320 + (n - 65536) % 1024 : Nat) : Int) - 56320) = (n : Int) := by omega
  rw [e]
end Go.Proofs.YthfhlblpjjniiaaGreatDoor.Rd
namespace Go.Proofs.YthfhlblpjjniiaaGreatDoor.Rd
open Tk Pl
set_option linter.unusedVariables false

theorem key_twice {s q : ByteArray} {A B : List UInt8} (hA : StrL q A) (hB : StrL q B) (hs : s.data.toList = [123] ++ A ++ [58, 49, 44] ++ B ++ [58, 50, 125]) (room : Nat) (hr : 0 < room) : whole Ob s room = .err (A.length + 4) 5 := by
  have h0 : Here s 0 ([123] ++ (A ++ ([58, 49, 44] ++ (B ++ [58, 50, 125])))) := by
    have := here_all s
    rw [hs] at this
    simpa only [List.append_assoc] using this
  have n0 : next s 0 = .tok ⟨1, Tk.one 123, 0, 0, 1⟩ := next_m h0 (by decide)
  have h1 : Here s 1 (A ++ ([58, 49, 44] ++ (B ++ [58, 50, 125]))) := h0.right
  have n1 := hA s 1 h1.left
  have h2 := h1.right
  have n2 : next s (1 + A.length) = .tok ⟨1, Tk.one 58, 0, 1 + A.length, 1 + A.length + 1⟩ := next_m h2 (by decide)
  have h3 : Here s (1 + A.length + 1) (49 :: 44 :: (B ++ [58, 50, 125])) := h2.hd.2.2
  have h4 : Here s (1 + A.length + 1 + 1) (44 :: (B ++ [58, 50, 125])) := h3.hd.2.2
  have b4 : bt s (1 + A.length + 1 + 1) = 44 := h4.hd.1
  have n3 : next s (1 + A.length + 1) = .tok ⟨3, nix, 1, 1 + A.length + 1, 1 + A.length + 1 + 1⟩ := by
    have := next_num (L := [49]) (Here.left (B := 44 :: (B ++ [58, 50, 125])) h3) (by decide) (by decide) (by rw [show 1 + A.length + 1 + [(49 : UInt8)].length = 1 + A.length + 1 + 1 from rfl, b4]; unfold isNo; decide)
    rw [this]; rfl
  have n4 : next s (1 + A.length + 1 + 1) = .tok ⟨1, Tk.one 44, 0, 1 + A.length + 1 + 1, 1 + A.length + 1 + 1 + 1⟩ := next_m h4 (by decide)
  have n5 := hB s (1 + A.length + 1 + 1 + 1) (Here.left h4.hd.2.2)
  have m123 : isM ⟨1, Tk.one 123, 0, 0, 1⟩ 123 := ⟨rfl, rfl⟩
  have m91 : ¬ isM ⟨1, Tk.one 123, 0, 0, 1⟩ 91 := says_not (a := 123) 91 ⟨rfl, rfl, rfl⟩ (by decide)
  have hsz : 8 ≤ s.size := by
    have := congrArg List.length hs
    simp only [List.length_append, List.length_cons, List.length_nil] at this
    rw [size_toList] at this
    have hne : ∀ L : List UInt8, StrL q L → 0 < L.length := fun L h => by
      cases L with
      | cons a L => simp
      | nil =>
        have := h ⟨#[]⟩ 0 ⟨[], rfl⟩
        have e : next (⟨#[]⟩ : ByteArray) 0 = .tok ⟨0, nix, 0, 0, 0⟩ := next_end
        rw [e] at this
        injection this with this
        injection this with this
        exact absurd this (by decide)
    have := hne A hA
    omega
  obtain ⟨k, hk⟩ : ∃ k, many s = k + 4 := ⟨many s - 4, by unfold many; omega⟩
  unfold whole
  rw [n0, hk]
  dsimp only
  rw [fromF]
  rw [if_neg (show ¬ (1 : Int) = 6 by decide), if_neg (show ¬ ((1 : Int) = 4 ∨ (1 : Int) = 5) by decide), if_neg (show ¬ (1 : Int) = 3 by decide), if_neg (show ¬ (1 : Int) = 2 by decide), if_neg (fun hh => hh.2 m123), if_neg (by omega)]
  rw [n1]
  dsimp only
  rw [if_neg m91, if_neg (fun h => absurd h.1 (show ¬ (2 : Int) = 1 by decide)), membsF]
  rw [if_neg (fun h => h rfl), if_neg (fun h => by rw [hasK_iff] at h; cases h), n2]
  dsimp only
  rw [if_neg (fun h => h ⟨rfl, rfl⟩), n3]
  dsimp only
  rw [fromF]
  rw [if_neg (show ¬ (3 : Int) = 6 by decide), if_neg (show ¬ ((3 : Int) = 4 ∨ (3 : Int) = 5) by decide), if_pos rfl]
  dsimp only
  rw [n4]
  dsimp only
  rw [if_neg (says_not (a := 44) 125 ⟨rfl, rfl, rfl⟩ (by decide)), if_neg (fun h => h ⟨rfl, rfl⟩), n5]
  dsimp only
  rw [membsF]
  rw [if_neg (fun h => h rfl), if_pos (hasK_iff.2 (by simp))]
  show Res.err (1 + A.length + 1 + 1 + 1) 5 = _
  rw [show 1 + A.length + 1 + 1 + 1 = A.length + 4 by omega]
end Go.Proofs.YthfhlblpjjniiaaGreatDoor.Rd
