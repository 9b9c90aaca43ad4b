/- How great a read tree is: plain mathematics (made of XExC by exchange of words). -/
import Derived.Test.YtfbipnflgjhaiaaGreatDoorEA
set_option linter.unusedVariables false
set_option maxRecDepth 100000
set_option maxHeartbeats 8000000
open Go.Lib (hid)
namespace Go.Proofs.YtfbipnflgjhaiaaGreatDoor.Ex
open Tk
def Sp8 (i d : Nat) (r : Res) : Prop := ∀ e p, r = .ok e p → e.size + i ≤ p + d
theorem sp8_err (i d p : Nat) (c : Int) : Sp8 i d (.err p c) := fun e q h => by cases h
theorem sp8_out (i d : Nat) : Sp8 i d .out := fun e q h => by cases h
theorem sp8_ok {i d p : Nat} {e : E} (h : e.size + i ≤ p + d) : Sp8 i d (.ok e p) := fun e' p' k => by injection k with k1 k2; subst k1 k2; exact h
theorem leaf_size (o n : ByteArray) (v : T) : (E.mk o n v []).size = 1 := rfl
theorem one_size (o n : ByteArray) (v : T) (e : E) : (E.mk o n v [e]).size = 1 + e.size := by
 show 1 + (e.size + 0) = _; omega
theorem two_size (o n : ByteArray) (v : T) (e y : E) : (E.mk o n v [e, y]).size = 1 + (e.size + y.size) := by
 show 1 + (e.size + (y.size + 0)) = _; omega
theorem sp8_up {i j : Nat} {o : ByteArray} {r : Res} (h : Sp8 j 0 r) (hij : i < j) : Sp8 i 0 (up o r) := by
 cases r with
 | ok e p => have := h e p rfl; refine sp8_ok ?_; rw [one_size]; omega
 | err p c => exact sp8_err _ _ _ _
 | out => exact sp8_out _ _
theorem sp8_key {s : ByteArray} {e : E} {i d : Nat} (hi : i ≤ s.size) (hd : e.size ≤ d) : Sp8 i d (key s e i) := by
 have hf := (fit_key (q := True) (s := s) (i := i) (e := e)).2
 intro x p hx
 have := hf x p hx
 have hdx : x.size = 1 + e.size := by
  unfold key at hx
  split at hx
  ·
   split at hx
   · injection hx with h1 _; subst h1; exact one_size _ _ _ _
   · cases hx
  ·
   split at hx
   · injection hx with h1 _; subst h1; exact one_size _ _ _ _
   · cases hx
 omega
theorem leafz_num {s : ByteArray} {a : Nat} {e : E} {p : Nat} (h : num s a = .ok e p) : e.size = 1 := by
 unfold num at h
 split at h
 · cases h
 ·
  split at h
  ·
   split at h
   · cases h
   · injection h with h1 _; subst h1; rfl
  · cases h
theorem leafz_strs {s : ByteArray} {a : Nat} {e : E} {p : Nat} (h : strs s a = .ok e p) : e.size = 1 := by
 unfold strs at h
 split at h
 · injection h with h1 _; subst h1; rfl
 · cases h
theorem sp8_leaf {i p : Nat} {r : Res} (hf : ∀ e p, r = .ok e p → i < p) (hd : ∀ e p, r = .ok e p → e.size = 1) : Sp8 i 0 r := fun e p h => by
 have := hf e p h
 have := hd e p h
 omega
theorem size_enough (s : ByteArray) : ∀ f, (∀ n i, n ≤ 8 → i ≤ s.size → Sp8 i 0 (lev s f n i)) ∧ (∀ n e i, i ≤ s.size → Sp8 i e.size (chn s f n e i)) ∧ (∀ e i, i ≤ s.size → Sp8 i e.size (prt s f e i)) ∧ (∀ w acc i, i ≤ s.size → Sp8 i (E.sizes acc) (cal s f w acc i)) := by
 intro f
 induction f with
 | zero =>
  refine ⟨fun n i hn _ => ?_, fun n e i _ => ?_, fun e i _ => ?_, fun w acc i _ => ?_⟩
  · rw [lev]; exact sp8_out _ _
  · rw [chn]; exact sp8_out _ _
  · rw [prt]; exact sp8_out _ _
  · rw [cal]; exact sp8_out _ _
 | succ f ih =>
  obtain ⟨ih1, ih2, ih3, ih4⟩ := ih
  have hnot : notB.size = 3 := rfl
  have hmin : minusB.size = 1 := rfl
  have hopn : opnB.size = 1 := rfl
  have hcls : clsB.size = 1 := rfl
  have hcom : commaB.size = 1 := rfl
  have hdot : dotB.size = 1 := rfl
  have hosq : osqB.size = 1 := rfl
  have hcsq : csqB.size = 1 := rfl
  refine ⟨fun n i hn hi => ?_, fun n e i hi => ?_, fun e i hi => ?_, fun w acc i hi => ?_⟩
  ·
   have hb1 := bl_ge s i
   have hb2 := bl_le hi
   rcases (by omega : n = 2 ∨ n = 6 ∨ n = 7 ∨ n = 8 ∨ (n = 0 ∨ n = 1 ∨ n = 3 ∨ n = 4 ∨ n = 5)) with rfl | rfl | rfl | rfl | hn'
   ·
    rw [lev, if_pos rfl]
    by_cases h : stands s i notB = true
    ·
     rw [if_pos h]
     obtain ⟨h1, h2⟩ := stands_le hi h
     exact sp8_up (ih1 2 _ (by omega) h2) (by omega)
    ·
     rw [if_neg h]
     exact ih1 3 i (by omega) hi
   ·
    rw [lev, if_neg (by decide), if_pos rfl]
    by_cases h : stands s i minusB = true
    ·
     rw [if_pos h]
     obtain ⟨h1, h2⟩ := stands_le hi h
     exact sp8_up (ih1 6 _ (by omega) h2) (by omega)
    ·
     rw [if_neg h]
     exact ih1 7 i (by omega) hi
   ·
    rw [lev, if_neg (by decide), if_neg (by decide), if_pos rfl]
    have hx := ih1 8 i (by omega) hi
    cases he : lev s f 8 i with
    | ok e p =>
     have h1 := hx e p he
     obtain ⟨h3, h4⟩ := lev_le (by omega) hi he
     exact fun e' p' h => by have := ih3 e p h4 e' p' h; omega
    | err p c => exact sp8_err _ _ _ _
    | out => exact sp8_out _ _
   ·
    rw [lev, if_neg (by decide), if_neg (by decide), if_neg (by decide), if_pos rfl]
    by_cases h : isDg (bt s (bl s i)) = true
    ·
     rw [if_pos h]
     exact sp8_leaf (p := 0) (fun e p k => by have := (fit_num (q := True) h).2 e p k; omega) fun e p k => leafz_num k
    rw [if_neg h]
    by_cases h : bt s (bl s i) = 34
    ·
     rw [if_pos h]
     exact sp8_leaf (p := 0) (fun e p k => by have := (fit_strs (q := True) h).2 e p k; omega) fun e p k => leafz_strs k
    rw [if_neg h]
    by_cases h : isLt (bt s (bl s i)) = true
    ·
     rw [if_pos h]
     have h1 := wE_pos h
     have h2 := wE_le hb2
     by_cases h3 : isWord (wd s i) = true
     ·
      rw [if_pos h3]
      by_cases h4 : eqb (wd s i) trueB = true
      · rw [if_pos h4]; exact sp8_ok (by rw [show (litE (Rd.truT true)).size = 1 from rfl]; omega)
      rw [if_neg h4]
      by_cases h4 : eqb (wd s i) falseB = true
      · rw [if_pos h4]; exact sp8_ok (by rw [show (litE (Rd.truT false)).size = 1 from rfl]; omega)
      rw [if_neg h4]
      by_cases h4 : eqb (wd s i) nullB = true
      · rw [if_pos h4]; exact sp8_ok (by rw [show (litE Rd.nulT).size = 1 from rfl]; omega)
      rw [if_neg h4]
      by_cases h4 : eqb (wd s i) thisB = true
      · rw [if_pos h4]; exact sp8_ok (by rw [leaf_size]; omega)
      · rw [if_neg h4]; exact sp8_err _ _ _ _
     rw [if_neg h3]
     by_cases h4 : 0 < argsN (wd s i)
     ·
      rw [if_pos h4]
      by_cases h5 : stands s (wE s (bl s i)) opnB = true
      ·
       rw [if_pos h5]
       obtain ⟨h6, h7⟩ := stands_le h2 h5
       exact fun e' p' h => by have := ih4 _ _ _ h7 e' p' h; simp only [E.sizes] at this; omega
      · rw [if_neg h5]; exact sp8_err _ _ _ _
     · rw [if_neg h4]; exact sp8_ok (by rw [leaf_size]; omega)
    rw [if_neg h]
    by_cases h3 : stands s i opnB = true
    ·
     rw [if_pos h3]
     obtain ⟨h4, h5⟩ := stands_le hi h3
     have hx := ih1 0 _ (by omega) h5
     cases he : lev s f 0 (past s i opnB) with
     | ok e p =>
      have h6 := hx e p he
      obtain ⟨h7, h8⟩ := lev_le (by omega) h5 he
      dsimp only
      by_cases h9 : stands s p clsB = true
      ·
       rw [if_pos h9]
       obtain ⟨h10, h11⟩ := stands_le h8 h9
       exact sp8_ok (by omega)
      · rw [if_neg h9]; exact sp8_err _ _ _ _
     | err p c => exact sp8_err _ _ _ _
     | out => exact sp8_out _ _
    · rw [if_neg h3]; exact sp8_err _ _ _ _
   ·
    rw [lev, if_neg (by omega), if_neg (by omega), if_neg (by omega), if_neg (by omega)]
    have hx := ih1 (n + 1) i (by omega) hi
    cases he : lev s f (n + 1) i with
    | ok e p =>
     have h1 := hx e p he
     obtain ⟨h3, h4⟩ := lev_le (by omega) hi he
     exact fun e' p' h => by have := ih2 n e p h4 e' p' h; omega
    | err p c => exact sp8_err _ _ _ _
    | out => exact sp8_out _ _
  ·
   rw [chn]
   split
   · exact sp8_ok (by omega)
   ·
    rename_i o ho
    obtain ⟨h1, h2⟩ := btw_le hi ho
    have hn8 := sg_lt (btw_some ho).1
    have hx := ih1 (n + 1) _ (by omega) h2
    split
    ·
     rename_i y p he
     have h3 := hx y p he
     obtain ⟨h5, h6⟩ := lev_le (by omega) h2 he
     split
     · refine sp8_ok ?_; rw [two_size]; omega
     · exact fun e' p' h => by
        have := ih2 n (.mk o nix Rd.nulT [e, y]) p h6 e' p' h
        rw [two_size] at this; omega
    · exact sp8_err _ _ _ _
    · exact sp8_out _ _
  ·
   rw [prt]
   split
   ·
    rename_i h
    obtain ⟨h1, h2⟩ := stands_le hi h
    have hx := sp8_key (s := s) (e := e) (i := past s i dotB) (d := e.size) h2 (Nat.le_refl _)
    have hf := (fit_key (q := True) (s := s) (i := past s i dotB) (e := e)).2
    split
    ·
     rename_i y p he
     have h3 := hx y p he
     obtain ⟨h4, h5⟩ := hf y p he
     exact fun e' p' h => by have := ih3 y p h5 e' p' h; omega
    · exact sp8_err _ _ _ _
    · exact sp8_out _ _
   split
   ·
    rename_i h
    obtain ⟨h1, h2⟩ := stands_le hi h
    have hx := ih1 0 _ (by omega) h2
    split
    ·
     rename_i y p he
     have h3 := hx y p he
     obtain ⟨h4, h5⟩ := lev_le (by omega) h2 he
     split
     ·
      rename_i h6
      obtain ⟨h7, h8⟩ := stands_le h5 h6
      exact fun e' p' h => by
       have := ih3 (.mk atB nix Rd.nulT [e, y]) _ h8 e' p' h
       rw [two_size] at this; omega
     · exact sp8_err _ _ _ _
    · exact sp8_err _ _ _ _
    · exact sp8_out _ _
   · exact sp8_ok (by omega)
  ·
   rw [cal]
   have hx := ih1 0 i (by omega) hi
   have hac : ∀ y : E, E.sizes (acc ++ [y]) = E.sizes acc + y.size := fun y => by rw [E.sizes_append]; simp only [E.sizes]; omega
   split
   ·
    rename_i y p he
    have h3 := hx y p he
    obtain ⟨h4, h5⟩ := lev_le (by omega) hi he
    split
    ·
     rename_i h
     obtain ⟨h6, h7⟩ := stands_le h5 h
     split
     · exact sp8_err _ _ _ _
     ·
      refine sp8_ok ?_
      show 1 + E.sizes (acc ++ [y]) + i ≤ _
      rw [hac]; omega
    split
    ·
     rename_i h
     obtain ⟨h6, h7⟩ := stands_le h5 h
     split
     · exact fun e' p' h => by
        have := ih4 w (acc ++ [y]) _ h7 e' p' h
        rw [hac] at this; omega
     · exact sp8_err _ _ _ _
    · exact sp8_err _ _ _ _
   · exact sp8_err _ _ _ _
   · exact sp8_out _ _
theorem lev_sz {s : ByteArray} {f n i : Nat} {e : E} {p : Nat} (hn : n ≤ 8) (hi : i ≤ s.size) (h : lev s f n i = .ok e p) : e.size + i ≤ p := by
 have h1 := (size_enough s f).1 n i hn hi e p h
 omega
end Go.Proofs.YtfbipnflgjhaiaaGreatDoor.Ex
