/- What the reference answers of a path's text, in the midst of it: plain mathematics. -/
import Derived.Test.YtmcacmhjhejfeaaGreatDoorSlashB
namespace Go.Proofs.YtmcacmhjhejfeaaGreatDoor.Sl
open Tk
/-- within a step, cur of which is read, at place i, behind the steps o -/
def ia (s : ByteArray) (i : Nat) (o : List (List UInt8)) (cur : List UInt8) : PR := match fb s i with
  | some p => .bad p 1
  | none => .ok (o ++ go cur (s.data.toList.drop i))
/-- behind the steps o, at place i -/
def oa (s : ByteArray) (i : Nat) (o : List (List UInt8)) : PR := if i < s.size then (if bt s i = 47 then ia s (i + 1) o [] else .bad i 1) else .ok o
theorem oa_end {s : ByteArray} {i : Nat} {o : List (List UInt8)} (h : ¬ i < s.size) : oa s i o = .ok o := if_neg h
theorem oa_bad {s : ByteArray} {i : Nat} {o : List (List UInt8)} (h : i < s.size) (hb : bt s i ≠ 47) : oa s i o = .bad i 1 := by unfold oa; rw [if_pos h, if_neg hb]
theorem oa_in {s : ByteArray} {i : Nat} {o : List (List UInt8)} (h : i < s.size) (hb : bt s i = 47) : oa s i o = ia s (i + 1) o [] := by unfold oa; rw [if_pos h, if_pos hb]
theorem ia_some {s : ByteArray} {i p : Nat} {o : List (List UInt8)} {cur : List UInt8} (h : fb s i = some p) : ia s i o cur = .bad p 1 := by unfold ia; rw [h]
theorem ia_none {s : ByteArray} {i : Nat} {o : List (List UInt8)} {cur : List UInt8} (h : fb s i = none) : ia s i o cur = .ok (o ++ go cur (s.data.toList.drop i)) := by unfold ia; rw [h]
theorem ia_eq {s : ByteArray} {i j : Nat} {o : List (List UInt8)} {cur cur' : List UInt8} (h : fb s i = fb s j) (hg : go cur (s.data.toList.drop i) = go cur' (s.data.toList.drop j)) : ia s i o cur = ia s j o cur' := by unfold ia; rw [h, hg]
theorem ia_end {s : ByteArray} {i : Nat} {o : List (List UInt8)} {cur : List UInt8} (h : s.size ≤ i) : ia s i o cur = oa s i (o ++ [cur]) := by
  rw [ia_none (fb_end h), oa_end (by omega), go_out cur h]
theorem ia_slash {s : ByteArray} {i : Nat} {o : List (List UInt8)} {cur : List UInt8} (h : i < s.size) (hb : bt s i = 47) : ia s i o cur = oa s i (o ++ [cur]) := by
  rw [oa_in h hb]
  unfold ia
  rw [fb_step h (not_bad (by omega)), go_at cur h hb, steps_at h]
  cases fb s (i + 1) with
  | some p => rfl
  | none => simp
theorem ia_next {s : ByteArray} {i : Nat} {o : List (List UInt8)} {cur : List UInt8} (h : i < s.size) (h1 : bt s i ≠ 47) (h2 : bt s i ≠ 126) : ia s i o cur = ia s (i + 1) o (cur ++ [s[i]]) :=
  ia_eq (fb_step h (not_bad h2)) (go_next cur h h1 h2)
theorem ia_bad {s : ByteArray} {i : Nat} {o : List (List UInt8)} {cur : List UInt8} (h : i < s.size) (h2 : bt s i = 126) (h0 : bt s (i + 1) ≠ 48) (h1 : bt s (i + 1) ≠ 49) : ia s i o cur = .bad (i + 1) 1 :=
  ia_some (fb_bad h (is_bad h2 h0 h1))
theorem ia_t0 {s : ByteArray} {i : Nat} {o : List (List UInt8)} {cur : List UInt8} (h : i + 1 < s.size) (h2 : bt s i = 126) (h0 : bt s (i + 1) = 48) : ia s i o cur = ia s (i + 1 + 1) o (cur ++ [126]) :=
  ia_eq ((fb_step (by omega) (not_bad0 h0)).trans (fb_step h (not_bad (by omega)))) (go_t0 cur h h2 h0)
theorem ia_t1 {s : ByteArray} {i : Nat} {o : List (List UInt8)} {cur : List UInt8} (h : i + 1 < s.size) (h2 : bt s i = 126) (h1 : bt s (i + 1) = 49) : ia s i o cur = ia s (i + 1 + 1) o (cur ++ [47]) :=
  ia_eq ((fb_step (by omega) (not_bad1 h1)).trans (fb_step h (not_bad (by omega)))) (go_t1 cur h h2 h1)
theorem oa_start (s : ByteArray) : oa s 0 [] = pr s := by
  unfold pr
  by_cases h0 : s.size = 0
  · rw [oa_end (by omega), if_pos h0]
  · rw [if_neg h0]
    have h : 0 < s.size := by omega
    by_cases hb : bt s 0 = 47
    · rw [if_pos hb, oa_in h hb]
      unfold ia
      have hs : steps s.data.toList = go [] (s.data.toList.drop (0 + 1)) := by
        have := steps_at h
        rw [List.drop_zero] at this
        exact this
      rw [← fb_step h (not_bad (by omega)), hs]
      cases fb s 0 <;> rfl
    · rw [if_neg hb, oa_bad h hb]
end Go.Proofs.YtmcacmhjhejfeaaGreatDoor.Sl
