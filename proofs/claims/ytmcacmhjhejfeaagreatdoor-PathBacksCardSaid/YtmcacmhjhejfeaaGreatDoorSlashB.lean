/- A path's text read byte by byte: plain mathematics. -/
import Derived.Test.YtmcacmhjhejfeaaGreatDoorSlash
import Derived.Test.YtmcacmhjhejfeaaGreatDoorSpan
import Derived.Lib.Split
namespace Go.Proofs.YtmcacmhjhejfeaaGreatDoor.Sl
open Go.Lib
open Tk

theorem drop_at {s : ByteArray} {i : Nat} (h : i < s.size) : s.data.toList.drop i = s[i] :: s.data.toList.drop (i + 1) := by
  have h2 : i < s.data.toList.length := h
  rw [List.drop_eq_getElem_cons h2]; rfl
theorem drop_out {s : ByteArray} {i : Nat} (h : s.size ≤ i) : s.data.toList.drop i = [] := List.drop_eq_nil_of_le h
theorem byte_is {s : ByteArray} {i : Nat} (h : i < s.size) (c : UInt8) (hb : bt s i = c.toNat) : s[i] = c := UInt8.toNat_inj.1 ((bt_at s i h).trans hb)
theorem byte_no {s : ByteArray} {i : Nat} (h : i < s.size) (c : UInt8) (hb : bt s i ≠ c.toNat) : s[i] ≠ c := fun e => hb ((bt_at s i h).symm.trans (congrArg UInt8.toNat e))

/-- a ~ that no 0 or 1 follows -/
def badAt (s : ByteArray) (i : Nat) : Bool := bt s i == 126 && (bt s (i + 1) != 48 && bt s (i + 1) != 49)
def fbF (s : ByteArray) : Nat → Nat → Option Nat
  | 0, _ => none
  | n + 1, i => if badAt s i = true then some (i + 1) else fbF s n (i + 1)
/-- the place behind the first such, from i on -/
def fb (s : ByteArray) (i : Nat) : Option Nat := fbF s (s.size - i) i
theorem fb_end {s : ByteArray} {i : Nat} (h : s.size ≤ i) : fb s i = none := by unfold fb; rw [show s.size - i = 0 by omega]; rfl
theorem fb_cons {s : ByteArray} {i : Nat} (h : i < s.size) : fb s i = if badAt s i = true then some (i + 1) else fb s (i + 1) := by
  unfold fb
  obtain ⟨n, hn⟩ : ∃ n, s.size - i = n + 1 := ⟨s.size - i - 1, by omega⟩
  rw [hn, show s.size - (i + 1) = n by omega]; rfl
theorem fb_bad {s : ByteArray} {i : Nat} (h : i < s.size) (hb : badAt s i = true) : fb s i = some (i + 1) := by rw [fb_cons h, if_pos hb]
theorem fb_step {s : ByteArray} {i : Nat} (h : i < s.size) (hb : badAt s i = false) : fb s i = fb s (i + 1) := by rw [fb_cons h, if_neg (by rw [hb]; decide)]
theorem not_bad {s : ByteArray} {i : Nat} (h : bt s i ≠ 126) : badAt s i = false := by unfold badAt; rw [beq_eq_false_iff_ne.2 h]; rfl
theorem not_bad0 {s : ByteArray} {i : Nat} (h : bt s (i + 1) = 48) : badAt s i = false := by unfold badAt; rw [h]; simp
theorem not_bad1 {s : ByteArray} {i : Nat} (h : bt s (i + 1) = 49) : badAt s i = false := by unfold badAt; rw [h]; simp
theorem is_bad {s : ByteArray} {i : Nat} (h : bt s i = 126) (h0 : bt s (i + 1) ≠ 48) (h1 : bt s (i + 1) ≠ 49) : badAt s i = true := by unfold badAt; simp [h, h0, h1]
theorem fb_formd (s : ByteArray) : ∀ n i, s.size - i ≤ n → formd (s.data.toList.drop i) = true → fb s i = none := by
  intro n
  induction n with
  | zero => intro i h _; exact fb_end (by omega)
  | succ n ih =>
    intro i h hf
    rcases Nat.lt_or_ge i s.size with hi | hi
    · rw [drop_at hi] at hf
      by_cases hb : bt s i = 126
      · rw [byte_is hi 126 hb] at hf
        rcases Nat.lt_or_ge (i + 1) s.size with hj | hj
        · rw [drop_at hj] at hf
          simp only [formd, if_true, Bool.and_eq_true, Bool.or_eq_true, beq_iff_eq] at hf
          have hx : bt s (i + 1) = 48 ∨ bt s (i + 1) = 49 := by
            rw [← bt_at s (i + 1) hj]
            rcases hf.1 with e | e
            · left; rw [e]; rfl
            · right; rw [e]; rfl
          have h1 : badAt s i = false := by
            rcases hx with e | e
            · exact not_bad0 e
            · exact not_bad1 e
          rw [fb_step hi h1, fb_step hj (not_bad (by omega))]
          exact ih (i + 1 + 1) (by omega) hf.2
        · rw [drop_out hj] at hf
          exact absurd hf (by decide)
      · rw [formd_other _ (byte_no hi 126 hb)] at hf
        rw [fb_step hi (not_bad hb)]
        exact ih (i + 1) (by omega) hf
    · exact fb_end hi

/-- the steps of what is left, where the step under way has begun with cur -/
def go (cur l : List UInt8) : List (List UInt8) := match cut l with
  | [] => []
  | p :: r => (cur ++ unesc p) :: r.map unesc
theorem go_eq {cur l p : List UInt8} {r : List (List UInt8)} (h : cut l = p :: r) : go cur l = (cur ++ unesc p) :: r.map unesc := by unfold go; rw [h]
theorem cut_ex (l : List UInt8) : ∃ p r, cut l = p :: r := by
  cases h : cut l with
  | nil => exact absurd h (cut_ne l)
  | cons p r => exact ⟨p, r, rfl⟩
theorem go_nil (cur : List UInt8) : go cur [] = [cur] := by rw [go_eq (p := []) (r := []) rfl]; simp [unesc]
theorem go_slash (cur l : List UInt8) : go cur (47 :: l) = cur :: go [] l := by
  obtain ⟨p, r, h⟩ := cut_ex l
  rw [go_eq h, go_eq (p := []) (r := p :: r) (by rw [cut_slash, h])]
  simp [unesc]
theorem go_other (cur l : List UInt8) {b : UInt8} (h : b ≠ 47) (h2 : b ≠ 126) : go cur (b :: l) = go (cur ++ [b]) l := by
  obtain ⟨p, r, hl⟩ := cut_ex l
  rw [go_eq hl, go_eq (cut_other h hl), unesc_other _ h2]
  simp
theorem go_zero (cur l : List UInt8) : go cur (126 :: 48 :: l) = go (cur ++ [126]) l := by
  obtain ⟨p, r, hl⟩ := cut_ex l
  rw [go_eq hl, go_eq (cut_other (by decide) (cut_other (by decide) hl))]
  simp [unesc]
theorem go_one (cur l : List UInt8) : go cur (126 :: 49 :: l) = go (cur ++ [47]) l := by
  obtain ⟨p, r, hl⟩ := cut_ex l
  rw [go_eq hl, go_eq (cut_other (by decide) (cut_other (by decide) hl))]
  simp [unesc]
theorem go_cut (l : List UInt8) : go [] l = (cut l).map unesc := by
  obtain ⟨p, r, h⟩ := cut_ex l
  rw [go_eq h, h]; simp
/-- the steps of a text whose first byte is a / -/
def steps : List UInt8 → List (List UInt8)
  | [] => []
  | _ :: l => go [] l
theorem steps_out {s : ByteArray} {i : Nat} (h : s.size ≤ i) : steps (s.data.toList.drop i) = [] := by rw [drop_out h]; rfl
theorem steps_at {s : ByteArray} {i : Nat} (h : i < s.size) : steps (s.data.toList.drop i) = go [] (s.data.toList.drop (i + 1)) := by rw [drop_at h]; rfl
theorem go_out {s : ByteArray} {i : Nat} (cur : List UInt8) (h : s.size ≤ i) : go cur (s.data.toList.drop i) = [cur] := by rw [drop_out h, go_nil]
theorem go_at {s : ByteArray} {i : Nat} (cur : List UInt8) (h : i < s.size) (hb : bt s i = 47) : go cur (s.data.toList.drop i) = cur :: steps (s.data.toList.drop i) := by
  rw [steps_at h, drop_at h, byte_is h 47 hb, go_slash]
theorem go_next {s : ByteArray} {i : Nat} (cur : List UInt8) (h : i < s.size) (h1 : bt s i ≠ 47) (h2 : bt s i ≠ 126) : go cur (s.data.toList.drop i) = go (cur ++ [s[i]]) (s.data.toList.drop (i + 1)) := by
  rw [drop_at h, go_other _ _ (byte_no h 47 h1) (byte_no h 126 h2)]
theorem go_t0 {s : ByteArray} {i : Nat} (cur : List UInt8) (h : i + 1 < s.size) (h1 : bt s i = 126) (h2 : bt s (i + 1) = 48) : go cur (s.data.toList.drop i) = go (cur ++ [126]) (s.data.toList.drop (i + 1 + 1)) := by
  rw [drop_at (show i < s.size by omega), drop_at h, byte_is (by omega) 126 h1, byte_is h 48 h2, go_zero]
theorem go_t1 {s : ByteArray} {i : Nat} (cur : List UInt8) (h : i + 1 < s.size) (h1 : bt s i = 126) (h2 : bt s (i + 1) = 49) : go cur (s.data.toList.drop i) = go (cur ++ [47]) (s.data.toList.drop (i + 1 + 1)) := by
  rw [drop_at (show i < s.size by omega), drop_at h, byte_is (by omega) 126 h1, byte_is h 49 h2, go_one]

/-- a row of texts -/
def mk (l : List UInt8) : ByteArray := ⟨l.toArray⟩
theorem mk_list (l : List UInt8) : (mk l).data.toList = l := rfl
theorem mk_of (s : ByteArray) : mk s.data.toList = s := rfl
/-- what a text's parsing answers, if it is a text -/
inductive PR | ok (l : List (List UInt8)) | bad (p : Nat) (c : Int)
def pr (s : ByteArray) : PR := if s.size = 0 then .ok [] else if bt s 0 = 47 then (match fb s 0 with | some p => .bad p 1 | none => .ok (steps s.data.toList)) else .bad 0 1
theorem pr_nil {s : ByteArray} (h : s.size = 0) : pr s = .ok [] := by unfold pr; rw [if_pos h]
theorem pr_head {s : ByteArray} (h : 0 < s.size) (hb : bt s 0 ≠ 47) : pr s = .bad 0 1 := by unfold pr; rw [if_neg (by omega), if_neg hb]
theorem pr_bad {s : ByteArray} {p : Nat} (h : 0 < s.size) (hb : bt s 0 = 47) (hf : fb s 0 = some p) : pr s = .bad p 1 := by unfold pr; rw [if_neg (by omega), if_pos hb, hf]
theorem pr_ok {s : ByteArray} (h : 0 < s.size) (hb : bt s 0 = 47) (hf : fb s 0 = none) : pr s = .ok (steps s.data.toList) := by unfold pr; rw [if_neg (by omega), if_pos hb, hf]
theorem steps_txt (l : List (List UInt8)) : steps (txt l) = l := by
  cases l with
  | nil => rfl
  | cons x r => rw [txt, steps, go_cut, back]
theorem pr_txt (l : List (List UInt8)) : pr (mk (txt l)) = .ok l := by
  cases l with
  | nil => rfl
  | cons x r =>
    have h : 0 < (mk (txt (x :: r))).size := by unfold mk txt; show 0 < (List.toArray _).size; simp
    rw [pr_ok h rfl (fb_formd _ _ 0 (Nat.le_refl _) (formd_txt (x :: r))), mk_list, steps_txt]
theorem pr_mk {s : ByteArray} {l : List (List UInt8)} (h : pr s = .ok l) : l = steps s.data.toList := by
  unfold pr at h
  split at h
  · rename_i h0
    injection h with h
    have : s.data.toList = [] := List.length_eq_zero_iff.1 h0
    rw [this, ← h]; rfl
  · split at h
    · split at h
      · cases h
      · injection h with h; exact h.symm
    · cases h
/-- Split at / of what is behind the first byte -/
def slashB : ByteArray := ⟨#[47]⟩
theorem splitB_cut (s : ByteArray) : (splitB slashB 0 (countB s slashB) s).map (·.data.toList) = cut s.data.toList := by
  rw [splitB_data]; exact split_eq s.data.toList
theorem ext_list (s : ByteArray) (a : Nat) : (s.extract a s.size).data.toList = s.data.toList.drop a := by
  rw [ByteArray.data_extract, Array.toList_extract, List.extract_eq_take_drop]
  exact List.take_of_length_le (by rw [List.length_drop]; exact Nat.le_refl _)
theorem split_steps {s : ByteArray} (h : 0 < s.size) : (splitB slashB 0 (countB (s.extract 1 s.size) slashB) (s.extract 1 s.size)).map (fun q => unesc q.data.toList) = steps s.data.toList := by
  have h1 := splitB_cut (s.extract 1 s.size)
  rw [ext_list] at h1
  have h2 := congrArg (List.map unesc) h1
  rw [List.map_map] at h2
  have h3 : s.data.toList.drop 0 = s[0] :: s.data.toList.drop 1 := drop_at h
  rw [List.drop_zero] at h3
  rw [h3]
  show _ = go [] (s.data.toList.drop 1)
  rw [go_cut]
  exact h2
end Go.Proofs.YtmcacmhjhejfeaaGreatDoor.Sl
