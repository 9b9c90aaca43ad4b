/- Contract of the program's isNumber. -/
import Derived.Test.YtnenipgpncomeaaDoorDec
import Derived.Test.YtnenipgpncomeaaDoorInts
import Derived.Test.YtnenipgpncomeaaDoorShelfP
import Derived.Below
import Derived.Laws.RangeString
import Derived.Laws.RangeAny
import Derived.WalkSpells
namespace Go.Proofs.YtnenipgpncomeaaDoor.W2
open Go.RowKit
open De

/-- what has been looked through of the digits D -/
def okTo (D : List UInt8) (k : Nat) : Prop := (∀ i, i < k → isDig (D.getD i 0) = true) ∧ (2 ≤ k → D.getD 0 0 ≠ 48)
theorem okTo.zero (D : List UInt8) : okTo D 0 := ⟨fun i hi => absurd hi (by omega), fun h => absurd h (by omega)⟩
theorem okTo.succ {D : List UInt8} {k : Nat} (h : okTo D k) (h1 : isDig (D.getD k 0) = true) (h2 : k = 1 → D.getD 0 0 ≠ 48) : okTo D (k + 1) := by
  refine ⟨fun i hi => ?_, fun hk => ?_⟩
  · rcases Nat.lt_or_ge i k with h3 | h3
    · exact h.1 i h3
    · rw [show i = k by omega]; exact h1
  · rcases Nat.lt_or_ge k 2 with h3 | h3
    · exact h2 (by omega)
    · exact h.2 h3
theorem okTo.all {D : List UInt8} (h : okTo D D.length) (hne : D ≠ []) : formD D = true := by
  unfold formD
  simp only [Bool.and_eq_true, Bool.not_eq_true', List.all_eq_true, Bool.or_eq_true, decide_eq_true_eq]
  refine ⟨⟨by cases D <;> simp_all, fun c hc => ?_⟩, ?_⟩
  · obtain ⟨i, hi, rfl⟩ := List.mem_iff_getElem.1 hc
    have := h.1 i hi
    rwa [List.getD_eq_getElem?_getD, List.getElem?_eq_getElem hi] at this
  · rcases (by omega : D.length = 1 ∨ D.length ≤ 0 ∨ 2 ≤ D.length) with h1 | h1 | h1
    · exact .inl h1
    · exact absurd (List.eq_nil_of_length_eq_zero (by omega)) hne
    · right
      have := h.2 h1
      cases D with
      | nil => exact absurd rfl hne
      | cons c D => simpa using this
theorem form_stop {D : List UInt8} {k : Nat} (hk : k < D.length) (h : isDig (D.getD k 0) = false) : formD D = false := by
  rw [← Bool.not_eq_true]
  intro e
  unfold formD at e
  simp only [Bool.and_eq_true, List.all_eq_true] at e
  have := e.1.2 _ (List.getElem_mem hk)
  rw [List.getD_eq_getElem?_getD, List.getElem?_eq_getElem hk] at h
  simp only [Option.getD_some] at h
  rw [h] at this
  cases this
theorem form_lead {D : List UInt8} (hk : 1 < D.length) (h : D.getD 0 0 = 48) : formD D = false := by
  rw [← Bool.not_eq_true]
  intro e
  unfold formD at e
  simp only [Bool.and_eq_true, Bool.or_eq_true, decide_eq_true_eq, Bool.not_eq_true'] at e
  cases D with
  | nil => simp at hk
  | cons c D =>
    simp at h
    subst h
    simp at e
    simp at hk
    exact absurd e.2 (by rintro rfl; simp at hk)
theorem form_nil : formD [] = false := rfl

set_option maxRecDepth 100000 in
set_option maxHeartbeats 2000000 in
theorem isnum_any (s : ByteArray) (w : World) (hs : s.size ≤ 100000) :
    Calls Tryd.prog 54 #[.string s] w fun e w' => e = .returned (.bool (form s.data.toList)) ∧ Below w.heap.size w w' := by
  obtain ⟨D, HD⟩ : ∃ D, Hid (digs s.data.toList = D) := ⟨_, Lib.hid rfl⟩
  have Hf := Lib.hid (show form s.data.toList = formD D by unfold form; rw [HD.out])
  have hDl : D.length ≤ 100000 := by
    rw [← HD.out]
    unfold digs
    have : s.data.toList.length = s.size := Array.length_toList
    split
    · rw [List.length_tail]; omega
    · omega
  obtain ⟨S, HS⟩ : ∃ S : ByteArray, Hid ((⟨(Lib.trimPrefix s.data.toList [45]).toArray⟩ : ByteArray) = S) := ⟨_, Lib.hid rfl⟩
  have HSL := Lib.hid (show S.data.toList = D by rw [← HS.out, trim_digs, HD.out])
  have HSs := Lib.hid (show S.size = D.length by rw [← HSL.out, Array.length_toList]; rfl)
  have htrim : Calls Tryd.prog 67 #[.string s, .string ⟨#[45]⟩] w fun e w' => e = .returned (.string S) ∧ w = w' := by
    refine (Tryd.strings_TrimPrefix s ⟨#[45]⟩ w).mono ?_
    rintro e w' ⟨rfl, rfl⟩
    exact ⟨by rw [← HS.out], rfl⟩
  have Htrim := Lib.hid htrim
  clear htrim
  rw [Hf.out]
  go_enter Tryd.func54, Tryd.ntmps54
  go_wp2_with fail
  refine Htrim.out.mono ?_
  rintro e w' ⟨rfl, rfl⟩
  go_wp2_with fail
  go_loopw [4, 5] (fun _ _ wr => ∃ k : Nat, k ≤ D.length ∧ okTo D k ∧ wr = w.iter S k) (fun _ _ wr => S.size + 1 - wr.iterPos w.heap.size)
  case atStart => exact ⟨0, Nat.zero_le _, okTo.zero D, rfl⟩
  case round =>
    obtain ⟨k, hk, hok, rfl⟩ := hrel
    have Hok := Lib.hid hok
    clear hok
    by_cases hlt : k < D.length
    · have hpos : k < S.size := by rw [HSs.out]; exact hlt
      cases hd : isDig (D.getD k 0) with
      | false =>
        have Hst := Lib.hid (form_stop hlt hd)
        have hnd : ¬ (48 ≤ (D.getD k 0).toNat ∧ (D.getD k 0).toNat ≤ 57) := by rw [← dig_iff, hd]; simp
        have hr : (Utf8.decode S k).1 < 48 ∨ 57 < (Utf8.decode S k).1 := by
          rcases Nat.lt_or_ge (S.data.toList.getD k 0).toNat 128 with h | h
          · rw [De.decode_low S k hpos h, HSL.out]; show (D.getD k 0).toNat < 48 ∨ 57 < (D.getD k 0).toNat; omega
          · have h2 := De.decode_high S k hpos (Nat.not_lt.2 h); omega
        have hnx : ∀ ty, (Instr.next (.pointer (some ⟨w.heap.size, 0, none⟩)) true ty).run Tryd.prog (w.iter S k) = .ok (.tuple #[.bool true, .int .i64 k, .int .i32 (Utf8.decode S k).1]) (w.iter S (k + (Utf8.decode S k).2)) := fun ty => run_next_any w S k ty hpos
        generalize (Utf8.decode S k).1 = r at *
        generalize k + (Utf8.decode S k).2 = q at *
        clear hd hnd
        rcases hr with hr | hr
        · have x1 : decide ((r : Int) < 48) = true := decide_eq_true (by omega)
          go_wp2_with fail
          go_ret
          exact ⟨ret_bool Hst.out.symm, (Below.refl _ _).alloc (Nat.le_refl _) _⟩
        · have x1 : decide ((r : Int) < 48) = false := decide_eq_false (by omega)
          have x2 : decide ((57 : Int) < (r : Int)) = true := decide_eq_true (by omega)
          go_wp2_with fail
          go_ret
          exact ⟨ret_bool Hst.out.symm, (Below.refl _ _).alloc (Nat.le_refl _) _⟩
      | true =>
        have hc := (dig_iff _).1 hd
        have hdec := De.decode_low S k hpos (by rw [HSL.out]; omega)
        rw [HSL.out] at hdec
        have hnx : ∀ ty, (Instr.next (.pointer (some ⟨w.heap.size, 0, none⟩)) true ty).run Tryd.prog (w.iter S k) = .ok (.tuple #[.bool true, .int .i64 k, .int .i32 (D.getD k 0).toNat]) (w.iter S (k + 1)) := by
          intro ty
          rw [run_next_any w S k ty hpos, hdec]
        have Hd := Lib.hid hd
        have hmeas : D.length = S.size := HSs.out.symm
        obtain ⟨c0, c1⟩ := hc
        clear hdec hd
        by_cases h1 : k = 1
        · subst h1
          have hS0 : 0 < S.size := by omega
          have he : ∀ h, (S[0]'h).toNat = (D.getD 0 0).toNat := by
            intro h
            have h2 : S.data.toList.getD 0 0 = D.getD 0 0 := by rw [HSL.out]
            rw [← h2, List.getD_eq_getElem?_getD, Array.getElem?_toList]
            rcases S with ⟨d⟩
            have hd : 0 < d.size := h
            simp [hd]; rfl
          generalize (D.getD 1 0).toNat = x at *
          have x1 : decide ((x : Int) < 48) = false := decide_eq_false (by omega)
          have x2 : decide ((57 : Int) < (x : Int)) = false := decide_eq_false (by omega)
          by_cases hz : D.getD 0 0 = 48
          · have Hst := Lib.hid (form_lead hlt hz)
            have t5 : (((D[0]'(by omega)).toNat : Int) == 48) = true := by
              rw [List.getD_eq_getElem?_getD, List.getElem?_eq_getElem (by omega : 0 < D.length)] at hz
              simp only [Option.getD_some] at hz
              rw [hz]; rfl
            clear hz
            go_wp2_with fail
            go_ret
            exact ⟨ret_bool Hst.out.symm, (Below.refl _ _).alloc (Nat.le_refl _) _⟩
          · have Hs := Lib.hid (Hok.out.succ Hd.out (fun _ => hz))
            have t5 : (((D[0]'(by omega)).toNat : Int) == 48) = false := by
              rw [List.getD_eq_getElem?_getD, List.getElem?_eq_getElem (by omega : 0 < D.length)] at hz
              simp only [Option.getD_some] at hz
              have : (D[0]'(by omega)).toNat ≠ 48 := fun h => hz (UInt8.toNat_inj.1 (by rw [h]; rfl))
              simp; omega
            clear hz
            go_wp2_with fail
            go_roundw
            case rel => exact ⟨2, by omega, Hs.out, rfl⟩
            case measure => simp; omega
        · have t1 : ((k : Int) == 1) = false := by simp; omega
          have Hs := Lib.hid (Hok.out.succ Hd.out (fun e => absurd e h1))
          generalize (D.getD k 0).toNat = x at *
          have x1 : decide ((x : Int) < 48) = false := decide_eq_false (by omega)
          have x2 : decide ((57 : Int) < (x : Int)) = false := decide_eq_false (by omega)
          clear h1
          go_wp2_with fail
          go_roundw
          case rel => exact ⟨k + 1, by omega, Hs.out, rfl⟩
          case measure => simp; omega
    · obtain rfl : D.length = k := by omega
      have hend : ¬ D.length < S.size := by have := HSs.out; omega
      have hnx : ∀ ty, (Instr.next (.pointer (some ⟨w.heap.size, 0, none⟩)) true ty).run Tryd.prog (w.iter S D.length) = _ := fun ty => run_next_end w S D.length ty hend
      by_cases hD : D = []
      · have hS : S.toList.isEmpty = true := by rw [ByteArray.toList_eq, HSL.out, hD]; rfl
        have HF := Lib.hid (show formD D = false by rw [hD]; rfl)
        clear hD hend
        go_wp2_with fail
        go_ret
        exact ⟨ret_bool HF.out.symm, (Below.refl _ _).alloc (Nat.le_refl _) _⟩
      · have hS : S.toList.isEmpty = false := by
          rw [ByteArray.toList_eq, HSL.out]
          cases D with
          | nil => exact absurd rfl hD
          | cons c D => rfl
        have HF := Lib.hid (Hok.out.all hD)
        clear hD hend
        go_wp2_with fail
        go_ret
        exact ⟨ret_bool HF.out.symm, (Below.refl _ _).alloc (Nat.le_refl _) _⟩
end Go.Proofs.YtnenipgpncomeaaDoor.W2
