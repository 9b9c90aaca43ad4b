/- Contract of the reference's Text. -/
import Derived.Test.YtfiahpeajccinaaGreatDoorQA
import Derived.Test.YtfiahpeajccinaaGreatDoorPA
import Derived.Test.YtfiahpeajccinaaGreatDoorPC
import Derived.Below
import Derived.Laws.RangeString
import Derived.WalkSpells
namespace Go.Proofs.YtfiahpeajccinaaGreatDoor.W2
open Go.RowKit
open Fg De

/-- N's digits, as far as they are laid down: M is still to come, ahead of T -/
def Tx (N M : Nat) (T : List UInt8) : Prop := (0 < M ∧ Lib.decDigits N = Lib.decDigits M ++ T) ∨ (M = 0 ∧ T = Lib.decDigits N)
theorem Tx.start {N : Nat} (h : 0 < N) : Tx N N [] := .inl ⟨h, by simp⟩
theorem Tx.done {N : Nat} {T : List UInt8} (h : Tx N 0 T) : T = Lib.decDigits N := by
  rcases h with ⟨h, _⟩ | ⟨_, h⟩
  · omega
  · exact h
theorem dec_small {M : Nat} (h : M < 10) : Lib.decDigits M = [UInt8.ofNat (48 + M)] := by rw [Lib.decDigits, dif_pos h]
theorem dec_big {M : Nat} (h : ¬ M < 10) : Lib.decDigits M = Lib.decDigits (M / 10) ++ [UInt8.ofNat (48 + M % 10)] := by
  conv => lhs; rw [Lib.decDigits]
  rw [dif_neg h]
theorem Tx.step {N M : Nat} {T : List UInt8} (h : Tx N M T) (hm : 0 < M) : Tx N (M / 10) (UInt8.ofNat (48 + M % 10) :: T) := by
  rcases h with ⟨_, h⟩ | ⟨h, _⟩
  · by_cases h10 : M < 10
    · right
      rw [dec_small h10] at h
      exact ⟨by omega, by rw [h, show M % 10 = M by omega]; rfl⟩
    · left
      rw [dec_big h10] at h
      exact ⟨by omega, by rw [h, List.append_assoc]; rfl⟩
  · omega
theorem drop_pos {N j : Nat} (h : j < (figs N).length) : 0 < val ((figs N).drop j) := by
  induction j generalizing N with
  | zero =>
    rw [List.drop_zero, val_figs]
    rcases Nat.eq_zero_or_pos N with rfl | hn
    · rw [figs_zero] at h; simp at h
    · omega
  | succ j ih =>
    rcases Nat.eq_zero_or_pos N with rfl | hn
    · rw [figs_zero] at h; simp at h
    · rw [figs_pos hn, List.length_cons] at h
      rw [figs_pos hn, List.drop_succ_cons]
      exact ih (by omega)
theorem digit_bytes (d : Nat) (h : d < 10) : ((⟨#[48, 49, 50, 51, 52, 53, 54, 55, 56, 57]⟩ : ByteArray).extract d (d + 1)).data.toList = [UInt8.ofNat (48 + d)] := by
  match d, h with
  | 0, _ | 1, _ | 2, _ | 3, _ | 4, _ | 5, _ | 6, _ | 7, _ | 8, _ | 9, _ => rfl
theorem size_len (a : ByteArray) : a.size = a.data.toList.length := (Array.length_toList (xs := a.data)).symm
theorem bytes_eq {a b : ByteArray} (h : a.data.toList = b.data.toList) : a = b := by
  obtain ⟨⟨x⟩⟩ := a
  obtain ⟨⟨y⟩⟩ := b
  have : x = y := h
  rw [this]
theorem app_bytes (a b : ByteArray) : (a ++ b).data.toList = a.data.toList ++ b.data.toList := by simp

set_option maxRecDepth 100000 in
set_option maxHeartbeats 4000000 in
theorem rtext_loop (sa : Bool) (N : Nat) (A : Option Addr) (c : Nat) (w : World) (hN : 0 < N) (hl : (figs N).length ≤ 100) (hr : Reads w w.heap.size A (figs N)) :
    Calls Tryz.prog 32 #[.agg #[.bool sa, .slice A (figs N).length c]] w fun e w' => e = .returned (.string ⟨((if sa = true then [45] else []) ++ Lib.decDigits N).toArray⟩) ∧ Below w.heap.size w w' := by
  have Hr := Lib.hid hr
  have HN := Lib.hid hN
  have hpos : 0 < (figs N).length := by rw [figs_pos hN]; simp
  have Hd := Lib.hid (dig_figs N)
  have Hv := Lib.hid (val_figs N)
  have Hdrop := Lib.hid (fun j h => drop_pos (N := N) (j := j) h)
  clear hr hN
  generalize figs N = l at *
  have t0 : ((l.length : Int) == 0) = false := by rw [beq_eq_false_iff_ne]; omega
  cases sa
  all_goals
    go_enter Tryz.func32, Tryz.ntmps32
    go_wp2_with fail
    go_loop [3, 4, 5, 6, 14] (fun sv _ _ _ iv => ∃ (i : Nat) (B : ByteArray), i ≤ l.length ∧ iv = .int .i64 i ∧ sv = .string B ∧ B.size ≤ 4 * i ∧ Tx N (val (l.drop i)).toNat B.data.toList) (fun _ _ _ _ iv => l.length - (intOf iv).toNat)
    case atStart => exact ⟨0, ⟨#[]⟩, Nat.zero_le _, rfl, rfl, Nat.zero_le _, by rw [List.drop_zero, Hv.out]; exact Tx.start HN.out⟩
    case round =>
      obtain ⟨i, B, hi, rfl, rfl, hB, htx⟩ := hrel
      have Htx := Lib.hid htx
      clear htx
      by_cases hlt : i < l.length
      · have u1 : decide (i < l.length) = true := decide_eq_true hlt
        obtain ⟨b1, o1, rfl, ⟨hb1, _⟩, c1⟩ := Hr.out (by rintro rfl; simp at hlt)
        have e1 := c1 i hlt
        have hv := val_drop_succ l i hlt
        have hx := dig_getD Hd.out i
        have hR := (val_bd (dig_drop Hd.out (i + 1))).1
        have hRp : (0 < val (l.drop (i + 1))) ↔ i + 1 < l.length := by
          constructor
          · intro h
            rcases Nat.lt_or_ge (i + 1) l.length with h2 | h2
            · exact h2
            · rw [List.drop_eq_nil_of_le h2] at h; simp [val] at h
          · intro h; exact Hdrop.out _ h
        clear c1
        rw [hv] at Htx
        clear hv
        obtain ⟨x, hxn⟩ : ∃ x : Nat, l.getD i 0 = (x : Int) := ⟨(l.getD i 0).toNat, by omega⟩
        rw [hxn] at e1 hx Htx
        have HR0 : ∃ R : Nat, val (l.drop (i + 1)) = (R : Int) := ⟨(val (l.drop (i + 1))).toNat, by omega⟩
        obtain ⟨R, hRe⟩ := HR0
        rw [hRe] at hRp Htx
        have HR := Lib.hid hRe
        have HRp := Lib.hid (show 0 < R ↔ i + 1 < l.length by rw [← hRp]; omega)
        have Htx := Lib.hid (show Tx N (x + 10000 * R) B.data.toList by have := Htx.out; rwa [show ((x : Int) + 10000 * (R : Int)).toNat = x + 10000 * R by omega] at this)
        have hx2 : x < 10000 := by omega
        clear hRp hRe hxn hx hR
        go_wp2_with fail
        go_loop [3, 5, 6] (fun sv fv kv => ∃ (k f p : Nat) (C : ByteArray), k ≤ 4 ∧ kv = .int .i64 k ∧ fv = .int .i64 f ∧ sv = .string C ∧ p * 10 ^ k = 10000 ∧ f < p ∧ C.size ≤ 4 * i + k ∧ Tx N (f + p * R) C.data.toList) (fun _ _ kv => 4 - (intOf kv).toNat)
        case atStart => exact ⟨0, x, 10000, B, by decide, rfl, rfl, rfl, by decide, hx2, by omega, Htx.out⟩
        case round =>
          obtain ⟨k, f, p, C, hk, rfl, rfl, rfl, hp, hf, hC, htx2⟩ := hrel
          have Hp := Lib.hid hp
          have Ht := Lib.hid htx2
          have hfb : f < 10000 := by
            have : 1 ≤ 10 ^ k := Nat.one_le_pow _ _ (by decide)
            have : p * 1 ≤ p * 10 ^ k := Nat.mul_le_mul_left _ this
            omega
          clear hp htx2
          by_cases hk4 : k < 4
          · have hq : ∃ q, p = 10 * q ∧ q * 10 ^ (k + 1) = 10000 := by
              have h1 := Hp.out
              have : k = 0 ∨ k = 1 ∨ k = 2 ∨ k = 3 := by omega
              rcases this with rfl | rfl | rfl | rfl
              · exact ⟨1000, by omega, by decide⟩
              · exact ⟨100, by omega, by decide⟩
              · exact ⟨10, by omega, by decide⟩
              · exact ⟨1, by omega, by decide⟩
            obtain ⟨q, hpq, hq2⟩ := hq
            have Hq2 := Lib.hid hq2
            have hM : f + p * R = f + 10 * (q * R) := by rw [hpq, Nat.mul_assoc]
            have HM := Lib.hid hM
            have hfq : f / 10 < q := by omega
            have HZ := Lib.hid (show 0 < f ∨ 0 < R → 0 < f + 10 * (q * R) by
              rintro (h | h)
              · omega
              · have h2 : 0 < q := by omega
                have := Nat.mul_pos h2 h
                omega)
            clear hM hq2
            subst hpq
            by_cases hf0 : 0 < f
            · have x1 : decide ((0 : Int) < (f : Int)) = true := decide_eq_true (by omega)
              have Hs := Lib.hid ((HM.out ▸ Ht.out).step (HZ.out (.inl hf0)))
              go_wp2_with fail
              go_round
              case rel =>
                refine ⟨k + 1, f / 10, q, _, by omega, by go_num, by simp, rfl, Hq2.out, hfq, ?_, ?_⟩
                · rw [size_len, app_bytes, digit_bytes _ (by omega), List.length_append, ← size_len, List.length_singleton]; omega
                · rw [app_bytes, digit_bytes _ (by omega)]
                  have h1 := Hs.out
                  rw [show (f + 10 * (q * R)) / 10 = f / 10 + q * R by omega, show (f + 10 * (q * R)) % 10 = f % 10 by omega] at h1
                  exact h1
              case measure => simp [intOf]; omega
            · have x1 : decide ((0 : Int) < (f : Int)) = false := decide_eq_false (by omega)
              by_cases hR0 : 0 < R
              · have hil := HRp.out.1 hR0
                have x2 : decide ((i : Int) + 1 < (l.length : Int)) = true := decide_eq_true (by omega)
                have x3 : decide (i + 1 < l.length) = true := decide_eq_true hil
                have Hs := Lib.hid ((HM.out ▸ Ht.out).step (HZ.out (.inr hR0)))
                go_wp2_with fail
                go_round
                case rel =>
                  refine ⟨k + 1, f / 10, q, _, by omega, by go_num, by simp, rfl, Hq2.out, hfq, ?_, ?_⟩
                  · rw [size_len, app_bytes, digit_bytes _ (by omega), List.length_append, ← size_len, List.length_singleton]; omega
                  · rw [app_bytes, digit_bytes _ (by omega)]
                    have h1 := Hs.out
                    rw [show (f + 10 * (q * R)) / 10 = f / 10 + q * R by omega, show (f + 10 * (q * R)) % 10 = f % 10 by omega] at h1
                    exact h1
                case measure => simp [intOf]; omega
              · have hil : ¬ i + 1 < l.length := fun h => hR0 (HRp.out.2 h)
                have x2 : decide ((i : Int) + 1 < (l.length : Int)) = false := decide_eq_false (by omega)
                have x3 : decide (i + 1 < l.length) = false := decide_eq_false hil
                have Hs := Lib.hid (show Tx N (f / 10 + q * R) C.data.toList by
                  have h1 := Ht.out
                  obtain rfl : f = 0 := by omega
                  obtain rfl : R = 0 := by omega
                  simpa using h1)
                go_wp2_with fail
                go_round
                case rel => exact ⟨k + 1, f / 10, q, _, by omega, by go_num, by simp, rfl, Hq2.out, hfq, by omega, Hs.out⟩
                case measure => simp [intOf]; omega
          · obtain rfl : k = 4 := by omega
            have hp1 : p = 1 := by have := Hp.out; omega
            have Hs := Lib.hid (show Tx N (val (l.drop (i + 1))).toNat C.data.toList by
              have h1 := Ht.out
              subst hp1
              obtain rfl : f = 0 := by omega
              rw [HR.out, Int.toNat_natCast]
              rwa [Nat.zero_add, Nat.one_mul] at h1)
            clear hp1
            go_wp2_with fail
            go_round
            case rel => exact ⟨i + 1, C, by omega, by go_num, rfl, by omega, Hs.out⟩
            case measure => simp [intOf]; omega
      · obtain rfl : l.length = i := by omega
        have u1 : decide (l.length < l.length) = false := decide_eq_false (by omega)
        have Hb := Lib.hid (show B.data.toList = Lib.decDigits N by have := Htx.out; rw [List.drop_length] at this; exact this.done)
        go_wp2_with fail
        go_ret
        refine ⟨congrArg Ending.returned (congrArg Value.string (bytes_eq ?_)), (Below.refl _ _).alloc (Nat.le_refl _) _⟩
        first
          | exact Hb.out
          | (rw [app_bytes, Hb.out]; simp)
theorem rtext_any (x : Value) (z : Int) (w : World) (hx : Nz w w.heap.size x z) (hz : Sm 100 z) :
    Calls Tryz.prog 32 #[x] w fun e w' => e = .returned (.string ⟨(Lib.itoa z).toArray⟩) ∧ Below w.heap.size w w' := by
  obtain ⟨A, c, rfl, hc, hr⟩ := hx
  by_cases h0 : z = 0
  · subst h0
    have hf : figs (0 : Int).natAbs = [] := by rw [Int.natAbs_zero, figs_zero]
    have hi : Lib.itoa 0 = [48] := by unfold Lib.itoa; rw [if_neg (by decide)]; show Lib.decDigits 0 = [48]; rw [dec_small (by decide)]; rfl
    rw [hf, hi]
    clear hz hc hr hf hi
    go_enter Tryz.func32, Tryz.ntmps32
    go_wp2_with fail
    go_ret
    exact ⟨rfl, (Below.refl _ _).alloc (Nat.le_refl _) _⟩
  · have h1 := rtext_loop (decide (z < 0)) z.natAbs A c w (by omega) hz.len hr
    refine h1.mono ?_
    rintro e w' ⟨rfl, hb⟩
    refine ⟨?_, hb⟩
    unfold Lib.itoa
    by_cases h2 : z < 0
    · simp [h2]
    · have h3 : z.toNat = z.natAbs := by omega
      simp [h2, h3]
end Go.Proofs.YtfiahpeajccinaaGreatDoor.W2
