/- More blanks beside those between an expression's parts, and about it, change nothing of its tree (tied card). -/
import Derived.Test.YtofgmddlacenhaaGreatDoorCards
import Derived.Test.YtofgmddlacenhaaGreatDoorTie
import Derived.WalkKit
import Derived.ProofKit
import Derived.OpenShut
import Derived.ChangeOld
import Derived.ShutString
import Derived.Below
import Derived.LaidMore
import Derived.Lib.LaidTab
import Derived.Stop.Joined
import Derived.Stop.LaidErr
import Derived.SevenTiedAt
import Derived.Lay
import Derived.Test.YtofgmddlacenhaaGreatDoorES
import Derived.Test.YtofgmddlacenhaaGreatDoorYZ
import Derived.Test.YtofgmddlacenhaaGreatDoorOB
import Derived.Test.YtofgmddlacenhaaGreatDoorEL3
set_option linter.unusedVariables false
set_option maxRecDepth 100000
set_option maxHeartbeats 8000000
open Go.Lib (hid)
namespace Go.Proofs.YtofgmddlacenhaaGreatDoor.exprBlanks
open Go.ChangeShapes Go.WideShapes Go.ChangeAt Go.RowKit
open Go.ChangeMaps (open_string shut_string)
open Tk Pl
theorem own : ownKnob Tryz.prog.godebug = none := by kernel_rfl
theorem laidOut : laidOutB Tryz.prog = true := by kernel_rfl
theorem gRange : Tryz.prog.globalNamed "strconv.ErrRange" = some 7 := by kernel_rfl
theorem star : "*" ++ "errors.errorString" = "*errors.errorString" := by decide
theorem rowPtr (u : TypeId) (h : Tryz.prog.typeName? 3 u = some "*errors.errorString") : u = 267 :=
 typeName_ptr_named (nm := "errors.errorString") (by rw [star]; kernel_rfl) (by kernel_rfl) (by decide) u (by rw [star]; exact h)
theorem errs {W : World} (h : laidMetH Tryz.prog Rows.exprBlanksRow.laid W) : RangeErr W := by
 have h' : laidMet Tryz.prog Rows.exprBlanksRow.laid W := h
 obtain ⟨a, s, hv, _⟩ := laid_sentinel h'.tail.tail.tail.tail gRange (by kernel_rfl) Tryz.underlying94 rowPtr Tryz.underlying267 Tryz.underlying269 rfl rfl Tryz.underlying9 (by kernel_rfl) (by kernel_rfl)
 exact ⟨_, _, hv⟩
theorem gPow5 : Tryz.prog.globalNamed "internal/strconv.uint64pow10" = some 3 := by kernel_rfl
theorem table {W : World} (h : laidMetH Tryz.prog Rows.exprBlanksRow.laid W) : Lib.TabIs Tryz.prog W "internal/strconv.uint64pow10" .u64 Lib.pow10Tab := by
 have h' : laidMet Tryz.prog Rows.exprBlanksRow.laid W := h
 exact Lib.tabIs_of_head (rest := _) gPow5 (by kernel_rfl) Tryz.underlying221 Tryz.underlying144 (by kernel_rfl) (by kernel_rfl) h'.tail.tail
open Ex
theorem parse_p0 {s : ByteArray} {e : E} {p0 : Nat} (h : parse s = .ok e p0) : p0 = 0 := by
 unfold parse at h
 split at h
 · cases h
 ·
  cases hx : top s 0 with
  | err q c => rw [hx] at h; cases h
  | out => rw [hx] at h; cases h
  | ok e' p =>
   rw [hx] at h
   dsimp only at h
   split at h
   · cases h
   ·
    split at h
    · cases h
    ·
     injection h with h4 h5
     exact h5.symm
def gapN (k : Nat) : ByteArray := if k = 0 then ⟨#[]⟩ else if k = 1 then ⟨#[32]⟩ else if k = 2 then ⟨#[9]⟩ else if k = 3 then ⟨#[13, 10]⟩ else ⟨#[32, 32]⟩
theorem case5 {P : Nat → Prop} (h0 : P 0) (h1 : P 1) (h2 : P 2) (h3 : P 3) (h4 : P 4) (k : Nat) (hk : k < 5) : P k := by
 rcases (by omega : k = 0 ∨ k = 1 ∨ k = 2 ∨ k = 3 ∨ k = 4) with rfl | rfl | rfl | rfl | rfl <;> assumption
theorem gap_bl : ∀ k, k < 5 → ∀ x ∈ (gapN k).data.toList, isBl x.toNat = true := case5 (by decide) (by decide) (by decide) (by decide) (by decide)
theorem gap_size : ∀ k, k < 5 → (gapN k).size ≤ 2 := case5 (by decide) (by decide) (by decide) (by decide) (by decide)
theorem index5g (w : World) (k : Nat) (hk : k < 5) : (Instr.index 55 (.agg #[.string ⟨#[]⟩, .string ⟨#[32]⟩, .string ⟨#[9]⟩, .string ⟨#[13, 10]⟩, .string ⟨#[32, 32]⟩]) (.int .u8 (k : Int))).run Tryz.prog w = .ok (.string (gapN k)) w := by
 rcases (by omega : k = 0 ∨ k = 1 ∨ k = 2 ∨ k = 3 ∨ k = 4) with rfl | rfl | rfl | rfl | rfl <;> kernel_rfl
theorem one_at {s : ByteArray} {i : Nat} (hi : i < s.size) : ∃ c : UInt8, (s.extract i (i + 1)).data.toList = [c] ∧ c.toNat = bt s i := by
 obtain ⟨c, hc, hb⟩ := dropl hi
 refine ⟨c, ?_, hb.symm⟩
 have h := sub_list s i (i + 1)
 rw [hc, show i + 1 - i = 1 by omega] at h
 exact h
theorem one_size {s : ByteArray} {i : Nat} (hi : i < s.size) : (s.extract i (i + 1)).size = 1 := by
 obtain ⟨c, h, _⟩ := one_at hi
 have := congrArg List.length h
 exact this
structure Rd8 (s : ByteArray) (m i nn : Nat) (qd : Bool) (A : ByteArray) : Prop where
 hi : i ≤ s.size
 hn : nn ≤ m
 on : On s qd i
 pre : ∃ W, A.data.toList = 10 :: W ∧ Pre s qd i W ∧ W.length ≤ i + 2 * nn
theorem Rd8.len {s : ByteArray} {m i nn : Nat} {qd : Bool} {A : ByteArray} (h : Rd8 s m i nn qd A) : A.size ≤ 1 + i + 2 * nn := by
 obtain ⟨W, h1, _, h2⟩ := h.pre
 have := congrArg List.length h1
 have h3 : A.data.toList.length = A.size := rfl
 rw [List.length_cons] at this
 omega
theorem Rd8.quo {s : ByteArray} {m i nn : Nat} {qd : Bool} {A : ByteArray} (h : Rd8 s m i nn qd A) (hi : i < s.size) (h1 : bt s i = 34) : Rd8 s m (i + 1) nn (!qd) (A ++ s.extract i (i + 1)) := by
 obtain ⟨W, h2, h3, h4⟩ := h.pre
 obtain ⟨c, hc, hb⟩ := one_at hi
 exact ⟨hi, h.hn, h.on.quo hi h1, W ++ [c], by rw [cat8, h2, hc]; rfl, h3.quo hi h1 hb, by rw [List.length_append, List.length_singleton]; omega⟩
theorem Rd8.slash {s : ByteArray} {m i nn : Nat} {A : ByteArray} (h : Rd8 s m i nn true A) (hi : i < s.size) (h1 : bt s i = 92) : i + 1 < s.size ∧ Rd8 s m (i + 2) nn true (A ++ s.extract i (i + 1) ++ s.extract (i + 1) (i + 1 + 1)) := by
 obtain ⟨hi1, hon⟩ := h.on.slash h1
 obtain ⟨W, h2, h3, h4⟩ := h.pre
 obtain ⟨c, hc, hb⟩ := one_at hi
 obtain ⟨d, hd, hdb⟩ := one_at hi1
 exact ⟨hi1, hi1, h.hn, hon, W ++ [c] ++ [d], by rw [cat8, cat8, h2, hc, hd]; simp, h3.slash hi1 h1 hb hdb, by simp only [List.length_append, List.length_singleton]; omega⟩
theorem Rd8.inn {s : ByteArray} {m i nn : Nat} {A : ByteArray} (h : Rd8 s m i nn true A) (hi : i < s.size) (h1 : bt s i ≠ 34) (h0 : bt s i ≠ 92) : Rd8 s m (i + 1) nn true (A ++ s.extract i (i + 1)) := by
 obtain ⟨W, h2, h3, h4⟩ := h.pre
 obtain ⟨c, hc, hb⟩ := one_at hi
 exact ⟨hi, h.hn, h.on.inn_ hi h1 h0, W ++ [c], by rw [cat8, h2, hc]; rfl, h3.inn hi h1 h0 hb, by rw [List.length_append, List.length_singleton]; omega⟩
theorem Rd8.raw {s : ByteArray} {m i nn : Nat} {A : ByteArray} (h : Rd8 s m i nn false A) (hi : i < s.size) (h1 : bt s i ≠ 34) : Rd8 s m (i + 1) nn false (A ++ s.extract i (i + 1)) := by
 obtain ⟨W, h2, h3, h4⟩ := h.pre
 obtain ⟨c, hc, hb⟩ := one_at hi
 exact ⟨hi, h.hn, h.on.raw_ hi h1, W ++ [c], by rw [cat8, h2, hc]; rfl, h3.raw hi h1 hb (.inl rfl) (fun x hx => by cases hx), by rw [List.length_append, List.length_singleton]; omega⟩
theorem Rd8.gap {s : ByteArray} {m i nn k : Nat} {A : ByteArray} (h : Rd8 s m i nn false A) (hi : i < s.size) (h1 : isBl (bt s i) = true) (hk : k < 5) (hm : nn < m) : Rd8 s m (i + 1) (nn + 1) false (A ++ s.extract i (i + 1) ++ gapN k) := by
 obtain ⟨W, h2, h3, h4⟩ := h.pre
 obtain ⟨c, hc, hb⟩ := one_at hi
 have hg := gap_size k hk
 have hgl : (gapN k).data.toList.length = (gapN k).size := rfl
 exact ⟨hi, hm, h.on.raw_ hi (bl_not34 _ h1), W ++ (c :: (gapN k).data.toList), by rw [cat8, cat8, h2, hc]; simp, h3.raw hi (bl_not34 _ h1) hb (.inr h1) (gap_bl k hk), by rw [List.length_append, List.length_cons]; omega⟩
theorem Rd8.end_ {s : ByteArray} {m i nn : Nat} {qd : Bool} {A : ByteArray} {e : E} {p0 : Nat} (h : Rd8 s m i nn qd A) (hi : s.size ≤ i) (hp : parse s = .ok e p0) (hs : s.size ≤ 600) (hm : m ≤ 50) : parse (A ++ ⟨#[32]⟩) = .ok e 0 ∧ (A ++ ⟨#[32]⟩).size ≤ 2048 := by
 have hl := h.len
 have hn := h.hn
 have hi' := h.hi
 obtain ⟨W, h2, h3, h4⟩ := h.pre
 obtain ⟨rfl, rfl⟩ := h.on.end_ hi
 have hz : (A ++ ⟨#[32]⟩ : ByteArray).size ≤ 2048 := by rw [cat8_size]; show A.size + 1 ≤ 2048; omega
 exact ⟨(h3.parse hp (by rw [cat8, h2]; rfl) hz).2, hz⟩
theorem told0 {s : ByteArray} {x : E} {p : Nat} (h : parse s = .ok x p) (hs : s.size ≤ 2048) (w : World) (hr : RangeErr w) (hp : p = 0) : Calls Tryz.prog 12 #[.string s] w (Told x 0 0 w) := by
 subst hp
 exact xtold h hs (by intro h; cases h) w hr
theorem walkG (s : ByteArray) (B : Option Addr) (m mc : Nat) (w : World) (a : E) (hs : s.size ≤ 600) (hm : m ≤ 50) (hBy : Bytes8 w (· < w.heap.size) B m) (hA : ∀ w1, Calls Tryz.prog 8 #[.string s] w1 (Told a 0 0 w1)) (hp : parse s = .ok a 0) (hla : Lf a) (hza : a.size ≤ 3000) (hr : RangeErr w) (htb : Lib.TabIs Tryz.prog w "internal/strconv.uint64pow10" .u64 Lib.pow10Tab) :
 Calls Tryz.prog 5 #[.string s, .slice B m mc] w fun e w' => e = .returned (.bool true) ∧ Below w.heap.size w w' := by
 have HR := hid hr
 have HT := hid (tab_of8 htb)
 have HA := hid hA
 have HP := hid hp
 have HLA := hid hla
 have HBY := hid hBy
 clear hr htb hA hp hla hBy
 have u1 : decide ((s.size : Int) > 600) = false := decide_eq_false (by omega)
 have u2 : decide ((600 : Int) < (s.size : Int)) = false := decide_eq_false (by omega)
 have u3 : decide (600 < s.size) = false := decide_eq_false (by omega)
 have v1 : decide ((m : Int) > 50) = false := decide_eq_false (by omega)
 have v2 : decide ((50 : Int) < (m : Int)) = false := decide_eq_false (by omega)
 have v3 : decide (50 < m) = false := decide_eq_false (by omega)
 go_enter Tryz.func5, Tryz.ntmps5
 go_wp2_with fail
 refine (awake8_any _ HR.out HT.out.2).mono ?_
 rintro e w1 ⟨rfl, hb1⟩
 have H1 := hid hb1
 clear hb1
 go_wp2_with fail
 refine (HA.out _).mono ?_
 rintro e w2 ⟨⟨aA, a1, aB, a2, aC, a3⟩, rfl, hev, hb2⟩
 have H2 := hid (H1.out.trans (hb2.mono H1.out.size))
 have HEA := hid hev
 clear hb2 hev
 unfold ecs
 dsimp only
 go_upto_region 4 with fail
 refine alloc_gn (fun W2 hW kB => ?_)
 have H3 := hid (H2.out.trans (hW.mono H2.out.size))
 have HEA3 := hid (HEA.out.on hW)
 have KA := hid kB
 clear hW kB
 generalize w2.heap.size = f at *
 have HB3 := hid (bytes8_onw HBY.out H3.out)
 have HR3 := hid (HR.out.on H3.out)
 go_wp2_with fail
 go_loop [8, 9, 10, 11] (fun x y q z => ∃ (i nn : Nat) (qd : Bool) (A : ByteArray), Rd8 s m i nn qd A ∧ x = .string A ∧ y = .int .i64 nn ∧ q = .bool qd ∧ z = .int .i64 i) (fun _ _ _ z => s.size - (intOf z).toNat)
 case atStart => exact ⟨0, 0, false, ⟨#[10]⟩, ⟨Nat.zero_le _, Nat.zero_le _, parse_on HP.out, [], rfl, pre_zero s, Nat.zero_le _⟩, rfl, rfl, rfl, rfl⟩
 case round =>
  obtain ⟨i, nn, qd, A, hrd, rfl, rfl, rfl, rfl⟩ := hrel
  have HRD := hid hrd
  have hal := hrd.len
  have hnm := hrd.hn
  have his := hrd.hi
  clear hrd
  by_cases hlt : i < s.size
  ·
   have u4 : decide (i < s.size) = true := decide_eq_true hlt
   have u5 : decide ((i : Int) < (s.size : Int)) = true := decide_eq_true (by omega)
   have i1 : (i : Int) < (s.size : Int) := by omega
   have i2 : (0 : Int) ≤ (i : Int) := by omega
   have i3 : (i : Int) + 1 ≤ (s.size : Int) := by omega
   have hx := bt_at s i hlt
   have hoz := one_size hlt
   have c1 : ¬ (9223372036854775807 < A.size + (s.extract i (i + 1)).size) := by omega
   have c2 : ¬ ((9223372036854775807 : Int) < (A.size : Int) + ((s.extract i (i + 1)).size : Int)) := by omega
   have c3 : ¬ ((9223372036854775807 : Int) < ((A ++ s.extract i (i + 1)).size : Int)) := by rw [cat8_size]; omega
   have c4 : ¬ (9223372036854775807 < (A ++ s.extract i (i + 1)).size) := by rw [cat8_size]; omega
   have c5 : (A ++ s.extract i (i + 1)).size ≤ 702 := by rw [cat8_size]; omega
   have HBK := hid (fun w1 => rblanks_any s i w1 (by omega) (by omega))
   have HSP := hid (show ∀ h : isBl (bt s i) = false, span isBl s i = i from fun h => span_no h)
   have HSQ := hid (show ∀ h : isBl (bt s i) = true, i + 1 ≤ span isBl s i from fun h => by rw [span_yes hlt h]; exact span_ge _ _ _)
   have hspl : span isBl s i ≤ s.size := span_le _ his
   generalize span isBl s i = sp at *
   clear hoz
   by_cases h34 : bt s i = 34
   ·
    have t1 : ((s[i].toNat : Int) == 34) = true := beq_iff_eq.2 (by omega)
    have t2 : ((s[i].toNat : Int) == 92) = false := by rw [beq_eq_false_iff_ne]; omega
    have HN := hid (HRD.out.quo hlt h34)
    have hsp := HSP.out (by rw [h34]; decide)
    subst hsp
    have t3 : decide ((sp : Int) > (sp : Int)) = false := decide_eq_false (by omega)
    have t4 : decide ((sp : Int) < (sp : Int)) = false := decide_eq_false (by omega)
    have t5 : decide (sp < sp) = false := decide_eq_false (by omega)
    clear hx h34
    cases qd with
    | true =>
     go_wp2_with fail
     refine (HBK.out _).mono ?_
     rintro e w3 ⟨rfl, rfl⟩
     go_wp2_with fail
     go_round
     case rel => exact ⟨sp + 1, nn, false, _, HN.out, rfl, rfl, rfl, by go_num⟩
     case measure => simp [intOf]; omega
    | false =>
     go_wp2_with fail
     go_round
     case rel => exact ⟨sp + 1, nn, true, _, HN.out, rfl, rfl, rfl, by go_num⟩
     case measure => simp [intOf]; omega
   ·
    have t1 : ((s[i].toNat : Int) == 34) = false := by rw [beq_eq_false_iff_ne]; omega
    cases qd with
    | true =>
     by_cases h92 : bt s i = 92
     ·
      have t2 : ((s[i].toNat : Int) == 92) = true := beq_iff_eq.2 (by omega)
      obtain ⟨hi1, hn⟩ := HRD.out.slash hlt h92
      have HN := hid hn
      have i4 : (i : Int) + 1 < (s.size : Int) := by omega
      have i5 : (0 : Int) ≤ (i : Int) + 1 := by omega
      have i6 : (i : Int) + 1 + 1 ≤ (s.size : Int) := by omega
      have hoz := one_size hi1
      have d1 : ¬ (9223372036854775807 < (A ++ s.extract i (i + 1)).size + (s.extract (i + 1) (i + 1 + 1)).size) := by omega
      have d2 : ¬ ((9223372036854775807 : Int) < ((A ++ s.extract i (i + 1)).size : Int) + ((s.extract (i + 1) (i + 1 + 1)).size : Int)) := by omega
      have d3 : ¬ ((9223372036854775807 : Int) < ((A ++ s.extract i (i + 1) ++ s.extract (i + 1) (i + 1 + 1)).size : Int)) := by rw [cat8_size]; omega
      have d4 : ¬ (9223372036854775807 < (A ++ s.extract i (i + 1) ++ s.extract (i + 1) (i + 1 + 1)).size) := by rw [cat8_size]; omega
      clear hx h34 h92 hn hoz
      go_wp2_with fail
      go_round
      case rel => exact ⟨i + 2, nn, true, _, HN.out, rfl, rfl, rfl, by go_num⟩
      case measure => simp [intOf]; omega
     ·
      have t2 : ((s[i].toNat : Int) == 92) = false := by rw [beq_eq_false_iff_ne]; omega
      have HN := hid (HRD.out.inn hlt h34 h92)
      clear hx h34 h92
      go_wp2_with fail
      go_round
      case rel => exact ⟨i + 1, nn, true, _, HN.out, rfl, rfl, rfl, by go_num⟩
      case measure => simp [intOf]; omega
    | false =>
     cases hbl : isBl (bt s i) with
     | false =>
      have HN := hid (HRD.out.raw hlt h34)
      have hsp := HSP.out hbl
      subst hsp
      have t3 : decide ((sp : Int) > (sp : Int)) = false := decide_eq_false (by omega)
      have t4 : decide ((sp : Int) < (sp : Int)) = false := decide_eq_false (by omega)
      have t5 : decide (sp < sp) = false := decide_eq_false (by omega)
      clear hx h34 hbl
      go_wp2_with fail
      refine (HBK.out _).mono ?_
      rintro e w3 ⟨rfl, rfl⟩
      go_wp2_with fail
      go_round
      case rel => exact ⟨sp + 1, nn, false, _, HN.out, rfl, rfl, rfl, by go_num⟩
      case measure => simp [intOf]; omega
     | true =>
      have hsp := HSQ.out hbl
      have t3 : decide ((sp : Int) > (i : Int)) = true := decide_eq_true (by omega)
      have t4 : decide ((i : Int) < (sp : Int)) = true := decide_eq_true (by omega)
      have t5 : decide (i < sp) = true := decide_eq_true (by omega)
      by_cases hlm : nn < m
      ·
       have s1 : decide ((nn : Int) < (m : Int)) = true := decide_eq_true (by omega)
       have s2 : decide (nn < m) = true := decide_eq_true hlm
       obtain ⟨b, o, d, hB, _, hd0, hd1, hcell⟩ := HB3.out nn hlm
       obtain ⟨k, hk, hk5⟩ : ∃ k : Nat, d % 5 = (k : Int) ∧ k < 5 := ⟨(d % 5).toNat, by omega, by omega⟩
       have HN := hid (HRD.out.gap hlt hbl hk5 hlm)
       have HIX := hid (fun w1 => index5g w1 k hk5)
       have hgz := gap_size k hk5
       have hix := HIX.out
       have i7 : (nn : Int) < (m : Int) := by omega
       have i8 : (0 : Int) ≤ (nn : Int) := by omega
       have hk6 : d.tmod 5 = (k : Int) := by rw [Int.tmod_eq_emod_of_nonneg hd0]; exact hk
       generalize gapN k = gp at *
       have d1 : ¬ (9223372036854775807 < (A ++ s.extract i (i + 1)).size + gp.size) := by omega
       have d2 : ¬ ((9223372036854775807 : Int) < ((A ++ s.extract i (i + 1)).size : Int) + (gp.size : Int)) := by omega
       have d3 : ¬ ((9223372036854775807 : Int) < ((A ++ s.extract i (i + 1) ++ gp).size : Int)) := by rw [cat8_size]; omega
       have d4 : ¬ (9223372036854775807 < (A ++ s.extract i (i + 1) ++ gp).size) := by rw [cat8_size]; omega
       clear hx h34 hbl
       subst hB
       go_wp2_with fail
       refine (HBK.out _).mono ?_
       rintro e w3 ⟨rfl, rfl⟩
       go_wp2_with fail
       go_round
       case rel => exact ⟨i + 1, nn + 1, false, _, HN.out, rfl, by go_num, rfl, by go_num⟩
       case measure => simp [intOf]; omega
      ·
       have s1 : decide ((nn : Int) < (m : Int)) = false := decide_eq_false (by omega)
       have s2 : decide (nn < m) = false := decide_eq_false hlm
       have HN := hid (HRD.out.raw hlt h34)
       clear hx h34 hbl
       go_wp2_with fail
       refine (HBK.out _).mono ?_
       rintro e w3 ⟨rfl, rfl⟩
       go_wp2_with fail
       go_round
       case rel => exact ⟨i + 1, nn, false, _, HN.out, rfl, rfl, rfl, by go_num⟩
       case measure => simp [intOf]; omega
  ·
   have u4 : decide (i < s.size) = false := decide_eq_false hlt
   have u5 : decide ((i : Int) < (s.size : Int)) = false := decide_eq_false (by omega)
   obtain ⟨hpe, hpz⟩ := HRD.out.end_ (by omega) HP.out hs hm
   have HPE := hid (fun w1 h1 => told0 hpe hpz w1 h1 rfl)
   clear hpe hpz
   go_wp2_with fail
   refine (HPE.out _ HR3.out).mono ?_
   rintro e w8 ⟨⟨yA, y1, yB, y2, yC, y3⟩, rfl, hev, hb8⟩
   have H8 := hid (H3.out.trans (hb8.mono H3.out.size))
   have HEA8 := hid (HEA3.out.on hb8)
   have KA8 := hid (KA.out.onto hb8)
   have HEY := hid hev
   clear hb8 hev
   unfold ecs
   dsimp only
   go_upto_region 20 with fail
   refine alloc_gn (fun W9 hW kB => ?_)
   have H9 := hid (H8.out.trans (hW.mono H8.out.size))
   have hD : Below W9.heap.size W9 W9.drew := (Below.refl _ _).drew
   have HEA9 := hid ((HEA8.out.on hW).on hD)
   have HEY9 := hid ((HEY.out.on hW).on hD)
   have KA9 := hid ((KA8.out.onto hW).onto hD)
   have KY9 := hid (kB.onto hD)
   have H9D := hid (H9.out.trans (hD.mono H9.out.size))
   clear hW kB hD
   generalize w8.heap.size = p at *
   have HSA := hid (show ∀ w', Below W9.drew.heap.size W9.drew w' → ((w'.cell? ⟨p, 0, none⟩ = some (.string a.op) ∧ w'.cell? ⟨p, 1, none⟩ = some (.string a.name) ∧ w'.cell? ⟨p, 2, none⟩ = some (.int .i64 a.lit.kind) ∧ w'.cell? ⟨p, 3, none⟩ = some (.bool a.lit.tr) ∧ w'.cell? ⟨p, 4, none⟩ = some (.int .i64 a.lit.num) ∧ w'.cell? ⟨p, 5, none⟩ = some (.string a.lit.str) ∧ w'.cell? ⟨p, 6, none⟩ = some (.slice yA a.lit.items.length y1) ∧ w'.cell? ⟨p, 7, none⟩ = some (.slice yB a.lit.keys.length y2) ∧ w'.cell? ⟨p, 8, none⟩ = some (.slice yC a.args.length y3)) ∧ (w'.cell? ⟨f, 0, none⟩ = some (.string a.op) ∧ w'.cell? ⟨f, 1, none⟩ = some (.string a.name) ∧ w'.cell? ⟨f, 2, none⟩ = some (.int .i64 a.lit.kind) ∧ w'.cell? ⟨f, 3, none⟩ = some (.bool a.lit.tr) ∧ w'.cell? ⟨f, 4, none⟩ = some (.int .i64 a.lit.num) ∧ w'.cell? ⟨f, 5, none⟩ = some (.string a.lit.str) ∧ w'.cell? ⟨f, 6, none⟩ = some (.slice aA a.lit.items.length a1) ∧ w'.cell? ⟨f, 7, none⟩ = some (.slice aB a.lit.keys.length a2) ∧ w'.cell? ⟨f, 8, none⟩ = some (.slice aC a.args.length a3))) from fun w' hb => by
    have k := KY9.out.onto hb
    have j := KA9.out.onto hb
    exact ⟨⟨k.cell 0, k.cell 1, k.cell 2, k.cell 3, k.cell 4, k.cell 5, k.cell 6, k.cell 7, k.cell 8⟩, ⟨j.cell 0, j.cell 1, j.cell 2, j.cell 3, j.cell 4, j.cell 5, j.cell 6, j.cell 7, j.cell 8⟩⟩)
   refine wp_region_held_drew (S := fun w' => ((w'.cell? ⟨p, 0, none⟩ = some (.string a.op) ∧ w'.cell? ⟨p, 1, none⟩ = some (.string a.name) ∧ w'.cell? ⟨p, 2, none⟩ = some (.int .i64 a.lit.kind) ∧ w'.cell? ⟨p, 3, none⟩ = some (.bool a.lit.tr) ∧ w'.cell? ⟨p, 4, none⟩ = some (.int .i64 a.lit.num) ∧ w'.cell? ⟨p, 5, none⟩ = some (.string a.lit.str) ∧ w'.cell? ⟨p, 6, none⟩ = some (.slice yA a.lit.items.length y1) ∧ w'.cell? ⟨p, 7, none⟩ = some (.slice yB a.lit.keys.length y2) ∧ w'.cell? ⟨p, 8, none⟩ = some (.slice yC a.args.length y3)) ∧ (w'.cell? ⟨f, 0, none⟩ = some (.string a.op) ∧ w'.cell? ⟨f, 1, none⟩ = some (.string a.name) ∧ w'.cell? ⟨f, 2, none⟩ = some (.int .i64 a.lit.kind) ∧ w'.cell? ⟨f, 3, none⟩ = some (.bool a.lit.tr) ∧ w'.cell? ⟨f, 4, none⟩ = some (.int .i64 a.lit.num) ∧ w'.cell? ⟨f, 5, none⟩ = some (.string a.lit.str) ∧ w'.cell? ⟨f, 6, none⟩ = some (.slice aA a.lit.items.length a1) ∧ w'.cell? ⟨f, 7, none⟩ = some (.slice aB a.lit.keys.length a2) ∧ w'.cell? ⟨f, 8, none⟩ = some (.slice aC a.args.length a3)))) (by kernel_rfl) ?_ (fun hHeld => ?_)
   · exact HSA.out _ (Below.refl _ _)
   refine wpAnyH_take (i := 0) (v := ?_) rfl (by kernel_rfl) (by kernel_rfl) (by kernel_rfl) (fun _ _ _ h => h) (Or.inl ⟨by rfl, ?_⟩) (by assumption) ?_
   rotate_left
   ·
    intro wq hSw
    try dsimp only at hSw
    go_simp
    try (with_reducible rfl)
   try simp only [Act.put, List.getElem_toArray, List.getElem_cons_zero, List.setIfInBounds_toArray, List.set_cons_zero, List.set_cons_succ]
   refine wpAnyH_take (i := 1) (v := ?_) rfl (by kernel_rfl) (by kernel_rfl) (by kernel_rfl) (fun _ _ _ h => h) (Or.inl ⟨by rfl, ?_⟩) (by assumption) ?_
   rotate_left
   ·
    intro wq hSw
    try dsimp only at hSw
    go_simp
    try (with_reducible rfl)
   try simp only [Act.put, sqa, sqb, sqc, sqd, sqe, sqf]
   refine wpAnyH_take (i := 2) (v := ?_) rfl (by kernel_rfl) (by kernel_rfl) (by kernel_rfl) (fun _ _ _ h => h) (Or.inl ⟨by rfl, ?_⟩) (by assumption) ?_
   rotate_left
   ·
    intro wq hSw
    try dsimp only at hSw
    go_simp
    try (with_reducible rfl)
   try simp only [Act.put, sqa, sqb, sqc, sqd, sqe, sqf]
   refine wpAnyH_take (i := 3) (v := ?_) rfl (by kernel_rfl) (by kernel_rfl) (by kernel_rfl) (fun _ _ _ h => h) (Or.inl ⟨by rfl, ?_⟩) (by assumption) ?_
   rotate_left
   ·
    intro wq hSw
    try dsimp only at hSw
    go_simp
    try (with_reducible rfl)
   try simp only [Act.put, sqa, sqb, sqc, sqd, sqe, sqf]
   refine wpAnyH_take (i := 5) (v := ?_) rfl (by kernel_rfl) (by kernel_rfl) (by kernel_rfl) (fun _ _ _ h => h) (Or.inl ⟨by rfl, ?_⟩) (by assumption) ?_
   rotate_left
   ·
    intro wq hSw
    try dsimp only at hSw
    go_simp
    try (with_reducible rfl)
   try simp only [Act.put, sqa, sqb, sqc, sqd, sqe, sqf]
   generalize W9.drew = WD at *
   refine wpAnyH_ready (rs := [4]) (by kernel_rfl) (by simp) ?_
   refine AllReadyH.cons rfl (fun K0 hK => ?_) AllReadyH.nil
   go_simp
   refine (l8ref_lit (by omega) HLA.out yA y1 yB y2 yC y3 WD HEY9.out).mono ?_
   rintro e w10 ⟨P2, p2, rfl, hev, hb⟩
   have H10 := hid hb
   have HSM := hid (r8same_lit (by omega) HLA.out none 0 yB y2 P2 p2 aA a1 aB a2 aC a3 w10 hev (HEA9.out.on hb))
   clear hb hev
   go_wp2_with fail
   refine hK.out _ _ ?_ (fun hHeld => ?_)
   · exact HSA.out _ H10.out
   clear hK K0
   try simp only [Act.put, sqa, sqb, sqc, sqd, sqe, sqf]
   refine wpAnyH_ready (rs := [6]) (by kernel_rfl) (by simp) ?_
   refine AllReadyH.cons rfl (fun K0 hK => ?_) AllReadyH.nil
   go_simp
   refine HSM.out.mono ?_
   rintro e w11 ⟨rfl, hb⟩
   have H11 := hid (H10.out.trans (hb.mono H10.out.size))
   clear hb
   go_wp2_with fail
   refine hK.out _ _ ?_ (fun hHeld => ?_)
   · exact HSA.out _ H11.out
   clear hK K0
   try simp only [Act.put, sqa, sqb, sqc, sqd, sqe, sqf]
   refine wpAnyH_take (i := 7) (v := ?_) rfl (by kernel_rfl) (by kernel_rfl) (by kernel_rfl) (fun _ _ _ h => h) (Or.inl ⟨by rfl, ?_⟩) (by assumption) ?_
   rotate_left
   ·
    intro wq hSw
    try dsimp only at hSw
    go_simp
    try (with_reducible rfl)
   try simp only [Act.put, sqa, sqb, sqc, sqd, sqe, sqf]
   refine wpAnyH_take (i := 8) (v := ?_) rfl (by kernel_rfl) (by kernel_rfl) (by kernel_rfl) (fun _ _ _ h => h) (Or.inl ⟨by rfl, ?_⟩) (by assumption) ?_
   rotate_left
   ·
    intro wq hSw
    try dsimp only at hSw
    go_simp
    try (with_reducible rfl)
   try simp only [Act.put, sqa, sqb, sqc, sqd, sqe, sqf]
   refine wpAnyH_done (by kernel_rfl) ?_ _
   go_wp2_with fail
   go_ret
   exact ⟨rfl, H9D.out.trans (H11.out.mono H9D.out.size)⟩
theorem walkL (s : ByteArray) (B : Option Addr) (m mc : Nat) (w : World) (hl : 600 < s.size ∨ 50 < m) (hr : RangeErr w) (htb : Lib.TabIs Tryz.prog w "internal/strconv.uint64pow10" .u64 Lib.pow10Tab) :
 Calls Tryz.prog 5 #[.string s, .slice B m mc] w fun e w' => e = .returned (.bool true) ∧ Below w.heap.size w w' := by
 have HR := hid hr
 have HT := hid (tab_of8 htb)
 have HL := hid hl
 clear hr htb hl
 by_cases h1 : 600 < s.size
 ·
  have u1 : decide ((s.size : Int) > 600) = true := decide_eq_true (by omega)
  have u2 : decide ((600 : Int) < (s.size : Int)) = true := decide_eq_true (by omega)
  have u3 : decide (600 < s.size) = true := decide_eq_true (by omega)
  go_enter Tryz.func5, Tryz.ntmps5
  go_wp2_with fail
  refine (awake8_any _ HR.out HT.out.2).mono ?_
  rintro e w1 ⟨rfl, hb1⟩
  have H1 := hid hb1
  clear hb1
  go_wp2_with fail
  refine (awake8_any _ (HR.out.on H1.out) (HT.out.on H1.out).2).mono ?_
  rintro e w2 ⟨rfl, hb2⟩
  have H2 := hid (H1.out.trans (hb2.mono H1.out.size))
  clear hb2
  go_wp2_with fail
  go_ret
  exact ⟨rfl, H2.out⟩
 ·
  have h2 : 50 < m := HL.out.resolve_left h1
  have u1 : decide ((s.size : Int) > 600) = false := decide_eq_false (by omega)
  have u2 : decide ((600 : Int) < (s.size : Int)) = false := decide_eq_false (by omega)
  have u3 : decide (600 < s.size) = false := decide_eq_false (by omega)
  have v1 : decide ((m : Int) > 50) = true := decide_eq_true (by omega)
  have v2 : decide ((50 : Int) < (m : Int)) = true := decide_eq_true (by omega)
  have v3 : decide (50 < m) = true := decide_eq_true (by omega)
  go_enter Tryz.func5, Tryz.ntmps5
  go_wp2_with fail
  refine (awake8_any _ HR.out HT.out.2).mono ?_
  rintro e w1 ⟨rfl, hb1⟩
  have H1 := hid hb1
  clear hb1
  go_wp2_with fail
  refine (awake8_any _ (HR.out.on H1.out) (HT.out.on H1.out).2).mono ?_
  rintro e w2 ⟨rfl, hb2⟩
  have H2 := hid (H1.out.trans (hb2.mono H1.out.size))
  clear hb2
  go_wp2_with fail
  go_ret
  exact ⟨rfl, H2.out⟩
theorem walkE (s : ByteArray) (B : Option Addr) (m mc : Nat) (w : World) (a : E) (p c : Int) (P : Prop) (hs : s.size ≤ 600) (hm : m ≤ 50) (hA : ∀ w1, Calls Tryz.prog 8 #[.string s] w1 (fun e w' => Told a p c w1 e w' ∧ (c = 0 → P))) (hP : ¬ P) (hr : RangeErr w) (htb : Lib.TabIs Tryz.prog w "internal/strconv.uint64pow10" .u64 Lib.pow10Tab) :
 Calls Tryz.prog 5 #[.string s, .slice B m mc] w fun e w' => e = .returned (.bool true) ∧ Below w.heap.size w w' := by
 have HR := hid hr
 have HT := hid (tab_of8 htb)
 have HA := hid hA
 have HP := hid hP
 clear hr htb hA hP
 have u1 : decide ((s.size : Int) > 600) = false := decide_eq_false (by omega)
 have u2 : decide ((600 : Int) < (s.size : Int)) = false := decide_eq_false (by omega)
 have u3 : decide (600 < s.size) = false := decide_eq_false (by omega)
 have v1 : decide ((m : Int) > 50) = false := decide_eq_false (by omega)
 have v2 : decide ((50 : Int) < (m : Int)) = false := decide_eq_false (by omega)
 have v3 : decide (50 < m) = false := decide_eq_false (by omega)
 go_enter Tryz.func5, Tryz.ntmps5
 go_wp2_with fail
 refine (awake8_any _ HR.out HT.out.2).mono ?_
 rintro e w1 ⟨rfl, hb1⟩
 have H1 := hid hb1
 clear hb1
 go_wp2_with fail
 refine (HA.out _).mono ?_
 rintro e w2 ⟨⟨⟨aA, a1, aB, a2, aC, a3⟩, rfl, -, hb2⟩, hq⟩
 have H2 := hid (H1.out.trans (hb2.mono H1.out.size))
 have hc : c ≠ 0 := fun h => HP.out (hq h)
 clear hb2 hq
 unfold ecs
 dsimp only
 go_upto_region 4 with fail
 refine alloc_gn (fun W2 hW kB => ?_)
 have H3 := hid (H2.out.trans (hW.mono H2.out.size))
 clear hW kB
 generalize w2.heap.size = f at *
 have n1 : (c == 0) = false := beq_eq_false_iff_ne.2 hc
 have n2 : (c != 0) = true := by simpa using hc
 clear hc
 go_wp2_with fail
 go_ret
 exact ⟨rfl, H3.out⟩
theorem walk (s : ByteArray) (B : Option Addr) (m mc : Nat) (w : World) (hzs : s.size ≤ maxLen) (hmc : m ≤ mc) (hmm : mc ≤ maxLen) (hB : Bytes8 w (· < w.heap.size) B m) (hr : RangeErr w) (htb : Lib.TabIs Tryz.prog w "internal/strconv.uint64pow10" .u64 Lib.pow10Tab) :
 Calls Tryz.prog 5 #[.string s, .slice B m mc] w fun e w' => e = .returned (.bool true) ∧ Below w.heap.size w w' := by
 by_cases hl : 600 < s.size ∨ 50 < m
 · exact walkL s B m mc w hl hr htb
 ·
  have hs : s.size ≤ 600 := by omega
  have hm : m ≤ 50 := by omega
  by_cases hP : ∃ a p, parse s = .ok a p
  ·
   obtain ⟨a, p, hps⟩ := hP
   have hp0 := parse_p0 hps
   subst hp0
   have hA : ∀ w1, Calls Tryz.prog 8 #[.string s] w1 (Told a 0 0 w1) := fun w1 => (rtold hps (by omega) w1).mono fun e w' h => h.1
   have hla : Lf a := by have := @parse_lf s; rw [hps] at this; exact this a 0 rfl
   have hza := parse_sz hps
   exact walkG s B m mc w a hs hm hB hA hps hla (by omega) hr htb
  · exact walkE s B m mc w _ _ _ _ hs hm (fun w1 => rtold rfl (by omega) w1) hP hr htb
theorem lifted (os : Os) (started : os.Started) (H : Type) (enc : TypeId × Value → H) :
 ReturnsInHanded {} Tryz.checked os 5 .any (fun w args => (Rows.exprBlanksSpec.pre enc Tryz.prog Tryz.f5 [] false w args ∧ laidMetH Tryz.prog Rows.exprBlanksRow.laid w) ∧ sizedMet enc Tryz.prog Tryz.f5 (OpenSpec.ofChange Rows.exprBlanksSpec) false w args)
  (Rows.exprBlanksSpec.post enc Tryz.prog Tryz.f5 false true false false) := by
 refine returnsInHanded_of_change_and (C := Tryz.checked) (X := fun w _ => laidMetH Tryz.prog Rows.exprBlanksRow.laid w) (fun _ _ _ hh h => h.of_heap hh) own started (by kernel_rfl) Tryz.func5
  (ChangeSpec.witness_shaped (enc := enc) (C := Tryz.checked) (os := os) (X := fun w _ => laidMetH Tryz.prog Rows.exprBlanksRow.laid w) false (World.laidAll Tryz.prog os Rows.exprBlanksRow.laid) #[.string ByteArray.empty, .slice none 0 0] 8 (World.laidAll_os _ _ _) (World.shaped_of_ZipB (by kernel_rfl) (by kernel_rfl)) (by kernel_rfl) (by kernel_rfl) (by kernel_rfl) (by rw [MakeChecks.laidMetH_plain _ _ _ (by kernel_rfl)]; exact laidMet_laidAll _ (by kernel_rfl) (by kernel_rfl))) ?_
 intro W base args ds gs before hval0 hW _ _ hL _
 have hval : ∀ (j : Nat) t v, Tryz.f5.params[j]? = some t → args[j]? = some v → Value.okWide Tryz.prog W .any base t v := hval0
 have hW' := hW
 obtain ⟨p, q, hA0, hV, rfl, hfz, hnd⟩ := hW
 have hA : DataW.TrodAll enc Tryz.prog W 0 (fun _ => true) true Tryz.f5.params.toList args.toList ds p := hA0
 rw [Tryz.params5] at hA hval
 obtain ⟨v0, vs0, d0, ds0, p0, q0, hargs, rfl, rfl, h0, r0⟩ := trodAll_cons hA
 obtain ⟨v1, vs1, d1, ds1, p1, q1, rfl, rfl, rfl, h1, r1⟩ := trodAll_cons r0
 obtain ⟨rfl, rfl, rfl⟩ := trodAll_nil r1
 obtain rfl : args = #[v0, v1] := by cases args; simp_all
 obtain ⟨rfl, rfl⟩ := trodVars_none hV
 obtain ⟨s0, rfl, rfl, rfl, w0⟩ := open_string Tryz.underlying9 (hval 0 9 v0 rfl rfl) h0
 obtain ⟨a1, n1, c1, rfl⟩ := okWide_slice Tryz.underlying53 (hval 1 53 v1 rfl rfl)
 have k1 := h1
 have lt1 : ∀ x ∈ p1, x.block < W.heap.size := by obtain ⟨m, hm⟩ := k1; exact DataW.trod_lt m _ _ _ hm
 obtain ⟨f1, hf1⟩ := h1
 obtain ⟨hnc1, hcm1, hN1⟩ := bytes_open (show DataW.trod enc Tryz.prog W 0 _ _ f1 53 [.slice a1 n1 c1] = some (d1, p1) from hf1)
 clear hA0 hval0
 refine (walk s0 a1 n1 c1 W w0 hnc1 hcm1 hN1 (errs hL) (table hL)).mono fun e W' ⟨he, bel⟩ => ?_
 subst he
 exact ⟨_, rfl, _, _, _, [], _, [], hW', trodAll_mk1 (shut_bool Tryz.underlying4 _), (trodAll_cons_mk (shut_string Tryz.underlying9 w0) (trodAll_cons_mk (Below.trod laidOut (by kernel_rfl) (of_decide_eq_true (by kernel_rfl)) k1 bel lt1) trodAll_mk0)), rfl, bel.frame _, fun h => by cases h⟩
theorem said : Rows.ExprBlanksSaid :=
 OpenClaim.holds_of_wide 5 Tryz.f5 rfl rfl rfl rfl rfl rfl rfl ⟨rfl, rfl, rfl, rfl, rfl⟩ rfl rfl rfl rfl rfl (by kernel_rfl) Tryz.func5 (by kernel_rfl)
  (of_decide_eq_true (by kernel_rfl)) (by unfold Func.isWrapper; first | (rw [if_pos (by decide +kernel)]; kernel_rfl) | (rw [if_neg (by decide +kernel)]; exact ⟨rfl, rfl⟩))
  (fun os started H enc _ => lifted os started H enc)
theorem plain (f : FuncId) (fn : Func) (hf : Tryz.pinned.checked.prog.funcNamed "cheval/chevallaw08.ExprBlanks" = some f) (hfn : Tryz.pinned.checked.prog.funcs[f]? = some fn) :
 true = Tryz.pinned.checked.prog.looks [] ∧ ∀ (j : Nat) t, fn.params[j]? = some t → Tryz.pinned.checked.prog.wantsStandIn t = false := by
 obtain rfl : f = 5 := Option.some.inj ((show Tryz.prog.funcNamed "cheval/chevallaw08.ExprBlanks" = some 5 by kernel_rfl).symm.trans hf) |>.symm
 obtain rfl : fn = Tryz.f5 := (Option.some.inj (Tryz.func5.symm.trans hfn)).symm
 refine ⟨by kernel_rfl, fun j t ht => ?_⟩
 rw [Tryz.params5] at ht
 have hm := Array.mem_of_getElem? ht
 simp only [List.mem_toArray, List.mem_cons, List.not_mem_nil, or_false] at hm
 rcases hm with rfl | rfl
 · exact (show Tryz.prog.wantsStandIn 9 = false by kernel_rfl)
 · exact (show Tryz.prog.wantsStandIn 53 = false by kernel_rfl)
theorem card : Rows.ExprBlanksCardSaid :=
 Claim7.holds_tied_plain_at .later [] _ _ _ _ said (fun _ h => by cases h) (by kernel_rfl) (fun _ h => by cases h) exprBlanks_row_tie rfl ⟨rfl, rfl⟩ (by kernel_rfl) rfl plain (by kernel_rfl)
end Go.Proofs.YtofgmddlacenhaaGreatDoor.exprBlanks
