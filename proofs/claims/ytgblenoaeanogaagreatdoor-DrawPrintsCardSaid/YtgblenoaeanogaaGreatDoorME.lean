/- Contracts of glyph.each with each of its three closures, and of Valid and Decode. The lexer's reader of a character: its contract. Plain mathematics: the reference's search for the point that bytes begin with, by trying one to four bytes. Contracts of the reference's Bytes and First. Contract of the reference's Text: the bytes of any points, one behind the other. The lexer's reader of a text: its contract. -/
import Derived.Test.YtgblenoaeanogaaGreatDoorShelf3
import Derived.Lib.OthersKept
import Derived.Lib.Hide
import Derived.Lib.Strings
import Derived.WalkKit
import Derived.WalkSpells
import Derived.Deep.QuietTactic
import Derived.BigQuiet
import Derived.WalkSmall
import Derived.Test.YtgblenoaeanogaaGreatDoorMD
import Derived.Laws.IdiomStrings
import Derived.Laws.BytesArg
import Derived.OwnWalk
import Derived.Deep.DeepCutAuto
set_option linter.unusedVariables false
set_option maxRecDepth 100000
set_option maxHeartbeats 8000000
open Go.Lib (hid)
namespace Go.Proofs.YtgblenoaeanogaaGreatDoor
open Go.RowKit
open Pl
theorem prefix_any (s : ByteArray) (i : Nat) (w : World) :
 Calls Tryz.prog 110 #[.string (s.extract i s.size), .string ⟨#[239, 191, 189]⟩] w fun e w' => e = .returned (.bool (fffd (s.data.toList.drop i))) ∧ w = w' := by
 refine (Tryz.strings_HasPrefix _ _ w).mono ?_
 rintro e w' ⟨rfl, rfl⟩
 refine ⟨ret_bool ?_, rfl⟩
 have hl : (s.data.toList.drop i).length = s.size - i := by rw [List.length_drop, Array.length_toList]; rfl
 rw [Lib.extract_data, ← hl, List.take_length]
 generalize s.data.toList.drop i = L
 unfold Lib.hasPrefix fffd
 rw [Bool.eq_iff_iff, List.isPrefixOf_iff_prefix, beq_iff_eq, List.prefix_iff_eq_take]
 exact ⟨fun h => h.symm, fun h => h.symm⟩
theorem prefix_all (s : ByteArray) (w : World) :
 Calls Tryz.prog 110 #[.string s, .string ⟨#[239, 191, 189]⟩] w fun e w' => e = .returned (.bool (fffd (s.data.toList.drop 0))) ∧ w = w' := by
 have := prefix_any s 0 w
 rwa [show s.extract 0 s.size = s by simp] at this
theorem prefix_yes0 (s : ByteArray) (w : World) (h : fffd (s.data.toList.drop 0) = true) :
 Calls Tryz.prog 110 #[.string s, .string ⟨#[239, 191, 189]⟩] w fun e w' => e = .returned (.bool true) ∧ w = w' := by
 rw [← h]; exact prefix_all s w
theorem prefix_no0 (s : ByteArray) (w : World) (h : fffd (s.data.toList.drop 0) = false) :
 Calls Tryz.prog 110 #[.string s, .string ⟨#[239, 191, 189]⟩] w fun e w' => e = .returned (.bool false) ∧ w = w' := by
 rw [← h]; exact prefix_all s w
def decN (L : List UInt8) : Int := if ok L = true then (decL L).1 else -1
def decM (L : List UInt8) : Int := if ok L = true then (decL L).2 else 0
theorem decN_yes {L : List UInt8} (h : ok L = true) : decN L = (decL L).1 := if_pos h
theorem decM_yes {L : List UInt8} (h : ok L = true) : decM L = (decL L).2 := if_pos h
theorem decN_no {L : List UInt8} (h : ok L = false) : decN L = -1 := if_neg (by rw [h]; decide)
theorem decM_no {L : List UInt8} (h : ok L = false) : decM L = 0 := if_neg (by rw [h]; decide)
theorem runeLen_pt (r : Int) (h : pt r = true) : Lib.runeLen r = (Lib.encodeRune r).length := by
 have hp := (pt_iff r).1 h
 unfold Lib.runeLen Lib.encodeRune
 rw [List.length_map]
 rw [if_neg (by omega)]
 by_cases h1 : r ≤ 127
 · rw [if_pos h1, Lib.encodeRuneZ_one (by omega) h1]; rfl
 ·
  rw [if_neg h1]
  by_cases h2 : r ≤ 2047
  · rw [if_pos h2, Lib.encodeRuneZ_two (by omega) h2]; rfl
  ·
   rw [if_neg h2, if_neg (by omega)]
   by_cases h3 : r ≤ 65535
   · rw [if_pos h3, Lib.encodeRuneZ_three (by omega)]; rfl
   · rw [if_neg h3, if_pos (by omega), Lib.encodeRuneZ_four (by omega) (by omega)]; rfl
theorem dec1_any (r : Int) (p q : Nat) (x y : Value) (w : World) (hr0 : 0 ≤ r) (hr1 : r ≤ 1114111) (hp : w.cell? ⟨p, 0, none⟩ = some x) (hq : w.cell? ⟨q, 0, none⟩ = some y) (fp : w.frozen? ⟨p, 0, none⟩ = false) (fq : w.frozen? ⟨q, 0, none⟩ = false) (hpq : p < q) :
 Calls Tryz.prog 155 #[.int .i32 r, .pointer (some ⟨p, 0, none⟩), .pointer (some ⟨q, 0, none⟩)] w fun e w' => e = .returned (.bool false) ∧ (w.setCell ⟨p, 0, none⟩ (.int .i64 r)).setCell ⟨q, 0, none⟩ (.int .i64 (Lib.runeLen r)) = w' := by
 have hne : ¬ p = q := by omega
 have hne' : ¬ q = p := by omega
 go_enter Tryz.func155, Tryz.ntmps155
 go_wp2_with (go_at_call 156; refine (Tryz.utf8_RuneLen _ _).mono ?_; rintro e w' ⟨rfl, rfl⟩)
 go_ret
 exact ⟨rfl, rfl⟩
def DecPost (L : List UInt8) (B p q : Nat) (w : World) (e : Ending) (w' : World) : Prop :=
 (∃ v, e = .returned v) ∧ w'.cell? ⟨p, 0, none⟩ = some (.int .i64 (decN L)) ∧ w'.cell? ⟨q, 0, none⟩ = some (.int .i64 (decM L)) ∧ Below B w w'
theorem decode_zero (s : ByteArray) : Utf8.decode s 0 = decL s.data.toList := by rw [decode_eq]; rfl
theorem each_dec (s : ByteArray) (B p q : Nat) (w : World) (hp : w.cell? ⟨p, 0, none⟩ = some (.int .i64 (-1))) (hq : w.cell? ⟨q, 0, none⟩ = some (.int .i64 0)) (fp : w.frozen? ⟨p, 0, none⟩ = false) (fq : w.frozen? ⟨q, 0, none⟩ = false)
 (hB : B ≤ p) (hpq : p < q) (hqw : q < w.heap.size) :
 Calls Tryz.prog 154 #[.string s, .func (.func 155) #[] #[.pointer (some ⟨p, 0, none⟩), .pointer (some ⟨q, 0, none⟩)]] w (DecPost s.data.toList B p q w) := by
 have cp : ∀ o, (w.alloc o).cell? ⟨p, 0, none⟩ = some (.int .i64 (-1)) := fun o => by rw [World.cell?_alloc_lt w o _ (by show p < _; omega)]; exact hp
 have cq : ∀ o, (w.alloc o).cell? ⟨q, 0, none⟩ = some (.int .i64 0) := fun o => by rw [World.cell?_alloc_lt w o _ (by show q < _; omega)]; exact hq
 have zp : ∀ o, (w.alloc o).frozen? ⟨p, 0, none⟩ = false := fun o => by rw [World.frozen?_alloc_old w o _ (by show p ≠ _; omega)]; exact fp
 have zq : ∀ o, (w.alloc o).frozen? ⟨q, 0, none⟩ = false := fun o => by rw [World.frozen?_alloc_old w o _ (by show q ≠ _; omega)]; exact fq
 have bel : ∀ o, Below B w (w.alloc o) := fun o => (Below.refl _ _).alloc (by omega) _
 by_cases hz : 0 < s.size
 ·
  have hdz := decode_zero s
  cases ho : ok s.data.toList with
  | true =>
   obtain ⟨h1, h2, h3⟩ := enc_of_ok _ ho
   have hN := decN_yes ho
   have hM := decM_yes ho
   have hf : (decL s.data.toList).1 = 65533 → fffd (s.data.toList.drop 0) = true := by
    intro e
    simp [ok, e] at ho
    exact ho.2
   have hnx : ∀ ty, (Instr.next (.pointer (some ⟨w.heap.size, 0, none⟩)) true ty).run Tryz.prog (w.iter s 0) = .ok (.tuple #[.bool true, .int .i64 0, .int .i32 (decL s.data.toList).1]) (w.iter s (decL s.data.toList).2) := by
    intro ty
    rw [run_next_any w s 0 ty hz, hdz, Nat.zero_add]; rfl
   have hrl := runeLen_pt _ h1
   rw [h3, ← hM] at hrl
   have hp1 := (pt_iff _).1 h1
   clear h1 h2 h3 ho hdz hM hz
   rw [← hN] at hrl
   have HN := hid hN
   have hb1 : 0 ≤ decN s.data.toList ∧ decN s.data.toList ≤ 1114111 := by omega
   rw [← hN] at hnx
   have hfx : decN s.data.toList = 65533 → fffd (s.data.toList.drop 0) = true := fun e => hf (by omega)
   clear hN hf hp1 HN
   generalize hy : decM s.data.toList = m at *
   generalize hx : decN s.data.toList = x at *
   generalize (decL s.data.toList).2 = z at hnx
   have HL := hid hrl
   have HX := hid hx
   have HY := hid hy
   obtain ⟨hb1, hb2⟩ := hb1
   clear hrl hx hy
   have post : DecPost s.data.toList B p q w (.returned (.tuple #[.int .i64 0, .bool true])) (((w.iter s z).setCell ⟨p, 0, none⟩ (.int .i64 x)).setCell ⟨q, 0, none⟩ (.int .i64 (Lib.runeLen x))) := by
    refine ⟨⟨_, rfl⟩, ?_, ?_, ((bel _).setCell (by show B ≤ p; omega) _).setCell (by show B ≤ q; omega) _⟩
    ·
     rw [World.cell?_setCell_other _ _ _ _ (by intro e; injection e; omega)]
     rw [HX.out]; exact World.cell?_setCell_same _ _ _ (cp _)
    ·
     have : ((w.iter s z).setCell ⟨p, 0, none⟩ (.int .i64 x)).cell? ⟨q, 0, none⟩ = some (.int .i64 0) := by
      rw [World.cell?_setCell_other _ _ _ _ (by intro e; injection e; omega)]
      exact cq _
     rw [HL.out, HY.out]
     exact World.cell?_setCell_same _ _ _ this
   have Hpost := hid post
   clear post bel
   by_cases he : x = 65533
   ·
    have Hp := hid (hfx he)
    have he' : (x == 65533) = true := by simp; omega
    clear hfx he
    go_enter Tryz.func154, Tryz.ntmps154
    go_wp2_with fail
    go_loopw [] (fun wr => wr = w.iter s 0) (fun _ => 0)
    case atStart => rfl
    case round =>
     subst hrel
     go_wp2_with (go_at_call 110; refine (prefix_yes0 s _ Hp.out).mono ?_; rintro e w' ⟨rfl, rfl⟩)
     go_wp2_with (go_at_call 155; refine (dec1_any _ p q _ _ _ hb1 hb2 (cp _) (cq _) (zp _) (zq _) hpq).mono ?_; rintro e w' ⟨rfl, rfl⟩)
     go_ret2
     exact Hpost.out
   ·
    have he' : (x == 65533) = false := by simp; omega
    clear hfx he
    go_enter Tryz.func154, Tryz.ntmps154
    go_wp2_with fail
    go_loopw [] (fun wr => wr = w.iter s 0) (fun _ => 0)
    case atStart => rfl
    case round =>
     subst hrel
     go_wp2_with (go_at_call 155; refine (dec1_any _ p q _ _ _ hb1 hb2 (cp _) (cq _) (zp _) (zq _) hpq).mono ?_; rintro e w' ⟨rfl, rfl⟩)
     go_ret2
     exact Hpost.out
  | false =>
   have hbad : (decL s.data.toList).1 = 65533 ∧ fffd (s.data.toList.drop 0) = false := by
    have hne : s.data.toList ≠ [] := by
     intro e
     have := congrArg List.length e
     rw [Array.length_toList] at this
     exact absurd (show s.size = 0 from this) (by omega)
    cases hL : s.data.toList with
    | nil => exact absurd hL hne
    | cons a T =>
     rw [hL] at ho
     simp [ok] at ho
     exact ho
   have hnx : ∀ ty, (Instr.next (.pointer (some ⟨w.heap.size, 0, none⟩)) true ty).run Tryz.prog (w.iter s 0) = .ok (.tuple #[.bool true, .int .i64 0, .int .i32 65533]) (w.iter s (decL s.data.toList).2) := by
    intro ty
    rw [run_next_any w s 0 ty hz, hdz, Nat.zero_add, hbad.1]; rfl
   have Hp := hid hbad.2
   have post : DecPost s.data.toList B p q w (.returned (.tuple #[.int .i64 0, .bool false])) (w.iter s (decL s.data.toList).2) := by
    refine ⟨⟨_, rfl⟩, ?_, ?_, bel _⟩
    · rw [decN_no ho]; exact cp _
    · rw [decM_no ho]; exact cq _
   have Hpost := hid post
   clear post bel hbad ho hdz hz
   generalize (decL s.data.toList).2 = z at hnx Hpost
   go_enter Tryz.func154, Tryz.ntmps154
   go_wp2_with fail
   go_loopw [] (fun wr => wr = w.iter s 0) (fun _ => 0)
   case atStart => rfl
   case round =>
    subst hrel
    go_wp2_with (go_at_call 110; refine (prefix_no0 s _ Hp.out).mono ?_; rintro e w' ⟨rfl, rfl⟩)
    go_ret2
    exact Hpost.out
 ·
  have hL : s.data.toList = [] := by
   apply List.eq_nil_of_length_eq_zero
   rw [Array.length_toList]
   exact show s.size = 0 by omega
  have hnx : ∀ ty, (Instr.next (.pointer (some ⟨w.heap.size, 0, none⟩)) true ty).run Tryz.prog (w.iter s 0) = _ := fun ty => run_next_end w s 0 ty hz
  have post : DecPost s.data.toList B p q w (.returned (.tuple #[.int .i64 0, .bool true])) (w.iter s 0) := by
   refine ⟨⟨_, rfl⟩, ?_, ?_, bel _⟩
   · rw [hL]; exact cp _
   · rw [hL]; exact cq _
  have Hpost := hid post
  clear post bel hL hz
  go_enter Tryz.func154, Tryz.ntmps154
  go_wp2_with fail
  go_loopw [] (fun wr => wr = w.iter s 0) (fun _ => 0)
  case atStart => rfl
  case round =>
   subst hrel
   go_wp2_with fail
   go_ret2
   exact Hpost.out
theorem decode_any (s : ByteArray) (w : World) :
 Calls Tryz.prog 134 #[.string s] w fun e w' => e = .returned (.tuple #[.int .i64 (decN s.data.toList), .int .i64 (decM s.data.toList)]) ∧ Below w.heap.size w w' := by
 have hmf : ∀ (fn : Fn) (first cap : Array Value) (w : World), (Instr.makeFunc fn first cap).run Tryz.prog w = .ok (.func fn first cap) w := fun _ _ _ _ => rfl
 go_enter Tryz.func134, Tryz.ntmps134
 go_wp2_with fail
 refine (each_dec s w.heap.size w.heap.size (w.heap.size + 1) _ (by simp) (by simp) (by simp) (by simp) (by omega) (by omega) (by simp)).mono ?_
 rintro e w1 ⟨⟨v, rfl⟩, c1, c2, hb⟩
 go_wp2_with fail
 go_quiet (fail)
 go_wp2_with fail
 go_ret2
 exact ⟨rfl, below_drewN (((Below.refl _ _).alloc (Nat.le_refl _) _).alloc (by simp) _ |>.trans hb) _⟩
open Go.RowKit
open Tk
open Pl
theorem extract_drop (s : ByteArray) (a : Nat) : (s.extract a s.size).data.toList = s.data.toList.drop a := by
 rw [show (s.extract a s.size).data.toList = (s.data.toList.drop a).take (s.size - a) from sub_list s a s.size]
 rw [List.take_of_length_le (by rw [List.length_drop, size_toList]; exact Nat.le_refl _)]
theorem chAt_end {s : ByteArray} {a : Nat} (h : s.size ≤ a ∨ bt s a < 32) : chAt s a = .bad a 1 := by unfold chAt; rw [if_pos h]
theorem chAt_esc {s : ByteArray} {a : Nat} (h : isEsc s a = true) : chAt s a = uniCh s a := by
 unfold isEsc at h
 simp only [Bool.and_eq_true, beq_iff_eq] at h
 have hl := lt_of_bt (s := s) (i := a) (by omega)
 unfold chAt
 rw [if_neg (by omega), if_pos h.1]
 unfold escCh
 rw [h.2]
 rfl
theorem chAt_short {s : ByteArray} {a : Nat} (h : isEsc s a = false) (k : bt s a = 92) : chAt s a = shortCh s (a + 1) := by
 have hl := lt_of_bt (s := s) (i := a) (by omega)
 have h7 : bt s (a + 1) ≠ 117 := by
  intro e
  unfold isEsc at h
  rw [k, e] at h
  cases h
 unfold chAt
 rw [if_neg (by omega), if_pos k]
 unfold escCh shortCh
 rw [if_neg h7]
 rfl
theorem chAt_raw {s : ByteArray} {a : Nat} (hl : a < s.size) (h : ¬ bt s a < 32) (k : bt s a ≠ 92) : chAt s a = rawCh s a := by
 unfold chAt
 rw [if_neg (by omega), if_neg k]
theorem character_any5 (b : Nat) (s : ByteArray) (a : Nat) (w : World) (hs : s.size ≤ 1000000) (hc : w.cell? ⟨b, 0, none⟩ = some (.string s)) (ha : a ≤ s.size) : Calls Tryz.prog 111 #[.pointer (some ⟨b, 0, none⟩), .int .i64 a] w fun e w' => e = .returned (chAt s a).val ∧ Below w.heap.size w w' := by
 have i2 : (0 : Int) ≤ (a : Int) := by omega
 have i1 : (a : Int) ≤ (s.size : Int) := by omega
 by_cases hl : a < s.size
 ·
  have u1 : decide (a < s.size) = true := decide_eq_true hl
  have j1 : (a : Int) < (s.size : Int) := by omega
  have j3 : ¬ (a : Int) = (s.size : Int) := by omega
  have u3 : ((a : Int) == (s.size : Int)) = false := beq_eq_false_iff_ne.2 j3
  have hx := bt_at s a hl
  by_cases h32 : bt s a < 32
  ·
   have HR := hid (chAt_end (s := s) (.inr h32))
   have v1 : (s[a].toNat : Int) < 32 := by omega
   have v2 : decide ((s[a].toNat : Int) < 32) = true := decide_eq_true v1
   generalize chAt s a = v at *
   clear hx h32
   go_enter Tryz.func111, Tryz.ntmps111
   go_wp2_with fail
   go_ret3
   exact ⟨by rw [HR.out]; rfl, Below.refl _ _⟩
  ·
   have v1 : ¬ (s[a].toNat : Int) < 32 := by omega
   have v2 : decide ((s[a].toNat : Int) < 32) = false := decide_eq_false v1
   cases he : isEsc s a with
   | true =>
    have HR := hid (chAt_esc he)
    have HE := hid he
    have HC := hid (escaped_any5 b s a w hs hc ha he)
    generalize chAt s a = v at *
    generalize uniCh s a = v2 at *
    clear hx h32 he
    go_enter Tryz.func111, Tryz.ntmps111
    go_wp2_with fail
    refine (pre_any s a ha _).mono ?_
    rintro e w2 ⟨rfl, rfl⟩
    rw [HE.out]
    go_wp2_with fail
    refine HC.out.mono ?_
    rintro e w2 ⟨rfl, rfl⟩
    cases v2 with
    | pt n e =>
     unfold Ch.val
     go_wp2_with fail
     go_ret3
     exact ⟨by rw [HR.out]; rfl, Below.refl _ _⟩
    | bad p c =>
     unfold Ch.val
     go_wp2_with fail
     go_ret3
     exact ⟨by rw [HR.out]; rfl, Below.refl _ _⟩
   | false =>
    have HE := hid he
    by_cases h92 : bt s a = 92
    ·
     have HR := hid (chAt_short he h92)
     have HC := hid (short_any5 b s (a + 1) w hs hc hl)
     have v3 : (s[a].toNat : Int) = 92 := by omega
     have v4 : ((s[a].toNat : Int) == 92) = true := beq_iff_eq.2 v3
     generalize chAt s a = v at *
     generalize shortCh s (a + 1) = v2 at *
     clear hx h32 he h92
     go_enter Tryz.func111, Tryz.ntmps111
     go_wp2_with fail
     refine (pre_any s a ha _).mono ?_
     rintro e w2 ⟨rfl, rfl⟩
     rw [HE.out]
     go_wp2_with fail
     refine HC.out.mono ?_
     rintro e w2 ⟨rfl, rfl⟩
     cases v2 with
     | pt n e =>
      unfold Ch.val
      go_wp2_with fail
      go_ret3
      exact ⟨by rw [HR.out]; rfl, Below.refl _ _⟩
     | bad p c =>
      unfold Ch.val
      go_wp2_with fail
      go_ret3
      exact ⟨by rw [HR.out]; rfl, Below.refl _ _⟩
    ·
     have HC := hid (decode_any (s.extract a s.size) w)
     rw [extract_drop] at HC
     have hraw := chAt_raw hl h32 h92
     have v3 : ¬ (s[a].toNat : Int) = 92 := by omega
     have v4 : ((s[a].toNat : Int) == 92) = false := beq_eq_false_iff_ne.2 v3
     cases hok : ok (s.data.toList.drop a) with
     | true =>
      have hm := (enc_of_ok _ hok)
      have hpos : 0 < (decL (s.data.toList.drop a)).2 := by
       have := enc_len ((decL (s.data.toList.drop a)).1 : Int)
       rw [hm.2.2] at this; omega
      have HR := hid (show chAt s a = .pt ((decL (s.data.toList.drop a)).1 : Nat) (a + (decL (s.data.toList.drop a)).2) by rw [hraw]; unfold rawCh; rw [if_pos hok])
      have HN := hid (show decN (s.data.toList.drop a) = ((decL (s.data.toList.drop a)).1 : Nat) by unfold decN; rw [hok]; rfl)
      have HM := hid (show decM (s.data.toList.drop a) = ((decL (s.data.toList.drop a)).2 : Nat) by unfold decM; rw [hok]; rfl)
      have hbd : a + (decL (s.data.toList.drop a)).2 ≤ s.size := by
       have h5 := congrArg List.length hm.2.1
       rw [List.length_append, hm.2.2, List.length_drop, List.length_drop, size_toList] at h5
       omega
      rw [HN.out, HM.out] at HC
      clear HN HM hm hok hraw hx h32 he h92
      generalize chAt s a = v at *
      generalize (decL (s.data.toList.drop a)).1 = dn at *
      generalize (decL (s.data.toList.drop a)).2 = dm at *
      have v5 : ¬ (dm : Int) = 0 := by omega
      have v6 : ((dm : Int) == 0) = false := beq_eq_false_iff_ne.2 v5
      go_enter Tryz.func111, Tryz.ntmps111
      go_wp2_with fail
      refine (pre_any s a ha _).mono ?_
      rintro e w2 ⟨rfl, rfl⟩
      rw [HE.out]
      go_wp2_with fail
      refine HC.out.mono ?_
      rintro e w2 ⟨rfl, hB⟩
      go_wp2_with fail
      go_ret3
      exact ⟨by rw [HR.out]; rfl, hB⟩
     | false =>
      have HR := hid (show chAt s a = .bad a 2 by rw [hraw]; unfold rawCh; rw [hok]; rfl)
      have HM := hid (show decM (s.data.toList.drop a) = 0 by unfold decM; rw [hok]; rfl)
      rw [HM.out] at HC
      clear HM hok hraw hx h32 he h92
      generalize chAt s a = v at *
      generalize decN (s.data.toList.drop a) = dn at *
      go_enter Tryz.func111, Tryz.ntmps111
      go_wp2_with fail
      refine (pre_any s a ha _).mono ?_
      rintro e w2 ⟨rfl, rfl⟩
      rw [HE.out]
      go_wp2_with fail
      refine HC.out.mono ?_
      rintro e w2 ⟨rfl, hB⟩
      go_wp2_with fail
      go_ret3
      exact ⟨by rw [HR.out]; rfl, hB⟩
 ·
  obtain rfl : a = s.size := by omega
  have HR := hid (chAt_end (s := s) (.inl (Nat.le_refl s.size)))
  generalize chAt s s.size = v at *
  go_enter Tryz.func111, Tryz.ntmps111
  go_wp2_with fail
  go_ret3
  exact ⟨by rw [HR.out]; rfl, Below.refl _ _⟩
end Go.Proofs.YtgblenoaeanogaaGreatDoor
namespace Go.Proofs.YtgblenoaeanogaaGreatDoor.Pl
def hd : Nat → Int
 | 2 => 192
 | 3 => 224
 | 4 => 240
 | _ => 0
def byteAt (L : List UInt8) (i : Nat) : Int := ((L.getD i 0).toNat : Nat)
theorem byteAt_lt (L : List UInt8) (i : Nat) : 0 ≤ byteAt L i ∧ byteAt L i < 256 := by
 unfold byteAt; have := (L.getD i 0).toNat_lt; omega
def num (L : List UInt8) (k : Nat) : Nat → Int
 | 0 => byteAt L 0 - hd k
 | i + 1 => num L k i * 64 + byteAt L (i + 1) - 128
theorem hd_b (k : Nat) : 0 ≤ hd k ∧ hd k ≤ 240 := by
 unfold hd; split <;> omega
theorem num_le (L : List UInt8) (k i : Nat) (h : i ≤ 4) : -100000000000 ≤ num L k i ∧ num L k i ≤ 100000000000 := by
 have h0 := byteAt_lt L 0
 have h1 := byteAt_lt L 1
 have h2 := byteAt_lt L 2
 have h3 := byteAt_lt L 3
 have h4 := byteAt_lt L 4
 have hh := hd_b k
 rcases (by omega : i = 0 ∨ i = 1 ∨ i = 2 ∨ i = 3 ∨ i = 4) with rfl | rfl | rfl | rfl | rfl <;> simp only [num, Nat.zero_add, Nat.reduceAdd] <;> omega
def Hit (L : List UInt8) (k : Nat) : Prop :=
 1 ≤ k ∧ k ≤ 4 ∧ k ≤ L.length ∧ pt (num L k (k - 1)) = true ∧ (Lib.encodeRuneZ (num L k (k - 1))).length = k ∧ ∀ i, i < k → (Lib.encodeRuneZ (num L k (k - 1))).getD i 0 = byteAt L i
theorem enc_prefix (L : List UInt8) (r : Int) (h0 : (Lib.encodeRuneZ r).length ≤ L.length) (h : ∀ i, i < (Lib.encodeRuneZ r).length → (Lib.encodeRuneZ r).getD i 0 = byteAt L i) :
 L = Lib.encodeRune r ++ L.drop (Lib.encodeRuneZ r).length := by
 have e : Lib.encodeRune r = L.take (Lib.encodeRuneZ r).length := by
  apply List.ext_getElem
  · simp [Lib.encodeRune]; omega
  ·
   intro i h1 h2
   have hi : i < (Lib.encodeRuneZ r).length := by simpa [Lib.encodeRune] using h1
   have := h i hi
   rw [List.getD_eq_getElem?_getD, List.getElem?_eq_getElem hi] at this
   simp only [Option.getD_some] at this
   have hb := L[i].toNat_lt
   simp only [Lib.encodeRune, List.getElem_map, List.getElem_take]
   rw [this]
   unfold byteAt
   rw [List.getD_eq_getElem?_getD, List.getElem?_eq_getElem (by omega)]
   exact (u8_eq _ _ (by simp)).symm
 rw [e, List.take_append_drop]
theorem hit_dec {L : List UInt8} {k : Nat} (h : Hit L k) : ok L = true ∧ ((decL L).1 : Int) = num L k (k - 1) ∧ (decL L).2 = k := by
 obtain ⟨h1, h2, h3, h4, h5, h6⟩ := h
 have e := enc_prefix L (num L k (k - 1)) (by omega) (by rw [h5]; exact h6)
 have := ok_of_enc (num L k (k - 1)) (L.drop (Lib.encodeRuneZ (num L k (k - 1))).length) h4
 rw [← e] at this
 refine ⟨this.2, ?_, ?_⟩
 ·
  rw [this.1]
  have := (pt_iff _).1 h4
  simp only []
  omega
 · rw [this.1]; simp [Lib.encodeRune, h5]
theorem dec_hit {L : List UInt8} (h : ok L = true) : Hit L (decL L).2 := by
 obtain ⟨h1, h2, h3⟩ := enc_of_ok L h
 have hl := enc_len ((decL L).1 : Int)
 have hz := (Lib.encodeRuneZ_length ((decL L).1 : Int))
 have he : (Lib.encodeRuneZ ((decL L).1 : Int)).length = (decL L).2 := by rw [← h3]; simp [Lib.encodeRune]
 have hle : (decL L).2 ≤ L.length := by
  have := congrArg List.length h2
  rw [List.length_append, h3] at this
  omega
 have hby : ∀ i, i < (decL L).2 → (Lib.encodeRuneZ ((decL L).1 : Int)).getD i 0 = byteAt L i := by
  intro i hi
  have hb := Lib.encodeRuneZ_byte ((decL L).1 : Int)
  have hil : i < (Lib.encodeRuneZ ((decL L).1 : Int)).length := by omega
  have hm := hb _ (List.getElem_mem hil)
  have hg : L[i]? = (Lib.encodeRune ((decL L).1 : Int))[i]? := by
   conv => lhs; rw [h2]
   rw [List.getElem?_append_left (by rw [h3]; exact hi)]
  have hg2 : (Lib.encodeRune ((decL L).1 : Int))[i]? = some ((Lib.encodeRuneZ ((decL L).1 : Int))[i]'hil).toNat.toUInt8 := by
   simp [Lib.encodeRune, List.getElem?_eq_getElem hil]
  unfold byteAt
  rw [List.getD_eq_getElem?_getD, List.getD_eq_getElem?_getD, hg, hg2, List.getElem?_eq_getElem hil]
  simp only [Option.getD_some]
  rw [b8 _ hm.1 hm.2]
  omega
 have hn : num L (decL L).2 ((decL L).2 - 1) = ((decL L).1 : Int) := by
  have hp := (pt_iff _).1 h1
  generalize (decL L).2 = m at *
  generalize ((decL L).1 : Int) = r at *
  clear h2 h3 hl
  by_cases c1 : r ≤ 127
  ·
   have e := Lib.encodeRuneZ_one (r := r) (by omega) c1
   rw [e] at he hby
   obtain rfl : m = 1 := he.symm
   have b0 := hby 0 (by omega)
   simp [num, hd] at b0 ⊢
   omega
  ·
   by_cases c2 : r ≤ 2047
   ·
    have e := Lib.encodeRuneZ_two (r := r) (by omega) c2
    rw [e] at he hby
    obtain rfl : m = 2 := he.symm
    have b0 := hby 0 (by omega)
    have b1 := hby 1 (by omega)
    simp [num, hd] at b0 b1 ⊢
    omega
   ·
    by_cases c3 : r ≤ 65535
    ·
     have e := Lib.encodeRuneZ_three (r := r) (by omega)
     rw [e] at he hby
     obtain rfl : m = 3 := he.symm
     have b0 := hby 0 (by omega)
     have b1 := hby 1 (by omega)
     have b2 := hby 2 (by omega)
     simp [num, hd] at b0 b1 b2 ⊢
     omega
    ·
     have e := Lib.encodeRuneZ_four (r := r) (by omega) (by omega)
     rw [e] at he hby
     obtain rfl : m = 4 := he.symm
     have b0 := hby 0 (by omega)
     have b1 := hby 1 (by omega)
     have b2 := hby 2 (by omega)
     have b3 := hby 3 (by omega)
     simp [num, hd] at b0 b1 b2 b3 ⊢
     omega
 refine ⟨by omega, by omega, hle, ?_, ?_, ?_⟩
 · rw [hn]; exact h1
 · rw [hn]; exact he
 · rw [hn]; exact hby
theorem no_hit {L : List UInt8} (h : ∀ k, 1 ≤ k → k ≤ 4 → ¬ Hit L k) : ok L = false := by
 cases ho : ok L with
 | false => rfl
 | true =>
  have hh := dec_hit ho
  exact absurd hh (h _ hh.1 hh.2.1)
theorem no_hit_short {L : List UInt8} {m : Nat} (h : ∀ k, 1 ≤ k → k < m → ¬ Hit L k) (hm : L.length < m) : ok L = false :=
 no_hit fun k h1 _ hh => by
  by_cases hk : k < m
  · exact h k h1 hk hh
  · have := hh.2.2.1; omega
end Go.Proofs.YtgblenoaeanogaaGreatDoor.Pl
namespace Go.Proofs.YtgblenoaeanogaaGreatDoor
open Go.RowKit
open Pl
def ints (l : List Int) : Array Value := (l.map (Value.int .i64)).toArray
theorem bytes_any (n : Int) (w : World) (h : pt n = true) : Calls Tryz.prog 69 #[.int .i64 n] w fun e w' =>
 e = .returned (.slice (some ⟨w.heap.size, 0, none⟩) (Lib.encodeRuneZ n).length (Lib.encodeRuneZ n).length) ∧ w' = w.alloc (.cells (ints (Lib.encodeRuneZ n)) 3) := by
 have hp := (pt_iff n).1 h
 clear h
 by_cases h1 : n ≤ 127
 ·
  have e := hid (Lib.encodeRuneZ_one (r := n) (by omega) h1)
  have b : 0 ≤ n := by omega
  clear hp
  go_enter Tryz.func69, Tryz.ntmps69
  go_wp2_with fail
  rw [e.out]
  go_ret
  exact ⟨rfl, rfl⟩
 ·
  by_cases h2 : n ≤ 2047
  ·
   have e := hid (Lib.encodeRuneZ_two (r := n) (by omega) h2)
   have b : 128 ≤ n := by omega
   clear hp h1
   go_enter Tryz.func69, Tryz.ntmps69
   go_wp2_with fail
   rw [e.out]
   go_ret
   exact ⟨rfl, rfl⟩
  ·
   by_cases h3 : n ≤ 65535
   ·
    have e := hid (Lib.encodeRuneZ_three (r := n) (by omega))
    have b : 2048 ≤ n := by omega
    clear hp h1 h2
    go_enter Tryz.func69, Tryz.ntmps69
    go_wp2_with fail
    rw [e.out]
    go_ret
    exact ⟨rfl, rfl⟩
   ·
    have e := hid (Lib.encodeRuneZ_four (r := n) (by omega) (by omega))
    have b : 65536 ≤ n := by omega
    have b2 : n ≤ 1114111 := by omega
    clear hp h1 h2 h3
    go_enter Tryz.func69, Tryz.ntmps69
    go_wp2_with fail
    rw [e.out]
    go_ret
    exact ⟨rfl, rfl⟩
theorem ints_cell (E : List Int) (w : World) (t : TypeId) (j : Nat) (h : j < E.length) : (w.alloc (.cells (ints E) t)).cell? ⟨w.heap.size, j, none⟩ = some (.int .i64 (E.getD j 0)) := by
 have := cell_of_row (w.alloc (.cells (ints E) t)) w.heap.size j (ints E) t (0, 0) (heap_alloc_new w _)
 rw [this]
 simp [ints, List.getElem?_eq_getElem h]
theorem bytes_row (n : Int) (w : World) (h : pt n = true) : Calls Tryz.prog 69 #[.int .i64 n] w fun e w' =>
 ∃ b, e = .returned (.slice (some ⟨b, 0, none⟩) (Lib.encodeRuneZ n).length (Lib.encodeRuneZ n).length) ∧ (∀ j, j < (Lib.encodeRuneZ n).length → w'.cell? ⟨b, j, none⟩ = some (.int .i64 ((Lib.encodeRuneZ n).getD j 0))) ∧ Below w.heap.size w w' := by
 refine (bytes_any n w h).mono ?_
 rintro e w' ⟨rfl, rfl⟩
 exact ⟨w.heap.size, rfl, fun j hj => ints_cell _ _ _ _ hj, (Below.refl _ _).alloc (Nat.le_refl _) _⟩
def sameB (L : List UInt8) (E : List Int) (k j : Nat) : Bool := decide (E.length = k) && (List.range j).all fun i => E.getD i 0 == byteAt L i
theorem sameB_zero (L : List UInt8) (E : List Int) (k : Nat) : sameB L E k 0 = decide (E.length = k) := by simp [sameB]
theorem sameB_succ (L : List UInt8) (E : List Int) (k j : Nat) : sameB L E k (j + 1) = (sameB L E k j && (E.getD j 0 == byteAt L j)) := by
 simp [sameB, List.range_succ, Bool.and_assoc]
theorem sameB_len {L : List UInt8} {E : List Int} {k j : Nat} (h : sameB L E k j = true) : E.length = k := by
 simp [sameB] at h; exact h.1
theorem sameB_hit {L : List UInt8} {k : Nat} (h1 : 1 ≤ k) (h4 : k ≤ 4) (hl : k ≤ L.length) (hp : pt (num L k (k - 1)) = true) (h : sameB L (Lib.encodeRuneZ (num L k (k - 1))) k k = true) : Hit L k := by
 simp only [sameB, Bool.and_eq_true, decide_eq_true_eq, List.all_eq_true, List.mem_range, beq_iff_eq] at h
 exact ⟨h1, h4, hl, hp, h.1, h.2⟩
theorem sameB_no {L : List UInt8} {k j : Nat} (hj : j ≤ k) (h : sameB L (Lib.encodeRuneZ (num L k (k - 1))) k j = false) : ¬ Hit L k := by
 intro hh
 have : sameB L (Lib.encodeRuneZ (num L k (k - 1))) k j = true := by
  simp only [sameB, Bool.and_eq_true, decide_eq_true_eq, List.all_eq_true, List.mem_range, beq_iff_eq]
  exact ⟨hh.2.2.2.2.1, fun i hi => hh.2.2.2.2.2 i (by omega)⟩
 rw [this] at h
 cases h
theorem wrap_byte (s : ByteArray) (i : Nat) (h : i < s.size) (L : List UInt8) (j : Nat) (a : Nat) (e : s.data.toList.drop a = L) (ei : a + j = i) : wrap64 ((s[i]'h).toNat : Int) = byteAt L j := by
 have hb := (s[i]'h).toNat_lt
 have h1 : wrap64 ((s[i]'h).toNat : Int) = ((s[i]'h).toNat : Int) := IntWalk.wrap64_in _ (by omega)
 rw [h1]
 unfold byteAt
 rw [← e, ← get_drop, ei]
 congr 2
 exact (get_at s i h).symm
theorem first_any (s : ByteArray) (i : Nat) (w : World) (hi : i < s.size) (hs : s.size ≤ 1000000) :
 Calls Tryz.prog 68 #[.string s, .int .i64 i] w fun e w' => e = .returned (.tuple #[.int .i64 (decN (s.data.toList.drop i)), .int .i64 (decM (s.data.toList.drop i))]) ∧ Below w.heap.size w w' := by
 have hlen : (s.data.toList.drop i).length = s.size - i := by rw [List.length_drop, Array.length_toList]; rfl
 generalize hL : s.data.toList.drop i = L at *
 have Hlen := hid hlen
 have HL := hid hL
 clear hL hlen
 have i1 : (i : Int) < (s.size : Int) := by omega
 go_enter Tryz.func68, Tryz.ntmps68
 go_wp2_with fail
 go_loopw [6] (fun m wr => ∃ k : Nat, 1 ≤ k ∧ k ≤ 5 ∧ m = .int .i64 k ∧ (∀ j, 1 ≤ j → j < k → ¬ Hit L j) ∧ Below w.heap.size w wr) (fun m _ => 5 - (intOf m).toNat)
 case atStart => exact ⟨1, by omega, by omega, rfl, fun j a b => by omega, Below.refl _ _⟩
 case round =>
  obtain ⟨k, hk1, hk5, rfl, hno, hbel⟩ := hrel
  have Hno := hid hno
  clear hno
  by_cases hk : k ≤ 4
  ·
   by_cases hfit : i + k ≤ s.size
   ·
    have hcell : ∀ j : Nat, j ≤ 4 → (wr.alloc (.cells #[.int .i64 0, .int .i64 0, .int .i64 192, .int .i64 224, .int .i64 240] 147)).cell? ⟨wr.heap.size, j, none⟩ = some (.int .i64 (hd j)) := by
     intro j hj
     rcases (by omega : j = 0 ∨ j = 1 ∨ j = 2 ∨ j = 3 ∨ j = 4) with rfl | rfl | rfl | rfl | rfl <;> simp [hd]
    have hck := hcell k hk
    clear hcell
    have k5 : (k : Int) < 5 := by omega
    have t1 : decide ((k : Int) ≤ 4) = true := by simp; omega
    have t2 : decide ((s.size : Int) < (i : Int) + (k : Int)) = false := by simp; omega
    have hb0 := wrap_byte s i hi L 0 i HL.out rfl
    obtain ⟨y0, y1⟩ := byteAt_lt L 0
    obtain ⟨d0, d1⟩ := hd_b k
    go_wp2_with fail
    go_quiet (fail)
    go_wp2_with fail
    clear hb0 hck
    have hbel1 : Below w.heap.size w ((wr.alloc (.cells #[.int .i64 0, .int .i64 0, .int .i64 192, .int .i64 224, .int .i64 240] 147)).drewN nq) := below_drewN (hbel.alloc hbel.size _) _
    generalize (wr.alloc (.cells #[.int .i64 0, .int .i64 0, .int .i64 192, .int .i64 224, .int .i64 240] 147)).drewN nq = w1 at *
    go_loop [8, 9] (fun n c => ∃ j : Nat, 1 ≤ j ∧ j ≤ k ∧ c = .int .i64 j ∧ n = .int .i64 (num L k (j - 1))) (fun _ c => k - (intOf c).toNat)
    case atStart => exact ⟨1, by omega, hk1, rfl, rfl⟩
    case round =>
     obtain ⟨j, hj1, hjk, rfl, rfl⟩ := hrel
     obtain ⟨z0, z1⟩ := num_le L k (j - 1) (by omega)
     by_cases hjlt : j < k
     ·
      have hij : i + j < s.size := by omega
      have hbj := wrap_byte s (i + j) hij L j i HL.out rfl
      obtain ⟨x0, x1⟩ := byteAt_lt L j
      have hnum : num L k (j - 1) * 64 + byteAt L j - 128 = num L k j := by
       obtain ⟨j', rfl⟩ : ∃ j', j = j' + 1 := ⟨j - 1, by omega⟩
       rfl
      have Hnum := hid hnum
      clear hnum
      go_wp2_with fail
      go_round
      case rel => exact ⟨j + 1, by omega, by omega, by go_num, by rw [Nat.add_sub_cancel, ← Hnum.out]⟩
      case measure => simp [intOf]; omega
     ·
      obtain rfl : k = j := by omega
      clear hjk hj1
      have hgo : ∀ W : World, ¬ Hit L k → Below w.heap.size w W → ∃ k' : Nat, 1 ≤ k' ∧ k' ≤ 5 ∧ Value.int .i64 ((k : Int) + 1) = .int .i64 k' ∧ (∀ j, 1 ≤ j → j < k' → ¬ Hit L j) ∧ Below w.heap.size w W := by
       intro W hnh hbw
       refine ⟨k + 1, by omega, by omega, by go_num, ?_, hbw⟩
       intro a ha hb
       by_cases haj : a < k
       · exact Hno.out a ha haj
       ·
        obtain rfl : a = k := by omega
        exact hnh
      have Hgo := hid hgo
      clear hgo
      cases hpt : pt (num L k (k - 1)) with
      | false =>
       have hnh : ¬ Hit L k := fun hh => by rw [hh.2.2.2.1] at hpt; cases hpt
       go_wp2_with (go_at_call 92; refine (ris_no _ _ hpt).mono ?_; rintro e w' ⟨rfl, rfl⟩)
       go_roundw
       case rel => exact Hgo.out _ hnh hbel1
       case measure => simp [intOf]; omega
      | true =>
       have Hpt := hid hpt
       clear hpt
       have hEl := Lib.encodeRuneZ_length (num L k (k - 1))
       go_wp2_with (go_at_call 92; refine (ris_yes _ _ Hpt.out).mono ?_; rintro e w' ⟨rfl, rfl⟩)
       refine (bytes_row _ _ Hpt.out).mono ?_
       rintro e w2 ⟨b, rfl, hrow, hb2⟩
       have Hrow := hid hrow
       have hbel2 : Below w.heap.size w w2 := hbel1.trans (hb2.mono hbel1.size)
       clear hrow hb2 hbel1
       have HEl := hid hEl
       clear hEl
       go_wp2_with fail
       go_loopw [11, 12] (fun sm c wr' => ∃ q j : Nat, j ≤ k ∧ c = .int .i64 j ∧ sm = .bool (sameB L (Lib.encodeRuneZ (num L k (k - 1))) k j) ∧ wr' = w2.drewN q) (fun _ c _ => k - (intOf c).toNat)
       case atStart =>
        refine ⟨0, 0, by omega, rfl, ?_, rfl⟩
        rw [sameB_zero]
        congr 1
        rw [Bool.eq_iff_iff, beq_iff_eq, decide_eq_true_eq]
        omega
       case round =>
        obtain ⟨q, j, hjk, rfl, rfl, rfl⟩ := hrel
        cases hsm : sameB L (Lib.encodeRuneZ (num L k (k - 1))) k j with
        | false =>
         have hnh := sameB_no hjk hsm
         clear hsm
         go_wp2_with fail
         go_roundw
         case rel => exact Hgo.out _ hnh (below_drewN hbel2 _)
         case measure => simp [intOf]; omega
        | true =>
         have hlen := sameB_len hsm
         by_cases hjlt : j < k
         ·
          obtain ⟨x, hx, hc⟩ : ∃ x, (Lib.encodeRuneZ (num L k (k - 1))).getD j 0 = x ∧ w2.cell? ⟨b, j, none⟩ = some (.int .i64 x) := ⟨_, rfl, Hrow.out j (by omega)⟩
          have hij : i + j < s.size := by omega
          have hbj := wrap_byte s (i + j) hij L j i HL.out rfl
          have hnext : sameB L (Lib.encodeRuneZ (num L k (k - 1))) k (j + 1) = (x == byteAt L j) := by
           rw [sameB_succ, hsm, hx, Bool.true_and]
          have Hnext := hid hnext
          have Hl := hid hlen
          have jl : (j : Int) < ((Lib.encodeRuneZ (num L k (k - 1))).length : Int) := by omega
          have e1 : IntKind.i64.wrap ((i : Int) + (j : Int)) = (i : Int) + (j : Int) := IntWalk.i64_in _ (by omega)
          have e2 : 0 ≤ (i : Int) + (j : Int) := by omega
          have e3 : ((i : Int) + (j : Int)).toNat = i + j := by omega
          have e4 : (i : Int) + (j : Int) < (s.size : Int) := by omega
          clear hx hsm hnext hlen
          go_wp2_with fail
          go_quiet (fail)
          go_wp2_with fail
          go_roundw
          case rel => exact ⟨q + nq, j + 1, by omega, by go_num, by rw [Hnext.out], rfl⟩
          case measure => simp [intOf]; omega
         ·
          obtain rfl : k = j := by omega
          have hh := sameB_hit hk1 hk (by rw [Hlen.out]; omega) Hpt.out hsm
          obtain ⟨o1, o2, o3⟩ := hit_dec hh
          have Hres := hid (show decN L = num L k (k - 1) ∧ decM L = (k : Int) from ⟨by rw [decN_yes o1, o2], by rw [decM_yes o1, o3]⟩)
          clear hh o1 o2 o3 hlen
          go_wp2_with fail
          go_ret2
          exact ⟨by rw [Hres.out.1, Hres.out.2]; rfl, below_drewN hbel2 _⟩
   ·
    have t1 : decide ((k : Int) ≤ 4) = true := by simp; omega
    have t2 : decide ((s.size : Int) < (i : Int) + (k : Int)) = true := by simp; omega
    have ho : ok L = false := no_hit_short (m := k) (fun j h1 h2 => Hno.out j h1 h2) (by rw [Hlen.out]; omega)
    have Hres := hid (show decN L = -1 ∧ decM L = 0 from ⟨decN_no ho, decM_no ho⟩)
    clear ho
    go_wp2_with fail
    go_ret2
    exact ⟨by rw [Hres.out.1, Hres.out.2]; rfl, hbel⟩
  ·
   have t1 : decide ((k : Int) ≤ 4) = false := by simp; omega
   have ho : ok L = false := no_hit fun j h1 h2 => Hno.out j h1 (by omega)
   have Hres := hid (show decN L = -1 ∧ decM L = 0 from ⟨decN_no ho, decM_no ho⟩)
   clear ho
   go_wp2_with fail
   go_ret2
   exact ⟨by rw [Hres.out.1, Hres.out.2]; rfl, hbel⟩
open Go.RowKit
open Pl
theorem info5 : (Tryz.prog.info? 5).map (fun i => (i.zero, i.size, i.bytes)) = some (some (.int .u8 0), 1, 1) := by kernel_rfl
theorem info3 : (Tryz.prog.info? 3).map (fun i => (i.zero, i.size, i.bytes)) = some (some (.int .i64 0), 1, 8) := by kernel_rfl
def Reads (w : World) (B : Nat) (A : Option Addr) (l : List Int) : Prop :=
 l ≠ [] → ∃ b o, A = some ⟨b, o, none⟩ ∧ b < B ∧ ∀ i, i < l.length → w.cell? ⟨b, o + i, none⟩ = some (.int .i64 (l.getD i 0))
theorem own_ne {w : World} {base : Nat} {e t : TypeId} {size n : Nat} {v : Value} {xs : List Value} {g : Nat} {cs : Array Value} {fz : Nat × Nat}
 (h : w.ownsRow base e size v n xs) (hg : w.heap[g]? = some (.cells cs t fz)) (hne : e ≠ t) : some g ≠ v.ownBlock := by
 rcases h.2 with ⟨rfl, _⟩ | ⟨g', cap, cur, rfl, _, hh, _⟩
 · simp [Value.ownBlock]
 ·
  intro he
  have e1 : g = g' := by simpa [Value.ownBlock] using he
  rw [e1, hh] at hg
  injection hg with hg
  injection hg with _ h2 _
  exact hne h2
theorem conv_owned {w : World} {base : Nat} {v : Value} {L : List UInt8} (h : w.ownsRow base 5 1 v L.length (Lib.byteCells L)) :
 (convert 33 9 v).run Tryz.prog w = .ok (.string ⟨L.toArray⟩) w := by
 rcases h.2 with ⟨rfl, h0⟩ | ⟨g, cap, cur, rfl, _, hh, _⟩
 ·
  obtain rfl : L = [] := List.eq_nil_of_length_eq_zero h0
  rw [run_convert_bytes_nil w 33 5 Tryz.underlying33 Tryz.underlying5 0 0 9 Tryz.underlying9]
  rfl
 · exact run_convert_bytes_back w 33 9 5 ⟨g, 0, none⟩ cap L Tryz.underlying33 Tryz.underlying5 Tryz.underlying9 fun j hj => h.cells (g := g) rfl j _ (by simp [Lib.byteCells, List.getElem?_eq_getElem hj])
theorem bytes_blk (n : Int) (w : World) (h : pt n = true) : Calls Tryz.prog 69 #[.int .i64 n] w fun e w' =>
 ∃ b, e = .returned (.slice (some ⟨b, 0, none⟩) (Lib.encodeRuneZ n).length (Lib.encodeRuneZ n).length) ∧ w'.heap[b]? = some (.cells (ints (Lib.encodeRuneZ n)) 3 (0, 0)) ∧ w.heap.size < w'.heap.size ∧ Below w.heap.size w w' := by
 refine (bytes_any n w h).mono ?_
 rintro e w' ⟨rfl, rfl⟩
 exact ⟨w.heap.size, rfl, heap_alloc_new w _, by simp, (Below.refl _ _).alloc (Nat.le_refl _) _⟩
theorem blk_cell {E : List Int} {w : World} {b j : Nat} (h : w.heap[b]? = some (.cells (ints E) 3 (0, 0))) (hj : j < E.length) : w.cell? ⟨b, j, none⟩ = some (.int .i64 (E.getD j 0)) := by
 rw [cell_of_row w b j _ 3 (0, 0) h]
 simp [ints, List.getElem?_eq_getElem hj]
theorem flat_take_succ (l : List Int) (k : Nat) (h : k < l.length) : flat (l.take (k + 1)) = flat (l.take k) ++ Lib.encodeRune (l.getD k 0) := by
 rw [List.take_succ_eq_append_getElem h, flat_append]
 simp [flat, List.getElem?_eq_getElem h]
theorem enc_take_succ (x : Int) (j : Nat) (h : j < (Lib.encodeRuneZ x).length) :
 Lib.byteCells ((Lib.encodeRune x).take (j + 1)) = Lib.byteCells ((Lib.encodeRune x).take j) ++ [.int .u8 ((Lib.encodeRuneZ x).getD j 0)] := by
 have hb := Lib.encodeRuneZ_byte x _ (List.getElem_mem h)
 rw [List.take_succ_eq_append_getElem (by simpa [Lib.encodeRune] using h), Lib.byteCells_append]
 congr 1
 simp only [Lib.byteCells, Lib.encodeRune, List.getElem_map, List.map_cons, List.map_nil]
 rw [b8 _ hb.1 hb.2, List.getD_eq_getElem?_getD, List.getElem?_eq_getElem h]
 simp only [Option.getD_some]
 rw [Int.toNat_of_nonneg hb.1]
theorem len4 (l : List Int) : (flat l).length ≤ 4 * l.length := by
 induction l with
 | nil => simp [flat]
 | cons x l ih => rw [flat_cons, List.length_append, List.length_cons]; have := (enc_len x).2; omega
theorem rtext_any (l : List Int) (A : Option Addr) (c : Nat) (w : World) (hl : l.length ≤ 100000) (hr : Reads w w.heap.size A l) (hp : ∀ x ∈ l, pt x = true) :
 Calls Tryz.prog 50 #[.slice A l.length c] w fun e w' => e = .returned (.string ⟨(flat l).toArray⟩) ∧ Below w.heap.size w w' := by
 obtain ⟨i0, hi, hz0, hz1, hz2⟩ := info_parts info5
 by_cases hnil : l = []
 ·
  subst hnil
  have hcv := conv_owned (L := []) (World.ownsRow_nil w w.heap.size 5 1)
  clear hr hp hl hi hz0 hz1 hz2
  go_enter Tryz.func50, Tryz.ntmps50
  go_wp2_with fail
  go_loop [3, 9] (fun v i => v = .slice none 0 0 ∧ i = .int .i64 0) (fun _ _ => 0)
  case atStart => exact ⟨rfl, rfl⟩
  case round =>
   obtain ⟨rfl, rfl⟩ := hrel
   go_wp2_with fail
   go_ret
   exact ⟨rfl, Below.refl _ _⟩
 ·
  obtain ⟨b, o, rfl, hbw, hcell⟩ := hr hnil
  clear hr hnil
  have Hcell := hid hcell
  have Hp := hid hp
  clear hcell hp
  go_enter Tryz.func50, Tryz.ntmps50
  go_wp2_with fail
  go_loopw [3, 9] (fun v i wr => ∃ k : Nat, k ≤ l.length ∧ i = .int .i64 k ∧ wr.ownsRow w.heap.size 5 1 v (flat (l.take k)).length (Lib.byteCells (flat (l.take k))) ∧ Below w.heap.size w wr) (fun _ i _ => l.length - (intOf i).toNat)
  case atStart => exact ⟨0, Nat.zero_le _, rfl, World.ownsRow_nil _ _ _ _, Below.refl _ _⟩
  case round =>
   obtain ⟨k, hk, rfl, hown, hbel⟩ := hrel
   by_cases hlt : k < l.length
   ·
    have t1 : decide ((k : Int) < (l.length : Int)) = true := decide_eq_true (by omega)
    have hck : wr.cell? ⟨b, o + k, none⟩ = some (.int .i64 (l.getD k 0)) := (hbel.cell (by exact hbw)).trans (Hcell.out k hlt)
    have hpk : pt (l.getD k 0) = true := Hp.out _ (by rw [List.getD_eq_getElem?_getD, List.getElem?_eq_getElem hlt]; exact List.getElem_mem hlt)
    have hflat := flat_take_succ l k hlt
    have Hpk := hid hpk
    have Hflat := hid hflat
    have Hown := hid hown
    have Hbel := hid hbel
    clear hpk hflat hown hbel
    generalize l.getD k 0 = x at *
    go_wp2_with fail
    refine (bytes_blk _ _ Hpk.out).mono ?_
    rintro e w2 ⟨b2, rfl, hblk, hsz2, hb2⟩
    have Hbel2 := hid (Hbel.out.trans (hb2.mono Hbel.out.size))
    have Hown2 := hid (World.ownsRow.kept Hown.out (w' := w2) (row := none) ⟨hb2.os, hb2.tape, hb2.output, hb2.size, fun a ha _ => hb2.block a ha⟩ (by cases u3 <;> simp [Value.ownBlock] <;> split <;> simp))
    have Hblk := hid hblk
    clear hblk hsz2 hb2 Hown Hbel hck
    go_wp2_with fail
    have hEl := Lib.encodeRuneZ_length x
    have hfl : (flat (l.take k)).length ≤ 400000 := by
     have h1 := len4 (l.take k)
     rw [List.length_take] at h1
     omega
    go_loopw [3, 19] (fun v i wi => ∃ j : Nat, j ≤ (Lib.encodeRuneZ x).length ∧ i = .int .i64 j ∧ wi.ownsRow w.heap.size 5 1 v ((flat (l.take k)).length + j) (Lib.byteCells (flat (l.take k)) ++ Lib.byteCells ((Lib.encodeRune x).take j)) ∧ wi.heap[b2]? = some (.cells (ints (Lib.encodeRuneZ x)) 3 (0, 0)) ∧ Below w.heap.size w wi) (fun _ i _ => (Lib.encodeRuneZ x).length - (intOf i).toNat)
    case atStart => exact ⟨0, Nat.zero_le _, rfl, by simpa [Lib.byteCells] using Hown2.out, Hblk.out, Hbel2.out⟩
    case round =>
     obtain ⟨j, hj, rfl, hown, hblk, hbel⟩ := hrel
     by_cases hjlt : j < (Lib.encodeRuneZ x).length
     ·
      have t2 : decide ((j : Int) < ((Lib.encodeRuneZ x).length : Int)) = true := decide_eq_true (by omega)
      have hcj := blk_cell hblk hjlt
      have hby := Lib.encodeRuneZ_byte x _ (List.getElem_mem hjlt)
      have hts := enc_take_succ x j hjlt
      have hyb : 0 ≤ (Lib.encodeRuneZ x).getD j 0 ∧ (Lib.encodeRuneZ x).getD j 0 < 256 := by
       rw [List.getD_eq_getElem?_getD, List.getElem?_eq_getElem hjlt]; exact hby
      clear hby
      generalize (Lib.encodeRuneZ x).getD j 0 = y at *
      obtain ⟨y0, y1⟩ := hyb
      have hwy : IntKind.u8.wrap y = y := by rw [IntKind.wrap_u8]; omega
      have Hts := hid hts
      have Hneb := hid (own_ne hown hblk (by decide))
      have Hblk' := hid hblk
      have Hown' := hid hown
      have Hbel' := hid hbel
      clear hts hblk hown hbel
      go_wp2_with (at_builtin; refine wpList_append_own _ rfl _ _ 33 rfl w.heap.size 5 i0 (.int .u8 0) 1 1 Tryz.underlying33 hi hz0 hz1 hz2 rfl (by decide) _ _ _ rfl (Hown'.out.alloc _) ⟨wr.heap.size, 0, none⟩ 1 1 [.int .u8 y] rfl rfl ?c1 ?c2 ?c3 ?c4 ?c5 ?_)
      case c1 =>
       intro a u hu
       match a, hu with
       | 0, hu => simp at hu; subst hu; simp [Addr.add]
      case c2 => intro u hu; simp at hu; subst hu; rfl
      case c3 => unfold maxLen; omega
      case c4 => omega
      case c5 => have := Hbel'.out.size; simp; omega
      ·
       intro v' w3 hown3 hgrow _
       have hblk3 : w3.heap[b2]? = some (.cells (ints (Lib.encodeRuneZ x)) 3 (0, 0)) := by
        have hlt2 : b2 < wr.heap.size := (Array.getElem?_eq_some_iff.1 Hblk'.out).1
        rw [hgrow.block b2 (by simp; omega) Hneb.out]
        exact (Below.heap_alloc _ _ _ hlt2).trans Hblk'.out
       have hbel3 : Below w.heap.size w w3 := (Hbel'.out.alloc Hbel'.out.size _).grown hgrow (by have := Hbel'.out.size; simp; omega) (fun a ha => (Hown'.out.lt a ha).1)
       have Hown3 := hid hown3
       have Hblk3 := hid hblk3
       have Hbel3 := hid hbel3
       clear hown3 hgrow hblk3 hbel3
       go_wp2_with fail
       go_roundw
       case rel =>
        refine ⟨j + 1, by omega, by go_num, ?_, Hblk3.out, Hbel3.out⟩
        rw [Hts.out]
        exact Hown3.out
       case measure => simp [intOf]; omega
     ·
      obtain rfl : j = (Lib.encodeRuneZ x).length := by omega
      have t2 : decide (((Lib.encodeRuneZ x).length : Int) < ((Lib.encodeRuneZ x).length : Int)) = false := decide_eq_false (by omega)
      have Hown' := hid hown
      have Hbel' := hid hbel
      clear hown hbel hblk
      go_wp2_with fail
      go_roundw
      case rel =>
       refine ⟨k + 1, by omega, by go_num, ?_, Hbel'.out⟩
       rw [Hflat.out, List.length_append, Lib.byteCells_append]
       have he : (Lib.encodeRune x).length = (Lib.encodeRuneZ x).length := by simp [Lib.encodeRune]
       rw [he]
       have := Hown'.out
       rw [← he, List.take_length, he] at this
       exact this
      case measure => simp [intOf]; omega
   ·
    obtain rfl : k = l.length := by omega
    have t1 : decide ((l.length : Int) < (l.length : Int)) = false := decide_eq_false (by omega)
    rw [List.take_length] at hown
    have hcv := conv_owned hown
    have Hbel := hid hbel
    clear hown hbel
    go_wp2_with fail
    go_ret
    exact ⟨rfl, Hbel.out⟩
open Go.RowKit
open Tk
open Pl
def quoteB : ByteArray := ⟨#[34]⟩
theorem quote_pre (s : ByteArray) (a : Nat) (ha : a ≤ s.size) : Lib.hasPrefix (s.extract a s.size).data.toList quoteB.data.toList = (bt s a == 34) := by
 rw [show (s.extract a s.size).data.toList = (s.data.toList.drop a).take (s.size - a) from sub_list s a s.size]
 rw [List.take_of_length_le (by rw [List.length_drop, size_toList]; exact Nat.le_refl _)]
 show List.isPrefixOf [34] _ = _
 by_cases h1 : a < s.size
 ·
  rw [drop_cons h1, ← bt_at s a h1]
  simp only [List.isPrefixOf, Bool.and_true]
  by_cases h : s[a] = 34
  · rw [h]; rfl
  ·
   have : s[a].toNat ≠ 34 := fun e => h (UInt8.toNat_inj.1 e)
   have h' : ¬ (34 : UInt8) = s[a] := fun e => h e.symm
   rw [beq_eq_false_iff_ne.2 this, beq_eq_false_iff_ne.2 h']
 ·
  rw [List.drop_eq_nil_of_le (by rw [size_toList]; omega), bt_end (by omega)]
  rfl
theorem quote_any (s : ByteArray) (a : Nat) (ha : a ≤ s.size) (r : Bool) (h : (bt s a == 34) = r) (w : World) :
 Calls Tryz.prog 110 #[.string (s.extract a s.size), .string quoteB] w fun e w' => e = .returned (.bool r) ∧ w = w' := by
 have h2 := Tryz.strings_HasPrefix (s.extract a s.size) quoteB w
 rw [quote_pre s a ha, h] at h2
 exact h2.mono fun e w' ⟨a, b⟩ => ⟨a, b.symm⟩
theorem strAns_pts {s : ByteArray} {a : Nat} {l : List Int} {e : Nat} (h : str s (a + 1) [] = .pts l e) : strAns s a = .tok ⟨2, textOf l, 0, a, e⟩ := by unfold strAns; rw [h]
theorem strAns_bad {s : ByteArray} {a : Nat} {q : Nat} {c : Int} (h : str s (a + 1) [] = .bad q c) : strAns s a = .err q c := by unfold strAns; rw [h]
theorem chAt_err {s : ByteArray} {p q : Nat} {c : Int} (h : chAt s p = .bad q c) : c = 1 ∨ c = 2 ∨ c = 3 := by
 unfold chAt at h
 split at h
 · injection h with _ h; omega
 ·
  split at h
  ·
   unfold escCh at h
   split at h
   · cases h
   ·
    split at h
    ·
     unfold uniCh at h
     split at h
     · injection h with _ h; omega
     ·
      split at h
      · cases h
      ·
       split at h
       · cases h
       · injection h with _ h; omega
    · injection h with _ h; omega
  ·
   unfold rawCh at h
   split at h
   · cases h
   · injection h with _ h; omega
theorem flat_snoc (l : List Int) (x : Int) : flat (l ++ [x]) = flat l ++ Lib.encodeRune x := by rw [flat_append]; simp [flat]
theorem bld_on {T e : TypeId} {B b : Nat} {l : List Value} {W W' : World} (h : Lib.IsBuilderF T e B b l W) (hb : Below W.heap.size W W') : Lib.IsBuilderF T e B b l W' := by
 have go : ∀ p, Lib.BuilderAtF T e B b p l W → Lib.BuilderAtF T e B b p l W' := by
  rintro p ⟨h0, v, hv, ho, hn⟩
  have hlt : b < W.heap.size := (Array.getElem?_eq_some_iff.1 hv).1
  refine ⟨h0, v, (hb.block b hlt).trans hv, ?_, hn⟩
  exact World.ownsRowF.kept ho (row := none) ⟨hb.os, hb.tape, hb.output, hb.size, fun k hk _ => hb.block k hk⟩ (Classical.em _)
 exact h.imp (go _) (go _)
theorem str_any5 (b : Nat) (s : ByteArray) (a : Nat) (w : World) (hs : s.size ≤ 90000) (hc : w.cell? ⟨b, 0, none⟩ = some (.string s)) (ha : a < s.size) : Calls Tryz.prog 87 #[.pointer (some ⟨b, 0, none⟩), .int .i64 a] w fun e w' => e = .returned (strAns s a).val ∧ Below w.heap.size w w' := by
 have hb := cell_lt5 hc
 have HP := hid (fun l e h => strAns_pts (s := s) (a := a) (l := l) (e := e) h)
 have HN := hid (fun q c h => strAns_bad (s := s) (a := a) (q := q) (c := c) h)
 generalize hfr : str s (a + 1) [] = fr at *
 have HF := hid hfr
 generalize strAns s a = res at *
 clear hfr
 go_enter Tryz.func87, Tryz.ntmps87
 go_upto_region 2 with fail
 have hW : Below w.heap.size w (w.alloc (.cells #[.int .i64 0, .string ⟨#[]⟩, .int .i64 0, .int .i64 0, .int .i64 0] 99)) := (Below.refl _ _).alloc (Nat.le_refl _) _
 have hB : Blk (w.alloc (.cells #[.int .i64 0, .string ⟨#[]⟩, .int .i64 0, .int .i64 0, .int .i64 0] 99)) w.heap.size 99 #[.int .i64 0, .string ⟨#[]⟩, .int .i64 0, .int .i64 0, .int .i64 0] := Blk.new w _ _
 have hsz : (w.alloc (.cells #[.int .i64 0, .string ⟨#[]⟩, .int .i64 0, .int .i64 0, .int .i64 0] 99)).heap.size = w.heap.size + 1 := by simp
 rw [← hsz]
 change Code.wp _ _ _ _ ((w.alloc (.cells #[.int .i64 0, .string ⟨#[]⟩, .int .i64 0, .int .i64 0, .int .i64 0] 99)).alloc _)
 generalize (w.alloc (.cells #[.int .i64 0, .string ⟨#[]⟩, .int .i64 0, .int .i64 0, .int .i64 0] 99)) = W at *
 have HW := hid hW
 have HB := hid hB
 have HSZ := hid hsz
 have hcW : W.cell? ⟨b, 0, none⟩ = some (.string s) := (hW.cell (p := ⟨b, 0, none⟩) hb).trans hc
 have HC := hid hcW
 have Hb0 := hid (Lib.IsBuilderF.of (Lib.fresh_isBuilder 90 5 W))
 have hbW : b < W.heap.size := by omega
 generalize hG : w.heap.size = G at *
 have HGW := hid hG
 clear hB hW hsz hc hcW hG
 go_wp2_with fail
 go_loopw [8] (fun i wr => ∃ (p : Nat) (l : List Int), p ≤ s.size ∧ l.length ≤ p ∧ i = .int .i64 p ∧ str s p l = fr ∧ Lib.IsBuilderF 90 5 W.heap.size W.heap.size (Lib.byteCells (flat l)) wr ∧ Below W.heap.size W wr) (fun i _ => s.size + 1 - (intOf i).toNat)
 case atStart => exact ⟨a + 1, [], ha, by simp, by go_num, HF.out, Hb0.out, (Below.refl _ _).alloc (Nat.le_refl _) _⟩
 case round =>
  obtain ⟨p, l, hp, hl, rfl, hst, hI, hbel⟩ := hrel
  have HST := hid hst
  have HI := hid hI
  have Hbel := hid hbel
  have hcr : wr.cell? ⟨b, 0, none⟩ = some (.string s) := (hbel.cell (p := ⟨b, 0, none⟩) hbW).trans HC.out
  have Hcr := hid hcr
  have i1 : (p : Int) ≤ (s.size : Int) := by omega
  have i2 : (0 : Int) ≤ (p : Int) := by omega
  have hfl : (flat l).length ≤ 400000 := by
   have h1 := len4 l
   omega
  clear hst hI hbel
  by_cases h34 : bt s p = 34
  ·
   have HE := hid (HP.out l (p + 1) (by rw [← HST.out, str_end hp h34]))
   have HQ := hid (beq_iff_eq.2 h34)
   have Hsz := hid (show W.heap.size ≤ wr.heap.size from Hbel.out.size)
   clear h34
   go_wp2_with fail
   refine (quote_any s p hp true HQ.out _).mono ?_
   rintro e w2 ⟨rfl, rfl⟩
   go_wp2_with fail
   refine (Tryz.Builder_String_any_k W.heap.size W.heap.size (flat l) _ HI.out Hsz.out).mono ?_
   rintro e w3 ⟨rfl, _, b1, _⟩
   have hb3 := Hbel.out.trans b1
   have HW3 := hid (HW.out.trans (hb3.mono (show G ≤ W.heap.size by have := HSZ.out; omega)))
   have hB3 := HB.out.onto hb3
   have c0 := hB3.cell 0
   have c1 := hB3.cell 1
   have c2 := hB3.cell 2
   have c3 := hB3.cell 3
   have c4 := hB3.cell 4
   have f0 := hB3.free 0
   have f1 := hB3.free 1
   have f2 := hB3.free 2
   have f3 := hB3.free 3
   have f4 := hB3.free 4
   clear b1 hb3 hB3
   go_wp2_with fail
   refine bodyPost_ret (v := (Ans.tok ⟨2, textOf l, 0, a, p + 1⟩).val) (by simp [results, Tryz.results87, go_sem, Ans.val, textOf, c0, c1, c2, c3, c4]) rfl ⟨by rw [HE.out], ?_⟩
   exact (below_put5 HW3.out (Nat.le_refl G) _ _ _ _ _).mono (Nat.le_of_eq HGW.out)
  ·
   have HQ := hid (beq_eq_false_iff_ne.2 h34)
   have HX := hid (character_any5 b s p wr (by omega) hcr hp)
   cases hch : chAt s p with
   | bad q c =>
    rw [hch] at HX
    have HE := hid (HN.out q c (by rw [← HST.out, str_bad hp h34 hch]))
    have hcc := chAt_err hch
    have v1 : (c != 0) = true := by rw [bne_iff_ne]; omega
    have v2 : ¬ c = 0 := by omega
    clear h34 hch hcc
    go_wp2_with fail
    refine (quote_any s p hp false HQ.out _).mono ?_
    rintro e w2 ⟨rfl, rfl⟩
    go_wp2_with fail
    refine HX.out.mono ?_
    rintro e w2 ⟨rfl, b1⟩
    have hb3 := Hbel.out.trans (b1.mono Hbel.out.size)
    have HW3 := hid (HW.out.trans (hb3.mono (show G ≤ W.heap.size by have := HSZ.out; omega)))
    have hB3 := HB.out.onto hb3
    have c0 := hB3.cell 0
    have c1 := hB3.cell 1
    have c2 := hB3.cell 2
    have c3 := hB3.cell 3
    have c4 := hB3.cell 4
    have f0 := hB3.free 0
    have f1 := hB3.free 1
    have f2 := hB3.free 2
    have f3 := hB3.free 3
    have f4 := hB3.free 4
    clear b1 hb3 hB3 HX
    unfold Ch.val
    go_wp2_with fail
    refine bodyPost_ret (v := (Ans.err q c).val) (by simp [results, Tryz.results87, go_sem, Ans.val, c0, c1, c2, c3, c4]) rfl ⟨by rw [HE.out], ?_⟩
    exact (below_put5 HW3.out (Nat.le_refl G) _ _ _ _ _).mono (Nat.le_of_eq HGW.out)
   | pt n e =>
    rw [hch] at HX
    have hcp := chAt_pt hch
    have hpt := (pt_iff n).1 hcp.1
    have hx0 : 0 ≤ n := by omega
    have hx1 : n ≤ 1114111 := by omega
    have he1 := hcp.2.1
    have he2 := hcp.2.2
    have HS := hid (show str s e (l ++ [n]) = fr by rw [← HST.out, str_pt hp h34 hch])
    clear h34 hch hcp hpt
    go_wp2_with fail
    refine (quote_any s p hp false HQ.out _).mono ?_
    rintro e0 w2 ⟨rfl, rfl⟩
    go_wp2_with fail
    refine HX.out.mono ?_
    rintro e0 w2 ⟨rfl, b1⟩
    have hb3 := Hbel.out.trans (b1.mono Hbel.out.size)
    have HB3 := hid hb3
    have Hsz := hid hb3.size
    have HI2 := hid (bld_on HI.out b1)
    clear b1 hb3 HX
    unfold Ch.val
    go_wp2_with fail
    refine (Tryz.Builder_WriteRune_k W.heap.size W.heap.size _ n (by omega) (by omega) _ HI2.out (by rw [Lib.byteCells_length]; omega) Hsz.out).mono ?_
    rintro e0 w4 ⟨rfl, h1, b2, k1⟩
    have H1 := hid h1
    have B1 := hid (HB3.out.trans b2)
    clear h1 b2 k1
    go_wp2_with fail
    go_roundw
    case rel =>
     refine ⟨e, l ++ [n], he2, by rw [List.length_append, List.length_singleton]; omega, rfl, HS.out, ?_, B1.out⟩
     rw [flat_snoc, Lib.byteCells_append, Lib.byteCells_encodeRune]
     exact Or.inr H1.out
    case measure => simp [intOf]; omega
end Go.Proofs.YtgblenoaeanogaaGreatDoor
