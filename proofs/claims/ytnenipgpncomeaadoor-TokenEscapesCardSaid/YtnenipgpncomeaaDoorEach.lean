/- Contracts of glyph.each with each of its three closures, and of Valid and Decode. -/
import Derived.Test.YtnenipgpncomeaaDoorBase
import Derived.Test.YtnenipgpncomeaaDoorSplit
import Derived.Test.YtnenipgpncomeaaDoorShelf3
import Derived.Lib.OthersKept
import Derived.Lib.Hide
import Derived.Lib.Strings
import Derived.WalkKit
import Derived.WalkSpells
import Derived.Deep.QuietTactic
import Derived.BigQuiet
import Derived.WalkSmall
import Derived.Deep.QuietTactic
import Derived.BigQuiet
import Derived.WalkSmall
namespace Go.Proofs.YtnenipgpncomeaaDoor
open Go.RowKit
open Pl

theorem pt_isPt (n : Int) : pt n = isPt n := rfl

theorem prefix_any (s : ByteArray) (i : Nat) (w : World) :
    Calls Tryd.prog 35 #[.string (s.extract i s.size), .string ⟨#[239, 191, 189]⟩] w fun e w' => e = .returned (.bool (fffd (s.data.toList.drop i))) ∧ w = w' := by
  refine (Tryd.strings_HasPrefix _ _ w).mono ?_
  rintro e w' ⟨rfl, rfl⟩
  refine ⟨ret_bool ?_, rfl⟩
  have hl : (s.data.toList.drop i).length = s.size - i := by rw [List.length_drop, Array.length_toList]; rfl
  rw [Lib.extract_data, ← hl, List.take_length]
  generalize s.data.toList.drop i = L
  unfold Lib.hasPrefix fffd
  rw [Bool.eq_iff_iff, List.isPrefixOf_iff_prefix, beq_iff_eq, List.prefix_iff_eq_take]
  exact ⟨fun h => h.symm, fun h => h.symm⟩
theorem prefix_yes (s : ByteArray) (i : Nat) (w : World) (h : fffd (s.data.toList.drop i) = true) :
    Calls Tryd.prog 35 #[.string (s.extract i s.size), .string ⟨#[239, 191, 189]⟩] w fun e w' => e = .returned (.bool true) ∧ w = w' := by
  rw [← h]; exact prefix_any s i w
theorem prefix_no (s : ByteArray) (i : Nat) (w : World) (h : fffd (s.data.toList.drop i) = false) :
    Calls Tryd.prog 35 #[.string (s.extract i s.size), .string ⟨#[239, 191, 189]⟩] w fun e w' => e = .returned (.bool false) ∧ w = w' := by
  rw [← h]; exact prefix_any s i w

theorem prefix_all (s : ByteArray) (w : World) :
    Calls Tryd.prog 35 #[.string s, .string ⟨#[239, 191, 189]⟩] w fun e w' => e = .returned (.bool (fffd (s.data.toList.drop 0))) ∧ w = w' := by
  have := prefix_any s 0 w
  rwa [show s.extract 0 s.size = s by simp] at this
theorem prefix_yes0 (s : ByteArray) (w : World) (h : fffd (s.data.toList.drop 0) = true) :
    Calls Tryd.prog 35 #[.string s, .string ⟨#[239, 191, 189]⟩] w fun e w' => e = .returned (.bool true) ∧ w = w' := by
  rw [← h]; exact prefix_all s w
theorem prefix_no0 (s : ByteArray) (w : World) (h : fffd (s.data.toList.drop 0) = false) :
    Calls Tryd.prog 35 #[.string s, .string ⟨#[239, 191, 189]⟩] w fun e w' => e = .returned (.bool false) ∧ w = w' := by
  rw [← h]; exact prefix_all s w

/-- what each answers: the place at which no point begins (0: there is none), and whether there is none -/
def stopAt (l : List Int) (R : List UInt8) : Int := if R = [] then 0 else (flat l).length
def isFull (R : List UInt8) : Bool := decide (R = [])
theorem stopAt_nil (l : List Int) {R : List UInt8} (h : R = []) : stopAt l R = 0 := if_pos h
theorem stopAt_not (l : List Int) {R : List UInt8} (h : R ≠ []) : stopAt l R = (flat l).length := if_neg h
theorem isFull_nil {R : List UInt8} (h : R = []) : isFull R = true := decide_eq_true h
theorem isFull_not {R : List UInt8} (h : R ≠ []) : isFull R = false := decide_eq_false h
theorem ret_ib {a b : Int} {c d : Bool} (h : a = b) (k : c = d) : Ending.returned (.tuple #[.int .i64 a, .bool c]) = .returned (.tuple #[.int .i64 b, .bool d]) := by rw [h, k]
theorem below_iter (w : World) (s : ByteArray) (p : Nat) : Below w.heap.size w (w.iter s p) := (Below.refl _ _).alloc (Nat.le_refl _) _

/-- what Decode answers -/
def decN (L : List UInt8) : Int := if ok L = true then (decL L).1 else -1
def decM (L : List UInt8) : Int := if ok L = true then (decL L).2 else 0
theorem decN_yes {L : List UInt8} (h : ok L = true) : decN L = (decL L).1 := if_pos h
theorem decM_yes {L : List UInt8} (h : ok L = true) : decM L = (decL L).2 := if_pos h
theorem decN_no {L : List UInt8} (h : ok L = false) : decN L = -1 := if_neg (by rw [h]; decide)
theorem decM_no {L : List UInt8} (h : ok L = false) : decM L = 0 := if_neg (by rw [h]; decide)

theorem runeLen_pt (r : Int) (h : pt r = true) : Lib.runeLen r = (Lib.encodeRune r).length := by
  have hp := (pt_iff r).1 h
  unfold Lib.runeLen Lib.encodeRune
  rw [List.length_map]
  rw [if_neg (by omega)]
  by_cases h1 : r ≤ 127
  · rw [if_pos h1, Lib.encodeRuneZ_one (by omega) h1]; rfl
  · rw [if_neg h1]
    by_cases h2 : r ≤ 2047
    · rw [if_pos h2, Lib.encodeRuneZ_two (by omega) h2]; rfl
    · rw [if_neg h2, if_neg (by omega)]
      by_cases h3 : r ≤ 65535
      · rw [if_pos h3, Lib.encodeRuneZ_three (by omega)]; rfl
      · rw [if_neg h3, if_pos (by omega), Lib.encodeRuneZ_four (by omega) (by omega)]; rfl

theorem dec1_any (r : Int) (p q : Nat) (x y : Value) (w : World) (hr0 : 0 ≤ r) (hr1 : r ≤ 1114111) (hp : w.cell? ⟨p, 0, none⟩ = some x) (hq : w.cell? ⟨q, 0, none⟩ = some y) (fp : w.frozen? ⟨p, 0, none⟩ = false) (fq : w.frozen? ⟨q, 0, none⟩ = false) (hpq : p < q) :
    Calls Tryd.prog 63 #[.int .i32 r, .pointer (some ⟨p, 0, none⟩), .pointer (some ⟨q, 0, none⟩)] w fun e w' => e = .returned (.bool false) ∧ (w.setCell ⟨p, 0, none⟩ (.int .i64 r)).setCell ⟨q, 0, none⟩ (.int .i64 (Lib.runeLen r)) = w' := by
  have hne : ¬ p = q := by omega
  have hne' : ¬ q = p := by omega
  go_enter Tryd.func63, Tryd.ntmps63
  go_wp2_with (go_at_call 64; refine (Tryd.utf8_RuneLen _ _).mono ?_; rintro e w' ⟨rfl, rfl⟩)
  go_ret
  exact ⟨rfl, rfl⟩

/-- behind a call of each by Decode: the two variables hold Decode's answers, and nothing below B has turned -/
def DecPost (L : List UInt8) (B p q : Nat) (w : World) (e : Ending) (w' : World) : Prop :=
  (∃ v, e = .returned v) ∧ w'.cell? ⟨p, 0, none⟩ = some (.int .i64 (decN L)) ∧ w'.cell? ⟨q, 0, none⟩ = some (.int .i64 (decM L)) ∧ Below B w w'

theorem decode_zero (s : ByteArray) : Utf8.decode s 0 = decL s.data.toList := by rw [decode_eq]; rfl

set_option maxHeartbeats 1000000 in
theorem each_dec (s : ByteArray) (B p q : Nat) (w : World) (hp : w.cell? ⟨p, 0, none⟩ = some (.int .i64 (-1))) (hq : w.cell? ⟨q, 0, none⟩ = some (.int .i64 0)) (fp : w.frozen? ⟨p, 0, none⟩ = false) (fq : w.frozen? ⟨q, 0, none⟩ = false)
    (hB : B ≤ p) (hpq : p < q) (hqw : q < w.heap.size) :
    Calls Tryd.prog 62 #[.string s, .func (.func 63) #[] #[.pointer (some ⟨p, 0, none⟩), .pointer (some ⟨q, 0, none⟩)]] w (DecPost s.data.toList B p q w) := by
  have cp : ∀ o, (w.alloc o).cell? ⟨p, 0, none⟩ = some (.int .i64 (-1)) := fun o => by rw [World.cell?_alloc_lt w o _ (by show p < _; omega)]; exact hp
  have cq : ∀ o, (w.alloc o).cell? ⟨q, 0, none⟩ = some (.int .i64 0) := fun o => by rw [World.cell?_alloc_lt w o _ (by show q < _; omega)]; exact hq
  have zp : ∀ o, (w.alloc o).frozen? ⟨p, 0, none⟩ = false := fun o => by rw [World.frozen?_alloc_old w o _ (by show p ≠ _; omega)]; exact fp
  have zq : ∀ o, (w.alloc o).frozen? ⟨q, 0, none⟩ = false := fun o => by rw [World.frozen?_alloc_old w o _ (by show q ≠ _; omega)]; exact fq
  have bel : ∀ o, Below B w (w.alloc o) := fun o => (Below.refl _ _).alloc (by omega) _
  by_cases hz : 0 < s.size
  · have hdz := decode_zero s
    cases ho : ok s.data.toList with
    | true =>
      obtain ⟨h1, h2, h3⟩ := enc_of_ok _ ho
      have hN := decN_yes ho
      have hM := decM_yes ho
      have hf : (decL s.data.toList).1 = 65533 → fffd (s.data.toList.drop 0) = true := by
        intro e
        simp [ok, e] at ho
        exact ho.2
      have hnx : ∀ ty, (Instr.next (.pointer (some ⟨w.heap.size, 0, none⟩)) true ty).run Tryd.prog (w.iter s 0) = .ok (.tuple #[.bool true, .int .i64 0, .int .i32 (decL s.data.toList).1]) (w.iter s (decL s.data.toList).2) := by
        intro ty
        rw [run_next_any w s 0 ty hz, hdz, Nat.zero_add]; rfl
      have hrl := runeLen_pt _ h1
      rw [h3, ← hM] at hrl
      have hp1 := (pt_iff _).1 h1
      clear h1 h2 h3 ho hdz hM hz
      rw [← hN] at hrl
      have HN := Lib.hid hN
      have hb1 : 0 ≤ decN s.data.toList ∧ decN s.data.toList ≤ 1114111 := by omega
      rw [← hN] at hnx
      have hfx : decN s.data.toList = 65533 → fffd (s.data.toList.drop 0) = true := fun e => hf (by omega)
      clear hN hf hp1 HN
      generalize hy : decM s.data.toList = m at *
      generalize hx : decN s.data.toList = x at *
      generalize (decL s.data.toList).2 = z at hnx
      have HL := Lib.hid hrl
      have HX := Lib.hid hx
      have HY := Lib.hid hy
      obtain ⟨hb1, hb2⟩ := hb1
      clear hrl hx hy
      have post : DecPost s.data.toList B p q w (.returned (.tuple #[.int .i64 0, .bool true])) (((w.iter s z).setCell ⟨p, 0, none⟩ (.int .i64 x)).setCell ⟨q, 0, none⟩ (.int .i64 (Lib.runeLen x))) := by
        refine ⟨⟨_, rfl⟩, ?_, ?_, ((bel _).setCell (by show B ≤ p; omega) _).setCell (by show B ≤ q; omega) _⟩
        · rw [World.cell?_setCell_other _ _ _ _ (by intro e; injection e; omega)]
          rw [HX.out]; exact World.cell?_setCell_same _ _ _ (cp _)
        · have : ((w.iter s z).setCell ⟨p, 0, none⟩ (.int .i64 x)).cell? ⟨q, 0, none⟩ = some (.int .i64 0) := by
            rw [World.cell?_setCell_other _ _ _ _ (by intro e; injection e; omega)]
            exact cq _
          rw [HL.out, HY.out]
          exact World.cell?_setCell_same _ _ _ this
      have Hpost := Lib.hid post
      clear post bel
      by_cases he : x = 65533
      · have Hp := Lib.hid (hfx he)
        have he' : (x == 65533) = true := by simp; omega
        clear hfx he
        go_enter Tryd.func62, Tryd.ntmps62
        go_wp2_with fail
        go_loopw [] (fun wr => wr = w.iter s 0) (fun _ => 0)
        case atStart => rfl
        case round =>
          subst hrel
          go_wp2_with (go_at_call 35; refine (prefix_yes0 s _ Hp.out).mono ?_; rintro e w' ⟨rfl, rfl⟩)
          go_wp2_with (go_at_call 63; refine (dec1_any _ p q _ _ _ hb1 hb2 (cp _) (cq _) (zp _) (zq _) hpq).mono ?_; rintro e w' ⟨rfl, rfl⟩)
          go_ret2
          exact Hpost.out
      · have he' : (x == 65533) = false := by simp; omega
        clear hfx he
        go_enter Tryd.func62, Tryd.ntmps62
        go_wp2_with fail
        go_loopw [] (fun wr => wr = w.iter s 0) (fun _ => 0)
        case atStart => rfl
        case round =>
          subst hrel
          go_wp2_with (go_at_call 63; refine (dec1_any _ p q _ _ _ hb1 hb2 (cp _) (cq _) (zp _) (zq _) hpq).mono ?_; rintro e w' ⟨rfl, rfl⟩)
          go_ret2
          exact Hpost.out
    | false =>
      have hbad : (decL s.data.toList).1 = 65533 ∧ fffd (s.data.toList.drop 0) = false := by
        have hne : s.data.toList ≠ [] := by
          intro e
          have := congrArg List.length e
          rw [Array.length_toList] at this
          exact absurd (show s.size = 0 from this) (by omega)
        cases hL : s.data.toList with
        | nil => exact absurd hL hne
        | cons a T =>
          rw [hL] at ho
          simp [ok] at ho
          exact ho
      have hnx : ∀ ty, (Instr.next (.pointer (some ⟨w.heap.size, 0, none⟩)) true ty).run Tryd.prog (w.iter s 0) = .ok (.tuple #[.bool true, .int .i64 0, .int .i32 65533]) (w.iter s (decL s.data.toList).2) := by
        intro ty
        rw [run_next_any w s 0 ty hz, hdz, Nat.zero_add, hbad.1]; rfl
      have Hp := Lib.hid hbad.2
      have post : DecPost s.data.toList B p q w (.returned (.tuple #[.int .i64 0, .bool false])) (w.iter s (decL s.data.toList).2) := by
        refine ⟨⟨_, rfl⟩, ?_, ?_, bel _⟩
        · rw [decN_no ho]; exact cp _
        · rw [decM_no ho]; exact cq _
      have Hpost := Lib.hid post
      clear post bel hbad ho hdz hz
      generalize (decL s.data.toList).2 = z at hnx Hpost
      go_enter Tryd.func62, Tryd.ntmps62
      go_wp2_with fail
      go_loopw [] (fun wr => wr = w.iter s 0) (fun _ => 0)
      case atStart => rfl
      case round =>
        subst hrel
        go_wp2_with (go_at_call 35; refine (prefix_no0 s _ Hp.out).mono ?_; rintro e w' ⟨rfl, rfl⟩)
        go_ret2
        exact Hpost.out
  · have hL : s.data.toList = [] := by
      apply List.eq_nil_of_length_eq_zero
      rw [Array.length_toList]
      exact show s.size = 0 by omega
    have hnx : ∀ ty, (Instr.next (.pointer (some ⟨w.heap.size, 0, none⟩)) true ty).run Tryd.prog (w.iter s 0) = _ := fun ty => run_next_end w s 0 ty hz
    have post : DecPost s.data.toList B p q w (.returned (.tuple #[.int .i64 0, .bool true])) (w.iter s 0) := by
      refine ⟨⟨_, rfl⟩, ?_, ?_, bel _⟩
      · rw [hL]; exact cp _
      · rw [hL]; exact cq _
    have Hpost := Lib.hid post
    clear post bel hL hz
    go_enter Tryd.func62, Tryd.ntmps62
    go_wp2_with fail
    go_loopw [] (fun wr => wr = w.iter s 0) (fun _ => 0)
    case atStart => rfl
    case round =>
      subst hrel
      go_wp2_with fail
      go_ret2
      exact Hpost.out

theorem decode_any (s : ByteArray) (w : World) :
    Calls Tryd.prog 49 #[.string s] w fun e w' => e = .returned (.tuple #[.int .i64 (decN s.data.toList), .int .i64 (decM s.data.toList)]) ∧ Below w.heap.size w w' := by
  have hmf : ∀ (fn : Fn) (first cap : Array Value) (w : World), (Instr.makeFunc fn first cap).run Tryd.prog w = .ok (.func fn first cap) w := fun _ _ _ _ => rfl
  go_enter Tryd.func49, Tryd.ntmps49
  go_wp2_with fail
  refine (each_dec s w.heap.size w.heap.size (w.heap.size + 1) _ (by simp) (by simp) (by simp) (by simp) (by omega) (by omega) (by simp)).mono ?_
  rintro e w1 ⟨⟨v, rfl⟩, c1, c2, hb⟩
  go_wp2_with fail
  go_quiet (fail)
  go_wp2_with fail
  go_ret2
  exact ⟨rfl, below_drewN (((Below.refl _ _).alloc (Nat.le_refl _) _).alloc (by simp) _ |>.trans hb) _⟩
end Go.Proofs.YtnenipgpncomeaaDoor
