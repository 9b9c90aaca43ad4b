/- The next number: of a script, of a mixer, of the reference's source. -/
import Derived.Test.YtkccciacngjhfaaDwC
namespace Go.Proofs.Ytkccciacngjhfaa
open Go.RowKit

/-- all blocks but g are kept -/
structure Apt (g : Nat) (w w' : World) : Prop where
  os : w'.os = w.os
  tape : w'.tape = w.tape
  output : w'.output = w.output
  size : w.heap.size ≤ w'.heap.size
  block : ∀ k, k < w.heap.size → k ≠ g → w'.heap[k]? = w.heap[k]?
theorem Apt.refl (g : Nat) (w : World) : Apt g w w := ⟨rfl, rfl, rfl, Nat.le_refl _, fun _ _ _ => rfl⟩
theorem Apt.trans {g : Nat} {a b c : World} (h : Apt g a b) (k : Apt g b c) : Apt g a c :=
  ⟨k.os.trans h.os, k.tape.trans h.tape, k.output.trans h.output, Nat.le_trans h.size k.size, fun x hx hg => (k.block x (Nat.lt_of_lt_of_le hx h.size) hg).trans (h.block x hx hg)⟩
theorem Apt.of {g : Nat} {w w' : World} (h : Below w.heap.size w w') : Apt g w w' := ⟨h.os, h.tape, h.output, h.size, fun k hk _ => h.block k hk⟩
theorem Apt.set {g o : Nat} {a w : World} (h : Apt g a w) (v : Value) : Apt g a (w.setCell ⟨g, o, none⟩ v) :=
  ⟨h.os, h.tape, h.output, by simpa [World.setCell] using h.size, fun k hk hg => (Below.heap_setCell _ _ _ _ hg).trans (h.block k hk hg)⟩
theorem Apt.below {g B : Nat} {a w w' : World} (h : Apt g w w') (hb : Below B a w) (h1 : B ≤ g) (h2 : B ≤ w.heap.size) : Below B a w' :=
  hb.trans ⟨h.os, h.tape, h.output, h.size, fun k hk => h.block k (Nat.lt_of_lt_of_le hk h2) (by omega)⟩
theorem Apt.blk {g q : Nat} {w w' : World} {t : TypeId} {cs : Array Value} (h : Apt g w w') (hq : q ≠ g) (hb : Blk w q t cs) : Blk w' q t cs := (h.block q hb.lt hq).trans hb

/-- what a number leaves, from 0 on -/
def remI (n b : Int) : Int := if n.tmod b < 0 then n.tmod b + b else n.tmod b
theorem remI_lt (n b : Int) (h : 0 < b) : remI n b < b := by
  unfold remI
  have := Int.tmod_lt_of_pos n h
  split <;> omega
theorem tmod_bds (n b : Int) (h : 0 < b) : -b < n.tmod b ∧ n.tmod b < b := by
  refine ⟨?_, Int.tmod_lt_of_pos n h⟩
  have h1 := Int.tmod_lt_of_pos (-n) h
  rw [Int.neg_tmod] at h1
  omega

set_option maxRecDepth 100000 in
theorem nextS_no (g : Nat) (b : Int) (w : World) (hb : ¬ isB b) :
    Calls Try.prog 44 #[.pointer (some ⟨g, 0, none⟩), .int .i64 b] w fun e w' => e = .returned (.int .i64 0) ∧ w = w' := by
  have H := Lib.hid hb
  clear hb
  go_enter Try.func44, Try.ntmps44
  go_wp2_with fail
  refine (counts_no g b _ H.out).mono ?_
  rintro e w' ⟨rfl, rfl⟩
  go_wp2_with fail
  go_ret
  exact ⟨rfl, rfl⟩
set_option maxRecDepth 100000 in
theorem nextS_nil (lo g : Nat) (b u : Int) (w : World) (hb : isB b) (hu0 : 0 ≤ u) (hu : u ≤ 1000000) (hs : ScrB w lo g u []) :
    Calls Try.prog 44 #[.pointer (some ⟨g, 0, none⟩), .int .i64 b] w fun e w' => e = .returned (.int .i64 0) ∧ ScrB w' lo g (u + 1) [] ∧ Apt g w w' := by
  obtain ⟨A, c, hk, hc, hr, hlo⟩ := hs
  have H := Lib.hid (counts_yes g b u w hb (hk.cell 0) (hk.free 0) hu0 hu)
  have hk1 : Blk (w.setCell ⟨g, 0, none⟩ (.int .i64 (u + 1))) g 64 #[.int .i64 (u + 1), .slice A 0 c] := hk.set_ 0 _
  have ha : Apt g w (w.setCell ⟨g, 0, none⟩ (.int .i64 (u + 1))) := (Apt.refl g w).set _
  generalize (w.setCell ⟨g, 0, none⟩ (.int .i64 (u + 1))) = W at *
  have hk1' := Lib.hid hk1
  have HA := Lib.hid ha
  have c1 : W.cell? ⟨g, 1, none⟩ = some (.slice A 0 c) := hk1.cell 1
  have HLO := Lib.hid hlo
  clear hk hk1 ha hr hb hlo
  go_enter Try.func44, Try.ntmps44
  go_wp2_with fail
  refine H.out.mono ?_
  rintro e w' ⟨rfl, rfl⟩
  go_wp2_with fail
  go_ret
  exact ⟨rfl, ⟨A, c, hk1'.out, hc, RI.nil _ _ _, HLO.out⟩, HA.out⟩
set_option maxRecDepth 100000 in
set_option maxHeartbeats 2000000 in
theorem nextS_cons (lo g : Nat) (b u n : Int) (rest : List Int) (w : World) (hb : isB b) (hu0 : 0 ≤ u) (hu : u ≤ 1000000) (hs : ScrB w lo g u (n :: rest)) :
    Calls Try.prog 44 #[.pointer (some ⟨g, 0, none⟩), .int .i64 b] w fun e w' => e = .returned (.int .i64 (remI n b)) ∧ ScrB w' lo g (u + 1) rest ∧ Apt g w w' := by
  obtain ⟨A, c, hk, hc, hr, hlo⟩ := hs
  have H := Lib.hid (counts_yes g b u w hb (hk.cell 0) (hk.free 0) hu0 hu)
  have hk1 : Blk (w.setCell ⟨g, 0, none⟩ (.int .i64 (u + 1))) g 64 #[.int .i64 (u + 1), .slice A (n :: rest).length c] := hk.set_ 0 _
  have ha : Apt g w (w.setCell ⟨g, 0, none⟩ (.int .i64 (u + 1))) := (Apt.refl g w).set _
  have hr1 : RI (w.setCell ⟨g, 0, none⟩ (.int .i64 (u + 1))) g A (n :: rest) := hr.below ((Below.refl g w).setCell (Nat.le_refl _) _) (Nat.le_refl _)
  generalize (w.setCell ⟨g, 0, none⟩ (.int .i64 (u + 1))) = W at *
  obtain ⟨b1, o1, rfl, hb1, c1⟩ := hr1.at_ (k := 0) (by simp)
  have e1 : W.cell? ⟨b1, o1, none⟩ = some (.int .i64 n) := c1 0 (by simp)
  simp only [List.length_cons] at hk1 hc
  have HK := Lib.hid hk1
  have HA := Lib.hid ha
  have HR := Lib.hid hr1
  have d1 : W.cell? ⟨g, 1, none⟩ = some (.slice (some ⟨b1, o1, none⟩) (rest.length + 1) c) := hk1.cell 1
  have f1 : W.frozen? ⟨g, 1, none⟩ = false := hk1.free 1
  obtain ⟨hb2, hb3⟩ := hb
  have hbd := tmod_bds n b (by omega)
  have tb0 : (b == 0) = false := by simp; omega
  have HF := Lib.hid (show ∀ A' c', c = c' + 1 → (A' = if c = 1 then (⟨b1, o1, none⟩ : Addr) else ⟨b1, o1 + 1, none⟩) → ∀ W', W' = W.setCell ⟨g, 1, none⟩ (.slice (some A') rest.length c') → ScrB W' lo g (u + 1) rest ∧ Apt g w W' from by
    rintro A' c' rfl rfl W' rfl
    have hlo1 := hlo _ rfl
    refine ⟨⟨_, c', HK.out.set_ 1 _, by omega, ?_, fun a h => by injection h with h; rw [← h]; split <;> exact hlo1⟩, HA.out.set _⟩
    have hr2 : RI (W.setCell ⟨g, 1, none⟩ (.slice (some (if c' + 1 = 1 then (⟨b1, o1, none⟩ : Addr) else ⟨b1, o1 + 1, none⟩)) rest.length c')) g (some ⟨b1, o1, none⟩) (n :: rest) := HR.out.below ((Below.refl g W).setCell (Nat.le_refl _) _) (Nat.le_refl _)
    by_cases hr0 : rest = []
    · subst hr0; exact RI.nil _ _ _
    · intro _
      have hp : 0 < rest.length := List.length_pos_iff.2 hr0
      rw [if_neg (by omega)] at hr2 ⊢
      obtain ⟨b3, o3, e3, hb3, c3⟩ := hr2.at_ (k := 0) (by simp)
      injection e3 with e3
      injection e3 with e4 e5
      subst e4 e5
      refine ⟨_, _, rfl, hb1, fun i hi => ?_⟩
      have := c3 (i + 1) (by simp; omega)
      rw [show o1 + 1 + i = o1 + (i + 1) by omega, this]
      rfl)
  clear hk hk1 ha hr hr1 c1 hlo
  by_cases hneg : n.tmod b < 0
  · have hv := Lib.hid (show n.tmod b + b = remI n b by unfold remI; rw [if_pos hneg])
    have t3 : decide (n.tmod b < 0) = true := decide_eq_true hneg
    go_enter Try.func44, Try.ntmps44
    go_wp2_with fail
    refine H.out.mono ?_
    rintro e w' ⟨rfl, rfl⟩
    go_wp2_with fail
    all_goals
      go_ret
      first
        | exact ⟨r_int hv.out, HF.out ⟨b1, o1, none⟩ 0 (by omega) (by rw [if_pos (by omega)]) _ rfl⟩
        | exact ⟨r_int hv.out, HF.out ⟨b1, o1 + 1, none⟩ (c - 1) (by omega) (by rw [if_neg (by omega)]) _ rfl⟩
  · have hv := Lib.hid (show n.tmod b = remI n b by unfold remI; rw [if_neg hneg])
    have t3 : decide (n.tmod b < 0) = false := decide_eq_false hneg
    go_enter Try.func44, Try.ntmps44
    go_wp2_with fail
    refine H.out.mono ?_
    rintro e w' ⟨rfl, rfl⟩
    go_wp2_with fail
    all_goals
      go_ret
      first
        | exact ⟨r_int hv.out, HF.out ⟨b1, o1, none⟩ 0 (by omega) (by rw [if_pos (by omega)]) _ rfl⟩
        | exact ⟨r_int hv.out, HF.out ⟨b1, o1 + 1, none⟩ (c - 1) (by omega) (by rw [if_neg (by omega)]) _ rfl⟩

set_option maxRecDepth 100000 in
theorem nextM_no (g : Nat) (b : Int) (w : World) (hb : ¬ isB b) :
    Calls Try.prog 47 #[.pointer (some ⟨g, 0, none⟩), .int .i64 b] w fun e w' => e = .returned (.int .i64 0) ∧ w = w' := by
  have H := Lib.hid hb
  clear hb
  go_enter Try.func47, Try.ntmps47
  go_wp2_with fail
  refine (counts_no g b _ H.out).mono ?_
  rintro e w' ⟨rfl, rfl⟩
  go_wp2_with fail
  go_ret
  exact ⟨rfl, rfl⟩
def mx1 (z : Int) : Int := IntKind.u64.wrap (bits .xor .u64 z (z / 1073741824) * 13787848793156543929)
def mx2 (z : Int) : Int := IntKind.u64.wrap (bits .xor .u64 z (z / 134217728) * 10723151780598845931)
def mx3 (z : Int) : Int := bits .xor .u64 z (z / 2147483648)
/-- what a mixer tells by its state -/
def mixZ (z : Int) : Int := mx3 (mx2 (mx1 z))
theorem wu_bd (y : Int) : 0 ≤ IntKind.u64.wrap y ∧ IntKind.u64.wrap y < 18446744073709551616 := by
  unfold IntKind.wrap
  simp [IntKind.bits, IntKind.signed]
  omega
theorem wu_of {y : Int} (h0 : 0 ≤ y) (h1 : y < 18446744073709551616) : IntKind.u64.wrap y = y := by
  unfold IntKind.wrap
  simp [IntKind.bits, IntKind.signed]
  omega
theorem wu_quo (y k : Int) (hk : 1 ≤ k) : IntKind.u64.wrap ((IntKind.u64.wrap y).tdiv k) = IntKind.u64.wrap y / k := by
  have h := wu_bd y
  generalize IntKind.u64.wrap y = x at *
  rw [Int.tdiv_eq_ediv_of_nonneg h.1]
  have h1 := Int.ediv_nonneg h.1 (by omega : 0 ≤ k)
  have h2 := Int.ediv_le_self k h.1
  exact wu_of h1 (by omega)
theorem mixed_any (z : Int) (w : World) (h0 : 0 ≤ z) (h1 : z < 18446744073709551616) : Calls Try.prog 23 #[.int .u64 z] w fun e w' => e = .returned (.int .u64 (mixZ z)) ∧ w = w' := by
  go_enter Try.func23, Try.ntmps23
  go_wp2_with fail
  go_ret
  refine ⟨r_int ?_, rfl⟩
  rw [wu_quo _ _ (by decide), wu_quo _ _ (by decide)]
  rfl
set_option maxRecDepth 100000 in
theorem nextM_yes (g : Nat) (b u z : Int) (w : World) (hb : isB b) (hu0 : 0 ≤ u) (hu : u ≤ 1000000) (hk : Blk w g 67 #[.int .i64 u, .int .u64 z]) :
    Calls Try.prog 47 #[.pointer (some ⟨g, 0, none⟩), .int .i64 b] w fun e w' => e = .returned (.int .i64 ((mixZ (IntKind.u64.wrap (z + 11400714819323198485))).tmod b)) ∧ Blk w' g 67 #[.int .i64 (u + 1), .int .u64 (IntKind.u64.wrap (z + 11400714819323198485))] ∧ Apt g w w' := by
  have H := Lib.hid (counts_yes g b u w hb (hk.cell 0) (hk.free 0) hu0 hu)
  have hk1 : Blk (w.setCell ⟨g, 0, none⟩ (.int .i64 (u + 1))) g 67 #[.int .i64 (u + 1), .int .u64 z] := hk.set_ 0 _
  have ha : Apt g w (w.setCell ⟨g, 0, none⟩ (.int .i64 (u + 1))) := (Apt.refl g w).set _
  generalize (w.setCell ⟨g, 0, none⟩ (.int .i64 (u + 1))) = W at *
  have HK := Lib.hid hk1
  have HA := Lib.hid ha
  have d1 : W.cell? ⟨g, 1, none⟩ = some (.int .u64 z) := hk1.cell 1
  have f1 : W.frozen? ⟨g, 1, none⟩ = false := hk1.free 1
  clear hk hk1 ha
  obtain ⟨hb2, hb3⟩ := hb
  have HV := Lib.hid (fun x : Int => show wrap64 (x.tmod b) = x.tmod b from by have := tmod_bds x b (by omega); unfold wrap64; omega)
  go_enter Try.func47, Try.ntmps47
  go_wp2_with fail
  refine H.out.mono ?_
  rintro e w' ⟨rfl, rfl⟩
  go_wp2_with fail
  go_ret
  exact ⟨r_int (HV.out _), HK.out.set_ 1 _, HA.out.set _⟩
end Go.Proofs.Ytkccciacngjhfaa
