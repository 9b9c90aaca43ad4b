/- GlyphLists: any numbers have a text just if all of them are points, and that text is the reference's and has just those points. No conditions: any slice of ints (the law itself asks nothing of more than 100 numbers). -/
import Derived.Test.YteelelbkbhlilaaRows
import Derived.Test.YteelelbkbhlilaaText
import Derived.WalkKit
import Derived.ProofKit
import Derived.OpenShut
import Derived.ShutString
import Derived.ChangeOld
import Derived.Below
namespace Go.Proofs.Yteelelbkbhlilaa.glyphLists
open Pl
open Go.ChangeShapes Go.WideShapes Go.ChangeAt Go.RowKit
open Go.ChangeMaps (open_string shut_string)
set_option linter.unusedVariables false

theorem own : ownKnob Try.prog.godebug = none := by kernel_rfl
theorem laidOut : laidOutB Try.prog = true := by kernel_rfl

/-- WHAT THE WALK IS TOLD OF A SLICE OF INTEGERS THAT CAME IN: it is nil; or it leads to a row of 'cap' cells, the numbers 'zs' (the first 'len' are its elements, the rest its spare room), each fitting its kind. -/
def IsRow (k : IntKind) (w : World) (a : Option Addr) (len cap : Nat) (zs : List Int) : Prop :=
  (a = none ∧ len = 0 ∧ cap = 0 ∧ zs = []) ∨
  ∃ x, a = some x ∧ len ≤ cap ∧ cap ≤ maxLen ∧ zs.length = cap ∧ (∀ i, i < zs.length → w.cell? (x.add i) = some (.int k (zs.getD i 0))) ∧ ∀ n ∈ zs, (Lit.int k n).wf = true

def allPt (l : List Int) (k : Nat) : Bool := (l.take k).all pt
theorem allPt_succ (l : List Int) (k : Nat) (h : k < l.length) : allPt l (k + 1) = (allPt l k && pt (l.getD k 0)) := by
  unfold allPt
  rw [getD_take_succ l k h, List.all_append]
  simp
theorem allPt_all (l : List Int) : allPt l l.length = l.all pt := by unfold allPt; rw [List.take_length]

set_option maxRecDepth 100000 in
set_option maxHeartbeats 4000000 in
theorem walkL (l : List Int) (A : Option Addr) (c : Nat) (w : World) (hr : Reads w w.heap.size A l) :
    Calls Try.prog 6 #[.slice A l.length c] w fun e w' => e = .returned (.bool true) ∧ Below w.heap.size w w' := by
  by_cases h0 : l.length ≤ 100
  · have t0 : decide ((100 : Int) < (l.length : Int)) = false := decide_eq_false (by omega)
    have Hr := Lib.hid hr
    clear hr
    go_enter Try.func6, Try.ntmps6
    go_wp2_with fail
    refine (awake_any _).mono ?_
    rintro e w' ⟨rfl, rfl⟩
    go_wp2_with fail
    go_loop [3, 21] (fun g i => ∃ k : Nat, k ≤ l.length ∧ i = .int .i64 k ∧ g = .bool (allPt l k)) (fun _ i => l.length - (intOf i).toNat)
    case atStart => exact ⟨0, Nat.zero_le _, rfl, rfl⟩
    case round =>
      obtain ⟨k, hk, rfl, rfl⟩ := hrel
      by_cases hlt : k < l.length
      · have u1 : decide (k < l.length) = true := decide_eq_true hlt
        have hne : l ≠ [] := by intro e; subst e; simp at hlt
        obtain ⟨p1, o1, hA, _, d1⟩ := Hr.out hne
        have cell1 := d1 k hlt
        subst hA
        have hsucc := allPt_succ l k hlt
        clear d1 hne
        cases hg : allPt l k with
        | false =>
          rw [hg, Bool.false_and] at hsucc
          have Hs := Lib.hid hsucc
          clear hsucc hg
          go_wp2_with fail
          go_round
          case rel => exact ⟨k + 1, by omega, by go_num, by rw [Hs.out]⟩
          case measure => simp [intOf]; omega
        | true =>
          rw [hg, Bool.true_and] at hsucc
          have Hs := Lib.hid hsucc
          clear hsucc hg
          generalize l.getD k 0 = x at cell1 Hs
          cases hp : pt x with
          | true =>
            have Hp := Lib.hid hp
            rw [hp] at Hs
            clear hp
            go_wp2_with fail
            refine (ris_yes x _ Hp.out).mono ?_
            rintro e w' ⟨rfl, rfl⟩
            go_wp2_with fail
            go_round
            case rel => exact ⟨k + 1, by omega, by go_num, by rw [Hs.out]⟩
            case measure => simp [intOf]; omega
          | false =>
            have Hp := Lib.hid hp
            rw [hp] at Hs
            clear hp
            go_wp2_with fail
            refine (ris_no x _ Hp.out).mono ?_
            rintro e w' ⟨rfl, rfl⟩
            go_wp2_with fail
            go_round
            case rel => exact ⟨k + 1, by omega, by go_num, by rw [Hs.out]⟩
            case measure => simp [intOf]; omega
      · obtain rfl : l.length = k := by omega
        rw [allPt_all]
        cases hall : l.all pt with
        | false =>
          have hbad : ∃ x ∈ l, pt x = false := by simpa using hall
          have Hbad := Lib.hid hbad
          clear hall hbad
          go_wp2_with fail
          refine (text_bad l A c _ (by omega) Hr.out Hbad.out).mono ?_
          rintro e w1 ⟨rfl, b1⟩
          have B1 := Lib.hid b1
          clear b1
          go_wp2_with fail
          go_ret
          exact ⟨ret_bool (by simp), B1.out⟩
        | true =>
          have hgood : ∀ x ∈ l, pt x = true := by simpa using hall
          have Hgood := Lib.hid hgood
          obtain ⟨S, HS⟩ : ∃ S : ByteArray, Hid (S = ⟨(flat l).toArray⟩) := ⟨_, Lib.hid rfl⟩
          have sp : Split S.data.toList l [] := ⟨by rw [HS.out]; simp, rfl, hgood⟩
          have hz : S.size ≤ 100000 := by
            have h1 := sp.size
            have h2 := len4 l
            simp at h1
            omega
          have Hz := Lib.hid hz
          clear hall hgood hz
          go_wp2_with fail
          refine (text_good l A c S _ (by omega) Hr.out Hgood.out HS.out).mono ?_
          rintro e w1 ⟨rfl, b1⟩
          go_wp2_with fail
          refine (points_full S l sp Hz.out _).mono ?_
          rintro e w2 ⟨A2, c2, rfl, r2, b2⟩
          have Hr2 := Lib.hid (Hr.out.below (b1.trans (b2.mono b1.size)) (Nat.le_refl _))
          have Hb2 := Lib.hid (b1.trans (b2.mono b1.size))
          have R2 := Lib.hid r2
          clear b1 b2 r2
          go_wp2_with fail
          refine (rtext_any l A c _ (by omega) (Hr2.out.more Hb2.out.size) Hgood.out).mono ?_
          rintro e w3 ⟨rfl, b3⟩
          rw [← HS.out]
          have Hr3 := Lib.hid (Hr2.out.below b3 Hb2.out.size)
          have R3 := Lib.hid (R2.out.below b3 (Nat.le_refl _))
          have Hb3 := Lib.hid (Hb2.out.trans (b3.mono Hb2.out.size))
          clear b3
          go_wp2_with fail
          go_loopw [70] (fun i wr => ∃ q k : Nat, k ≤ l.length ∧ i = .int .i64 k ∧ wr = w3.drewN q) (fun i _ => l.length - (intOf i).toNat)
          case atStart => exact ⟨0, 0, Nat.zero_le _, rfl, rfl⟩
          case round =>
            obtain ⟨q, k, hk, rfl, rfl⟩ := hrel
            by_cases hlt : k < l.length
            · have u1 : decide (k < l.length) = true := decide_eq_true hlt
              have hne : l ≠ [] := by intro e; subst e; simp at hlt
              obtain ⟨p1, o1, hA, _, d1⟩ := Hr3.out hne
              have cell1 := d1 k hlt
              subst hA
              obtain ⟨p2, o2, hA', _, d2⟩ := R3.out hne
              have cell2 := d2 k hlt
              subst hA'
              clear d1 d2 hne
              generalize l.getD k 0 = x at cell1 cell2
              go_wp2_with fail
              go_quiet (fail)
              go_wp2_with fail
              go_roundw
              case rel => exact ⟨_, k + 1, by omega, by go_num, rfl⟩
              case measure => simp [intOf]; omega
            · obtain rfl : l.length = k := by omega
              go_wp2_with fail
              go_ret
              exact ⟨rfl, below_drewN Hb3.out _⟩
  · have t0 : decide ((100 : Int) < (l.length : Int)) = true := decide_eq_true (by omega)
    go_enter Try.func6, Try.ntmps6
    go_wp2_with (go_at_call 10; refine (awake_any _).mono ?_; rintro e w' ⟨rfl, rfl⟩)
    go_ret
    exact ⟨rfl, Below.refl _ _⟩

theorem walk (a0 : Option Addr) (len0 cap0 : Nat) (z0 : List Int) (w : World) (w0 : IsRow .i64 w a0 len0 cap0 z0) :
    Calls Try.prog 6 #[.slice a0 len0 cap0] w fun e w' => e = .returned (.bool true) ∧ Below w.heap.size w w' := by
  rcases w0 with ⟨rfl, rfl, rfl, rfl⟩ | ⟨x, rfl, hl, hm, hz, hcell, hwz⟩
  · exact walkL [] none 0 w (fun h => absurd rfl h)
  · have hlen : (z0.take len0).length = len0 := by rw [List.length_take]; omega
    have hr : Reads w w.heap.size (some x) (z0.take len0) := by
      intro hne
      have hpos : 0 < len0 := by
        rcases Nat.eq_zero_or_pos len0 with h | h
        · subst h; simp at hne
        · exact h
      obtain ⟨b, off, spot⟩ := x
      have hc0 := hcell 0 (by omega)
      have hspot : spot = none := by simpa [Addr.add] using World.cell?_spot hc0
      subst hspot
      have hadd : ∀ i, (⟨b, off, none⟩ : Addr).add i = ⟨b, off + i, none⟩ := by intro i; unfold Addr.add; split <;> simp_all
      refine ⟨b, off, rfl, ?_, fun i hi => ?_⟩
      · rw [hadd] at hc0
        exact World.block_lt_of_cell? (w := w) (a := ⟨b, off + 0, none⟩) hc0
      · have := hcell i (by omega)
        rw [hadd] at this
        rw [this]
        congr 2
        rw [List.getD_eq_getElem?_getD, List.getD_eq_getElem?_getD, List.getElem?_take, if_pos (by omega)]
    have := walkL (z0.take len0) (some x) cap0 w hr
    rwa [hlen] at this

set_option maxRecDepth 100000 in
theorem lifted (os : Os) (started : os.Started) (H : Type) (enc : TypeId × Value → H) :
    ReturnsInHanded {} Try.checked os 6 .any (Rows.glyphListsSpec.pre6 enc Try.prog Try.f6 Rows.glyphListsRow.domain false) (Rows.glyphListsSpec.post enc Try.prog Try.f6 false true false false) := by
  refine returnsInHanded_of_change (C := Try.checked) own started (by kernel_rfl) Try.func6
    (ChangeSpec.witness6 (enc := enc) (C := Try.checked) false ⟨#[], #[.slice none 0 0], []⟩ 8 (by kernel_rfl) (by kernel_rfl) (by kernel_rfl) (by kernel_rfl)) ?_
  intro W base args ds gs before hval0 hW hcnd _
  have hval : ∀ (j : Nat) t v, Try.f6.params[j]? = some t → args[j]? = some v → Value.okWide Try.prog W .any base t v := hval0
  have hW' := hW
  obtain ⟨p, q, hA0, hV, rfl, hfz, hnd⟩ := hW
  have hA : DataW.TrodAll enc Try.prog W 0 (fun _ => true) true Try.f6.params.toList args.toList ds p := hA0
  rw [Try.params6] at hA hval
  obtain ⟨v0, vs0, d0, ds0, p0, q0, hargs, rfl, rfl, h0, r0⟩ := trodAll_cons hA
  obtain ⟨rfl, rfl, rfl⟩ := trodAll_nil r0
  obtain rfl : args = #[v0] := by cases args; simp_all
  obtain ⟨rfl, rfl⟩ := trodVars_none hV
  obtain ⟨a0, len0, cap0, rfl⟩ := okWide_slice Try.underlying28 (hval 0 28 v0 rfl rfl)
  have k0 := h0
  have lt0 : ∀ x ∈ p0, x.block < W.heap.size := by obtain ⟨m, hm⟩ := k0; exact DataW.trod_lt m _ _ _ hm
  obtain ⟨z0, w0⟩ : ∃ zs, IsRow .i64 W a0 len0 cap0 zs := by
    obtain ⟨fuel, hf⟩ := h0
    rcases open_ints Try.underlying28 Try.underlying3 (by kernel_rfl) hf with ⟨hcs, _⟩ | ⟨x, l, c, zs, hcs, _, hl, hm, hz, _, hcell, hwz⟩
    · simp [Value.cells] at hcs
      obtain ⟨rfl, rfl, rfl⟩ := hcs
      exact ⟨[], .inl ⟨rfl, rfl, rfl, rfl⟩⟩
    · simp [Value.cells] at hcs
      obtain ⟨rfl, rfl, rfl⟩ := hcs
      exact ⟨zs, .inr ⟨_, rfl, hl, hm, by simpa using hz, hcell, hwz⟩⟩
  clear hA0 hval0
  refine (walk a0 len0 cap0 z0 W w0).mono fun e W' ⟨he, bel⟩ => ?_
  subst he
  exact ⟨_, rfl, _, _, _, [], _, [], hW', trodAll_mk1 (shut_bool Try.underlying4 _), (trodAll_cons_mk (Below.trod laidOut (by kernel_rfl) (of_decide_eq_true (by kernel_rfl)) k0 bel lt0) trodAll_mk0), rfl, bel.frame _, fun h => by cases h⟩

theorem over : Rows.glyphListsRow.holds Try.pinned (OpenSpec.ofChange Rows.glyphListsSpec) :=
  OpenClaim.holds_of_wide 6 Try.f6 rfl rfl rfl rfl rfl rfl rfl ⟨rfl, rfl, rfl, rfl, rfl⟩ rfl rfl rfl rfl rfl (by kernel_rfl) Try.func6 (by kernel_rfl)
    (of_decide_eq_true (by kernel_rfl)) (by unfold Func.isWrapper; first | (rw [if_pos (by decide +kernel)]; kernel_rfl) | (rw [if_neg (by decide +kernel)]; exact ⟨rfl, rfl⟩))
    (fun os started H enc _ => lifted os started H enc)

/-- The statement. -/
theorem proved : Rows.GlyphListsSaid := over
end Go.Proofs.Yteelelbkbhlilaa.glyphLists
