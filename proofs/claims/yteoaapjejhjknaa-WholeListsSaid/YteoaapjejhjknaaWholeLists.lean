/- WholeLists: the sum of any integers is the number that it is, or told to be none, whatever the sums of some are. No conditions: any slice of int64 (the law itself asks nothing of more than 40 integers). -/
import Derived.Test.YteoaapjejhjknaaRows
import Derived.Test.YteoaapjejhjknaaIs
import Derived.Test.YteoaapjejhjknaaSum
import Derived.WalkKit
import Derived.ProofKit
import Derived.OpenShut
import Derived.ChangeOld
import Derived.Below
namespace Go.Proofs.Yteoaapjejhjknaa.wholeLists
open Go.ChangeShapes Go.WideShapes Go.ChangeAt Go.RowKit
open Fg
set_option linter.unusedVariables false
attribute [local go_sem ↓] Go.wp_at_zero Go.wp_at_succ

theorem own : ownKnob Try.prog.godebug = none := by kernel_rfl
theorem laidOut : laidOutB Try.prog = true := by kernel_rfl

def IsRow (k : IntKind) (w : World) (a : Option Addr) (len cap : Nat) (zs : List Int) : Prop :=
  (a = none ∧ len = 0 ∧ cap = 0 ∧ zs = []) ∨
  ∃ x, a = some x ∧ len ≤ cap ∧ cap ≤ maxLen ∧ zs.length = cap ∧ (∀ i, i < zs.length → w.cell? (x.add i) = some (.int k (zs.getD i 0))) ∧ ∀ n ∈ zs, (Lit.int k n).wf = true

theorem sumTo_bd {l : List Int} (h : ∀ x ∈ l, In64 x) (k : Nat) (hk : k ≤ l.length) : -(9223372036854775808 * (k : Int)) ≤ sumTo l k ∧ sumTo l k ≤ 9223372036854775808 * (k : Int) := by
  induction k with
  | zero => rw [sumTo_zero]; omega
  | succ k ih =>
    have h1 := ih (by omega)
    have h2 := in_getD h k
    rw [sumTo_succ l k (by omega)]
    unfold In64 at h2
    omega
theorem sm_sum {l : List Int} (h : ∀ x ∈ l, In64 x) (k : Nat) (hk : k ≤ l.length) (ll : l.length ≤ 40) : Sm 6 (sumTo l k) := by
  have := sumTo_bd h k hk
  unfold Sm
  omega
theorem nz_zero (w : World) : Nz w w.heap.size (.agg #[.bool false, .slice none 0 0]) 0 :=
  ⟨none, 0, by rw [Int.natAbs_zero, figs_zero]; rfl, by rw [Int.natAbs_zero, figs_zero]; exact Nat.le_refl _, by rw [Int.natAbs_zero, figs_zero]; exact fun h => absurd rfl h⟩

set_option maxRecDepth 100000 in
set_option maxHeartbeats 4000000 in
theorem walkL (l : List Int) (A : Option Addr) (c : Nat) (w : World) (hi : ∀ x ∈ l, In64 x) (hr : ReadsA w w.heap.size A l) :
    Calls Try.prog 5 #[.slice A l.length c] w fun e w' => e = .returned (.bool true) ∧ Below w.heap.size w w' := by
  by_cases h0 : l.length ≤ 40
  · have t0 : decide ((40 : Int) < (l.length : Int)) = false := decide_eq_false (by omega)
    have Hr := Lib.hid hr
    have Hi := Lib.hid hi
    clear hr hi
    go_enter Try.func5, Try.ntmps5
    go_wp2_with fail
    refine (awake_any _).mono ?_
    rintro e w' ⟨rfl, rfl⟩
    go_wp2_with fail
    have b0 := Blk.new w 25 #[.bool false, .slice none 0 0]
    have hbw : Below w.heap.size w (w.alloc (Obj.cells #[.bool false, .slice none 0 0] 25)) := (Below.refl _ _).alloc (Nat.le_refl _) _
    generalize w.alloc (Obj.cells #[.bool false, .slice none 0 0] 25) = W at b0 hbw ⊢
    have B0 := Lib.hid b0
    have HBW := Lib.hid hbw
    clear b0 hbw
    go_loopw [5, 19] (fun _ i wr => ∃ (k : Nat) (b : Bool) (A' : Option Addr) (n' c' : Nat), k ≤ l.length ∧ i = .int .i64 k ∧ Blk wr w.heap.size 25 #[.bool b, .slice A' n' c'] ∧ Nz wr wr.heap.size (.agg #[.bool b, .slice A' n' c']) (sumTo l k) ∧ Below w.heap.size w wr) (fun _ i _ => l.length - (intOf i).toNat)
    case atStart => exact ⟨0, false, none, 0, 0, Nat.zero_le _, rfl, B0.out, nz_zero _, HBW.out⟩
    case round =>
      obtain ⟨k, b, A', n', c', hk, rfl, kb, kn, hbel⟩ := hrel
      have KB := Lib.hid kb
      have KN := Lib.hid kn
      have Hbel := Lib.hid hbel
      have hlw : w.heap.size < wr.heap.size := kb.lt
      have d0 : wr.cell? ⟨w.heap.size, 0, none⟩ = some (.bool b) := kb.cell 0
      have d1 : wr.cell? ⟨w.heap.size, 1, none⟩ = some (.slice A' n' c') := kb.cell 1
      have d2 : wr.frozen? ⟨w.heap.size, 0, none⟩ = false := kb.free 0
      have d3 : wr.frozen? ⟨w.heap.size, 1, none⟩ = false := kb.free 1
      clear kb kn hbel
      by_cases hlt : k < l.length
      · have u1 : decide (k < l.length) = true := decide_eq_true hlt
        obtain ⟨b1, o1, rfl, hb1, c1⟩ := Hr.out (by rintro rfl; simp at hlt)
        have e1 := (Hbel.out.cell (p := ⟨b1, o1 + k, none⟩) hb1).trans (c1 k hlt)
        have Hn := Lib.hid (in_getD Hi.out k)
        have Hsucc := Lib.hid (sumTo_succ l k hlt)
        have Hsm := Lib.hid ((sm_sum Hi.out k hk h0).mono (by decide : 6 ≤ 200))
        clear c1
        generalize l.getD k 0 = n at *
        go_wp2_with fail
        go_region_with (first
          | (go_at_call 9
             refine (of_any n _ Hn.out).mono ?_
             rintro e w2 h2
             obtain ⟨b2, A2, n2, d2', rfl, hn2, hb2, _⟩ := nz_of h2
             have K2 := Lib.hid (KB.out.drew.on hb2 hlw)
             have KN2 := Lib.hid (KN.out.on ((Below.refl _ _).drew.trans hb2))
             have Hb2 := Lib.hid (Hbel.out.drew.trans (hb2.mono (Nat.le_of_lt hlw)))
             have hl2 : w.heap.size < w2.heap.size := Nat.lt_of_lt_of_le hlw hb2.size
             have x0 : w2.cell? ⟨w.heap.size, 0, none⟩ = some (.bool b) := K2.out.cell 0
             have x1 : w2.cell? ⟨w.heap.size, 1, none⟩ = some (.slice A' n' c') := K2.out.cell 1
             have Hn2 := Lib.hid hn2
             clear h2 hn2 hb2)
          | (go_at_call 15
             refine (add_any _ _ (sumTo l k) n _ KN2.out Hn2.out Hsm.out ((sm_in Hn.out).mono (by decide))).mono ?_
             rintro e w3 h2
             obtain ⟨b3, A3, n3, d3', rfl, hn3, hb3, _⟩ := nz_of h2
             have K3 := Lib.hid (K2.out.on hb3 hl2)
             have Hb3 := Lib.hid (Hb2.out.trans (hb3.mono (Nat.le_of_lt hl2)))
             have y0 : w3.cell? ⟨w.heap.size, 0, none⟩ = some (.bool b) := K3.out.cell 0
             have y1 : w3.cell? ⟨w.heap.size, 1, none⟩ = some (.slice A' n' c') := K3.out.cell 1
             have y2 : w3.frozen? ⟨w.heap.size, 0, none⟩ = false := K3.out.free 0
             have y3 : w3.frozen? ⟨w.heap.size, 1, none⟩ = false := K3.out.free 1
             have Hn3 := Lib.hid hn3
             clear h2 hn3 hb3))
        all_goals
          have h1 := (K3.out.set_ 0 (.bool b3)).set_ 1 (.slice A3 n3 d3')
          have h2 := (Hn3.out.set K3.out (by decide) 0 (.bool b3)).set (K3.out.set_ 0 (.bool b3)) (by decide) 1 (.slice A3 n3 d3')
          have h3 : Below w.heap.size w ((w3.setCell ⟨w.heap.size, 0, none⟩ (.bool b3)).setCell ⟨w.heap.size, 1, none⟩ (.slice A3 n3 d3')) := (Hb3.out.setCell (Nat.le_refl _) _).setCell (Nat.le_refl _) _
          have H1 := Lib.hid h1
          have H2 := Lib.hid (h2.more (show w3.heap.size ≤ ((w3.setCell ⟨w.heap.size, 0, none⟩ (.bool b3)).setCell ⟨w.heap.size, 1, none⟩ (.slice A3 n3 d3')).heap.size by simp [World.setCell]))
          have H3 := Lib.hid h3
          clear h1 h2 h3
          go_wp2_with fail
          go_roundw
          case rel => exact ⟨k + 1, b3, A3, n3, d3', by omega, by go_num, H1.out, by rw [Hsucc.out]; exact H2.out, H3.out⟩
          case measure => simp [intOf]; omega
      · obtain rfl : l.length = k := by omega
        have Hsm := Lib.hid ((sm_sum Hi.out l.length (Nat.le_refl _) h0).mono (by decide : 6 ≤ 100))
        rw [sumTo_all] at KN Hsm
        have Ra := Lib.hid (Hr.out.onto Hbel.out)
        by_cases hin : In64 l.sum
        · have Hin := Lib.hid hin
          clear hin
          go_wp2_with fail
          refine (sum_ok l A c _ (by omega) Hi.out Ra.out Hin.out).mono ?_
          rintro e w' ⟨rfl, rfl⟩
          go_wp2_with fail
          refine (is_ok _ l.sum _ KN.out Hin.out).mono ?_
          rintro e w4 ⟨rfl, hb4⟩
          have HE := Lib.hid (Hbel.out.trans (hb4.mono (Nat.le_of_lt hlw)))
          clear hb4
          go_wp2_with fail
          go_ret
          exact ⟨rfl, HE.out⟩
        · have Hin := Lib.hid hin
          clear hin
          go_wp2_with fail
          refine (sum_over l A c _ (by omega) Hi.out Ra.out Hin.out).mono ?_
          rintro e w' ⟨rfl, rfl⟩
          go_wp2_with fail
          refine (is_over _ l.sum _ KN.out Hsm.out Hin.out).mono ?_
          rintro e w4 ⟨rfl, hb4⟩
          have HE := Lib.hid (Hbel.out.trans (hb4.mono (Nat.le_of_lt hlw)))
          clear hb4
          go_wp2_with fail
          go_ret
          exact ⟨rfl, HE.out⟩
  · have t0 : decide ((40 : Int) < (l.length : Int)) = true := decide_eq_true (by omega)
    go_enter Try.func5, Try.ntmps5
    go_wp2_with fail
    refine (awake_any _).mono ?_
    rintro e w' ⟨rfl, rfl⟩
    go_wp2_with fail
    refine (awake_any _).mono ?_
    rintro e w' ⟨rfl, rfl⟩
    go_wp2_with fail
    go_ret
    exact ⟨rfl, Below.refl _ _⟩

theorem walk (a0 : Option Addr) (len0 cap0 : Nat) (z0 : List Int) (w : World) (w0 : IsRow .i64 w a0 len0 cap0 z0) :
    Calls Try.prog 5 #[.slice a0 len0 cap0] w fun e w' => e = .returned (.bool true) ∧ Below w.heap.size w w' := by
  rcases w0 with ⟨rfl, rfl, rfl, rfl⟩ | ⟨x, rfl, hl, hm, hz, hcell, hwz⟩
  · exact walkL [] none 0 w (fun x hx => by cases hx) (fun h => absurd rfl h)
  · have hlen : (z0.take len0).length = len0 := by rw [List.length_take]; omega
    have hr : ReadsA w w.heap.size (some x) (z0.take len0) := by
      intro hne
      have hpos : 0 < len0 := by
        rcases Nat.eq_zero_or_pos len0 with h | h
        · subst h; simp at hne
        · exact h
      obtain ⟨b, off, spot⟩ := x
      have hc0 := hcell 0 (by omega)
      have hspot : spot = none := by simpa [Addr.add] using World.cell?_spot hc0
      subst hspot
      have hadd : ∀ i, (⟨b, off, none⟩ : Addr).add i = ⟨b, off + i, none⟩ := by intro i; unfold Addr.add; split <;> simp_all
      refine ⟨b, off, rfl, ?_, fun i hi => ?_⟩
      · rw [hadd] at hc0
        exact World.block_lt_of_cell? (w := w) (a := ⟨b, off + 0, none⟩) hc0
      · have := hcell i (by omega)
        rw [hadd] at this
        rw [this]
        congr 2
        rw [List.getD_eq_getElem?_getD, List.getD_eq_getElem?_getD, List.getElem?_take, if_pos (by omega)]
    have := walkL (z0.take len0) (some x) cap0 w (fun n hn => in_of n (hwz n (List.mem_of_mem_take hn))) hr
    rwa [hlen] at this

set_option maxRecDepth 100000 in
theorem lifted (os : Os) (started : os.Started) (H : Type) (enc : TypeId × Value → H) :
    ReturnsInHanded {} Try.checked os 5 .any (Rows.wholeListsSpec.pre6 enc Try.prog Try.f5 Rows.wholeListsRow.domain false) (Rows.wholeListsSpec.post enc Try.prog Try.f5 false true false false) := by
  refine returnsInHanded_of_change (C := Try.checked) own started (by kernel_rfl) Try.func5
    (ChangeSpec.witness6 (enc := enc) (C := Try.checked) false ⟨#[], #[.slice none 0 0], []⟩ 8 (by kernel_rfl) (by kernel_rfl) (by kernel_rfl) (by kernel_rfl)) ?_
  intro W base args ds gs before hval0 hW hcnd _
  have hval : ∀ (j : Nat) t v, Try.f5.params[j]? = some t → args[j]? = some v → Value.okWide Try.prog W .any base t v := hval0
  have hW' := hW
  obtain ⟨p, q, hA0, hV, rfl, hfz, hnd⟩ := hW
  have hA : DataW.TrodAll enc Try.prog W 0 (fun _ => true) true Try.f5.params.toList args.toList ds p := hA0
  rw [Try.params5] at hA hval
  obtain ⟨v0, vs0, d0, ds0, p0, q0, hargs, rfl, rfl, h0, r0⟩ := trodAll_cons hA
  obtain ⟨rfl, rfl, rfl⟩ := trodAll_nil r0
  obtain rfl : args = #[v0] := by cases args; simp_all
  obtain ⟨rfl, rfl⟩ := trodVars_none hV
  obtain ⟨a0, len0, cap0, rfl⟩ := okWide_slice Try.underlying36 (hval 0 36 v0 rfl rfl)
  have k0 := h0
  have lt0 : ∀ x ∈ p0, x.block < W.heap.size := by obtain ⟨m, hm⟩ := k0; exact DataW.trod_lt m _ _ _ hm
  obtain ⟨z0, w0⟩ : ∃ zs, IsRow .i64 W a0 len0 cap0 zs := by
    obtain ⟨fuel, hf⟩ := h0
    rcases open_ints Try.underlying36 Try.underlying2 (by kernel_rfl) hf with ⟨hcs, _⟩ | ⟨x, l, c, zs, hcs, _, hl, hm, hz, _, hcell, hwz⟩
    · simp [Value.cells] at hcs
      obtain ⟨rfl, rfl, rfl⟩ := hcs
      exact ⟨[], .inl ⟨rfl, rfl, rfl, rfl⟩⟩
    · simp [Value.cells] at hcs
      obtain ⟨rfl, rfl, rfl⟩ := hcs
      exact ⟨zs, .inr ⟨_, rfl, hl, hm, by simpa using hz, hcell, hwz⟩⟩
  clear hA0 hval0
  refine (walk a0 len0 cap0 z0 W w0).mono fun e W' ⟨he, bel⟩ => ?_
  subst he
  exact ⟨_, rfl, _, _, _, [], _, [], hW', trodAll_mk1 (shut_bool Try.underlying4 _), (trodAll_cons_mk (Below.trod laidOut (by kernel_rfl) (of_decide_eq_true (by kernel_rfl)) k0 bel lt0) trodAll_mk0), rfl, bel.frame _, fun h => by cases h⟩

theorem over : Rows.wholeListsRow.holds Try.pinned (OpenSpec.ofChange Rows.wholeListsSpec) :=
  OpenClaim.holds_of_wide 5 Try.f5 rfl rfl rfl rfl rfl rfl rfl ⟨rfl, rfl, rfl, rfl, rfl⟩ rfl rfl rfl rfl rfl (by kernel_rfl) Try.func5 (by kernel_rfl)
    (of_decide_eq_true (by kernel_rfl)) (by unfold Func.isWrapper; first | (rw [if_pos (by decide +kernel)]; kernel_rfl) | (rw [if_neg (by decide +kernel)]; exact ⟨rfl, rfl⟩))
    (fun os started H enc _ => lifted os started H enc)

/-- The statement. -/
theorem proved : Rows.WholeListsSaid := over
end Go.Proofs.Yteoaapjejhjknaa.wholeLists
