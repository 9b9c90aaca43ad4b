/- TokenApart: tokens stand one behind the other, and nothing but blanks stands between them. The seven listed variables of the library (two tables of math/bits, one of internal/strconv, two of unicode/utf8, strconv.ErrRange, strconv.ErrSyntax) start as the program's text lays them: tied by the card. No other condition. -/
import Derived.Test.YtnenipgpncomeaaDoorCards
import Derived.Test.YtnenipgpncomeaaDoorTie
import Derived.WalkKit
import Derived.ProofKit
import Derived.OpenShut
import Derived.ChangeOld
import Derived.ShutString
import Derived.Below
import Derived.LaidMore
import Derived.Lib.LaidTab
import Derived.Stop.Joined
import Derived.Stop.LaidErr
import Derived.SevenTiedAt
import Derived.Lay
import Derived.Test.YtnenipgpncomeaaDoorAwake5
import Derived.Test.YtnenipgpncomeaaDoorTokCh
import Derived.Test.YtnenipgpncomeaaDoorRA
namespace Go.Proofs.YtnenipgpncomeaaDoor.tokenApart
open Go.ChangeShapes Go.WideShapes Go.ChangeAt Go.RowKit
open Go.ChangeMaps (open_string shut_string)
open Tk Pl
set_option linter.unusedVariables false

theorem own : ownKnob Tryd.prog.godebug = none := by kernel_rfl
theorem laidOut : laidOutB Tryd.prog = true := by kernel_rfl
theorem gRange : Tryd.prog.globalNamed "strconv.ErrRange" = some 4 := by kernel_rfl
theorem star : "*" ++ "errors.errorString" = "*errors.errorString" := by decide
theorem rowPtr (u : TypeId) (h : Tryd.prog.typeName? 3 u = some "*errors.errorString") : u = 128 :=
  typeName_ptr_named (nm := "errors.errorString") (by rw [star]; kernel_rfl) (by kernel_rfl) (by decide) u (by rw [star]; exact h)
/-- what the row's list gives -/
theorem errs {W : World} (h : laidMetH Tryd.prog Rows.tokenApartRow.laid W) : RangeErr W := by
  have h' : laidMet Tryd.prog Rows.tokenApartRow.laid W := h
  obtain ⟨a, s, hv, _⟩ := laid_sentinel h'.tail.tail.tail.tail gRange (by kernel_rfl) Tryd.underlying77 rowPtr Tryd.underlying128 Tryd.underlying130 rfl rfl Tryd.underlying9 (by kernel_rfl) (by kernel_rfl)
  exact ⟨_, _, hv⟩

theorem blanks_q (s : ByteArray) (a b : Nat) (w : World) (hs : s.size ≤ 1000000) (ha : a ≤ 2000000) (h : span isBl s a = b) :
    Calls Tryd.prog 9 #[.string s, .int .i64 a] w fun e w' => e = .returned (.int .i64 b) ∧ w' = w := by
  have := rblanks_any s a w hs ha
  rw [h] at this
  exact this.mono fun e w' ⟨x, y⟩ => ⟨x, y.symm⟩
set_option maxRecDepth 100000 in
set_option maxHeartbeats 8000000 in
theorem walk (s : ByteArray) (w : World) (hz : s.size ≤ maxLen) (hr : RangeErr w) :
    Calls Tryd.prog 3 #[.string s] w fun e w' => e = .returned (.bool true) ∧ Below w.heap.size w w' := by
  have HR := Lib.hid hr
  clear hr
  by_cases h4 : s.size ≤ 400
  · have u0 : decide ((s.size : Int) > 400) = false := decide_eq_false (by omega)
    have u0' : decide ((400 : Int) < (s.size : Int)) = false := decide_eq_false (by omega)
    have u0n : decide (400 < s.size) = false := decide_eq_false (by omega)
    go_enter Tryd.func3, Tryd.ntmps3
    go_wp2_with fail
    refine (awake5_any _ HR.out).mono ?_
    rintro e w1 ⟨rfl, hb1⟩
    have H1 := Lib.hid hb1
    clear hb1
    cases hal : all s 0 [] with
    | bad p c =>
      have HA := Lib.hid hal
      have hc0 : c = 1 ∨ c = 2 ∨ c = 3 ∨ c = 4 := all_code hal
      have v1 : (c != 0) = true := by rw [bne_iff_ne]; omega
      have v2 : ¬ c = 0 := by omega
      clear hal hc0
      go_wp2_with fail
      refine (all_err5 s _ (by omega) (HR.out.on H1.out) HA.out).mono ?_
      rintro e w2 ⟨rfl, hb2⟩
      have H2 := Lib.hid (H1.out.trans (hb2.mono H1.out.size))
      clear hb2
      go_wp2_with fail
      go_ret
      exact ⟨rfl, H2.out⟩
    | toks l =>
      have HA := Lib.hid hal
      have HCH := Lib.hid (all_ch hal)
      have hl0 := (ch_len l 0 (Nat.zero_le _) HCH.out).1
      have hl1 := (ch_len l 0 (Nat.zero_le _) HCH.out).2
      generalize hn : l.length = n at *
      have HN := Lib.hid hn
      clear hal hn
      go_wp2_with fail
      refine (all_toks s _ (by omega) (HR.out.on H1.out) HA.out (n := n) HN.out hl0).mono ?_
      rintro e w2 ⟨b, c, rfl, hc, hlt, hcell, hb2⟩
      have H2 := Lib.hid (H1.out.trans (hb2.mono H1.out.size))
      have HC := Lib.hid hcell
      clear hb2 hcell
      go_wp2_with fail
      go_loopw [6, 27] (fun x y wr => ∃ (k j : Nat), k ≤ n ∧ (k = 0 → j = 0) ∧ (0 < k → ∃ u, l[k - 1]? = some u ∧ j = u.fin) ∧ x = .int .i64 j ∧ y = .int .i64 k ∧ Below w2.heap.size w2 wr) (fun _ y _ => n - (intOf y).toNat)
      case atStart => exact ⟨0, 0, Nat.zero_le _, fun _ => rfl, fun h => absurd h (by omega), rfl, rfl, Below.refl _ _⟩
      case round =>
        obtain ⟨k, j, hk, hj0, hj1, rfl, rfl, hbel⟩ := hrel
        have HBEL := Lib.hid hbel
        by_cases hkn : k < n
        · skip
          obtain ⟨j', t, e1, e2, e3, e4, e5, e6, e7⟩ := ch_at l 0 k (Nat.zero_le _) (by rw [HN.out]; exact hkn) HCH.out
          have hjj : j = j' := by
            rcases Nat.eq_zero_or_pos k with h0 | h0
            · rw [hj0 h0, e2 h0]
            · obtain ⟨u, a1, a2⟩ := hj1 h0
              obtain ⟨v, b1, b2⟩ := e7 h0
              rw [a1] at b1
              injection b1 with b1
              rw [a2, b2, b1]
          subst hjj
          obtain ⟨f1, f2, f3, f4, -, -⟩ := next_tok e3 e4
          have HBL := Lib.hid (fun w => blanks_q s j t.at_ w (by omega) (by omega) f1.symm)
          have HT := Lib.hid e1
          obtain ⟨k0, k1, k2, k3, k4⟩ : TokAt wr b k t := by
            obtain ⟨d0, d1, d2, d3, d4⟩ := HC.out k t e1
            exact ⟨(hbel.cell (p := ⟨b, 5 * k, none⟩) hlt).trans d0, (hbel.cell (p := ⟨b, 5 * k + 1, none⟩) hlt).trans d1, (hbel.cell (p := ⟨b, 5 * k + 2, none⟩) hlt).trans d2, (hbel.cell (p := ⟨b, 5 * k + 3, none⟩) hlt).trans d3, (hbel.cell (p := ⟨b, 5 * k + 4, none⟩) hlt).trans d4⟩
          rw [Nat.mul_comm 5 k] at k0 k1 k2 k3 k4
          have q1 : decide ((t.at_ : Int) < (j : Int)) = false := decide_eq_false (by omega)
          have q2 : decide ((t.fin : Int) < (t.at_ : Int)) = false := decide_eq_false (by omega)
          have q3 : decide ((t.fin : Int) > (s.size : Int)) = false := decide_eq_false (by omega)
          have q3' : decide ((s.size : Int) < (t.fin : Int)) = false := decide_eq_false (by omega)
          have q4 : ((t.at_ : Int) != (t.at_ : Int)) = false := by simp
          have i1 : (k : Int) < (n : Int) := by omega
          have i2 : (0 : Int) ≤ (k : Int) := by omega
          have u1 : decide ((k : Int) < (n : Int)) = true := decide_eq_true i1
          have u2 : decide (k < n) = true := decide_eq_true hkn
          clear hbel hj0 hj1 e1 e2 e3 e4 e5 e6 e7 f1
          go_upto_region 10 with fail
          have hb5 : Below wr.heap.size wr (wr.alloc (.cells #[.int .i64 t.kind, .string t.text, .int .i64 t.num, .int .i64 t.at_, .int .i64 t.fin] 28)) := (Below.refl _ _).alloc (Nat.le_refl _) _
          have hK5 : Blk (wr.alloc (.cells #[.int .i64 t.kind, .string t.text, .int .i64 t.num, .int .i64 t.at_, .int .i64 t.fin] 28)) wr.heap.size 28 #[.int .i64 t.kind, .string t.text, .int .i64 t.num, .int .i64 t.at_, .int .i64 t.fin] := Blk.new wr _ _
          change Code.wp _ _ _ _ (wr.alloc (.cells #[.int .i64 t.kind, .string t.text, .int .i64 t.num, .int .i64 t.at_, .int .i64 t.fin] 28))
          generalize (wr.alloc (.cells #[.int .i64 t.kind, .string t.text, .int .i64 t.num, .int .i64 t.at_, .int .i64 t.fin] 28)) = W5 at *
          have HB5 := Lib.hid (HBEL.out.trans (hb5.mono HBEL.out.size))
          have HK5 := Lib.hid hK5
          generalize wr.heap.size = K at *
          clear k0 k1 k2 k3 k4
          have k0 := hK5.cell 0
          have k3 := hK5.cell 3
          have k4 := hK5.cell 4
          clear hb5 hK5
          go_quiet ((go_at_call 9; refine Calls.quiet_of_same (HBL.out _)))
          rename_i nq
          have HB6 := Lib.hid (below_drewN HB5.out nq)
          have k4' : (W5.drewN nq).cell? ⟨K, 4, none⟩ = some (.int .i64 t.fin) := k4
          generalize W5.drewN nq = W6 at *
          clear k0 k3 k4
          go_wp2_with fail
          go_roundw
          case rel => exact ⟨k + 1, t.fin, hkn, fun h => absurd h (by omega), fun _ => ⟨t, HT.out, rfl⟩, by go_num, by go_num, HB6.out⟩
          case measure => simp [intOf]; omega
        · skip
          obtain rfl : k = n := by omega
          obtain ⟨u, a1, a2⟩ := hj1 hl0
          obtain ⟨j', t, e1, -, e3, e4, -, e6, -⟩ := ch_at l 0 (k - 1) (Nat.zero_le _) (by rw [HN.out]; omega) HCH.out
          have hkz := e6 (by rw [HN.out]; omega)
          rw [a1] at e1
          injection e1 with e1
          subst e1
          obtain ⟨-, -, -, -, f5, -⟩ := next_tok e3 e4
          have hfin := (f5 hkz).2.1
          have hj : j = s.size := by omega
          subst hj
          have k0 : wr.cell? ⟨b, (k - 1) * 5, none⟩ = some (.int .i64 0) := by
            rw [Nat.mul_comm, ← hkz]
            exact (hbel.cell (p := ⟨b, 5 * (k - 1), none⟩) hlt).trans (HC.out (k - 1) u a1).1
          have q1 : ((s.size : Int) == (s.size : Int)) = true := by simp
          have q2 : decide ((k : Int) > 0) = true := decide_eq_true (by omega)
          have q2' : decide ((0 : Int) < (k : Int)) = true := decide_eq_true (by omega)
          have q3 : decide (0 < k) = true := decide_eq_true hl0
          have u1 : decide ((k : Int) < (k : Int)) = false := decide_eq_false (by omega)
          have u2 : decide (k < k) = false := decide_eq_false (by omega)
          have i1 : (0 : Int) ≤ (k : Int) - 1 := by omega
          have i2 : (k : Int) - 1 < (k : Int) := by omega
          have i3 : ((k : Int) - 1).toNat = k - 1 := by omega
          have e9 : IntKind.i64.wrap ((k : Int) - 1) = (k : Int) - 1 := IntWalk.i64_in _ (by omega)
          have HF := Lib.hid (H2.out.trans (hbel.mono H2.out.size))
          clear hbel hj0 hj1 a1 e3 e4 e6 hkz f5 hfin
          go_wp2_with fail
          go_ret
          exact ⟨rfl, HF.out⟩
  · skip
    have u0 : decide ((s.size : Int) > 400) = true := decide_eq_true (by omega)
    have u0' : decide ((400 : Int) < (s.size : Int)) = true := decide_eq_true (by omega)
    have u0n : decide (400 < s.size) = true := decide_eq_true (by omega)
    go_enter Tryd.func3, Tryd.ntmps3
    go_wp2_with fail
    refine (awake5_any _ HR.out).mono ?_
    rintro e w1 ⟨rfl, hb1⟩
    have H1 := Lib.hid hb1
    clear hb1
    go_wp2_with fail
    refine (awake5_any _ (HR.out.on H1.out)).mono ?_
    rintro e w3 ⟨rfl, hb3⟩
    have H3 := Lib.hid (H1.out.trans (hb3.mono H1.out.size))
    clear hb3
    go_wp2_with fail
    go_ret
    exact ⟨rfl, H3.out⟩

set_option maxRecDepth 100000 in
theorem lifted (os : Os) (started : os.Started) (H : Type) (enc : TypeId × Value → H) :
    ReturnsInHanded {} Tryd.checked os 3 .any (fun w args => (Rows.tokenApartSpec.pre enc Tryd.prog Tryd.f3 [] false w args ∧ laidMetH Tryd.prog Rows.tokenApartRow.laid w) ∧ sizedMet enc Tryd.prog Tryd.f3 (OpenSpec.ofChange Rows.tokenApartSpec) false w args)
      (Rows.tokenApartSpec.post enc Tryd.prog Tryd.f3 false true false false) := by
  refine returnsInHanded_of_change_and (C := Tryd.checked) (X := fun w _ => laidMetH Tryd.prog Rows.tokenApartRow.laid w) (fun _ _ _ hh h => h.of_heap hh) own started (by kernel_rfl) Tryd.func3
    (ChangeSpec.witness_shaped (enc := enc) (C := Tryd.checked) (os := os) (X := fun w _ => laidMetH Tryd.prog Rows.tokenApartRow.laid w) false (World.laidAll Tryd.prog os Rows.tokenApartRow.laid) #[.string ByteArray.empty] 8 (World.laidAll_os _ _ _) (World.shaped_of_ZipB (by kernel_rfl) (by kernel_rfl)) (by kernel_rfl) (by kernel_rfl) (by kernel_rfl) (by rw [MakeChecks.laidMetH_plain _ _ _ (by kernel_rfl)]; exact laidMet_laidAll _ (by kernel_rfl) (by kernel_rfl))) ?_
  intro W base args ds gs before hval0 hW _ _ hL _
  have hval : ∀ (j : Nat) t v, Tryd.f3.params[j]? = some t → args[j]? = some v → Value.okWide Tryd.prog W .any base t v := hval0
  have hW' := hW
  obtain ⟨p, q, hA0, hV, rfl, hfz, hnd⟩ := hW
  have hA : DataW.TrodAll enc Tryd.prog W 0 (fun _ => true) true Tryd.f3.params.toList args.toList ds p := hA0
  rw [Tryd.params3] at hA hval
  obtain ⟨v0, vs0, d0, ds0, p0, q0, hargs, rfl, rfl, h0, r0⟩ := trodAll_cons hA
  obtain ⟨rfl, rfl, rfl⟩ := trodAll_nil r0
  obtain rfl : args = #[v0] := by cases args; simp_all
  obtain ⟨rfl, rfl⟩ := trodVars_none hV
  obtain ⟨s0, rfl, rfl, rfl, w0⟩ := open_string Tryd.underlying9 (hval 0 9 v0 rfl rfl) h0
  clear hA0 hval0
  refine (walk s0 W w0 (errs hL)).mono fun e W' ⟨he, bel⟩ => ?_
  subst he
  exact ⟨_, rfl, _, _, _, [], _, [], hW', trodAll_mk1 (shut_bool Tryd.underlying4 _), (trodAll_cons_mk (shut_string Tryd.underlying9 w0) trodAll_mk0), rfl, bel.frame _, fun h => by cases h⟩

theorem said : Rows.TokenApartSaid :=
  OpenClaim.holds_of_wide 3 Tryd.f3 rfl rfl rfl rfl rfl rfl rfl ⟨rfl, rfl, rfl, rfl, rfl⟩ rfl rfl rfl rfl rfl (by kernel_rfl) Tryd.func3 (by kernel_rfl)
    (of_decide_eq_true (by kernel_rfl)) (by unfold Func.isWrapper; first | (rw [if_pos (by decide +kernel)]; kernel_rfl) | (rw [if_neg (by decide +kernel)]; exact ⟨rfl, rfl⟩))
    (fun os started H enc _ => lifted os started H enc)

/-- no parameter wants a stand-in -/
theorem plain (f : FuncId) (fn : Func) (hf : Tryd.pinned.checked.prog.funcNamed "cheval/chevallaw05.TokenApart" = some f) (hfn : Tryd.pinned.checked.prog.funcs[f]? = some fn) :
    true = Tryd.pinned.checked.prog.looks [] ∧ ∀ (j : Nat) t, fn.params[j]? = some t → Tryd.pinned.checked.prog.wantsStandIn t = false := by
  obtain rfl : f = 3 := Option.some.inj ((show Tryd.prog.funcNamed "cheval/chevallaw05.TokenApart" = some 3 by kernel_rfl).symm.trans hf) |>.symm
  obtain rfl : fn = Tryd.f3 := (Option.some.inj (Tryd.func3.symm.trans hfn)).symm
  refine ⟨by kernel_rfl, fun j t ht => ?_⟩
  rw [Tryd.params3] at ht
  have hm := Array.mem_of_getElem? ht
  simp only [List.mem_toArray, List.mem_cons, List.not_mem_nil, or_false] at hm
  subst hm
  exact (show Tryd.prog.wantsStandIn 9 = false by kernel_rfl)

/-- The statement: the tied card. -/
theorem card : Rows.TokenApartCardSaid :=
  Claim7.holds_tied_plain_at .later [] _ _ _ _ said (fun _ h => by cases h) (by kernel_rfl) (fun _ h => by cases h) tokenApart_row_tie rfl ⟨rfl, rfl⟩ (by kernel_rfl) rfl plain (by kernel_rfl)
end Go.Proofs.YtnenipgpncomeaaDoor.tokenApart
