/- TokenRaw: any text without controls, quotation marks and backslashes, in quotation marks, is one Str of it. The seven listed variables of the library (two tables of math/bits, one of internal/strconv, two of unicode/utf8, strconv.ErrRange, strconv.ErrSyntax) start as the program's text lays them: tied by the card. No other condition. -/
import Derived.Test.YtnenipgpncomeaaDoorCards
import Derived.Test.YtnenipgpncomeaaDoorTie
import Derived.WalkKit
import Derived.ProofKit
import Derived.OpenShut
import Derived.ChangeOld
import Derived.ShutString
import Derived.Below
import Derived.LaidMore
import Derived.Lib.LaidTab
import Derived.Stop.Joined
import Derived.Stop.LaidErr
import Derived.SevenTiedAt
import Derived.Lay
import Derived.Test.YtnenipgpncomeaaDoorAwake5
import Derived.Test.YtnenipgpncomeaaDoorTokRaw
import Derived.Test.YtnenipgpncomeaaDoorPoints2
namespace Go.Proofs.YtnenipgpncomeaaDoor.tokenRaw
open Go.ChangeShapes Go.WideShapes Go.ChangeAt Go.RowKit
open Go.ChangeMaps (open_string shut_string)
open Tk Pl
set_option linter.unusedVariables false

theorem own : ownKnob Tryd.prog.godebug = none := by kernel_rfl
theorem laidOut : laidOutB Tryd.prog = true := by kernel_rfl
theorem gRange : Tryd.prog.globalNamed "strconv.ErrRange" = some 4 := by kernel_rfl
theorem star : "*" ++ "errors.errorString" = "*errors.errorString" := by decide
theorem rowPtr (u : TypeId) (h : Tryd.prog.typeName? 3 u = some "*errors.errorString") : u = 128 :=
  typeName_ptr_named (nm := "errors.errorString") (by rw [star]; kernel_rfl) (by kernel_rfl) (by decide) u (by rw [star]; exact h)
/-- what the row's list gives -/
theorem errs {W : World} (h : laidMetH Tryd.prog Rows.tokenRawRow.laid W) : RangeErr W := by
  have h' : laidMet Tryd.prog Rows.tokenRawRow.laid W := h
  obtain ⟨a, s, hv, _⟩ := laid_sentinel h'.tail.tail.tail.tail gRange (by kernel_rfl) Tryd.underlying77 rowPtr Tryd.underlying128 Tryd.underlying130 rfl rfl Tryd.underlying9 (by kernel_rfl) (by kernel_rfl)
  exact ⟨_, _, hv⟩

theorem bytes_same (s : ByteArray) : (s.toList == s.toList) = true := beq_self_eq_true _
set_option maxRecDepth 100000 in
set_option maxHeartbeats 8000000 in
theorem walk (s : ByteArray) (w : World) (hz : s.size ≤ maxLen) (hr : RangeErr w) :
    Calls Tryd.prog 6 #[.string s] w fun e w' => e = .returned (.bool true) ∧ Below w.heap.size w w' := by
  have HR := Lib.hid hr
  clear hr
  by_cases h300 : s.size ≤ 300
  · obtain ⟨l, R, hsp⟩ := split_ex _ s.data.toList (Nat.le_refl _)
    have u0 : decide ((s.size : Int) > 300) = false := decide_eq_false (by omega)
    have u0' : decide ((300 : Int) < (s.size : Int)) = false := decide_eq_false (by omega)
    have u0n : decide (300 < s.size) = false := decide_eq_false (by omega)
    by_cases hR : R = []
    · skip
      subst hR
      have HSP := Lib.hid hsp
      clear hsp
      go_enter Tryd.func6, Tryd.ntmps6
      go_wp2_with fail
      refine (awake5_any _ HR.out).mono ?_
      rintro e w1 ⟨rfl, hb1⟩
      have H1 := Lib.hid hb1
      clear hb1
      go_wp2_with fail
      refine (rvalid_yes s l HSP.out (by omega) _).mono ?_
      rintro e w2 ⟨rfl, hb2⟩
      have H2 := Lib.hid (H1.out.trans (hb2.mono H1.out.size))
      clear hb2 H1
      go_wp2_with fail
      go_loop [3] (fun i => ∃ k : Nat, k ≤ s.size ∧ (∀ j, j < k → 32 ≤ bt s j ∧ bt s j ≠ 34 ∧ bt s j ≠ 92) ∧ i = .int .i64 k) (fun i => s.size - (intOf i).toNat)
      case atStart => exact ⟨0, Nat.zero_le _, fun j h => absurd h (by omega), rfl⟩
      case round =>
        obtain ⟨k, hk, hno, rfl⟩ := hrel
        have HNO := Lib.hid hno
        clear hno
        by_cases hlt : k < s.size
        · have u1 : decide (k < s.size) = true := decide_eq_true hlt
          have u2 : decide ((k : Int) < (s.size : Int)) = true := decide_eq_true (by omega)
          have i1 : (k : Int) < (s.size : Int) := by omega
          have i2 : (0 : Int) ≤ (k : Int) := by omega
          have hx := bt_at s k hlt
          by_cases h32 : bt s k < 32
          · have v1 : (s[k].toNat : Int) < 32 := by omega
            clear hx h32
            go_wp2_with fail
            go_ret
            exact ⟨rfl, H2.out⟩
          · have v1 : ¬ (s[k].toNat : Int) < 32 := by omega
            by_cases h34 : bt s k = 34
            · have v2 : (s[k].toNat : Int) = 34 := by omega
              have v3 : ((s[k].toNat : Int) == 34) = true := beq_iff_eq.2 v2
              clear hx h32 h34
              go_wp2_with fail
              go_ret
              exact ⟨rfl, H2.out⟩
            · have v2 : ¬ (s[k].toNat : Int) = 34 := by omega
              have v3 : ((s[k].toNat : Int) == 34) = false := beq_eq_false_iff_ne.2 v2
              by_cases h92 : bt s k = 92
              · have v4 : (s[k].toNat : Int) = 92 := by omega
                have v5 : ((s[k].toNat : Int) == 92) = true := beq_iff_eq.2 v4
                clear hx h32 h34 h92
                go_wp2_with fail
                go_ret
                exact ⟨rfl, H2.out⟩
              · have v4 : ¬ (s[k].toNat : Int) = 92 := by omega
                have v5 : ((s[k].toNat : Int) == 92) = false := beq_eq_false_iff_ne.2 v4
                have HN2 := Lib.hid (show ∀ j, j < k + 1 → 32 ≤ bt s j ∧ bt s j ≠ 34 ∧ bt s j ≠ 92 from fun j hj => by
                  rcases Nat.lt_or_ge j k with h | h
                  · exact HNO.out j h
                  · obtain rfl : j = k := by omega
                    exact ⟨by omega, h34, h92⟩)
                clear hx h32 h34 h92
                go_wp2_with fail
                go_round
                case rel => exact ⟨k + 1, hlt, HN2.out, by go_num⟩
                case measure => simp [intOf]; omega
        · skip
          obtain rfl : k = s.size := by omega
          have u1 : decide (s.size < s.size) = false := decide_eq_false (by omega)
          have u2 : decide ((s.size : Int) < (s.size : Int)) = false := decide_eq_false (by omega)
          have HA := Lib.hid (show all (⟨#[34]⟩ ++ s ++ ⟨#[34]⟩ : ByteArray) 0 [] = _ from raw_all HSP.out HNO.out)
          have HQ := Lib.hid (show (⟨#[34]⟩ ++ s ++ ⟨#[34]⟩ : ByteArray).size ≤ 90000 from Nat.le_trans (Nat.le_of_eq (quoted_size s)) (by omega))
          have hbs := bytes_same s
          go_wp2_with fail
          refine (all_toks _ _ HQ.out (HR.out.on H2.out) HA.out (n := 2) rfl (by decide)).mono ?_
          rintro e w3 ⟨b, c, rfl, hc, hltb, hcell, hb3⟩
          have k0 : w3.cell? ⟨b, 0, none⟩ = some (.int .i64 2) := (hcell 0 _ rfl).1
          have k1 : w3.cell? ⟨b, 1, none⟩ = some (.string s) := (hcell 0 _ rfl).2.1
          have k4 : w3.cell? ⟨b, 4, none⟩ = some (.int .i64 (s.size + 2 : Nat)) := (hcell 0 _ rfl).2.2.2.2
          have v9 : (((s.size + 2 : Nat) : Int) == (s.size : Int) + 2) = true := by rw [beq_iff_eq]; omega
          have H3 := Lib.hid (H2.out.trans (hb3.mono H2.out.size))
          clear hb3 hcell
          go_wp2_with fail
          go_ret
          exact ⟨rfl, H3.out⟩
    · skip
      have HSP := Lib.hid hsp
      have HRN := Lib.hid hR
      clear hsp hR
      go_enter Tryd.func6, Tryd.ntmps6
      go_wp2_with fail
      refine (awake5_any _ HR.out).mono ?_
      rintro e w1 ⟨rfl, hb1⟩
      have H1 := Lib.hid hb1
      clear hb1
      go_wp2_with fail
      refine (rvalid_no s l R HSP.out HRN.out (by omega) _).mono ?_
      rintro e w2 ⟨rfl, hb2⟩
      have H2 := Lib.hid (H1.out.trans (hb2.mono H1.out.size))
      clear hb2 H1
      go_wp2_with fail
      refine (awake5_any _ (HR.out.on H2.out)).mono ?_
      rintro e w3 ⟨rfl, hb3⟩
      have H3 := Lib.hid (H2.out.trans (hb3.mono H2.out.size))
      clear hb3
      go_wp2_with fail
      go_ret
      exact ⟨rfl, H3.out⟩
  · skip
    have u0 : decide ((s.size : Int) > 300) = true := decide_eq_true (by omega)
    have u0' : decide ((300 : Int) < (s.size : Int)) = true := decide_eq_true (by omega)
    have u0n : decide (300 < s.size) = true := decide_eq_true (by omega)
    go_enter Tryd.func6, Tryd.ntmps6
    go_wp2_with fail
    refine (awake5_any _ HR.out).mono ?_
    rintro e w1 ⟨rfl, hb1⟩
    have H1 := Lib.hid hb1
    clear hb1
    go_wp2_with fail
    refine (awake5_any _ (HR.out.on H1.out)).mono ?_
    rintro e w3 ⟨rfl, hb3⟩
    have H3 := Lib.hid (H1.out.trans (hb3.mono H1.out.size))
    clear hb3
    go_wp2_with fail
    go_ret
    exact ⟨rfl, H3.out⟩

set_option maxRecDepth 100000 in
theorem lifted (os : Os) (started : os.Started) (H : Type) (enc : TypeId × Value → H) :
    ReturnsInHanded {} Tryd.checked os 6 .any (fun w args => (Rows.tokenRawSpec.pre enc Tryd.prog Tryd.f6 [] false w args ∧ laidMetH Tryd.prog Rows.tokenRawRow.laid w) ∧ sizedMet enc Tryd.prog Tryd.f6 (OpenSpec.ofChange Rows.tokenRawSpec) false w args)
      (Rows.tokenRawSpec.post enc Tryd.prog Tryd.f6 false true false false) := by
  refine returnsInHanded_of_change_and (C := Tryd.checked) (X := fun w _ => laidMetH Tryd.prog Rows.tokenRawRow.laid w) (fun _ _ _ hh h => h.of_heap hh) own started (by kernel_rfl) Tryd.func6
    (ChangeSpec.witness_shaped (enc := enc) (C := Tryd.checked) (os := os) (X := fun w _ => laidMetH Tryd.prog Rows.tokenRawRow.laid w) false (World.laidAll Tryd.prog os Rows.tokenRawRow.laid) #[.string ByteArray.empty] 8 (World.laidAll_os _ _ _) (World.shaped_of_ZipB (by kernel_rfl) (by kernel_rfl)) (by kernel_rfl) (by kernel_rfl) (by kernel_rfl) (by rw [MakeChecks.laidMetH_plain _ _ _ (by kernel_rfl)]; exact laidMet_laidAll _ (by kernel_rfl) (by kernel_rfl))) ?_
  intro W base args ds gs before hval0 hW _ _ hL _
  have hval : ∀ (j : Nat) t v, Tryd.f6.params[j]? = some t → args[j]? = some v → Value.okWide Tryd.prog W .any base t v := hval0
  have hW' := hW
  obtain ⟨p, q, hA0, hV, rfl, hfz, hnd⟩ := hW
  have hA : DataW.TrodAll enc Tryd.prog W 0 (fun _ => true) true Tryd.f6.params.toList args.toList ds p := hA0
  rw [Tryd.params6] at hA hval
  obtain ⟨v0, vs0, d0, ds0, p0, q0, hargs, rfl, rfl, h0, r0⟩ := trodAll_cons hA
  obtain ⟨rfl, rfl, rfl⟩ := trodAll_nil r0
  obtain rfl : args = #[v0] := by cases args; simp_all
  obtain ⟨rfl, rfl⟩ := trodVars_none hV
  obtain ⟨s0, rfl, rfl, rfl, w0⟩ := open_string Tryd.underlying9 (hval 0 9 v0 rfl rfl) h0
  clear hA0 hval0
  refine (walk s0 W w0 (errs hL)).mono fun e W' ⟨he, bel⟩ => ?_
  subst he
  exact ⟨_, rfl, _, _, _, [], _, [], hW', trodAll_mk1 (shut_bool Tryd.underlying4 _), (trodAll_cons_mk (shut_string Tryd.underlying9 w0) trodAll_mk0), rfl, bel.frame _, fun h => by cases h⟩

theorem said : Rows.TokenRawSaid :=
  OpenClaim.holds_of_wide 6 Tryd.f6 rfl rfl rfl rfl rfl rfl rfl ⟨rfl, rfl, rfl, rfl, rfl⟩ rfl rfl rfl rfl rfl (by kernel_rfl) Tryd.func6 (by kernel_rfl)
    (of_decide_eq_true (by kernel_rfl)) (by unfold Func.isWrapper; first | (rw [if_pos (by decide +kernel)]; kernel_rfl) | (rw [if_neg (by decide +kernel)]; exact ⟨rfl, rfl⟩))
    (fun os started H enc _ => lifted os started H enc)

/-- no parameter wants a stand-in -/
theorem plain (f : FuncId) (fn : Func) (hf : Tryd.pinned.checked.prog.funcNamed "cheval/chevallaw05.TokenRaw" = some f) (hfn : Tryd.pinned.checked.prog.funcs[f]? = some fn) :
    true = Tryd.pinned.checked.prog.looks [] ∧ ∀ (j : Nat) t, fn.params[j]? = some t → Tryd.pinned.checked.prog.wantsStandIn t = false := by
  obtain rfl : f = 6 := Option.some.inj ((show Tryd.prog.funcNamed "cheval/chevallaw05.TokenRaw" = some 6 by kernel_rfl).symm.trans hf) |>.symm
  obtain rfl : fn = Tryd.f6 := (Option.some.inj (Tryd.func6.symm.trans hfn)).symm
  refine ⟨by kernel_rfl, fun j t ht => ?_⟩
  rw [Tryd.params6] at ht
  have hm := Array.mem_of_getElem? ht
  simp only [List.mem_toArray, List.mem_cons, List.not_mem_nil, or_false] at hm
  subst hm
  exact (show Tryd.prog.wantsStandIn 9 = false by kernel_rfl)

/-- The statement: the tied card. -/
theorem card : Rows.TokenRawCardSaid :=
  Claim7.holds_tied_plain_at .later [] _ _ _ _ said (fun _ h => by cases h) (by kernel_rfl) (fun _ h => by cases h) tokenRaw_row_tie rfl ⟨rfl, rfl⟩ (by kernel_rfl) rfl plain (by kernel_rfl)
end Go.Proofs.YtnenipgpncomeaaDoor.tokenRaw
