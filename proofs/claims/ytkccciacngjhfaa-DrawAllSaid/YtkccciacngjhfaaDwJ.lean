/- Weighing: the program's Weigh. -/
import Derived.Test.YtkccciacngjhfaaDwI
namespace Go.Proofs.Ytkccciacngjhfaa
open Go.RowKit
attribute [local go_sem ↓] Go.wp_at_zero Go.wp_at_succ

set_option maxRecDepth 100000 in
theorem pweigh_nil (P : Value) (A : Option Addr) (c : Nat) (w : World) :
    Calls Try.prog 16 #[P, .slice A 0 c] w fun e w' => e = .returned (.tuple #[.int .i64 0, .int .i64 20]) ∧ w = w' := by
  go_enter Try.func16, Try.ntmps16
  go_wp2_with fail
  go_ret2
  exact ⟨rfl, rfl⟩
set_option maxRecDepth 100000 in
theorem pweigh_err (P : Value) (l : List Int) (A : Option Addr) (c : Nat) (w : World) (ll : l.length ≤ 1000000) (h0 : l ≠ []) (h : 64 < l.length ∨ l.any (fun n => !isW n) = true) (hr : RI w w.heap.size A l) :
    Calls Try.prog 16 #[P, .slice A l.length c] w fun e w' => e = .returned (.tuple #[.int .i64 0, .int .i64 8]) ∧ w = w' := by
  have hp : 0 < l.length := List.length_pos_iff.2 h0
  have t0 : ((l.length : Int) == 0) = false := beq_eq_false_iff_ne.2 (by omega)
  by_cases h1 : 64 < l.length
  · have t1 : decide ((64 : Int) < (l.length : Int)) = true := decide_eq_true (by omega)
    clear h hr h0
    go_enter Try.func16, Try.ntmps16
    go_wp2_with fail
    go_ret2
    exact ⟨rfl, rfl⟩
  · have t1 : decide ((64 : Int) < (l.length : Int)) = false := decide_eq_false (by omega)
    have HA := Lib.hid (h.resolve_left h1)
    have H := Lib.hid (noweights_any l A c w ll hr)
    clear h hr h0
    go_enter Try.func16, Try.ntmps16
    go_wp2_with fail
    refine H.out.mono ?_
    rintro e w' ⟨rfl, rfl⟩
    rw [HA.out]
    go_wp2_with fail
    go_ret2
    exact ⟨rfl, rfl⟩
set_option maxRecDepth 100000 in
set_option maxHeartbeats 4000000 in
theorem pweigh_ok (ty : TypeId) (F g : Nat) (l : List Int) (A : Option Addr) (c : Nat) (r : Int) (Q : World → Prop) (w : World) (h0 : l ≠ []) (hc : l.length ≤ c) (hl : l.length ≤ 64) (hw : okW l)
    (hm : ∀ w : World, (method 187 ty (.pointer (some ⟨g, 0, none⟩)) "Next").run Try.prog w = .ok (F, .pointer (some ⟨g, 0, none⟩)) w)
    (hen : ∀ args w, (callFunc F args).run Try.prog w = .ok (.enter F args) w)
    (hcall : Calls Try.prog F #[.pointer (some ⟨g, 0, none⟩), .int .i64 l.sum] w fun e w' => e = .returned (.int .i64 r) ∧ Q w')
    (hr1 : -4294967296 ≤ r) (hr2 : r < l.sum) (hr : RI w w.heap.size A l) (hQ : ∀ w', Q w' → RI w' w'.heap.size A l) :
    Calls Try.prog 16 #[.iface ty (.pointer (some ⟨g, 0, none⟩)), .slice A l.length c] w fun e w' => e = .returned (.tuple #[.int .i64 (plc r l), .int .i64 0]) ∧ Q w' := by
  have hp : 0 < l.length := List.length_pos_iff.2 h0
  have t0 : ((l.length : Int) == 0) = false := beq_eq_false_iff_ne.2 (by omega)
  have t1 : decide ((64 : Int) < (l.length : Int)) = false := decide_eq_false (by omega)
  have H := Lib.hid (noweights_any l A c w (by omega) hr)
  have HP := Lib.hid (fun (w' : World) (h : RI w' w'.heap.size A l) => place_any r l A c w' h0 hc hl hw hr1 hr2 h)
  have HA := Lib.hid (okW_any hw)
  have HW := Lib.hid hw
  have Hr := Lib.hid hr
  have HC := Lib.hid hcall
  have HQ := Lib.hid hQ
  clear hr hw hcall hQ hr1 hr2 h0
  go_enter Try.func16, Try.ntmps16
  go_wp2_with fail
  refine H.out.mono ?_
  rintro e w' ⟨rfl, rfl⟩
  rw [HA.out]
  go_wp2_with fail
  go_loop [6, 8, 21] (fun x _ i => ∃ k : Nat, k ≤ l.length ∧ i = .int .i64 k ∧ x = .int .i64 (sumT l k)) (fun _ _ i => l.length - (intOf i).toNat)
  case atStart => exact ⟨0, Nat.zero_le _, rfl, by simp [sumT]⟩
  case round =>
    obtain ⟨k, hk, rfl, rfl⟩ := hrel
    by_cases hlt : k < l.length
    · have u1 : decide (k < l.length) = true := decide_eq_true hlt
      obtain ⟨b1, o1, rfl, hb1, c1⟩ := Hr.out.at_ hlt
      have e1 := c1 k hlt
      have HS := Lib.hid (sumT_succ hlt)
      have hq := okW_at HW.out hlt
      have hbd := sumT_bd HW.out k (by omega)
      clear c1
      generalize l.getD k 0 = a at *
      generalize sumT l k = y at *
      go_wp2_with fail
      go_round
      case rel => exact ⟨k + 1, by omega, by go_num, by rw [HS.out]⟩
      case measure => simp [intOf]; omega
    · obtain rfl : l.length = k := by omega
      rw [sumT_all]
      go_wp2_with fail
      refine HC.out.mono ?_
      rintro e w2 ⟨rfl, h2⟩
      have H2 := Lib.hid h2
      clear h2
      go_wp2_with fail
      refine (HP.out _ (HQ.out _ H2.out)).mono ?_
      rintro e w3 ⟨rfl, rfl⟩
      go_wp2_with fail
      go_ret2
      exact ⟨rfl, H2.out⟩
end Go.Proofs.Ytkccciacngjhfaa
