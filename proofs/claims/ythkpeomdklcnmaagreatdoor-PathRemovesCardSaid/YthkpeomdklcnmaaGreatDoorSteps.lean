/- steps; the reference's Get: contracts. -/
import Derived.Test.YthkpeomdklcnmaaGreatDoorAwake4
import Derived.Outline
namespace Go.Proofs.YthkpeomdklcnmaaGreatDoor
open Go.RowKit
set_option linter.unusedVariables false

def Stepping (p : List ByteArray) : Prop := (∀ s ∈ p, s.size ≤ 60 ∧ okText s) ∧ p.length ≤ 10
def StepsPost (p : List ByteArray) (w : World) (e : Ending) (w' : World) : Prop := ∃ b : Bool, e = .returned (.bool b) ∧ (b = true → Stepping p) ∧ Below w.heap.size w w'
theorem take_all {p : List ByteArray} {P : ByteArray → Prop} {j : Nat} {q : ByteArray} (h : ∀ s ∈ p.take j, P s) (hq : p[j]? = some q) (h1 : P q) : ∀ s ∈ p.take (j + 1), P s := by
  have hl := lt_of_get hq
  rw [List.take_succ_eq_append_getElem hl]
  intro s hs
  rcases List.mem_append.1 hs with h2 | h2
  · exact h s h2
  · rw [List.getElem?_eq_getElem hl] at hq
    injection hq with hq
    obtain rfl := List.mem_singleton.1 h2
    rw [hq]; exact h1
set_option maxRecDepth 100000 in
set_option maxHeartbeats 4000000 in
theorem steps_any (p : List ByteArray) (P : Option Addr) (cp : Nat) (w : World) (hpl : p.length ≤ maxLen) (hp : SReads w (· < w.heap.size) P p) :
    Calls Tryz.prog 5 #[.slice P p.length cp] w (StepsPost p w) := by
  unfold maxLen at hpl
  have HP := Lib.hid hp
  clear hp
  go_enter Tryz.func5, Tryz.ntmps5
  go_wp2_with fail
  go_loopw [7] (fun s wr => ∃ j : Nat, j ≤ p.length ∧ s = .int .i64 j ∧ RowKit.Hid (∀ s ∈ p.take j, s.size ≤ 60 ∧ okText s) ∧ Below w.heap.size w wr) (fun s _ => p.length - (intOf s).toNat)
  case atStart => exact ⟨0, Nat.zero_le _, rfl, (fun s hs => by simp at hs), Below.refl _ _⟩
  case round =>
    obtain ⟨j, hj, rfl, HA, hbel⟩ := hrel
    have HBl := Lib.hid hbel
    clear hbel
    by_cases hlt : j < p.length
    · have u1 : decide (j < p.length) = true := decide_eq_true hlt
      have u2 : decide ((j : Int) < (p.length : Int)) = true := decide_eq_true (by omega)
      obtain ⟨bp, op, rfl, hbp, hcp⟩ := (HP.out) (by intro hz; rw [hz] at hlt; simp at hlt)
      obtain ⟨q, hq⟩ : ∃ q, p[j]? = some q := ⟨_, List.getElem?_eq_getElem hlt⟩
      have ep : wr.cell? ⟨bp, op + j, none⟩ = some (.string q) := (HBl.out.cell (p := ⟨bp, op + j, none⟩) hbp).trans (hcp j q hq)
      have HQ := Lib.hid hq
      clear hcp hq
      by_cases h60 : q.size ≤ 60
      · have t0 : decide ((60 : Int) < (q.size : Int)) = false := decide_eq_false (by omega)
        have t0' : decide (60 < q.size) = false := decide_eq_false (by omega)
        by_cases hok : okText q
        · have HOK := Lib.hid hok
          clear hok
          go_wp2_with fail
          refine (rval_yes q _ HOK.out (by omega)).mono ?_
          rintro e w2 ⟨rfl, hb2⟩
          have H2 := Lib.hid (HBl.out.trans (hb2.mono HBl.out.size))
          clear hb2
          go_wp2_with fail
          go_roundw
          case rel => exact ⟨j + 1, hlt, by go_num, take_all HA.out HQ.out ⟨h60, HOK.out⟩, H2.out⟩
          case measure => simp [intOf]; omega
        · have HOK := Lib.hid hok
          clear hok
          go_wp2_with fail
          refine (rval_no q _ HOK.out (by omega)).mono ?_
          rintro e w2 ⟨rfl, hb2⟩
          have H2 := Lib.hid (HBl.out.trans (hb2.mono HBl.out.size))
          clear hb2
          go_wp2_with fail
          go_ret
          exact ⟨false, rfl, (fun h => by cases h), H2.out⟩
      · have t0 : decide ((60 : Int) < (q.size : Int)) = true := decide_eq_true (by omega)
        have t0' : decide (60 < q.size) = true := decide_eq_true (by omega)
        go_wp2_with fail
        go_ret
        exact ⟨false, rfl, (fun h => by cases h), HBl.out⟩
    · have u1 : decide (j < p.length) = false := decide_eq_false hlt
      have u2 : decide ((j : Int) < (p.length : Int)) = false := decide_eq_false (by omega)
      have HAll := Lib.hid (show ∀ s ∈ p, s.size ≤ 60 ∧ okText s from fun s hs => HA.out s (by rw [List.take_of_length_le (by omega)]; exact hs))
      by_cases h10 : p.length ≤ 10
      · have t0 : decide ((p.length : Int) ≤ 10) = true := decide_eq_true (by omega)
        have t0' : decide (p.length ≤ 10) = true := decide_eq_true h10
        go_wp2_with fail
        go_ret
        exact ⟨true, rfl, fun _ => ⟨HAll.out, h10⟩, HBl.out⟩
      · have t0 : decide ((p.length : Int) ≤ 10) = false := decide_eq_false (by omega)
        have t0' : decide (p.length ≤ 10) = false := decide_eq_false h10
        go_wp2_with fail
        go_ret
        exact ⟨false, rfl, (fun h => by cases h), HBl.out⟩
end Go.Proofs.YthkpeomdklcnmaaGreatDoor
