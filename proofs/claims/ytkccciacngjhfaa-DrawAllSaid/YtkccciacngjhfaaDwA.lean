/- Ints in rows; is any of them of a kind (slices.IndexFunc and ContainsFunc at a function value); Good of both; cmp.Compare, slices.Compare, Order, and the reference's Less. -/
import Derived.Test.YtkccciacngjhfaaMemB
import Derived.Test.YtkccciacngjhfaaRows
import Derived.Shelf.Abstract
namespace Go.Proofs.Ytkccciacngjhfaa
open Go.RowKit

/-- a slice value whose elements are the ints l, below B -/
def RI (w : World) (B : Nat) (A : Option Addr) (l : List Int) : Prop :=
  l ≠ [] → ∃ b o, A = some ⟨b, o, none⟩ ∧ b < B ∧ ∀ i, i < l.length → w.cell? ⟨b, o + i, none⟩ = some (.int .i64 (l.getD i 0))
theorem RI.below {w w' : World} {B B' : Nat} {A : Option Addr} {l : List Int} (h : RI w B A l) (hb : Below B' w w') (hB : B ≤ B') : RI w' B A l := by
  intro hn
  obtain ⟨b, o, e, hlt, hc⟩ := h hn
  exact ⟨b, o, e, hlt, fun i hi => (hb.cell (p := ⟨b, o + i, none⟩) (by show b < B'; omega)).trans (hc i hi)⟩
theorem RI.more {w : World} {B B' : Nat} {A : Option Addr} {l : List Int} (h : RI w B A l) (hB : B ≤ B') : RI w B' A l := by
  intro hn
  obtain ⟨b, o, e, hlt, hc⟩ := h hn
  exact ⟨b, o, e, by omega, hc⟩
theorem RI.onto {w w' : World} {A : Option Addr} {l : List Int} (h : RI w w.heap.size A l) (hb : Below w.heap.size w w') : RI w' w'.heap.size A l := (h.below hb (Nat.le_refl _)).more hb.size
theorem RI.nil (w : World) (B : Nat) (A : Option Addr) : RI w B A [] := fun h => absurd rfl h
theorem RI.at_ {w : World} {B : Nat} {A : Option Addr} {l : List Int} (h : RI w B A l) {k : Nat} (hk : k < l.length) : ∃ b o, A = some ⟨b, o, none⟩ ∧ b < B ∧ ∀ i, i < l.length → w.cell? ⟨b, o + i, none⟩ = some (.int .i64 (l.getD i 0)) :=
  h (by rintro rfl; simp at hk)
theorem any_take {p : Int → Bool} {l : List Int} {k : Nat} (hk : k < l.length) : (l.take (k + 1)).any p = ((l.take k).any p || p (l.getD k 0)) := by
  rw [List.take_add_one, List.getD_eq_getElem?_getD, List.getElem?_eq_getElem hk, List.any_append]
  simp
theorem any_at {p : Int → Bool} {l : List Int} {k : Nat} (hk : k < l.length) (h : p (l.getD k 0) = true) : l.any p = true := by
  rw [List.getD_eq_getElem?_getD, List.getElem?_eq_getElem hk] at h
  exact List.any_eq_true.2 ⟨_, List.getElem_mem hk, h⟩

theorem r_int {k : IntKind} {a b : Int} (h : a = b) : Ending.returned (.int k a) = .returned (.int k b) := by rw [h]
theorem r_bool {a b : Bool} (h : a = b) : Ending.returned (.bool a) = .returned (.bool b) := by rw [h]

/-- a number that is a draw -/
def isD (n : Int) : Bool := decide (0 ≤ n) && decide (n < 4294967296)
/-- a number that is a weight -/
def isW (n : Int) : Bool := decide (1 ≤ n) && decide (n ≤ 1000)
theorem nodraw_any (n : Int) (w : World) : Calls Try.prog 20 #[.int .i64 n] w fun e w' => e = .returned (.bool (!isD n)) ∧ w = w' := by
  by_cases a : n < 0
  · go_enter Try.func20, Try.ntmps20
    go_wp2
    go_ret
    exact ⟨r_bool (by simp [isD]; omega), rfl⟩
  · by_cases b : 4294967296 ≤ n
    · go_enter Try.func20, Try.ntmps20
      go_wp2
      go_ret
      exact ⟨r_bool (by simp [isD]; omega), rfl⟩
    · go_enter Try.func20, Try.ntmps20
      go_wp2
      go_ret
      exact ⟨r_bool (by simp [isD]; omega), rfl⟩
theorem noweight_any (n : Int) (w : World) : Calls Try.prog 24 #[.int .i64 n] w fun e w' => e = .returned (.bool (!isW n)) ∧ w = w' := by
  by_cases a : n < 1
  · go_enter Try.func24, Try.ntmps24
    go_wp2
    go_ret
    exact ⟨r_bool (by simp [isW]; omega), rfl⟩
  · by_cases b : 1000 < n
    · go_enter Try.func24, Try.ntmps24
      go_wp2
      go_ret
      exact ⟨r_bool (by simp [isW]; omega), rfl⟩
    · go_enter Try.func24, Try.ntmps24
      go_wp2
      go_ret
      exact ⟨r_bool (by simp [isW]; omega), rfl⟩

set_option maxRecDepth 100000 in
theorem idxfunc_any (f : Nat) (p : Int → Bool) (hen : ∀ args w, (callFunc f args).run Try.prog w = .ok (.enter f args) w)
    (hf : ∀ (n : Int) (w : World), Calls Try.prog f #[.int .i64 n] w fun e w' => e = .returned (.bool (p n)) ∧ w = w')
    (l : List Int) (A : Option Addr) (c : Nat) (w : World) (ll : l.length ≤ 1000000) (hr : RI w w.heap.size A l) :
    Calls Try.prog 27 #[.slice A l.length c, .func (.func f) #[] #[]] w fun e w' => (∃ r : Int, e = .returned (.int .i64 r) ∧ (decide (0 ≤ r) = l.any p)) ∧ w = w' := by
  have Hr := Lib.hid hr
  have HF := Lib.hid hf
  clear hr hf
  go_enter Try.func27, Try.ntmps27
  go_wp2_with fail
  go_loop [5, 8] (fun _ i => ∃ k : Nat, k ≤ l.length ∧ i = .int .i64 k ∧ (l.take k).any p = false) (fun _ i => l.length - (intOf i).toNat)
  case atStart => exact ⟨0, Nat.zero_le _, rfl, by simp⟩
  case round =>
    obtain ⟨k, hk, rfl, hno⟩ := hrel
    by_cases hlt : k < l.length
    · have u1 : decide (k < l.length) = true := decide_eq_true hlt
      obtain ⟨b1, o1, rfl, hb1, c1⟩ := Hr.out.at_ hlt
      have e1 := c1 k hlt
      clear c1
      have HN := Lib.hid (any_take (p := p) hlt)
      have HA := Lib.hid (any_at (p := p) hlt)
      have HNO := Lib.hid hno
      clear hno
      generalize l.getD k 0 = n at *
      go_wp2_with fail
      refine (HF.out n _).mono ?_
      rintro e w' ⟨rfl, rfl⟩
      cases hp : p n
      · go_wp2_with fail
        go_round
        case rel => exact ⟨k + 1, by omega, by go_num, by rw [HN.out, HNO.out, hp]; rfl⟩
        case measure => simp [intOf]; omega
      · go_wp2_with fail
        go_ret
        exact ⟨⟨k, rfl, by rw [HA.out hp]; simp⟩, rfl⟩
    · obtain rfl : l.length = k := by omega
      rw [List.take_length] at hno
      have HNO := Lib.hid hno
      clear hno
      go_wp2_with fail
      go_ret
      exact ⟨⟨-1, rfl, by rw [HNO.out]; decide⟩, rfl⟩
theorem contfunc_any (f : Nat) (p : Int → Bool) (hen : ∀ args w, (callFunc f args).run Try.prog w = .ok (.enter f args) w)
    (hf : ∀ (n : Int) (w : World), Calls Try.prog f #[.int .i64 n] w fun e w' => e = .returned (.bool (p n)) ∧ w = w')
    (l : List Int) (A : Option Addr) (c : Nat) (w : World) (ll : l.length ≤ 1000000) (hr : RI w w.heap.size A l) :
    Calls Try.prog 19 #[.slice A l.length c, .func (.func f) #[] #[]] w fun e w' => e = .returned (.bool (l.any p)) ∧ w = w' := by
  have H := Lib.hid (idxfunc_any f p hen hf l A c w ll hr)
  clear hr hf
  go_enter Try.func19, Try.ntmps19
  go_wp2_with fail
  refine H.out.mono ?_
  rintro e w' ⟨⟨r, rfl, hr⟩, rfl⟩
  have HR := Lib.hid hr
  clear hr
  go_wp2
  go_ret
  exact ⟨r_bool HR.out, rfl⟩
theorem nodraws_any (l : List Int) (A : Option Addr) (c : Nat) (w : World) (ll : l.length ≤ 1000000) (hr : RI w w.heap.size A l) :
    Calls Try.prog 19 #[.slice A l.length c, .func (.func 20) #[] #[]] w fun e w' => e = .returned (.bool (l.any fun n => !isD n)) ∧ w = w' :=
  contfunc_any _ _ (Go.Proofs.enters_of Try.func20 (by kernel_rfl) rfl) (fun n w => nodraw_any n w) l A c w ll hr
theorem noweights_any (l : List Int) (A : Option Addr) (c : Nat) (w : World) (ll : l.length ≤ 1000000) (hr : RI w w.heap.size A l) :
    Calls Try.prog 19 #[.slice A l.length c, .func (.func 24) #[] #[]] w fun e w' => e = .returned (.bool (l.any fun n => !isW n)) ∧ w = w' :=
  contfunc_any _ _ (Go.Proofs.enters_of Try.func24 (by kernel_rfl) rfl) (fun n w => noweight_any n w) l A c w ll hr

/-- a sequence -/
def goodD (l : List Int) : Bool := decide (l.length ≤ 4096) && !(l.any fun n => !isD n)
theorem dgood_any (l : List Int) (A : Option Addr) (c : Nat) (w : World) (ll : l.length ≤ 1000000) (hr : RI w w.heap.size A l) :
    Calls Try.prog 9 #[.slice A l.length c] w fun e w' => e = .returned (.bool (goodD l)) ∧ w = w' := by
  have H := Lib.hid (nodraws_any l A c w ll hr)
  clear hr
  by_cases h : l.length ≤ 4096
  · have t0 : decide ((l.length : Int) ≤ 4096) = true := decide_eq_true (by omega)
    have HG := Lib.hid (show goodD l = !(l.any fun n => !isD n) by unfold goodD; rw [decide_eq_true h]; rfl)
    generalize (l.any fun n => !isD n) = q at *
    generalize goodD l = g at *
    go_enter Try.func9, Try.ntmps9
    go_wp2_with fail
    refine H.out.mono ?_
    rintro e w' ⟨rfl, rfl⟩
    go_wp2_with fail
    go_ret
    exact ⟨r_bool HG.out.symm, rfl⟩
  · have t0 : decide ((l.length : Int) ≤ 4096) = false := decide_eq_false (by omega)
    have HG := Lib.hid (show goodD l = false by unfold goodD; rw [decide_eq_false h]; rfl)
    generalize goodD l = g at *
    go_enter Try.func9, Try.ntmps9
    go_wp2_with fail
    go_ret
    exact ⟨r_bool HG.out.symm, rfl⟩
set_option maxRecDepth 100000 in
theorem rgoodD_any (l : List Int) (A : Option Addr) (c : Nat) (w : World) (ll : l.length ≤ 1000000) (hr : RI w w.heap.size A l) :
    Calls Try.prog 10 #[.slice A l.length c] w fun e w' => e = .returned (.bool (goodD l)) ∧ w = w' := by
  have Hr := Lib.hid hr
  clear hr
  go_enter Try.func10, Try.ntmps10
  go_wp2_with fail
  go_loop [3, 6] (fun _ i => ∃ k : Nat, k ≤ l.length ∧ i = .int .i64 k ∧ (l.take k).any (fun n => !isD n) = false) (fun _ i => l.length - (intOf i).toNat)
  case atStart => exact ⟨0, Nat.zero_le _, rfl, by simp⟩
  case round =>
    obtain ⟨k, hk, rfl, hno⟩ := hrel
    by_cases hlt : k < l.length
    · have u1 : decide (k < l.length) = true := decide_eq_true hlt
      obtain ⟨b1, o1, rfl, hb1, c1⟩ := Hr.out.at_ hlt
      have e1 := c1 k hlt
      clear c1
      have HN := Lib.hid (any_take (p := fun n => !isD n) hlt)
      have HA := Lib.hid (any_at (p := fun n => !isD n) hlt)
      have HNO := Lib.hid hno
      clear hno
      generalize l.getD k 0 = n at *
      rcases (by omega : n < 0 ∨ (0 ≤ n ∧ 4294967296 ≤ n) ∨ (0 ≤ n ∧ n < 4294967296)) with h1 | ⟨h1, h2⟩ | ⟨h1, h2⟩
      · have HG := Lib.hid (show goodD l = false by unfold goodD; rw [HA.out (by simp [isD]; omega)]; simp)
        go_wp2_with fail
        go_ret
        exact ⟨r_bool HG.out.symm, rfl⟩
      · have t1 : decide (n < 0) = false := decide_eq_false (by omega)
        have HG := Lib.hid (show goodD l = false by unfold goodD; rw [HA.out (by simp [isD]; omega)]; simp)
        go_wp2_with fail
        go_ret
        exact ⟨r_bool HG.out.symm, rfl⟩
      · have t1 : decide (n < 0) = false := decide_eq_false (by omega)
        have t2 : decide (4294967296 ≤ n) = false := decide_eq_false (by omega)
        go_wp2_with fail
        go_round
        case rel => exact ⟨k + 1, by omega, by go_num, by rw [HN.out, HNO.out]; simp [isD]; omega⟩
        case measure => simp [intOf]; omega
    · obtain rfl : l.length = k := by omega
      rw [List.take_length] at hno
      have HG := Lib.hid (show decide ((l.length : Int) ≤ 4096) = goodD l by
        unfold goodD
        rw [hno]
        by_cases h : l.length ≤ 4096
        · rw [decide_eq_true h, decide_eq_true (by omega)]; rfl
        · rw [decide_eq_false h, decide_eq_false (by omega)]; rfl)
      clear hno
      go_wp2_with fail
      go_ret
      exact ⟨by first | exact r_bool HG.out | exact r_bool (by rw [← HG.out]; simp) | exact r_bool (by rw [← HG.out]; exact decide_eq_decide.2 (by omega)), rfl⟩
end Go.Proofs.Ytkccciacngjhfaa
