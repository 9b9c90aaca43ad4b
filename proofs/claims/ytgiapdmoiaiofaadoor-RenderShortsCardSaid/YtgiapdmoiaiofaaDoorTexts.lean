/- Texts, and rows of them: contracts of both validity tests, areTexts and areRising. -/
import Derived.Test.YtgiapdmoiaiofaaDoorOwn
import Derived.Test.YtgiapdmoiaiofaaDoorEach
import Derived.Test.YtgiapdmoiaiofaaDoorPoints2
import Derived.WalkLawsBesides
import Derived.Sort.Walk0
namespace Go.Proofs.YtgiapdmoiaiofaaDoor
open Go.RowKit
open Pl

def okText (s : ByteArray) : Prop := ∃ l, Split s.data.toList l []
theorem not_text {s : ByteArray} (h : ¬ okText s) : ∃ l R, Split s.data.toList l R ∧ R ≠ [] := by
  obtain ⟨l, R, hs⟩ := split_ex _ s.data.toList (Nat.le_refl _)
  exact ⟨l, R, hs, fun hr => h ⟨l, hr ▸ hs⟩⟩
theorem okText_one (b : UInt8) (h : b.toNat < 128) : okText ⟨#[b]⟩ := by
  refine ⟨[(b.toNat : Int)], ?_, rfl, ?_⟩
  · have h1 : (b.toNat : Int) ≤ 127 := by omega
    simp [flat, Lib.encodeRune, Lib.encodeRuneZ, h1]
  · intro x hx
    obtain rfl : x = (b.toNat : Int) := by simpa using hx
    rw [pt_iff]; left; omega
theorem okText_nil : okText ByteArray.empty := ⟨[], rfl, rfl, fun x hx => by cases hx⟩

theorem rval_yes (s : ByteArray) (w : World) (h : okText s) (hs : s.size ≤ 100000) :
    Calls Tryd.prog 6 #[.string s] w fun e w' => e = .returned (.bool true) ∧ Below w.heap.size w w' := by
  obtain ⟨l, h⟩ := h
  exact rvalid_yes s l h hs w
theorem rval_no (s : ByteArray) (w : World) (h : ¬ okText s) (hs : s.size ≤ 100000) :
    Calls Tryd.prog 6 #[.string s] w fun e w' => e = .returned (.bool false) ∧ Below w.heap.size w w' := by
  obtain ⟨l, R, h, hR⟩ := not_text h
  exact rvalid_no s l R h hR hs w
theorem gval_yes (s : ByteArray) (w : World) (h : okText s) :
    Calls Tryd.prog 44 #[.string s] w fun e w' => (∃ n, e = .returned (.tuple #[.int .i64 n, .bool true])) ∧ Below w.heap.size w w' := by
  obtain ⟨l, h⟩ := h
  exact (valid_any s l [] h w).mono fun e w' ⟨he, hb⟩ => ⟨⟨_, he⟩, hb⟩
theorem gval_no (s : ByteArray) (w : World) (h : ¬ okText s) :
    Calls Tryd.prog 44 #[.string s] w fun e w' => (∃ n, e = .returned (.tuple #[.int .i64 n, .bool false])) ∧ Below w.heap.size w w' := by
  obtain ⟨l, R, h, hR⟩ := not_text h
  exact (valid_any s l R h w).mono fun e w' ⟨he, hb⟩ => ⟨⟨stopAt l R, by rw [he, isFull_not hR]⟩, hb⟩

def AllText (l : List ByteArray) : Prop := ∀ s ∈ l, okText s
theorem SReads.at_ {w : World} {S : Nat → Prop} {A : Option Addr} {l : List ByteArray} (h : SReads w S A l) {k : Nat} (hk : k < l.length) :
    ∃ b o s, A = some ⟨b, o, none⟩ ∧ S b ∧ l[k]? = some s ∧ w.cell? ⟨b, o + k, none⟩ = some (.string s) := by
  obtain ⟨b, o, e, hs, hi⟩ := h (by intro hn; rw [hn] at hk; simp at hk)
  exact ⟨b, o, _, e, hs, List.getElem?_eq_getElem hk, hi k _ (List.getElem?_eq_getElem hk)⟩

set_option maxRecDepth 100000 in
set_option maxHeartbeats 2000000 in
theorem texts_yes (l : List ByteArray) (A : Option Addr) (c : Nat) (w : World) (hl : l.length ≤ 100000) (h : AllText l) (hr : SReads w (· < w.heap.size) A l) :
    Calls Tryd.prog 29 #[.slice A l.length c] w fun e w' => e = .returned (.bool true) ∧ Below w.heap.size w w' := by
  have HR := Lib.hid hr
  have HA := Lib.hid h
  clear hr h
  go_enter Tryd.func29, Tryd.ntmps29
  go_wp2_with fail
  go_loopw [9] (fun i wr => ∃ k : Nat, k ≤ l.length ∧ i = .int .i64 k ∧ Below w.heap.size w wr) (fun i _ => l.length - (intOf i).toNat)
  case atStart => exact ⟨0, Nat.zero_le _, rfl, Below.refl _ _⟩
  case round =>
    obtain ⟨k, hk, rfl, hbel⟩ := hrel
    have Hbel := Lib.hid hbel
    clear hbel
    by_cases hlt : k < l.length
    · have u1 : decide (k < l.length) = true := decide_eq_true hlt
      obtain ⟨b, o, s, rfl, hb, hx, hc⟩ := HR.out.at_ hlt
      have Hok := Lib.hid (HA.out s (List.mem_of_getElem? hx))
      have e0 := ((Keeps.of_below Hbel.out).cell hb (o + k)).trans hc
      clear hx hc
      go_wp2_with fail
      refine (gval_yes s _ Hok.out).mono ?_
      rintro e w2 ⟨⟨n, rfl⟩, hb2⟩
      have Hb2 := Lib.hid (Hbel.out.trans (hb2.mono Hbel.out.size))
      clear hb2
      go_wp2_with fail
      go_roundw
      case rel => exact ⟨k + 1, hlt, by go_num, Hb2.out⟩
      case measure => simp [intOf]; omega
    · obtain rfl : l.length = k := by omega
      go_wp2_with fail
      go_ret
      exact ⟨rfl, Hbel.out⟩
set_option maxRecDepth 100000 in
set_option maxHeartbeats 2000000 in
theorem texts_no (l : List ByteArray) (A : Option Addr) (c : Nat) (w : World) (hl : l.length ≤ 100000) (h : ¬ AllText l) (hr : SReads w (· < w.heap.size) A l) :
    Calls Tryd.prog 29 #[.slice A l.length c] w fun e w' => e = .returned (.bool false) ∧ Below w.heap.size w w' := by
  have HR := Lib.hid hr
  have HA := Lib.hid h
  clear hr h
  go_enter Tryd.func29, Tryd.ntmps29
  go_wp2_with fail
  go_loopw [9] (fun i wr => ∃ k : Nat, k ≤ l.length ∧ i = .int .i64 k ∧ (∀ (j : Nat) (s : ByteArray), j < k → l[j]? = some s → okText s) ∧ Below w.heap.size w wr) (fun i _ => l.length - (intOf i).toNat)
  case atStart => exact ⟨0, Nat.zero_le _, rfl, fun j s h => absurd h (by omega), Below.refl _ _⟩
  case round =>
    obtain ⟨k, hk, rfl, hall, hbel⟩ := hrel
    have Hbel := Lib.hid hbel
    have Hall := Lib.hid hall
    clear hbel hall
    by_cases hlt : k < l.length
    · have u1 : decide (k < l.length) = true := decide_eq_true hlt
      obtain ⟨b, o, s, rfl, hb, hx, hc⟩ := HR.out.at_ hlt
      have Hx := Lib.hid hx
      have e0 := ((Keeps.of_below Hbel.out).cell hb (o + k)).trans hc
      clear hx hc
      by_cases hok : okText s
      · have Hok := Lib.hid hok
        clear hok
        go_wp2_with fail
        refine (gval_yes s _ Hok.out).mono ?_
        rintro e w2 ⟨⟨n, rfl⟩, hb2⟩
        have Hb2 := Lib.hid (Hbel.out.trans (hb2.mono Hbel.out.size))
        clear hb2
        go_wp2_with fail
        go_roundw
        case rel =>
          refine ⟨k + 1, hlt, by go_num, fun j y hj hy => ?_, Hb2.out⟩
          rcases Nat.lt_or_ge j k with h1 | h1
          · exact Hall.out j y h1 hy
          · obtain rfl : j = k := by omega
            have := Hx.out
            rw [this] at hy
            injection hy with hy
            exact hy ▸ Hok.out
        case measure => simp [intOf]; omega
      · have Hok := Lib.hid hok
        clear hok
        go_wp2_with fail
        refine (gval_no s _ Hok.out).mono ?_
        rintro e w2 ⟨⟨n, rfl⟩, hb2⟩
        have Hb2 := Lib.hid (Hbel.out.trans (hb2.mono Hbel.out.size))
        clear hb2
        go_wp2_with fail
        go_ret
        exact ⟨rfl, Hb2.out⟩
    · exfalso
      refine HA.out fun s hs => ?_
      obtain ⟨j, hj⟩ := List.mem_iff_getElem?.1 hs
      exact Hall.out j s (by have := lt_of_get hj; omega) hj

/-- texts byte by byte -/
def sl (a b : ByteArray) : Bool := Op.bytesLess a.toList b.toList
theorem sl_iff (a b : ByteArray) : sl a b = true ↔ a.data.toList < b.data.toList := by
  unfold sl
  rw [Go.Proofs.bytesLess_eq, ByteArray.toList_eq, ByteArray.toList_eq]
  exact decide_eq_true_iff
theorem ba_ext {a b : ByteArray} (h : a.data.toList = b.data.toList) : a = b := by
  cases a; cases b; simp at h; rw [h]
theorem sl_irrefl (a : ByteArray) : sl a a = false := by
  rw [Bool.eq_false_iff]; intro h; exact List.lt_irrefl _ ((sl_iff a a).1 h)
theorem sl_trans {a b c : ByteArray} (h : sl a b = true) (k : sl b c = true) : sl a c = true := (sl_iff _ _).2 (List.lt_trans ((sl_iff _ _).1 h) ((sl_iff _ _).1 k))
theorem sl_tri (a b : ByteArray) : sl a b = true ∨ a = b ∨ sl b a = true := by
  by_cases h : a.data.toList < b.data.toList
  · exact .inl ((sl_iff _ _).2 h)
  · rcases List.le_iff_lt_or_eq.1 (List.not_lt.1 h) with h | h
    · exact .inr (.inr ((sl_iff _ _).2 h))
    · exact .inr (.inl (ba_ext h.symm))
theorem sl_asymm {a b : ByteArray} (h : sl a b = true) : sl b a = false := by
  rw [Bool.eq_false_iff]; intro k
  have := sl_trans h k
  rw [sl_irrefl] at this; cases this
def Rising (l : List ByteArray) : Prop := ∀ (i : Nat) (a b : ByteArray), l[i]? = some a → l[i + 1]? = some b → sl a b = true

set_option maxRecDepth 100000 in
set_option maxHeartbeats 2000000 in
theorem rising_yes (l : List ByteArray) (A : Option Addr) (c : Nat) (w : World) (hl : l.length ≤ 100000) (h : Rising l) (hr : SReads w (· < w.heap.size) A l) :
    Calls Tryd.prog 32 #[.slice A l.length c] w fun e w' => e = .returned (.bool true) ∧ Below w.heap.size w w' := by
  have HR := Lib.hid hr
  have HA := Lib.hid h
  clear hr h
  go_enter Tryd.func32, Tryd.ntmps32
  go_wp2_with fail
  go_loopw [3] (fun i wr => ∃ k : Nat, (k ≤ l.length ∨ k = 1) ∧ 1 ≤ k ∧ i = .int .i64 k ∧ Below w.heap.size w wr) (fun i _ => l.length - (intOf i).toNat)
  case atStart => exact ⟨1, .inr rfl, Nat.le_refl _, rfl, Below.refl _ _⟩
  case round =>
    obtain ⟨k, hk, hk1, rfl, hbel⟩ := hrel
    have Hbel := Lib.hid hbel
    clear hbel
    by_cases hlt : k < l.length
    · have u1 : decide ((k : Int) < (l.length : Int)) = true := decide_eq_true (by omega)
      obtain ⟨b, o, s, rfl, hb, hx, hc⟩ := HR.out.at_ hlt
      obtain ⟨j, rfl⟩ : ∃ j, k = j + 1 := ⟨k - 1, by omega⟩
      obtain ⟨_, _, s', e', _, hx', hc'⟩ := HR.out.at_ (show j < l.length by omega)
      injection e' with e'; injection e' with e1 e2 _; subst e1 e2
      have e0 := ((Keeps.of_below Hbel.out).cell hb (o + (j + 1))).trans hc
      have e1 := ((Keeps.of_below Hbel.out).cell hb (o + j)).trans hc'
      have hs := HA.out j s' s hx' hx
      unfold sl at hs
      have w1 : IntKind.i64.wrap (j : Int) = j := IntWalk.i64_in _ (by omega)
      have i1 : (j : Int) < l.length := by omega
      have i2 : (0 : Int) ≤ j := by omega
      have i3 : (j : Int) + 1 < l.length := by omega
      have i4 : (0 : Int) ≤ (j : Int) + 1 := by omega
      have i5 : ((j : Int) + 1).toNat = j + 1 := by omega
      clear hx hc hx' hc'
      go_wp2_with fail
      go_quiet (fail)
      go_wp2_with fail
      go_roundw
      case rel => exact ⟨j + 1 + 1, .inl hlt, by omega, by go_num, below_drewN Hbel.out _⟩
      case measure => simp [intOf]; omega
    · have u1 : decide ((k : Int) < (l.length : Int)) = false := decide_eq_false (by omega)
      go_wp2_with fail
      go_ret
      exact ⟨rfl, Hbel.out⟩
set_option maxRecDepth 100000 in
set_option maxHeartbeats 2000000 in
theorem rising_no (l : List ByteArray) (A : Option Addr) (c : Nat) (w : World) (hl : l.length ≤ 100000) (h : ¬ Rising l) (hr : SReads w (· < w.heap.size) A l) :
    Calls Tryd.prog 32 #[.slice A l.length c] w fun e w' => e = .returned (.bool false) ∧ Below w.heap.size w w' := by
  have HR := Lib.hid hr
  have HA := Lib.hid h
  clear hr h
  go_enter Tryd.func32, Tryd.ntmps32
  go_wp2_with fail
  go_loopw [3] (fun i wr => ∃ k : Nat, (k ≤ l.length ∨ k = 1) ∧ 1 ≤ k ∧ i = .int .i64 k ∧ (∀ (j : Nat) (a b : ByteArray), j + 1 < k → l[j]? = some a → l[j + 1]? = some b → sl a b = true) ∧ Below w.heap.size w wr) (fun i _ => l.length - (intOf i).toNat)
  case atStart => exact ⟨1, .inr rfl, Nat.le_refl _, rfl, fun j a b h => absurd h (by omega), Below.refl _ _⟩
  case round =>
    obtain ⟨k, hk, hk1, rfl, hall, hbel⟩ := hrel
    have Hall := Lib.hid hall
    clear hall
    have Hbel := Lib.hid hbel
    clear hbel
    by_cases hlt : k < l.length
    · have u1 : decide ((k : Int) < (l.length : Int)) = true := decide_eq_true (by omega)
      obtain ⟨b, o, s, rfl, hb, hx, hc⟩ := HR.out.at_ hlt
      obtain ⟨j, rfl⟩ : ∃ j, k = j + 1 := ⟨k - 1, by omega⟩
      obtain ⟨_, _, s', e', _, hx', hc'⟩ := HR.out.at_ (show j < l.length by omega)
      injection e' with e'; injection e' with e1 e2 _; subst e1 e2
      have e0 := ((Keeps.of_below Hbel.out).cell hb (o + (j + 1))).trans hc
      have e1 := ((Keeps.of_below Hbel.out).cell hb (o + j)).trans hc'
      have Hx := Lib.hid hx
      have Hx' := Lib.hid hx'
      have Hj := Lib.hid hlt
      clear hx hc hx' hc'
      have w1 : IntKind.i64.wrap (j : Int) = j := IntWalk.i64_in _ (by omega)
      have i1 : (j : Int) < l.length := by omega
      have i2 : (0 : Int) ≤ j := by omega
      have i3 : (j : Int) + 1 < l.length := by omega
      have i4 : (0 : Int) ≤ (j : Int) + 1 := by omega
      have i5 : ((j : Int) + 1).toNat = j + 1 := by omega
      cases hs : Op.bytesLess s'.toList s.toList
      · go_wp2_with fail
        go_quiet (fail)
        go_wp2_with fail
        go_ret
        exact ⟨rfl, below_drewN Hbel.out _⟩
      · have Hs := Lib.hid hs
        go_wp2_with fail
        go_quiet (fail)
        go_wp2_with fail
        go_roundw
        case rel =>
          refine ⟨j + 1 + 1, .inl hlt, by omega, by go_num, fun i a b hi ha hb => ?_, below_drewN Hbel.out _⟩
          rcases Nat.lt_or_ge (i + 1) (j + 1) with h1 | h1
          · exact Hall.out i a b h1 ha hb
          · obtain rfl : i = j := by omega
            have q1 := Hx.out
            have q2 := Hx'.out
            rw [q2] at ha; rw [q1] at hb
            injection ha with ha; injection hb with hb
            subst ha hb
            exact Hs.out
        case measure => simp [intOf]; omega
    · exfalso
      refine HA.out fun i a b ha hb => ?_
      exact Hall.out i a b (by have := lt_of_get hb; omega) ha hb
end Go.Proofs.YtgiapdmoiaiofaaDoor
