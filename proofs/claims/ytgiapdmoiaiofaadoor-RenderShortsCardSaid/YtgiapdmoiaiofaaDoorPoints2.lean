/- Contracts of glyph.Points, and of the reference's Points and Valid. -/
import Derived.Test.YtgiapdmoiaiofaaDoorRefText
namespace Go.Proofs.YtgiapdmoiaiofaaDoor
open Go.RowKit
open Pl

theorem getD_take_succ (l : List Int) (k : Nat) (h : k < l.length) : l.take (k + 1) = l.take k ++ [l.getD k 0] := by
  rw [List.take_succ_eq_append_getElem h]; simp [List.getElem?_eq_getElem h]
theorem Reads.below {w w' : World} {B B' : Nat} {A : Option Addr} {l : List Int} (h : Reads w B A l) (hb : Below B' w w') (hB : B ≤ B') : Reads w' B A l := by
  intro hn
  obtain ⟨b, o, e, hlt, hc⟩ := h hn
  exact ⟨b, o, e, hlt, fun i hi => (hb.cell (p := ⟨b, o + i, none⟩) (by show b < B'; omega)).trans (hc i hi)⟩
theorem Reads.more {w : World} {B B' : Nat} {A : Option Addr} {l : List Int} (h : Reads w B A l) (hB : B ≤ B') : Reads w B' A l := by
  intro hn
  obtain ⟨b, o, e, hlt, hc⟩ := h hn
  exact ⟨b, o, e, by omega, hc⟩
theorem own_reads {w : World} {base : Nat} {v : Value} {l : List Int} (h : w.ownsRow base 3 1 v l.length (l.map (Value.int .i64))) : ∃ A c, v = .slice A l.length c ∧ Reads w w.heap.size A l := by
  rcases h.2 with ⟨rfl, h0⟩ | ⟨g, cap, cur, rfl, hb, hh, _⟩
  · obtain rfl : l = [] := List.eq_nil_of_length_eq_zero h0
    exact ⟨none, 0, rfl, fun hn => absurd rfl hn⟩
  · refine ⟨_, _, rfl, fun _ => ⟨g, 0, rfl, (Array.getElem?_eq_some_iff.1 hh).1, fun i hi => ?_⟩⟩
    have := h.cells (g := g) rfl i (.int .i64 (l.getD i 0)) (by simp [List.getElem?_eq_getElem hi])
    have hadd : (⟨g, 0, none⟩ : Addr).add i = ⟨g, 0 + i, none⟩ := by unfold Addr.add; split <;> simp_all
    rwa [hadd] at this

/-- a slice of the ints l, readable, is handed back beside something else -/
def GivesRow (l : List Int) (x : Value) (w : World) (e : Ending) (w' : World) : Prop :=
  ∃ A c, e = .returned (.tuple #[.slice A l.length c, x]) ∧ Reads w' w'.heap.size A l ∧ Below w.heap.size w w'

set_option maxRecDepth 100000 in
set_option maxHeartbeats 2000000 in
theorem rpoints_any (s : ByteArray) (l : List Int) (R : List UInt8) (h : Split s.data.toList l R) (hs : s.size ≤ 100000) (w : World) :
    Calls Tryd.prog 18 #[.string s] w (GivesRow l (.int .i64 (flat l).length) w) := by
  obtain ⟨i0, hi, hz0, hz1, hz2⟩ := info_parts info3
  have hsz := Lib.hid h.size
  have hge : (flat l).length ≤ s.size := by have := h.size; omega
  have hll : l.length ≤ 100000 := by have := len_le l; omega
  go_enter Tryd.func18, Tryd.ntmps18
  go_wp2_with fail
  go_loopw [4, 5] (fun v i wr => ∃ k : Nat, k ≤ l.length ∧ i = .int .i64 (off l k) ∧ wr.ownsRow w.heap.size 3 1 v k ((l.take k).map (Value.int .i64)) ∧ Below w.heap.size w wr) (fun _ i _ => s.size - (intOf i).toNat)
  case atStart => exact ⟨0, Nat.zero_le _, rfl, World.ownsRow_nil _ _ _ _, Below.refl _ _⟩
  case round =>
    obtain ⟨k, hk, rfl, hown, hbel⟩ := hrel
    have Hown := Lib.hid hown
    have Hbel := Lib.hid hbel
    clear hown hbel
    by_cases hlt : k < l.length
    · obtain ⟨e1, e2, hpos, h3, h4, hb, e3, hf⟩ := h.step hlt
      have ho := (h.dec hlt).2
      have hN : decN (s.data.toList.drop (off l k)) = l.getD k 0 := by
        rw [decN_yes ho, ← decode_eq, e1, e3]
      have hM : decM (s.data.toList.drop (off l k)) = (off l (k + 1) : Int) - (off l k : Int) := by
        rw [decM_yes ho, ← decode_eq]; omega
      have t1 : decide ((off l k : Int) < (s.size : Int)) = true := decide_eq_true (by omega)
      have HN := Lib.hid hN
      have HM := Lib.hid hM
      have Hts := Lib.hid (getD_take_succ l k hlt)
      clear e1 e2 e3 hf ho hN hM hb
      go_wp2_with fail
      refine (first_any s (off l k) _ hpos (by omega)).mono ?_
      rintro e w2 ⟨rfl, hb2⟩
      rw [HN.out, HM.out]
      have Hown2 := Lib.hid (World.ownsRow.kept Hown.out (w' := w2) (row := none) ⟨hb2.os, hb2.tape, hb2.output, hb2.size, fun a ha _ => hb2.block a ha⟩ (by cases u4 <;> simp [Value.ownBlock] <;> split <;> simp))
      have Hbel2 := Lib.hid (Hbel.out.trans (hb2.mono Hbel.out.size))
      have t3 : ((off l (k + 1) : Int) - (off l k : Int) == 0) = false := by simp; omega
      clear hb2 Hown Hbel
      generalize l.getD k 0 = x at *
      go_wp2_with (at_builtin; refine wpList_append_own _ rfl _ _ 46 rfl w.heap.size 3 i0 (.int .i64 0) 1 8 Tryd.underlying46 hi hz0 hz1 hz2 rfl (by decide) _ _ _ rfl (Hown2.out.alloc _) ⟨w2.heap.size, 0, none⟩ 1 1 [.int .i64 x] rfl rfl ?c1 ?c2 ?c3 ?c4 ?c5 ?_)
      case c1 =>
        intro a u hu
        match a, hu with
        | 0, hu => simp at hu; subst hu; simp [Addr.add]
      case c2 => intro u hu; simp at hu; subst hu; rfl
      case c3 => unfold maxLen; omega
      case c4 => omega
      case c5 => have := Hbel2.out.size; simp; omega
      · intro v' w3 hown3 hgrow _
        have Hbel3 := Lib.hid ((Hbel2.out.alloc Hbel2.out.size _).grown hgrow (by have := Hbel2.out.size; simp; omega) (fun a ha => (Hown2.out.lt a ha).1))
        have Hown3 := Lib.hid hown3
        clear hown3 hgrow
        go_wp2_with fail
        go_roundw
        case rel =>
          refine ⟨k + 1, hlt, ?_, ?_, Hbel3.out⟩
          · congr 1; omega
          · rw [Hts.out, List.map_append, List.map_take]; exact Hown3.out
        case measure => simp [intOf]; omega
    · obtain rfl : l.length = k := by omega
      have Hlast : Hid (∀ W : World, Below w.heap.size w W → W.ownsRow w.heap.size 3 1 u4 l.length (l.map (Value.int .i64)) → GivesRow l (.int .i64 (flat l).length) w (.returned (.tuple #[u4, .int .i64 (off l l.length)])) W) := by
        intro W hW ho
        obtain ⟨A, c, hv, hr⟩ := own_reads ho
        exact ⟨A, c, by rw [hv, off_all], hr, hW⟩
      by_cases hR : R = []
      · have t1 : decide (off l l.length < s.size) = false := decide_eq_false (by rw [off_all, hsz.out, hR]; simp)
        have hfin := Hlast.out _ Hbel.out (by have := Hown.out; rwa [List.take_length] at this)
        have Hfin := Lib.hid hfin
        clear hfin Hlast Hown Hbel hR hk hlt
        go_wp2_with fail
        go_ret2
        exact Hfin.out
      · have hpos : off l l.length < s.size := by
          have : 0 < R.length := List.length_pos_iff.2 hR
          rw [off_all, hsz.out]; omega
        have t1 : decide (off l l.length < s.size) = true := decide_eq_true (by omega)
        have ho : ok (s.data.toList.drop (off l l.length)) = false := by
          rw [off_all, h.1, drop_all]; exact h.2.1
        have HN := Lib.hid (decN_no ho)
        have HM := Lib.hid (decM_no ho)
        clear ho hR hk hlt
        go_wp2_with fail
        refine (first_any s (off l l.length) _ hpos (by omega)).mono ?_
        rintro e w2 ⟨rfl, hb2⟩
        rw [HN.out, HM.out]
        have hown2 := World.ownsRow.kept Hown.out (w' := w2) (row := none) ⟨hb2.os, hb2.tape, hb2.output, hb2.size, fun a ha _ => hb2.block a ha⟩ (by cases u4 <;> simp [Value.ownBlock] <;> split <;> simp)
        rw [List.take_length] at hown2
        have hfin := Hlast.out _ (Hbel.out.trans (hb2.mono Hbel.out.size)) hown2
        have Hfin := Lib.hid hfin
        clear hfin Hlast Hown Hbel hown2 hb2
        go_wp2_with fail
        go_ret2
        exact Hfin.out

theorem rvalid_yes (s : ByteArray) (l : List Int) (h : Split s.data.toList l []) (hs : s.size ≤ 100000) (w : World) :
    Calls Tryd.prog 6 #[.string s] w fun e w' => e = .returned (.bool true) ∧ Below w.heap.size w w' := by
  have hsz := h.size
  have He : Hid (((flat l).length : Int) = (s.size : Int)) := by simp at hsz; exact congrArg Int.ofNat hsz.symm
  clear hsz
  go_enter Tryd.func6, Tryd.ntmps6
  go_wp2_with fail
  refine (rpoints_any s l [] h hs _).mono ?_
  rintro e w1 ⟨A, c, rfl, hr, hb⟩
  rw [He.out]
  have Hb := Lib.hid hb
  clear hr hb
  go_wp2_with fail
  go_ret
  exact ⟨ret_bool (by simp), Hb.out⟩
theorem rvalid_no (s : ByteArray) (l : List Int) (R : List UInt8) (h : Split s.data.toList l R) (hR : R ≠ []) (hs : s.size ≤ 100000) (w : World) :
    Calls Tryd.prog 6 #[.string s] w fun e w' => e = .returned (.bool false) ∧ Below w.heap.size w w' := by
  have hsz := h.size
  have hp : 0 < R.length := List.length_pos_iff.2 hR
  have hlt : ((flat l).length : Int) < (s.size : Int) := by omega
  clear hsz hp
  go_enter Tryd.func6, Tryd.ntmps6
  go_wp2_with fail
  refine (rpoints_any s l R h hs _).mono ?_
  rintro e w1 ⟨A, c, rfl, hr, hb⟩
  have Hb := Lib.hid hb
  clear hr hb
  go_wp2_with fail
  go_ret
  exact ⟨ret_bool (by simp; omega), Hb.out⟩
end Go.Proofs.YtgiapdmoiaiofaaDoor
