/- Contract of the reference's Of. -/
import Derived.Test.YtnenipgpncomeaaGreatDoorSame
import Derived.WalkLawsBesides
namespace Go.Proofs.YtnenipgpncomeaaGreatDoor.W2
open Go.RowKit
open Fg

/-- behind k rounds: the figures L, and m is still to come -/
def OfAt (n m : Int) (L : List Int) : Prop := L ++ figs m.natAbs = figs n.natAbs ∧ In64 m
theorem OfAt.step {n m f : Int} {L : List Int} (h : OfAt n m L) (h0 : m ≠ 0) (hf : f = ((m.natAbs % 10000 : Nat) : Int)) : OfAt n (m.tdiv 10000) (L ++ [f]) := by
  obtain ⟨h1, h2⟩ := h
  refine ⟨?_, tdiv_in _ _ h2 (by decide)⟩
  rw [List.append_assoc, List.singleton_append, ← h1, figs_pos (by omega : 0 < m.natAbs), hf, Int.natAbs_tdiv]
  rfl
theorem OfAt.len {n m : Int} {L : List Int} (h : OfAt n m L) (hn : In64 n) : L.length ≤ 5 := by
  have h1 := congrArg List.length h.1
  rw [List.length_append] at h1
  have h2 := (sm_in hn).len
  omega
theorem OfAt.done {n : Int} {L : List Int} (h : OfAt n 0 L) : L = figs n.natAbs := by
  have h1 := h.1
  rwa [Int.natAbs_zero, figs_zero, List.append_nil] at h1

set_option maxRecDepth 100000 in
set_option maxHeartbeats 4000000 in
theorem of_any (n : Int) (w : World) (hn : In64 n) : Calls Tryz.prog 55 #[.int .i64 n] w (GivesN n w) := by
  have Hn := Lib.hid hn
  obtain ⟨n1, n2⟩ := hn
  go_enter Tryz.func55, Tryz.ntmps55
  go_wp2_with fail
  have h3 := two w #[.bool false, .slice none 0 0] #[.bool (decide (n < 0)), .slice none 0 0]
  generalize (w.alloc (Obj.cells #[.bool false, .slice none 0 0] 56)).alloc (Obj.cells #[.bool (decide (n < 0)), .slice none 0 0] 56) = W at h3 ⊢
  generalize hg1 : w.heap.size + 1 = g1 at h3 ⊢
  obtain ⟨b0, b1, hbw, hz1, hz2⟩ := h3
  have B0 := Lib.hid b0
  have B1 := Lib.hid b1
  have HBW := Lib.hid hbw
  clear b0 b1 hbw hg1
  go_loopw [0, 4] (fun i _ wr => ∃ (m : Int) (L : List Int) (v : Value), i = .int .i64 m ∧ OfAt n m L ∧ Blk wr w.heap.size 56 #[.bool false, .slice none 0 0] ∧ Blk wr g1 56 #[.bool (decide (n < 0)), v] ∧ wr.ownsRow w.heap.size 3 1 v L.length (L.map (Value.int .i64)) ∧ Below w.heap.size w wr ∧ w.heap.size ≤ wr.heap.size) (fun i _ _ => (intOf i).natAbs)
  case atStart => exact ⟨n, [], .slice none 0 0, rfl, ⟨by simp, Hn.out⟩, B0.out, B1.out, World.ownsRow_nil _ _ _ _, HBW.out, HBW.out.size⟩
  case round =>
    obtain ⟨m, L, v, rfl, hat, k0, k1, hown, hbel, hsz⟩ := hrel
    obtain ⟨A, c, rfl, hc, hr⟩ := own_reads hown
    have Hr := Lib.hid hr
    clear hr
    have Hat := Lib.hid hat
    have K0 := Lib.hid k0
    have K1 := Lib.hid k1
    have Hown := Lib.hid hown
    have Hbel := Lib.hid hbel
    have hll := hat.len Hn.out
    obtain ⟨m1, m2⟩ := hat.2
    have hg : g1 < wr.heap.size := k1.lt
    have c0 : wr.cell? ⟨g1, 0, none⟩ = some (.bool (decide (n < 0))) := k1.cell 0
    have c1 : wr.cell? ⟨g1, 1, none⟩ = some (.slice A L.length c) := k1.cell 1
    have f1 : wr.frozen? ⟨g1, 1, none⟩ = false := k1.free 1
    clear hat k0 k1 hown hbel
    by_cases h0 : m = 0
    · subst h0
      have hn := Lib.hid Hat.out.done
      have d0 : wr.cell? ⟨w.heap.size, 0, none⟩ = some (.bool false) := K0.out.cell 0
      have d1 : wr.cell? ⟨w.heap.size, 1, none⟩ = some (.slice none 0 0) := K0.out.cell 1
      have d2 : wr.frozen? ⟨w.heap.size, 0, none⟩ = false := K0.out.free 0
      have d3 : wr.frozen? ⟨w.heap.size, 1, none⟩ = false := K0.out.free 1
      go_wp2_with fail
      refine bodyPost_ret (v := .agg #[.bool (decide (n < 0)), .slice A L.length c]) (by simp [results, Tryz.results55, go_sem, d0, d1]) rfl ?_
      refine gives_set ⟨A, c, by rw [← hn.out], by rw [← hn.out]; exact hc, by rw [← hn.out]; exact Hr.out⟩ Hbel.out K0.out (Nat.le_refl _) _ _
    · have t0 : (m != 0) = true := by simp; exact h0
      by_cases hp : 0 < m
      · have hf : 0 ≤ m % 10000 ∧ m % 10000 < 10000 := by omega
        have hs := Lib.hid (Hat.out.step h0 (f := m % 10000) (by omega))
        have hq := Lib.hid (show m.tdiv 10000 = m / 10000 by rw [Int.tdiv_eq_ediv_of_nonneg (by omega)])
        obtain ⟨hf0, hf1⟩ := hf
        have hmx : ¬ (m % 10000 < -(m % 10000)) := by omega
        clear h0
        go_wp2_with (at_builtin; refine app_int rfl (.tmp 13) (.tmp 18) rfl w.heap.size _ _ L (m % 10000) rfl rfl Hown.out (by omega) hsz ?_)
        intro v' w3 hown3 hb3 hk3
        have hlen : L.length + 1 = (L ++ [m % 10000]).length := by rw [List.length_append]; rfl
        have hown3 : w3.ownsRow w.heap.size 3 1 v' (L ++ [m % 10000]).length ((L ++ [m % 10000]).map (Value.int .i64)) := by rw [← hlen, List.map_append]; exact hown3
        obtain ⟨A3, c3, hv3, _, _⟩ := own_reads hown3
        rw [← hlen] at hv3
        subst hv3
        have k03 : Blk w3 w.heap.size 56 #[.bool false, .slice none 0 0] := hk3 _ _ _ _ _ K0.out (by decide)
        have k13 : Blk w3 g1 56 #[.bool (decide (n < 0)), .slice A L.length c] := hk3 _ _ _ _ _ K1.out (by decide)
        have hb3' := hb3 _ Hbel.out
        have d1 : w3.cell? ⟨g1, 1, none⟩ = some (.slice A L.length c) := k13.cell 1
        have d2 : w3.frozen? ⟨g1, 1, none⟩ = false := k13.free 1
        have hk4 := k13.set_ 1 (.slice A3 (L.length + 1) c3)
        have hk5 : Blk (w3.setCell ⟨g1, 1, none⟩ (.slice A3 (L.length + 1) c3)) w.heap.size 56 #[.bool false, .slice none 0 0] := k03.far (by show w.heap.size ≠ g1; omega) _
        have ho5 := own_set hown3 k13 (by decide) 1 (.slice A3 (L.length + 1) c3)
        have hb5 : Below w.heap.size w (w3.setCell ⟨g1, 1, none⟩ (.slice A3 (L.length + 1) c3)) := hb3'.setCell (by show w.heap.size ≤ g1; omega) _
        have Hk4 := Lib.hid hk4
        have Hk5 := Lib.hid hk5
        have Ho5 := Lib.hid ho5
        have Hb5 := Lib.hid hb5
        have Hlen := Lib.hid hlen
        clear hk4 hk5 ho5 hb5 k03 k13 hown3 hb3 hb3' hk3 hlen
        go_wp2_with fail
        go_roundw
        case rel => exact ⟨_, _, _, by rw [hq.out], hs.out, Hk5.out, Hk4.out, Ho5.out, Hb5.out, Hb5.out.size⟩
        case measure => simp [intOf]; omega
      · have hf1 : -9999 ≤ m.tmod 10000 ∧ m.tmod 10000 < 0 ∨ m.tmod 10000 = 0 := by
          have h1 := tmod_small m 10000 (by decide)
          have h2 := (tmod_side m 10000).2 (by omega)
          omega
        have hf2 : -9999 ≤ m.tmod 10000 := by omega
        have hf3 : m.tmod 10000 ≤ 0 := by omega
        have hna : ((m.natAbs % 10000 : Nat) : Int) = -m.tmod 10000 := by
          have := Int.natAbs_tmod m 10000
          simp only [Int.reduceAbs] at this
          omega
        have hw1 : IntKind.i64.wrap (m.tmod 10000) = m.tmod 10000 := IntWalk.i64_in _ (by omega)
        have hw2 : IntKind.i64.wrap (m.tdiv 10000) = m.tdiv 10000 := IntWalk.i64_in _ (tdiv_in _ _ ⟨m1, m2⟩ (by decide))
        have hs := Lib.hid (Hat.out.step h0 (f := -m.tmod 10000) hna.symm)
        have hm3 := Lib.hid (show (m.tdiv 10000).natAbs < m.natAbs from by rw [Int.natAbs_tdiv]; exact Nat.div_lt_self (by omega) (by decide))
        clear h0 hna hf1
        by_cases hz : m.tmod 10000 = 0
        · have hmx : ¬ (m.tmod 10000 < -m.tmod 10000) := by omega
          have Hz := Lib.hid hz
          clear hz
          have Hz2 := Lib.hid (show -m.tmod 10000 = m.tmod 10000 by have := Hz.out; omega)
          go_wp2_with (at_builtin; refine app_int rfl (.tmp 13) (.tmp 18) rfl w.heap.size _ _ L (m.tmod 10000) rfl rfl Hown.out (by omega) hsz ?_)
          intro v' w3 hown3 hb3 hk3
          have hlen : L.length + 1 = (L ++ [m.tmod 10000]).length := by rw [List.length_append]; rfl
          have hown3 : w3.ownsRow w.heap.size 3 1 v' (L ++ [m.tmod 10000]).length ((L ++ [m.tmod 10000]).map (Value.int .i64)) := by rw [← hlen, List.map_append]; exact hown3
          obtain ⟨A3, c3, hv3, _, _⟩ := own_reads hown3
          rw [← hlen] at hv3
          subst hv3
          have k03 : Blk w3 w.heap.size 56 #[.bool false, .slice none 0 0] := hk3 _ _ _ _ _ K0.out (by decide)
          have k13 : Blk w3 g1 56 #[.bool (decide (n < 0)), .slice A L.length c] := hk3 _ _ _ _ _ K1.out (by decide)
          have hb3' := hb3 _ Hbel.out
          have d1 : w3.cell? ⟨g1, 1, none⟩ = some (.slice A L.length c) := k13.cell 1
          have d2 : w3.frozen? ⟨g1, 1, none⟩ = false := k13.free 1
          have hk4 := k13.set_ 1 (.slice A3 (L.length + 1) c3)
          have hk5 : Blk (w3.setCell ⟨g1, 1, none⟩ (.slice A3 (L.length + 1) c3)) w.heap.size 56 #[.bool false, .slice none 0 0] := k03.far (by show w.heap.size ≠ g1; omega) _
          have ho5 := own_set hown3 k13 (by decide) 1 (.slice A3 (L.length + 1) c3)
          have hb5 : Below w.heap.size w (w3.setCell ⟨g1, 1, none⟩ (.slice A3 (L.length + 1) c3)) := hb3'.setCell (by show w.heap.size ≤ g1; omega) _
          have Hk4 := Lib.hid hk4
          have Hk5 := Lib.hid hk5
          have Ho5 := Lib.hid ho5
          have Hb5 := Lib.hid hb5
          have Hlen := Lib.hid hlen
          clear hk4 hk5 ho5 hb5 k03 k13 hown3 hb3 hb3' hk3 hlen
          go_wp2_with fail
          go_roundw
          case rel => exact ⟨_, _, _, rfl, (Hz2.out ▸ hs.out), Hk5.out, Hk4.out, Ho5.out, Hb5.out, Hb5.out.size⟩
          case measure => simp only [intOf]; exact hm3.out
        · have hmx : m.tmod 10000 < -m.tmod 10000 := by omega
          clear hz
          go_wp2_with (at_builtin; refine app_int rfl (.tmp 13) (.tmp 18) rfl w.heap.size _ _ L (-m.tmod 10000) rfl rfl Hown.out (by omega) hsz ?_)
          intro v' w3 hown3 hb3 hk3
          have hlen : L.length + 1 = (L ++ [-m.tmod 10000]).length := by rw [List.length_append]; rfl
          have hown3 : w3.ownsRow w.heap.size 3 1 v' (L ++ [-m.tmod 10000]).length ((L ++ [-m.tmod 10000]).map (Value.int .i64)) := by rw [← hlen, List.map_append]; exact hown3
          obtain ⟨A3, c3, hv3, _, _⟩ := own_reads hown3
          rw [← hlen] at hv3
          subst hv3
          have k03 : Blk w3 w.heap.size 56 #[.bool false, .slice none 0 0] := hk3 _ _ _ _ _ K0.out (by decide)
          have k13 : Blk w3 g1 56 #[.bool (decide (n < 0)), .slice A L.length c] := hk3 _ _ _ _ _ K1.out (by decide)
          have hb3' := hb3 _ Hbel.out
          have d1 : w3.cell? ⟨g1, 1, none⟩ = some (.slice A L.length c) := k13.cell 1
          have d2 : w3.frozen? ⟨g1, 1, none⟩ = false := k13.free 1
          have hk4 := k13.set_ 1 (.slice A3 (L.length + 1) c3)
          have hk5 : Blk (w3.setCell ⟨g1, 1, none⟩ (.slice A3 (L.length + 1) c3)) w.heap.size 56 #[.bool false, .slice none 0 0] := k03.far (by show w.heap.size ≠ g1; omega) _
          have ho5 := own_set hown3 k13 (by decide) 1 (.slice A3 (L.length + 1) c3)
          have hb5 : Below w.heap.size w (w3.setCell ⟨g1, 1, none⟩ (.slice A3 (L.length + 1) c3)) := hb3'.setCell (by show w.heap.size ≤ g1; omega) _
          have Hk4 := Lib.hid hk4
          have Hk5 := Lib.hid hk5
          have Ho5 := Lib.hid ho5
          have Hb5 := Lib.hid hb5
          have Hlen := Lib.hid hlen
          clear hk4 hk5 ho5 hb5 k03 k13 hown3 hb3 hb3' hk3 hlen
          go_wp2_with fail
          go_roundw
          case rel => exact ⟨_, _, _, rfl, hs.out, Hk5.out, Hk4.out, Ho5.out, Hb5.out, Hb5.out.size⟩
          case measure => simp only [intOf]; exact hm3.out
end Go.Proofs.YtnenipgpncomeaaGreatDoor.W2
