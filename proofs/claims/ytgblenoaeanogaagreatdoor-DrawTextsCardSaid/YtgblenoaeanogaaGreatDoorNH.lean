/- The reference's reader: a value, and a whole text: contracts. -/
import Derived.Test.YtgblenoaeanogaaGreatDoorNG
import Derived.Test.YtgblenoaeanogaaGreatDoorMS
import Derived.Outline
set_option linter.unusedVariables false
set_option maxRecDepth 100000
set_option maxHeartbeats 8000000
open Go.Lib (hid)
namespace Go.Proofs.YtgblenoaeanogaaGreatDoor
open Go.RowKit
open Tk
theorem from_arr6 (s : ByteArray) (n room : Nat) (t : Tok) (h91 : Rd.isM t 91) (h0 : room ≠ 0) : Rd.fromF Rd.Ob s (n + 1) room t = Rd.arrV s n (room - 1) t.fin := by
 have hk := h91.1
 unfold Rd.fromF
 rw [if_neg (by rw [hk]; decide), if_neg (by rw [hk]; decide), if_neg (by rw [hk]; decide), if_neg (by rw [hk]; decide), if_neg (fun h => h.1 h91), if_neg h0]
 unfold Rd.arrV
 cases next s t.fin with
 | err p c => rfl
 | tok u => exact if_pos h91
theorem from_obj6 (s : ByteArray) (n room : Nat) (t : Tok) (h91 : ¬ Rd.isM t 91) (h123 : Rd.isM t 123) (h0 : room ≠ 0) : Rd.fromF Rd.Ob s (n + 1) room t = Rd.objV s n (room - 1) t.fin := by
 have hk := h123.1
 unfold Rd.fromF
 rw [if_neg (by rw [hk]; decide), if_neg (by rw [hk]; decide), if_neg (by rw [hk]; decide), if_neg (by rw [hk]; decide), if_neg (fun h => h.2 h123), if_neg h0]
 unfold Rd.objV
 cases next s t.fin with
 | err p c => rfl
 | tok u => exact if_neg h91
theorem val_at (s : ByteArray) (hs : s.size ≤ 520) : ∀ n, ValAt s n := by
 intro n
 induction n using Nat.strongRecOn with
 | ind n ih =>
  intro room inn dep a w hd hd2 ha hn
  cases h : next s a with
  | err p c =>
   rw [show Rd.valF s n room a = .err p c from by unfold Rd.valF; rw [h]]
   exact val_err s hs a inn dep w ha h
  | tok t =>
   rw [show Rd.valF s n room a = Rd.fromF Rd.Ob s n room t from by unfold Rd.valF; rw [h]]
   have hnt := hn t h
   obtain ⟨m, rfl⟩ : ∃ k, n = k + 1 := ⟨n - 1, by omega⟩
   obtain ⟨⟨o1, o2, o3⟩, o4⟩ := Rd.ok_next ha h
   have hfu : t.kind ≠ 0 → ∀ u, next s t.fin = .tok u → 2 * (s.size - u.at_) + 2 ≤ m := fun hk u hu => by
    have := o3 hk
    obtain ⟨⟨p1, p2, p3⟩, p4⟩ := Rd.ok_next o2 hu
    omega
   by_cases k1 : Rd.isM t 91 ∧ room ≠ 0
   ·
    rw [from_arr6 s m room t k1.1 k1.2]
    refine val_arr s hs a inn dep w ha h k1.1 (by omega) hd2 _ fun w' => ?_
    have := r6array_any s hs m (fun k hk => ih k (by omega)) (room - 1) (inn + 1) dep t.fin w' (by omega) hd2 o2 (hfu (Rd.mark_ne k1.1))
    rwa [show ((inn + 1 : Nat) : Int) = (inn : Int) + 1 from by omega] at this
   by_cases k2 : ¬ Rd.isM t 91 ∧ Rd.isM t 123 ∧ room ≠ 0
   ·
    rw [from_obj6 s m room t k2.1 k2.2.1 k2.2.2]
    refine val_obj s hs a inn dep w ha h k2.2.1 (by omega) hd2 _ fun w' => ?_
    have := r6object_any s hs m (fun k hk => ih k (by omega)) (room - 1) (inn + 1) dep t.fin w' (by omega) hd2 o2 (hfu (Rd.mark_ne k2.2.1))
    rwa [show ((inn + 1 : Nat) : Int) = (inn : Int) + 1 from by omega] at this
   unfold Rd.fromF
   by_cases h6 : t.kind = 6
   · rw [if_pos h6]; exact val_null s hs a inn dep w ha h h6
   rw [if_neg h6]
   by_cases h4 : t.kind = 4
   · rw [if_pos (.inl h4), show (t.kind == 4) = true by simp [h4]]; exact val_true s hs a inn dep w ha h h4
   by_cases h5 : t.kind = 5
   · rw [if_pos (.inr h5), show (t.kind == 4) = false by simp [h5]]; exact val_false s hs a inn dep w ha h h5
   rw [if_neg (show ¬ (t.kind = 4 ∨ t.kind = 5) from fun k => k.elim h4 h5)]
   by_cases h3 : t.kind = 3
   · rw [if_pos h3]; exact val_num s hs a inn dep w ha h h3
   rw [if_neg h3]
   by_cases h2 : t.kind = 2
   · rw [if_pos h2]; exact val_str s hs a inn dep w ha h h2
   rw [if_neg h2]
   by_cases hm : ¬ Rd.isM t 91 ∧ ¬ Rd.isM t 123
   · rw [if_pos hm]; exact val_form s hs a inn dep w ha h h2 h3 h4 h5 h6 hm.1 hm.2
   rw [if_neg hm]
   have h123 : ¬ Rd.isM t 91 → Rd.isM t 123 := fun k => by
    by_cases k2 : Rd.isM t 123
    · exact k2
    · exact absurd ⟨k, k2⟩ hm
   have h0 : room = 0 := by
    rcases Nat.eq_zero_or_pos room with h0 | h0
    · exact h0
    ·
     exfalso
     by_cases k3 : Rd.isM t 91
     · exact k1 ⟨k3, by omega⟩
     · exact k2 ⟨k3, h123 k3, by omega⟩
   rw [if_pos h0]
   by_cases k3 : Rd.isM t 91
   · exact val_deep1 s hs a inn dep w ha h k3 (by omega)
   · exact val_deep2 s hs a inn dep w ha h (h123 k3) (by omega)
theorem below_put6 {lo g : Nat} {w W : World} (h : Below lo w W) (hg : lo ≤ g) (v0 v1 v2 v3 v4 v5 : Value) : Below lo w ((((((W.setCell ⟨g, 0, none⟩ v0).setCell ⟨g, 1, none⟩ v1).setCell ⟨g, 2, none⟩ v2).setCell ⟨g, 3, none⟩ v3).setCell ⟨g, 4, none⟩ v4).setCell ⟨g, 5, none⟩ v5) :=
 (((((h.setCell hg _).setCell hg _).setCell hg _).setCell hg _).setCell hg _).setCell hg _
theorem v_put {W : World} {g : Nat} {c0 c1 c2 c3 c4 c5 : Value} (h : Blk W g 50 #[c0, c1, c2, c3, c4, c5]) (v0 v1 v2 v3 v4 v5 : Value) :
 let V := ((((((W.setCell ⟨g, 0, none⟩ v0).setCell ⟨g, 1, none⟩ v1).setCell ⟨g, 2, none⟩ v2).setCell ⟨g, 3, none⟩ v3).setCell ⟨g, 4, none⟩ v4).setCell ⟨g, 5, none⟩ v5)
 V.cell? ⟨g, 0, none⟩ = some v0 ∧ V.cell? ⟨g, 1, none⟩ = some v1 ∧ V.cell? ⟨g, 2, none⟩ = some v2 ∧ V.cell? ⟨g, 3, none⟩ = some v3 ∧ V.cell? ⟨g, 4, none⟩ = some v4 ∧ V.cell? ⟨g, 5, none⟩ = some v5 := by
 intro V
 have h0 : Blk (W.setCell ⟨g, 0, none⟩ v0) g 50 #[v0, c1, c2, c3, c4, c5] := h.set_ 0 v0
 have h1 : Blk ((W.setCell ⟨g, 0, none⟩ v0).setCell ⟨g, 1, none⟩ v1) g 50 #[v0, v1, c2, c3, c4, c5] := h0.set_ 1 v1
 have h2 : Blk (((W.setCell ⟨g, 0, none⟩ v0).setCell ⟨g, 1, none⟩ v1).setCell ⟨g, 2, none⟩ v2) g 50 #[v0, v1, v2, c3, c4, c5] := h1.set_ 2 v2
 have h3 : Blk ((((W.setCell ⟨g, 0, none⟩ v0).setCell ⟨g, 1, none⟩ v1).setCell ⟨g, 2, none⟩ v2).setCell ⟨g, 3, none⟩ v3) g 50 #[v0, v1, v2, v3, c4, c5] := h2.set_ 3 v3
 have h4 : Blk (((((W.setCell ⟨g, 0, none⟩ v0).setCell ⟨g, 1, none⟩ v1).setCell ⟨g, 2, none⟩ v2).setCell ⟨g, 3, none⟩ v3).setCell ⟨g, 4, none⟩ v4) g 50 #[v0, v1, v2, v3, v4, c5] := h3.set_ 4 v4
 have h5 : Blk ((((((W.setCell ⟨g, 0, none⟩ v0).setCell ⟨g, 1, none⟩ v1).setCell ⟨g, 2, none⟩ v2).setCell ⟨g, 3, none⟩ v3).setCell ⟨g, 4, none⟩ v4).setCell ⟨g, 5, none⟩ v5) g 50 #[v0, v1, v2, v3, v4, v5] := h4.set_ 5 v5
 exact ⟨h5.cell 0, h5.cell 1, h5.cell 2, h5.cell 3, h5.cell 4, h5.cell 5⟩
theorem r6parse_any (s : ByteArray) (hs : s.size ≤ 520) (d : Int) (w : World) : Calls Tryz.prog 19 #[.string s, .int .i64 d] w (PGives (Rd.parseR s d) w) := by
 have HRE := hid (show Rd.parseR s d = if d < 0 ∨ 64 < d then .err 0 8 else if 16384 < s.size then .err 0 7 else Rd.whole Rd.Ob s d.toNat from rfl)
 have HG0 := hid (Blk.new w 50 #[.int .i64 0, .bool false, .int .i64 0, .string ⟨#[]⟩, .slice none 0 0, .slice none 0 0])
 have HW0 := hid (show Below w.heap.size w (w.alloc (.cells #[.int .i64 0, .bool false, .int .i64 0, .string ⟨#[]⟩, .slice none 0 0, .slice none 0 0] 50)) from (Below.refl _ _).alloc (Nat.le_refl _) _)
 generalize hres : Rd.parseR s d = res at *
 clear hres
 go_enter Tryz.func19, Tryz.ntmps19
 go_upto_region 1 with fail
 change Code.wp _ _ _ _ (w.alloc (.cells #[.int .i64 0, .bool false, .int .i64 0, .string ⟨#[]⟩, .slice none 0 0, .slice none 0 0] 50))
 generalize (w.alloc (.cells #[.int .i64 0, .bool false, .int .i64 0, .string ⟨#[]⟩, .slice none 0 0, .slice none 0 0] 50)) = W0 at *
 have hlt0 := HG0.out.lt
 by_cases hd0 : d < 0
 ·
  have u1 : decide (d < 0) = true := decide_eq_true hd0
  have x0 := HG0.out.free 0
  have x1 := HG0.out.free 1
  have x2 := HG0.out.free 2
  have x3 := HG0.out.free 3
  have x4 := HG0.out.free 4
  have x5 := HG0.out.free 5
  have q0 : W0.cell? ⟨w.heap.size, 0, none⟩ = some (.int .i64 0) := HG0.out.cell 0
  have q1 : W0.cell? ⟨w.heap.size, 1, none⟩ = some (.bool false) := HG0.out.cell 1
  have q2 : W0.cell? ⟨w.heap.size, 2, none⟩ = some (.int .i64 0) := HG0.out.cell 2
  have q3 : W0.cell? ⟨w.heap.size, 3, none⟩ = some (.string ⟨#[]⟩) := HG0.out.cell 3
  have q4 : W0.cell? ⟨w.heap.size, 4, none⟩ = some (.slice none 0 0) := HG0.out.cell 4
  have q5 : W0.cell? ⟨w.heap.size, 5, none⟩ = some (.slice none 0 0) := HG0.out.cell 5
  go_wp2_with fail
  have HZ := hid (below_put6 HW0.out (Nat.le_refl _) (.int .i64 0) (.bool false) (.int .i64 0) (.string ⟨#[]⟩) (.slice none 0 0) (.slice none 0 0))
  have hM := v_put HG0.out (.int .i64 0) (.bool false) (.int .i64 0) (.string ⟨#[]⟩) (.slice none 0 0) (.slice none 0 0)
  generalize ((((((W0.setCell ⟨w.heap.size, 0, none⟩ (.int .i64 0)).setCell ⟨w.heap.size, 1, none⟩ (.bool false)).setCell ⟨w.heap.size, 2, none⟩ (.int .i64 0)).setCell ⟨w.heap.size, 3, none⟩ (.string ⟨#[]⟩)).setCell ⟨w.heap.size, 4, none⟩ (.slice none 0 0)).setCell ⟨w.heap.size, 5, none⟩ (.slice none 0 0)) = V9 at *
  obtain ⟨m0, m1, m2, m3, m4, m5⟩ := hM
  try simp only [Exit.inBlock, Exit.then]
  refine bodyPost_ret (v := .tuple #[.agg #[.int .i64 0, .bool false, .int .i64 0, .string ⟨#[]⟩, .slice none 0 0, .slice none 0 0], .int .i64 0, .int .i64 8]) (by simp [results, Tryz.results19, go_sem, m0, m1, m2, m3, m4, m5]) rfl ?_
  rw [HRE.out, if_pos (.inl hd0)]
  exact ⟨rfl, HZ.out⟩
 ·
  have u1 : decide (d < 0) = false := decide_eq_false hd0
  by_cases hd1 : 64 < d
  ·
   have u2 : decide (d > 64) = true := decide_eq_true hd1
   have u3 : decide (64 < d) = true := decide_eq_true hd1
   have x0 := HG0.out.free 0
   have x1 := HG0.out.free 1
   have x2 := HG0.out.free 2
   have x3 := HG0.out.free 3
   have x4 := HG0.out.free 4
   have x5 := HG0.out.free 5
   have q0 : W0.cell? ⟨w.heap.size, 0, none⟩ = some (.int .i64 0) := HG0.out.cell 0
   have q1 : W0.cell? ⟨w.heap.size, 1, none⟩ = some (.bool false) := HG0.out.cell 1
   have q2 : W0.cell? ⟨w.heap.size, 2, none⟩ = some (.int .i64 0) := HG0.out.cell 2
   have q3 : W0.cell? ⟨w.heap.size, 3, none⟩ = some (.string ⟨#[]⟩) := HG0.out.cell 3
   have q4 : W0.cell? ⟨w.heap.size, 4, none⟩ = some (.slice none 0 0) := HG0.out.cell 4
   have q5 : W0.cell? ⟨w.heap.size, 5, none⟩ = some (.slice none 0 0) := HG0.out.cell 5
   go_wp2_with fail
   have HZ := hid (below_put6 HW0.out (Nat.le_refl _) (.int .i64 0) (.bool false) (.int .i64 0) (.string ⟨#[]⟩) (.slice none 0 0) (.slice none 0 0))
   have hM := v_put HG0.out (.int .i64 0) (.bool false) (.int .i64 0) (.string ⟨#[]⟩) (.slice none 0 0) (.slice none 0 0)
   generalize ((((((W0.setCell ⟨w.heap.size, 0, none⟩ (.int .i64 0)).setCell ⟨w.heap.size, 1, none⟩ (.bool false)).setCell ⟨w.heap.size, 2, none⟩ (.int .i64 0)).setCell ⟨w.heap.size, 3, none⟩ (.string ⟨#[]⟩)).setCell ⟨w.heap.size, 4, none⟩ (.slice none 0 0)).setCell ⟨w.heap.size, 5, none⟩ (.slice none 0 0)) = V9 at *
   obtain ⟨m0, m1, m2, m3, m4, m5⟩ := hM
   try simp only [Exit.inBlock, Exit.then]
   refine bodyPost_ret (v := .tuple #[.agg #[.int .i64 0, .bool false, .int .i64 0, .string ⟨#[]⟩, .slice none 0 0, .slice none 0 0], .int .i64 0, .int .i64 8]) (by simp [results, Tryz.results19, go_sem, m0, m1, m2, m3, m4, m5]) rfl ?_
   rw [HRE.out, if_pos (.inr hd1)]
   exact ⟨rfl, HZ.out⟩
  ·
   have u2 : decide (d > 64) = false := decide_eq_false hd1
   have u3 : decide (64 < d) = false := decide_eq_false hd1
   have us : decide ((s.size : Int) > 16384) = false := decide_eq_false (by omega)
   have us' : decide ((16384 : Int) < (s.size : Int)) = false := decide_eq_false (by omega)
   have usn : decide (16384 < s.size) = false := decide_eq_false (by omega)
   obtain ⟨dn, rfl⟩ : ∃ dn : Nat, d = dn := ⟨d.toNat, by omega⟩
   have HRW := hid (show res = match Rd.valF s (Rd.many s) dn 0 with
    | .out => .out
    | .err p c => .err p c
    | .val v e => match next s e with
     | .err p c => .err p c
     | .tok u => if u.kind = 0 then .val v 0 else .err u.at_ 1 from by
    rw [HRE.out, if_neg (by omega), if_neg (by omega)]
    show Rd.whole Rd.Ob s dn = _
    unfold Rd.whole Rd.valF
    cases next s 0 with
    | err p c => rfl
    | tok t =>
     dsimp only
     cases Rd.fromF Rd.Ob s (Rd.many s) dn t <;> rfl)
   have hfv : ∀ t, next s 0 = .tok t → 2 * (s.size - t.at_) + 1 ≤ Rd.many s := fun t _ => by unfold Rd.many; omega
   have HVC := hid (val_at s hs (Rd.many s) dn 0 dn 0 W0 (by omega) (by omega) (Nat.zero_le _) hfv)
   clear HRE hd0 hd1
   cases hvr : Rd.valF s (Rd.many s) dn 0 with
   | out => exact absurd hvr (Rd.val_out (Nat.zero_le _) hfv)
   | err p c =>
    rw [hvr] at HVC HRW
    have hc := Rd.val_code hvr
    have uc : (c != 0) = true := by rw [bne_iff_ne]; exact hc
    have HVF := hid (show res = .err p c from HRW.out)
    clear hvr hc hfv HRW
    go_wp2_with fail
    refine HVC.out.mono ?_
    rintro ev w4 ⟨rfl, hb4⟩
    clear HVC
    have hb4a := hb4.alloc hb4.size (.cells #[.int .i64 0, .bool false, .int .i64 0, .string ⟨#[]⟩, .slice none 0 0, .slice none 0 0, .int .i64 p, .int .i64 c] 80)
    have HX := hid (Blk.new w4 80 #[.int .i64 0, .bool false, .int .i64 0, .string ⟨#[]⟩, .slice none 0 0, .slice none 0 0, .int .i64 p, .int .i64 c])
    have HG4 := hid (HG0.out.onto hb4a)
    have HW4 := hid (HW0.out.trans (hb4a.mono HW0.out.size))
    clear hb4 hb4a
    go_upto_region 6 with fail
    change Code.wp _ _ _ _ (w4.alloc (.cells #[.int .i64 0, .bool false, .int .i64 0, .string ⟨#[]⟩, .slice none 0 0, .slice none 0 0, .int .i64 p, .int .i64 c] 80))
    generalize (w4.alloc (.cells #[.int .i64 0, .bool false, .int .i64 0, .string ⟨#[]⟩, .slice none 0 0, .slice none 0 0, .int .i64 p, .int .i64 c] 80)) = W4 at *
    generalize w4.heap.size = X at *
    have cx0 : W4.cell? ⟨X, 0, none⟩ = some (.int .i64 0) := HX.out.cell 0
    have cx1 : W4.cell? ⟨X, 1, none⟩ = some (.bool false) := HX.out.cell 1
    have cx2 : W4.cell? ⟨X, 2, none⟩ = some (.int .i64 0) := HX.out.cell 2
    have cx3 : W4.cell? ⟨X, 3, none⟩ = some (.string ⟨#[]⟩) := HX.out.cell 3
    have cx4 : W4.cell? ⟨X, 4, none⟩ = some (.slice none 0 0) := HX.out.cell 4
    have cx5 : W4.cell? ⟨X, 5, none⟩ = some (.slice none 0 0) := HX.out.cell 5
    have cx6 : W4.cell? ⟨X, 6, none⟩ = some (.int .i64 p) := HX.out.cell 6
    have cx7 : W4.cell? ⟨X, 7, none⟩ = some (.int .i64 c) := HX.out.cell 7
    have x0 := HG4.out.free 0
    have x1 := HG4.out.free 1
    have x2 := HG4.out.free 2
    have x3 := HG4.out.free 3
    have x4 := HG4.out.free 4
    have x5 := HG4.out.free 5
    have q0 : W4.cell? ⟨w.heap.size, 0, none⟩ = some (.int .i64 0) := HG4.out.cell 0
    have q1 : W4.cell? ⟨w.heap.size, 1, none⟩ = some (.bool false) := HG4.out.cell 1
    have q2 : W4.cell? ⟨w.heap.size, 2, none⟩ = some (.int .i64 0) := HG4.out.cell 2
    have q3 : W4.cell? ⟨w.heap.size, 3, none⟩ = some (.string ⟨#[]⟩) := HG4.out.cell 3
    have q4 : W4.cell? ⟨w.heap.size, 4, none⟩ = some (.slice none 0 0) := HG4.out.cell 4
    have q5 : W4.cell? ⟨w.heap.size, 5, none⟩ = some (.slice none 0 0) := HG4.out.cell 5
    go_wp2_with fail
    go_region
    go_wp2_with fail
    have HZ := hid (below_put6 HW4.out (Nat.le_refl _) (.int .i64 0) (.bool false) (.int .i64 0) (.string ⟨#[]⟩) (.slice none 0 0) (.slice none 0 0))
    have hM := v_put HG4.out (.int .i64 0) (.bool false) (.int .i64 0) (.string ⟨#[]⟩) (.slice none 0 0) (.slice none 0 0)
    generalize ((((((W4.setCell ⟨w.heap.size, 0, none⟩ (.int .i64 0)).setCell ⟨w.heap.size, 1, none⟩ (.bool false)).setCell ⟨w.heap.size, 2, none⟩ (.int .i64 0)).setCell ⟨w.heap.size, 3, none⟩ (.string ⟨#[]⟩)).setCell ⟨w.heap.size, 4, none⟩ (.slice none 0 0)).setCell ⟨w.heap.size, 5, none⟩ (.slice none 0 0)) = V9 at *
    obtain ⟨m0, m1, m2, m3, m4, m5⟩ := hM
    try simp only [Exit.inBlock, Exit.then]
    refine bodyPost_ret (v := .tuple #[.agg #[.int .i64 0, .bool false, .int .i64 0, .string ⟨#[]⟩, .slice none 0 0, .slice none 0 0], .int .i64 p, .int .i64 c]) (by simp [results, Tryz.results19, go_sem, m0, m1, m2, m3, m4, m5]) rfl ?_
    rw [HVF.out]
    exact ⟨rfl, HZ.out.drew⟩
   | val v e =>
    obtain ⟨hke, hes⟩ := Rd.val_fine (Nat.zero_le _) hfv hvr
    rw [hvr] at HVC HRW
    have HVF := hid (show res = (match next s e with
     | .err p c => .err p c
     | .tok u => if u.kind = 0 then .val v 0 else .err u.at_ 1) from HRW.out)
    clear hvr hfv HRW
    go_wp2_with fail
    refine HVC.out.mono ?_
    rintro ev w4 ⟨B, f, B', f', rfl, hT4, hb4⟩
    clear HVC
    have hb4a := hb4.alloc hb4.size (.cells #[.int .i64 v.kind, .bool v.tr, .int .i64 v.num, .string v.str, .slice B v.items.length f, .slice B' v.keys.length f', .int .i64 e, .int .i64 0] 80)
    have HX4 := hid (Blk.new w4 80 #[.int .i64 v.kind, .bool v.tr, .int .i64 v.num, .string v.str, .slice B v.items.length f, .slice B' v.keys.length f', .int .i64 e, .int .i64 0])
    have HG4 := hid (HG0.out.onto hb4a)
    have HW4 := hid (HW0.out.trans (hb4a.mono HW0.out.size))
    have hX4 : w.heap.size < w4.heap.size := by have := hb4.size; omega
    have hsW := HW0.out.size
    have HT4 := hid (show TV (w4.alloc (.cells #[.int .i64 v.kind, .bool v.tr, .int .i64 v.num, .string v.str, .slice B v.items.length f, .slice B' v.keys.length f', .int .i64 e, .int .i64 0] 80)) (fun b => w.heap.size ≤ b ∧ b < (w4.alloc (.cells #[.int .i64 v.kind, .bool v.tr, .int .i64 v.num, .string v.str, .slice B v.items.length f, .slice B' v.keys.length f', .int .i64 e, .int .i64 0] 80)).heap.size ∧ b ≠ w.heap.size) v B f B' f' from (hT4.keep fun b hb => Below.heap_alloc _ _ _ hb.2).wide fun b hb => ⟨by have := hb.1; omega, by have := hb.2; rw [World.size_alloc]; omega, by have := hb.1; omega⟩)
    clear hb4 hb4a hT4
    go_upto_region 6 with fail
    change Code.wp _ _ _ _ (w4.alloc (.cells #[.int .i64 v.kind, .bool v.tr, .int .i64 v.num, .string v.str, .slice B v.items.length f, .slice B' v.keys.length f', .int .i64 e, .int .i64 0] 80))
    generalize (w4.alloc (.cells #[.int .i64 v.kind, .bool v.tr, .int .i64 v.num, .string v.str, .slice B v.items.length f, .slice B' v.keys.length f', .int .i64 e, .int .i64 0] 80)) = W4 at *
    generalize w4.heap.size = X at *
    have cx0 : W4.cell? ⟨X, 0, none⟩ = some (.int .i64 v.kind) := HX4.out.cell 0
    have cx1 : W4.cell? ⟨X, 1, none⟩ = some (.bool v.tr) := HX4.out.cell 1
    have cx2 : W4.cell? ⟨X, 2, none⟩ = some (.int .i64 v.num) := HX4.out.cell 2
    have cx3 : W4.cell? ⟨X, 3, none⟩ = some (.string v.str) := HX4.out.cell 3
    have cx4 : W4.cell? ⟨X, 4, none⟩ = some (.slice B v.items.length f) := HX4.out.cell 4
    have cx5 : W4.cell? ⟨X, 5, none⟩ = some (.slice B' v.keys.length f') := HX4.out.cell 5
    have cx6 : W4.cell? ⟨X, 6, none⟩ = some (.int .i64 e) := HX4.out.cell 6
    have cx7 : W4.cell? ⟨X, 7, none⟩ = some (.int .i64 0) := HX4.out.cell 7
    cases hne : next s e with
    | err p c =>
     have hc := next_code hne
     have uc : (c != 0) = true := by rw [bne_iff_ne]; exact hc
     have HVG := hid (show res = .err p c from by rw [HVF.out, hne])
     clear hc HVF
     have HNX := hid (rnext_far s e W4 (by omega) (by omega) (by omega))
     rw [hne] at HNX
     go_wp2_with fail
     refine HNX.out.mono ?_
     rintro ev w5 ⟨rfl, hb5⟩
     clear HNX
     have hb5a := hb5.alloc hb5.size (.cells #[.int .i64 0, .string ⟨#[]⟩, .int .i64 0, .int .i64 0, .int .i64 0] 83)
     have HF5 := hid (Blk.new w5 83 #[.int .i64 0, .string ⟨#[]⟩, .int .i64 0, .int .i64 0, .int .i64 0])
     have HX5 := hid (HX4.out.onto hb5a)
     have HG5 := hid (HG4.out.onto hb5a)
     have HW5 := hid (HW4.out.trans (hb5a.mono HW4.out.size))
     have HT5 := hid (show TV (w5.alloc (.cells #[.int .i64 0, .string ⟨#[]⟩, .int .i64 0, .int .i64 0, .int .i64 0] 83)) (fun b => w.heap.size ≤ b ∧ b < (w5.alloc (.cells #[.int .i64 0, .string ⟨#[]⟩, .int .i64 0, .int .i64 0, .int .i64 0] 83)).heap.size ∧ b ≠ w.heap.size) v B f B' f' from (HT4.out.keep fun b hb => hb5a.block b hb.2.1).wide fun b hb => ⟨hb.1, Nat.lt_of_lt_of_le hb.2.1 hb5a.size, hb.2.2⟩)
     have hFG : w.heap.size < w5.heap.size := by have := hb5.size; have := HG4.out.lt; omega
     clear hb5 hb5a HT4 cx0 cx1 cx2 cx3 cx4 cx5 cx6 cx7
     unfold Tk.Ans.val
     go_upto_region 9 with fail
     change Code.wp _ _ _ _ (w5.alloc (.cells #[.int .i64 0, .string ⟨#[]⟩, .int .i64 0, .int .i64 0, .int .i64 0] 83))
     generalize (w5.alloc (.cells #[.int .i64 0, .string ⟨#[]⟩, .int .i64 0, .int .i64 0, .int .i64 0] 83)) = W5 at *
     generalize w5.heap.size = F at *
     have hFn : F ≠ w.heap.size := by omega
     have hFn' : (F = w.heap.size) = False := eq_false hFn
     have x0 := HG5.out.free 0
     have x1 := HG5.out.free 1
     have x2 := HG5.out.free 2
     have x3 := HG5.out.free 3
     have x4 := HG5.out.free 4
     have x5 := HG5.out.free 5
     have q0 : W5.cell? ⟨w.heap.size, 0, none⟩ = some (.int .i64 0) := HG5.out.cell 0
     have q1 : W5.cell? ⟨w.heap.size, 1, none⟩ = some (.bool false) := HG5.out.cell 1
     have q2 : W5.cell? ⟨w.heap.size, 2, none⟩ = some (.int .i64 0) := HG5.out.cell 2
     have q3 : W5.cell? ⟨w.heap.size, 3, none⟩ = some (.string ⟨#[]⟩) := HG5.out.cell 3
     have q4 : W5.cell? ⟨w.heap.size, 4, none⟩ = some (.slice none 0 0) := HG5.out.cell 4
     have q5 : W5.cell? ⟨w.heap.size, 5, none⟩ = some (.slice none 0 0) := HG5.out.cell 5
     go_wp2_with fail
     have HZ := hid (below_put6 HW5.out (Nat.le_refl _) (.int .i64 0) (.bool false) (.int .i64 0) (.string ⟨#[]⟩) (.slice none 0 0) (.slice none 0 0))
     have hM := v_put HG5.out (.int .i64 0) (.bool false) (.int .i64 0) (.string ⟨#[]⟩) (.slice none 0 0) (.slice none 0 0)
     generalize ((((((W5.setCell ⟨w.heap.size, 0, none⟩ (.int .i64 0)).setCell ⟨w.heap.size, 1, none⟩ (.bool false)).setCell ⟨w.heap.size, 2, none⟩ (.int .i64 0)).setCell ⟨w.heap.size, 3, none⟩ (.string ⟨#[]⟩)).setCell ⟨w.heap.size, 4, none⟩ (.slice none 0 0)).setCell ⟨w.heap.size, 5, none⟩ (.slice none 0 0)) = V9 at *
     obtain ⟨m0, m1, m2, m3, m4, m5⟩ := hM
     try simp only [Exit.inBlock, Exit.then]
     refine bodyPost_ret (v := .tuple #[.agg #[.int .i64 0, .bool false, .int .i64 0, .string ⟨#[]⟩, .slice none 0 0, .slice none 0 0], .int .i64 p, .int .i64 c]) (by simp [results, Tryz.results19, go_sem, m0, m1, m2, m3, m4, m5]) rfl ?_
     rw [HVG.out]
     exact ⟨rfl, HZ.out⟩
    | tok u =>
     have HNX := hid (rnext_far s e W4 (by omega) (by omega) (by omega))
     rw [hne] at HNX
     go_wp2_with fail
     refine HNX.out.mono ?_
     rintro ev w5 ⟨rfl, hb5⟩
     clear HNX
     have hb5a := hb5.alloc hb5.size (.cells #[.int .i64 u.kind, .string u.text, .int .i64 u.num, .int .i64 u.at_, .int .i64 u.fin] 83)
     have HF5 := hid (Blk.new w5 83 #[.int .i64 u.kind, .string u.text, .int .i64 u.num, .int .i64 u.at_, .int .i64 u.fin])
     have HX5 := hid (HX4.out.onto hb5a)
     have HG5 := hid (HG4.out.onto hb5a)
     have HW5 := hid (HW4.out.trans (hb5a.mono HW4.out.size))
     have HT5 := hid (show TV (w5.alloc (.cells #[.int .i64 u.kind, .string u.text, .int .i64 u.num, .int .i64 u.at_, .int .i64 u.fin] 83)) (fun b => w.heap.size ≤ b ∧ b < (w5.alloc (.cells #[.int .i64 u.kind, .string u.text, .int .i64 u.num, .int .i64 u.at_, .int .i64 u.fin] 83)).heap.size ∧ b ≠ w.heap.size) v B f B' f' from (HT4.out.keep fun b hb => hb5a.block b hb.2.1).wide fun b hb => ⟨hb.1, Nat.lt_of_lt_of_le hb.2.1 hb5a.size, hb.2.2⟩)
     have hFG : w.heap.size < w5.heap.size := by have := hb5.size; have := HG4.out.lt; omega
     clear hb5 hb5a HT4 cx0 cx1 cx2 cx3 cx4 cx5 cx6 cx7
     unfold Tk.Ans.val
     go_upto_region 9 with fail
     change Code.wp _ _ _ _ (w5.alloc (.cells #[.int .i64 u.kind, .string u.text, .int .i64 u.num, .int .i64 u.at_, .int .i64 u.fin] 83))
     generalize (w5.alloc (.cells #[.int .i64 u.kind, .string u.text, .int .i64 u.num, .int .i64 u.at_, .int .i64 u.fin] 83)) = W5 at *
     generalize w5.heap.size = F at *
     have hFn : F ≠ w.heap.size := by omega
     have hFn' : (F = w.heap.size) = False := eq_false hFn
     have f0 : W5.cell? ⟨F, 0, none⟩ = some (.int .i64 u.kind) := HF5.out.cell 0
     have f1 : W5.cell? ⟨F, 1, none⟩ = some (.string u.text) := HF5.out.cell 1
     have f2 : W5.cell? ⟨F, 2, none⟩ = some (.int .i64 u.num) := HF5.out.cell 2
     have f3 : W5.cell? ⟨F, 3, none⟩ = some (.int .i64 u.at_) := HF5.out.cell 3
     have f4 : W5.cell? ⟨F, 4, none⟩ = some (.int .i64 u.fin) := HF5.out.cell 4
     by_cases hk : u.kind = 0
     ·
      have uk : (u.kind != 0) = false := by rw [hk]; rfl
      have HVG := hid (show res = .val v 0 from by rw [HVF.out, hne]; exact if_pos hk)
      clear HVF hk
      have cx0 : W5.cell? ⟨X, 0, none⟩ = some (.int .i64 v.kind) := HX5.out.cell 0
      have cx1 : W5.cell? ⟨X, 1, none⟩ = some (.bool v.tr) := HX5.out.cell 1
      have cx2 : W5.cell? ⟨X, 2, none⟩ = some (.int .i64 v.num) := HX5.out.cell 2
      have cx3 : W5.cell? ⟨X, 3, none⟩ = some (.string v.str) := HX5.out.cell 3
      have cx4 : W5.cell? ⟨X, 4, none⟩ = some (.slice B v.items.length f) := HX5.out.cell 4
      have cx5 : W5.cell? ⟨X, 5, none⟩ = some (.slice B' v.keys.length f') := HX5.out.cell 5
      have cx6 : W5.cell? ⟨X, 6, none⟩ = some (.int .i64 e) := HX5.out.cell 6
      have cx7 : W5.cell? ⟨X, 7, none⟩ = some (.int .i64 0) := HX5.out.cell 7
      have x0 := HG5.out.free 0
      have x1 := HG5.out.free 1
      have x2 := HG5.out.free 2
      have x3 := HG5.out.free 3
      have x4 := HG5.out.free 4
      have x5 := HG5.out.free 5
      have q0 : W5.cell? ⟨w.heap.size, 0, none⟩ = some (.int .i64 0) := HG5.out.cell 0
      have q1 : W5.cell? ⟨w.heap.size, 1, none⟩ = some (.bool false) := HG5.out.cell 1
      have q2 : W5.cell? ⟨w.heap.size, 2, none⟩ = some (.int .i64 0) := HG5.out.cell 2
      have q3 : W5.cell? ⟨w.heap.size, 3, none⟩ = some (.string ⟨#[]⟩) := HG5.out.cell 3
      have q4 : W5.cell? ⟨w.heap.size, 4, none⟩ = some (.slice none 0 0) := HG5.out.cell 4
      have q5 : W5.cell? ⟨w.heap.size, 5, none⟩ = some (.slice none 0 0) := HG5.out.cell 5
      go_wp2_with fail
      have HZ := hid (below_put6 HW5.out (Nat.le_refl _) (.int .i64 v.kind) (.bool v.tr) (.int .i64 v.num) (.string v.str) (.slice B v.items.length f) (.slice B' v.keys.length f'))
      have HTZ := hid (box_put (v0 := .int .i64 v.kind) (v1 := .bool v.tr) (v2 := .int .i64 v.num) (v3 := .string v.str) (v4 := .slice B v.items.length f) (v5 := .slice B' v.keys.length f') HT5.out)
      have hM := v_put HG5.out (.int .i64 v.kind) (.bool v.tr) (.int .i64 v.num) (.string v.str) (.slice B v.items.length f) (.slice B' v.keys.length f')
      generalize ((((((W5.setCell ⟨w.heap.size, 0, none⟩ (.int .i64 v.kind)).setCell ⟨w.heap.size, 1, none⟩ (.bool v.tr)).setCell ⟨w.heap.size, 2, none⟩ (.int .i64 v.num)).setCell ⟨w.heap.size, 3, none⟩ (.string v.str)).setCell ⟨w.heap.size, 4, none⟩ (.slice B v.items.length f)).setCell ⟨w.heap.size, 5, none⟩ (.slice B' v.keys.length f')) = V9 at *
      obtain ⟨m0, m1, m2, m3, m4, m5⟩ := hM
      try simp only [Exit.inBlock, Exit.then]
      refine bodyPost_ret (v := .tuple #[.agg #[.int .i64 v.kind, .bool v.tr, .int .i64 v.num, .string v.str, .slice B v.items.length f, .slice B' v.keys.length f'], .int .i64 0, .int .i64 0]) (by simp [results, Tryz.results19, go_sem, m0, m1, m2, m3, m4, m5]) rfl ?_
      rw [HVG.out]
      exact ⟨B, f, B', f', rfl, HTZ.out, HZ.out⟩
     ·
      have uk : (u.kind != 0) = true := by rw [bne_iff_ne]; exact hk
      have HVG := hid (show res = .err u.at_ 1 from by rw [HVF.out, hne]; exact if_neg hk)
      clear HVF hk
      have x0 := HG5.out.free 0
      have x1 := HG5.out.free 1
      have x2 := HG5.out.free 2
      have x3 := HG5.out.free 3
      have x4 := HG5.out.free 4
      have x5 := HG5.out.free 5
      have q0 : W5.cell? ⟨w.heap.size, 0, none⟩ = some (.int .i64 0) := HG5.out.cell 0
      have q1 : W5.cell? ⟨w.heap.size, 1, none⟩ = some (.bool false) := HG5.out.cell 1
      have q2 : W5.cell? ⟨w.heap.size, 2, none⟩ = some (.int .i64 0) := HG5.out.cell 2
      have q3 : W5.cell? ⟨w.heap.size, 3, none⟩ = some (.string ⟨#[]⟩) := HG5.out.cell 3
      have q4 : W5.cell? ⟨w.heap.size, 4, none⟩ = some (.slice none 0 0) := HG5.out.cell 4
      have q5 : W5.cell? ⟨w.heap.size, 5, none⟩ = some (.slice none 0 0) := HG5.out.cell 5
      go_wp2_with fail
      go_region
      go_wp2_with fail
      have HZ := hid (below_put6 HW5.out (Nat.le_refl _) (.int .i64 0) (.bool false) (.int .i64 0) (.string ⟨#[]⟩) (.slice none 0 0) (.slice none 0 0))
      have hM := v_put HG5.out (.int .i64 0) (.bool false) (.int .i64 0) (.string ⟨#[]⟩) (.slice none 0 0) (.slice none 0 0)
      generalize ((((((W5.setCell ⟨w.heap.size, 0, none⟩ (.int .i64 0)).setCell ⟨w.heap.size, 1, none⟩ (.bool false)).setCell ⟨w.heap.size, 2, none⟩ (.int .i64 0)).setCell ⟨w.heap.size, 3, none⟩ (.string ⟨#[]⟩)).setCell ⟨w.heap.size, 4, none⟩ (.slice none 0 0)).setCell ⟨w.heap.size, 5, none⟩ (.slice none 0 0)) = V9 at *
      obtain ⟨m0, m1, m2, m3, m4, m5⟩ := hM
      try simp only [Exit.inBlock, Exit.then]
      refine bodyPost_ret (v := .tuple #[.agg #[.int .i64 0, .bool false, .int .i64 0, .string ⟨#[]⟩, .slice none 0 0, .slice none 0 0], .int .i64 (u.at_ : Int), .int .i64 1]) (by simp [results, Tryz.results19, go_sem, m0, m1, m2, m3, m4, m5]) rfl ?_
      rw [HVG.out]
      exact ⟨rfl, HZ.out.drew⟩
end Go.Proofs.YtgblenoaeanogaaGreatDoor
