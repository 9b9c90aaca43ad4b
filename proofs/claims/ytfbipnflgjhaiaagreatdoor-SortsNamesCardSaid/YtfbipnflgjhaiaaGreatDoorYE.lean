/- What is taken of one, by the reference: contract of part. -/
import Derived.Test.YtfbipnflgjhaiaaGreatDoorYC
set_option linter.unusedVariables false
set_option maxRecDepth 100000
set_option maxHeartbeats 8000000
open Go.Lib (hid)
namespace Go.Proofs.YtfbipnflgjhaiaaGreatDoor
open Go.RowKit
open Tk Ex
theorem blk_new_at {W : World} {n : Nat} (h : W.heap.size = n) (t : TypeId) (cs : Array Value) : Blk (W.alloc (.cells cs t)) n t cs := by
 subst h
 exact Blk.new W t cs
theorem rpart_at (
 s : ByteArray) (f : Nat) (hs : s.size ≤ 2500) (h1 : ROne s f) (hLV : ∀ f', f' < f → RLev s f' 0) : RPart s (f + 1) := by
 intro i hi hne w
 have hl : lev s (f + 1) 7 i = (match lev s f 8 i with | .ok e p => prt s f e p | .err p c => .err p c | .out => .out) := by
  rw [lev, if_neg (by decide), if_neg (by decide), if_pos rfl]
  cases lev s f 8 i <;> rfl
 have HCH := hid (fun f' e p => (show prt s (f' + 1) e p = (if stands s p dotB = true then (match key s e (past s p dotB) with
  | .ok y p => prt s f' y p
  | .err p c => .err p c
  | .out => .out)
  else if stands s p osqB = true then (match lev s f' 0 (past s p osqB) with
   | .ok y p => if stands s p csqB = true then prt s f' (.mk atB nix Rd.nulT [e, y]) (past s p csqB) else .err (bl s p) 1
   | .err p c => .err p c
   | .out => .out)
  else .ok e p) from by rw [prt]; cases key s e (past s p dotB) <;> cases lev s f' 0 (past s p osqB) <;> rfl))
 have HC0 := hid (fun e p => (show prt s 0 e p = .out from by rw [prt]))
 have HLV := hid hLV
 have hne1 : lev s f 8 i ≠ .out := fun h => hne (by rw [hl, h])
 have HLI := hid (fun w1 => h1 i hi hne1 w1)
 have HL1 := hid (fun e p (h : lev s f 8 i = .ok e p) => lev_le (by decide) hi h)
 generalize lev s (f + 1) 7 i = R at *
 have HNE := hid hne
 have HLR := hid hl
 clear hl hne hLV hne1 h1
 generalize lev s f 8 i = R1 at *
 go_enter Tryz.func29, Tryz.ntmps29
 go_upto_region 1 with fail
 refine alloc_gen (fun W hW kG hWs => ?_)
 have HWS := hid hWs
 have hGW := kG.lt
 generalize hG : w.heap.size = G at *
 have HG := hid hG
 have HW := hid hW
 have KG := hid kG
 clear hW kG hWs hG
 go_wp2_with fail
 refine (HLI.out _).mono ?_
 intro e9 w2 hr
 cases R1 with
 | out => exact absurd HLR.out HNE.out
 | err p c =>
  have HRE := hid (show R = .err p c from HLR.out)
  obtain ⟨rfl, hc, hb2⟩ := hr
  have HC := hid hc
  have n1 : (c == 0) = false := beq_eq_false_iff_ne.2 hc
  have KG2 := hid (KG.out.onto hb2)
  have HB2 := hid (HW.out.trans (hb2.mono (by omega)))
  have hws := hb2.size
  unfold wcs
  clear hb2 hc
  go_upto_region 2 with fail
  refine alloc_gn (fun W3 hA3 kX3 => ?_)
  have KG3 := hid (KG2.out.onto hA3)
  have HB3 := hid (HB2.out.trans (hA3.mono (by omega)))
  generalize w2.heap.size = X at *
  have a0 := kX3.cell 0
  have a1 := kX3.cell 1
  have a2 := kX3.cell 2
  have a3 := kX3.cell 3
  have a4 := kX3.cell 4
  have a5 := kX3.cell 5
  have a6 := kX3.cell 6
  have a7 := kX3.cell 7
  have a8 := kX3.cell 8
  have a9 := kX3.cell 9
  have a10 := kX3.cell 10
  clear hA3 kX3
  go_loopw [20] (fun _ wr => wr = W3) (fun _ _ => 0)
  case atStart => exact rfl
  case round =>
   obtain rfl := hrel
   obtain ⟨y0, y1, y2, y3, y4, y5, y6, y7, y8, y9, y10, z0, z1, z2, z3, z4, z5, z6, z7, z8, z9, z10, x0, x1, x2, x3, x4, x5, x6, x7, x8, x9, x10⟩ := old11 KG3.out
   go_wp2_with fail
   refine put11_gen KG3.out _ _ _ _ _ _ _ _ _ _ _ (fun WF hf0 hf1 hf2 hf3 => ?_)
   have HF := hid hf0
   have HFB := hid ((hf1 _ _ HB3.out (Nat.le_refl G)))
   clear z0 x0 z1 x1 z2 x2 z3 x3 z4 x4 z5 x5 z6 x6 z7 x7 z8 x8 z9 x9 z10 x10
   clear hf0 hf1 hf2 hf3
   obtain ⟨c0, c1, c2, c3, c4, c5, c6, c7, c8, c9, c10⟩ := all11 HF.out
   refine bodyPost_ret (v := .agg #[.string ⟨#[]⟩, .string ⟨#[]⟩, .int .i64 0, .bool false, .int .i64 0, .string ⟨#[]⟩, .slice none 0 0, .slice none 0 0, .slice none 0 0, .int .i64 (p : Int), .int .i64 c]) (by simp [results, Tryz.results29, go_sem, c0, c1, c2, c3, c4, c5, c6, c7, c8, c9, c10]) rfl ?_
   rw [HRE.out]
   exact ⟨by unfold wcs; rfl, HC.out, by rw [HG.out]; exact HFB.out⟩
 | ok e p =>
  have HRR := hid (show R = prt s f e p from HLR.out)
  have hple := (HL1.out e p rfl).2
  obtain ⟨⟨hL, hl1, hL', hl2, hA1, hc1⟩, rfl, hev, hb2⟩ := hr
  have HEV := hid hev
  have KG2 := hid (KG.out.onto hb2)
  have HB2 := hid (HW.out.trans (hb2.mono (by omega)))
  have hws := hb2.size
  unfold acs
  dsimp only
  clear hb2 hev
  go_upto_region 2 with fail
  refine alloc_gn (fun W3 hA3 kX3 => ?_)
  have KG3 := hid (KG2.out.onto hA3)
  have HB3 := hid (HB2.out.trans (hA3.mono (by omega)))
  have hs3 : w2.heap.size < W3.heap.size := kX3.lt
  have HE3 := hid (show EV W3 (fun q => G < q ∧ q < W3.heap.size ∧ q ≠ w2.heap.size) e ⟨hL, hl1, hL', hl2, hA1, hc1⟩ from (HEV.out.keep (fun q hq => hA3.block q hq.2)).wide (fun q hq => ⟨by have := hq.1; omega, by have := hq.2; omega, by have := hq.2; omega⟩))
  have HX3 := hid (show Blk W3 w2.heap.size 62 (acs e ⟨hL, hl1, hL', hl2, hA1, hc1⟩ p) from kX3)
  have hXG : G < w2.heap.size := by omega
  generalize w2.heap.size = X at *
  clear hA3 kX3 HEV
  go_loopw [20] (fun _ wr => LevI s w G X R (fun f' e p => prt s f' e p) f wr) (fun _ wr => s.size + 1 - atQ wr X)
  case atStart => exact ⟨f, e, p, _, Nat.le_refl _, HX3.out, HE3.out, hple, HRR.out.symm, KG3.out, HB3.out⟩
  case round =>
   clear HX3 HE3 HRR KG3 HB3 hple KG2 HB2 hws hs3
   obtain ⟨f1, e, p, ⟨hL, hl1, hL', hl2, hA1, hc1⟩, hf1, hX, hE, hple, hch, hGG, hbw⟩ := hrel
   have HAT := hid (atR_of hX)
   have HX := hid hX
   have HEE := hid hE
   have HGG := hid hGG
   have HBW := hid hbw
   have hXl := hX.lt
   have hGl := hGG.lt
   cases f1 with
   | zero => exact absurd (hch.symm.trans (HC0.out e p)) HNE.out
   | succ f2 =>
    have HCC := hid (hch.symm.trans (HCH.out f2 e p))
    unfold acs at hX
    dsimp only at hX
    have a0 := hX.cell 0
    have a1 := hX.cell 1
    have a2 := hX.cell 2
    have a3 := hX.cell 3
    have a4 := hX.cell 4
    have a5 := hX.cell 5
    have a6 := hX.cell 6
    have a7 := hX.cell 7
    have a8 := hX.cell 8
    have a9 := hX.cell 9
    have a10 := hX.cell 10
    have HMD := hid (show ∀ w1, Calls Tryz.prog 28 #[.string s, .int .i64 (p : Int), .string ⟨#[46]⟩] w1 (fun e w' => e = .returned (.int .i64 (markP s p dotB)) ∧ w1 = w') from fun w1 => r8mark_any s p dotB w1 (by omega) hple (by decide))
    clear hX hE hch hGG hbw
    cases hdot : stands s p dotB with
    | true =>
     have hp := stands_le hple hdot
     have hmk := mark_yes (t := dotB) hple (by decide) (by decide) hdot
     rw [hmk] at HMD
     have HCD := hid (HCC.out.trans (if_pos hdot))
     have hd1 : dotB.size = 1 := rfl
     have hpd : p < past s p dotB := by omega
     have hdl := hp.2
     clear hp hmk hdot hd1 HCC
     generalize past s p dotB = d at *
     have g1 : decide ((d : Int) ≥ 0) = true := decide_eq_true (by omega)
     have g2 : decide ((0 : Int) ≤ (d : Int)) = true := decide_eq_true (by omega)
     have hq := bl_le hdl
     have hqd := bl_ge s d
     have HBB := hid (show ∀ w1, Calls Tryz.prog 15 #[.string s, .int .i64 (d : Int)] w1 (fun e w' => e = .returned (.int .i64 (bl s d : Nat)) ∧ w1 = w') from fun w1 => rblanks_any s d w1 (by omega) (by omega))
     have HWD := hid (fun w1 => r8word_any s d w1 (by omega) hdl)
     by_cases h34 : bt s (bl s d) = 34
     ·
      have HKQ := hid (show key s e d = (match strAns s (bl s d) with | .tok t => .ok (.mk getB t.text Rd.nulT [e]) t.fin | .err p c => .err p c) from by unfold key; rw [if_pos h34]; cases strAns s (bl s d) <;> rfl)
      have hql : bl s d < s.size := lt_of_bt fun e => by rw [e] at h34; cases h34
      have HNX := hid (fun w1 => rnext_far s (bl s d) w1 (by omega) (by omega) hq)
      rw [next_quote h34] at HNX
      have HNR := hid (fun p c h => err_num s (bl s d) p c (show ansAt s (bl s d) = .err p c by
       have h2 := next_quote h34
       have h1 : span isBl s (bl s d) = bl s d := span_no (by rw [h34]; rfl)
       have h3 : next s (bl s d) = ansAt s (span isBl s (bl s d)) := rfl
       rw [← h1, ← h3, h2]; exact h))
      have HFI := hid (fun t h => str_fin (s := s) (a := bl s d) (t := t) hql h)
      have hlt : isLt (bt s (bl s d)) = false := by rw [h34]; rfl
      have hwt : wordT s d = nix := if_neg (by rw [hlt]; decide)
      have hwp : wordP s d = d := if_neg (by rw [hlt]; decide)
      rw [hwt, hwp] at HWD
      unfold nix at HWD
      have hb0 := bt_at s (bl s d) hql
      have c34 : ((s[bl s d].toNat : Int) == 34) = true := by rw [hb0, h34]; rfl
      clear hwt hwp hlt hb0 h34 a0 a1 a2 a3 a4 a5 a6 a7 a8
      generalize strAns s (bl s d) = A at *
      generalize bl s d = q at *
      have i1 : (0 : Int) ≤ (q : Int) := by omega
      have i2 : (q : Int) < (s.size : Int) := by omega
      have u1 : decide ((q : Int) < (s.size : Int)) = true := decide_eq_true i2
      cases A with
      | err p2 c =>
       have HRE := hid (show R = .err p2 c by rw [HCD.out, HKQ.out])
       have hc := HNR.out p2 c rfl
       have n1 : (c != 0) = true := by rw [bne_iff_ne]; omega
       have n2 : (c == 0) = false := beq_eq_false_iff_ne.2 (by omega)
       have HC := hid (show c ≠ 0 by omega)
       clear hc
       unfold Ans.val at HNX
       dsimp only at HNX
       go_wp2_with fail
       refine (HMD.out _).mono ?_
       rintro e8 w4 ⟨rfl, rfl⟩
       go_wp2_with fail
       refine (HWD.out _).mono ?_
       rintro e8 w4 ⟨rfl, rfl⟩
       go_wp2_with fail
       refine (HBB.out _).mono ?_
       rintro e8 w4 ⟨rfl, rfl⟩
       go_wp2_with fail
       clear a9 a10
       refine (HNX.out _).mono ?_
       rintro e8 w3 ⟨rfl, hb3⟩
       have hb3s := hb3.size
       have KG3 := hid (HGG.out.onto hb3)
       have HB3 := hid (HBW.out.trans (hb3.mono (Nat.le_of_lt hGl)))
       have HX3 := hid (HX.out.onto hb3)
       have HE3 := hid (show EV w3 (fun q => G < q ∧ q < w3.heap.size ∧ q ≠ X) e ⟨hL, hl1, hL', hl2, hA1, hc1⟩ from (HEE.out.keep (fun q hq => hb3.block q hq.2.1)).wide (fun q hq => ⟨hq.1, Nat.lt_of_lt_of_le hq.2.1 hb3.size, hq.2.2⟩))
       clear hb3
       go_upto_region 9 with fail
       refine alloc_gn (fun W4 hA4 kT => ?_)
       have KG4 := hid (KG3.out.onto hA4)
       have HB4 := hid (HB3.out.trans (hA4.mono (by omega)))
       have HX4 := hid (HX3.out.onto hA4)
       have HE4 := hid (show EV W4 (fun q => G < q ∧ q < W4.heap.size ∧ q ≠ X) e ⟨hL, hl1, hL', hl2, hA1, hc1⟩ from (HE3.out.keep (fun q hq => hA4.block q hq.2.1)).wide (fun q hq => ⟨hq.1, Nat.lt_of_lt_of_le hq.2.1 hA4.size, hq.2.2⟩))
       have h4s := kT.lt
       have hXT : X < w3.heap.size := by omega
       generalize w3.heap.size = T at *
       clear hA4 kT
       go_wp2_with fail
       refine (r8wrong_any _ _ _).mono ?_
       rintro e8 w4 ⟨rfl, hb4⟩
       have KG5 := hid (KG4.out.onto hb4)
       have HB5 := hid (HB4.out.trans (hb4.mono (by omega)))
       clear hb4
       obtain ⟨y0, y1, y2, y3, y4, y5, y6, y7, y8, y9, y10, z0, z1, z2, z3, z4, z5, z6, z7, z8, z9, z10, x0, x1, x2, x3, x4, x5, x6, x7, x8, x9, x10⟩ := old11 KG5.out
       go_wp2_with fail
       refine put11_gen KG5.out _ _ _ _ _ _ _ _ _ _ _ (fun WF hf0 hf1 hf2 hf3 => ?_)
       have HF := hid hf0
       have HFB := hid ((hf1 _ _ HB5.out (Nat.le_refl G)))
       clear z0 x0 z1 x1 z2 x2 z3 x3 z4 x4 z5 x5 z6 x6 z7 x7 z8 x8 z9 x9 z10 x10
       clear hf0 hf1 hf2 hf3
       obtain ⟨c0, c1, c2, c3, c4, c5, c6, c7, c8, c9, c10⟩ := all11 HF.out
       refine bodyPost_ret (v := .agg #[.string ⟨#[]⟩, .string ⟨#[]⟩, .int .i64 0, .bool false, .int .i64 0, .string ⟨#[]⟩, .slice none 0 0, .slice none 0 0, .slice none 0 0, .int .i64 (p2 : Int), .int .i64 c]) (by simp [results, Tryz.results29, go_sem, c0, c1, c2, c3, c4, c5, c6, c7, c8, c9, c10]) rfl ?_
       rw [HRE.out]
       exact ⟨by unfold wcs; rfl, HC.out, by rw [HG.out]; exact HFB.out⟩
      | tok tk =>
       have HKY := hid (show prt s f2 (.mk getB tk.text Rd.nulT [e]) tk.fin = R by rw [HCD.out, HKQ.out])
       have hfi := HFI.out tk rfl
       have hzl : tk.fin ≤ s.size := hfi.2
       have hzp : p < tk.fin := by omega
       clear hfi
       unfold Ans.val at HNX
       dsimp only at HNX
       go_wp2_with fail
       refine (HMD.out _).mono ?_
       rintro e8 w4 ⟨rfl, rfl⟩
       go_wp2_with fail
       refine (HWD.out _).mono ?_
       rintro e8 w4 ⟨rfl, rfl⟩
       go_wp2_with fail
       refine (HBB.out _).mono ?_
       rintro e8 w4 ⟨rfl, rfl⟩
       go_wp2_with fail
       clear a9 a10
       refine (HNX.out _).mono ?_
       rintro e8 w3 ⟨rfl, hb3⟩
       have hb3s := hb3.size
       have KG3 := hid (HGG.out.onto hb3)
       have HB3 := hid (HBW.out.trans (hb3.mono (Nat.le_of_lt hGl)))
       have HX3 := hid (HX.out.onto hb3)
       have HE3 := hid (show EV w3 (fun q => G < q ∧ q < w3.heap.size ∧ q ≠ X) e ⟨hL, hl1, hL', hl2, hA1, hc1⟩ from (HEE.out.keep (fun q hq => hb3.block q hq.2.1)).wide (fun q hq => ⟨hq.1, Nat.lt_of_lt_of_le hq.2.1 hb3.size, hq.2.2⟩))
       clear hb3
       go_upto_region 9 with fail
       refine alloc_gn (fun W4 hA4 kT => ?_)
       have KG4 := hid (KG3.out.onto hA4)
       have HB4 := hid (HB3.out.trans (hA4.mono (by omega)))
       have HX4 := hid (HX3.out.onto hA4)
       have HE4 := hid (show EV W4 (fun q => G < q ∧ q < W4.heap.size ∧ q ≠ X) e ⟨hL, hl1, hL', hl2, hA1, hc1⟩ from (HE3.out.keep (fun q hq => hA4.block q hq.2.1)).wide (fun q hq => ⟨hq.1, Nat.lt_of_lt_of_le hq.2.1 hA4.size, hq.2.2⟩))
       have h4s := kT.lt
       have hXT : X < w3.heap.size := by omega
       generalize w3.heap.size = T at *
       have KT := hid kT
       clear hA4 kT
       go_upto_region 11 with fail
       refine wp_region_held_drew (S := fun w' => w'.cell? ⟨T, 1, none⟩ = some (.string tk.text) ∧ w'.cell? ⟨T, 4, none⟩ = some (.int .i64 (tk.fin : Int))) (by kernel_rfl) ?_ (fun hHeld => ?_)
       · exact ⟨KT.out.cell 1, KT.out.cell 4⟩
       refine wpAnyH_take (i := 0) (v := ?_) rfl (by kernel_rfl) (by kernel_rfl) (by kernel_rfl) (fun _ _ _ h => h) (Or.inl ⟨by rfl, ?_⟩) (by assumption) ?_
       rotate_left
       ·
        intro wq hSw
        try dsimp only at hSw
        go_simp
        try (with_reducible rfl)
       try simp only [Act.put, List.getElem_toArray, List.getElem_cons_zero, List.setIfInBounds_toArray, List.set_cons_zero, List.set_cons_succ]
       refine wpAnyH_take (i := 1) (v := ?_) rfl (by kernel_rfl) (by kernel_rfl) (by kernel_rfl) (fun _ _ _ h => h) (Or.inl ⟨by rfl, ?_⟩) (by assumption) ?_
       rotate_left
       ·
        intro wq hSw
        try dsimp only at hSw
        go_simp
        try (with_reducible rfl)
       try simp only [Act.put, sqa, sqb, sqc, sqd, sqe, sqf]
       refine wpAnyH_take (i := 2) (v := ?_) rfl (by kernel_rfl) (by kernel_rfl) (by kernel_rfl) (fun _ _ _ h => h) (Or.inl ⟨by rfl, ?_⟩) (by assumption) ?_
       rotate_left
       ·
        intro wq hSw
        try dsimp only at hSw
        go_simp
        try (with_reducible rfl)
       try simp only [Act.put, sqa, sqb, sqc, sqd, sqe, sqf]
       refine wpAnyH_take (i := 3) (v := ?_) rfl (by kernel_rfl) (by kernel_rfl) (by kernel_rfl) (fun _ _ _ h => h) (Or.inl ⟨by rfl, ?_⟩) (by assumption) ?_
       rotate_left
       ·
        intro wq hSw
        try dsimp only at hSw
        go_simp
        try (with_reducible rfl)
       try simp only [Act.put, sqa, sqb, sqc, sqd, sqe, sqf]
       refine wpAnyH_take (i := 4) (v := ?_) rfl (by kernel_rfl) (by kernel_rfl) (by kernel_rfl) (fun _ _ _ h => h) (Or.inl ⟨by rfl, ?_⟩) (by assumption) ?_
       rotate_left
       ·
        intro wq hSw
        try dsimp only at hSw
        go_simp
        try (with_reducible rfl)
       try simp only [Act.put, sqa, sqb, sqc, sqd, sqe, sqf]
       refine wpAnyH_take (i := 5) (v := ?_) rfl (by kernel_rfl) (by kernel_rfl) (by kernel_rfl) (fun _ _ _ h => h) (Or.inl ⟨by rfl, ?_⟩) (by assumption) ?_
       rotate_left
       ·
        intro wq hSw
        try dsimp only at hSw
        go_simp
        try (with_reducible rfl)
       try simp only [Act.put, sqa, sqb, sqc, sqd, sqe, sqf]
       refine wpAnyH_done (by kernel_rfl) ?_ _
       have hD : Below W4.heap.size W4 W4.drew := (Below.refl _ _).drew
       have KGv := hid (KG4.out.onto hD)
       have HBv := hid (HB4.out.trans (hD.mono (by omega)))
       have HXv := hid (HX4.out.onto hD)
       have HEv := hid (show EV W4.drew (fun q => G < q ∧ q < W4.drew.heap.size ∧ q ≠ X) e ⟨hL, hl1, hL', hl2, hA1, hc1⟩ from HE4.out.keep (fun q hq => hD.block q hq.2.1))
       have hV : X < W4.drew.heap.size := Nat.lt_trans hXT h4s
       generalize W4.drew = V at *
       clear hD
       have kX := HXv.out
       unfold acs at kX
       dsimp only at kX
       have a0 := kX.cell 0
       have a1 := kX.cell 1
       have a2 := kX.cell 2
       have a3 := kX.cell 3
       have a4 := kX.cell 4
       have a5 := kX.cell 5
       have a6 := kX.cell 6
       have a7 := kX.cell 7
       have a8 := kX.cell 8
       have a9 := kX.cell 9
       have a10 := kX.cell 10
       clear kX
       go_upto_region 15 with fail
       refine alloc_gn (fun W7 hA7 kX7 => ?_)
       clear a0 a1 a2 a3 a4 a5 a6 a7 a8 a9 a10
       have KG7 := hid (KGv.out.onto hA7)
       have HB7 := hid (HBv.out.trans (hA7.mono (by omega)))
       have HX7 := hid (HXv.out.onto hA7)
       have h7s := kX7.lt
       have HE7 := hid (show EV W7 (fun q => G < q ∧ q < W7.heap.size ∧ q ≠ X) e ⟨hL, hl1, hL', hl2, hA1, hc1⟩ from (HEv.out.keep (fun q hq => hA7.block q hq.2.1)).wide (fun q hq => ⟨hq.1, Nat.lt_of_lt_of_le hq.2.1 hA7.size, hq.2.2⟩))
       have HFB7 := hid kX7
       have hXF : X < V.heap.size := hV
       generalize V.heap.size = F at *
       clear hA7 kX7
       have kF := HFB7.out
       have d0 := kF.cell 0
       have d1 := kF.cell 1
       have d2 := kF.cell 2
       have d3 := kF.cell 3
       have d4 := kF.cell 4
       have d5 := kF.cell 5
       have d6 := kF.cell 6
       have d7 := kF.cell 7
       have d8 := kF.cell 8
       have hXW : X < W7.heap.size := by omega
       have hFW : F < W7.heap.size := by omega
       obtain ⟨y0, y1, y2, y3, y4, y5, y6, y7, y8, y9, y10, z0, z1, z2, z3, z4, z5, z6, z7, z8, z9, z10, x0, x1, x2, x3, x4, x5, x6, x7, x8, x9, x10⟩ := old11 HX7.out
       clear kF
       have hsz : (((((((((((W7.setCell ⟨X, 0, none⟩ (.string ⟨#[103, 101, 116]⟩)).setCell ⟨X, 1, none⟩ (.string tk.text)).setCell ⟨X, 2, none⟩ (.int .i64 0)).setCell ⟨X, 3, none⟩ (.bool false)).setCell ⟨X, 4, none⟩ (.int .i64 0)).setCell ⟨X, 5, none⟩ (.string ⟨#[]⟩)).setCell ⟨X, 6, none⟩ (.slice none 0 0)).setCell ⟨X, 7, none⟩ (.slice none 0 0)).setCell ⟨X, 8, none⟩ (.slice (some ⟨W7.heap.size, 0, none⟩) 1 1)).setCell ⟨X, 9, none⟩ (.int .i64 (tk.fin : Int))).setCell ⟨X, 10, none⟩ (.int .i64 0)).heap.size = W7.heap.size := by simp only [World.size_setCell]
       have hA8 : Below (((((((((((W7.setCell ⟨X, 0, none⟩ (.string ⟨#[103, 101, 116]⟩)).setCell ⟨X, 1, none⟩ (.string tk.text)).setCell ⟨X, 2, none⟩ (.int .i64 0)).setCell ⟨X, 3, none⟩ (.bool false)).setCell ⟨X, 4, none⟩ (.int .i64 0)).setCell ⟨X, 5, none⟩ (.string ⟨#[]⟩)).setCell ⟨X, 6, none⟩ (.slice none 0 0)).setCell ⟨X, 7, none⟩ (.slice none 0 0)).setCell ⟨X, 8, none⟩ (.slice (some ⟨W7.heap.size, 0, none⟩) 1 1)).setCell ⟨X, 9, none⟩ (.int .i64 (tk.fin : Int))).setCell ⟨X, 10, none⟩ (.int .i64 0)).heap.size (((((((((((W7.setCell ⟨X, 0, none⟩ (.string ⟨#[103, 101, 116]⟩)).setCell ⟨X, 1, none⟩ (.string tk.text)).setCell ⟨X, 2, none⟩ (.int .i64 0)).setCell ⟨X, 3, none⟩ (.bool false)).setCell ⟨X, 4, none⟩ (.int .i64 0)).setCell ⟨X, 5, none⟩ (.string ⟨#[]⟩)).setCell ⟨X, 6, none⟩ (.slice none 0 0)).setCell ⟨X, 7, none⟩ (.slice none 0 0)).setCell ⟨X, 8, none⟩ (.slice (some ⟨W7.heap.size, 0, none⟩) 1 1)).setCell ⟨X, 9, none⟩ (.int .i64 (tk.fin : Int))).setCell ⟨X, 10, none⟩ (.int .i64 0)) ((((((((((((W7.setCell ⟨X, 0, none⟩ (.string ⟨#[103, 101, 116]⟩)).setCell ⟨X, 1, none⟩ (.string tk.text)).setCell ⟨X, 2, none⟩ (.int .i64 0)).setCell ⟨X, 3, none⟩ (.bool false)).setCell ⟨X, 4, none⟩ (.int .i64 0)).setCell ⟨X, 5, none⟩ (.string ⟨#[]⟩)).setCell ⟨X, 6, none⟩ (.slice none 0 0)).setCell ⟨X, 7, none⟩ (.slice none 0 0)).setCell ⟨X, 8, none⟩ (.slice (some ⟨W7.heap.size, 0, none⟩) 1 1)).setCell ⟨X, 9, none⟩ (.int .i64 (tk.fin : Int))).setCell ⟨X, 10, none⟩ (.int .i64 0)).alloc (.cells #[.string e.op, .string e.name, .int .i64 e.lit.kind, .bool e.lit.tr, .int .i64 e.lit.num, .string e.lit.str, .slice hL e.lit.items.length hl1, .slice hL' e.lit.keys.length hl2, .slice hA1 e.args.length hc1] 30)) := (Below.refl _ _).alloc (Nat.le_refl _) _
       have kR : Blk ((((((((((((W7.setCell ⟨X, 0, none⟩ (.string ⟨#[103, 101, 116]⟩)).setCell ⟨X, 1, none⟩ (.string tk.text)).setCell ⟨X, 2, none⟩ (.int .i64 0)).setCell ⟨X, 3, none⟩ (.bool false)).setCell ⟨X, 4, none⟩ (.int .i64 0)).setCell ⟨X, 5, none⟩ (.string ⟨#[]⟩)).setCell ⟨X, 6, none⟩ (.slice none 0 0)).setCell ⟨X, 7, none⟩ (.slice none 0 0)).setCell ⟨X, 8, none⟩ (.slice (some ⟨W7.heap.size, 0, none⟩) 1 1)).setCell ⟨X, 9, none⟩ (.int .i64 (tk.fin : Int))).setCell ⟨X, 10, none⟩ (.int .i64 0)).alloc (.cells #[.string e.op, .string e.name, .int .i64 e.lit.kind, .bool e.lit.tr, .int .i64 e.lit.num, .string e.lit.str, .slice hL e.lit.items.length hl1, .slice hL' e.lit.keys.length hl2, .slice hA1 e.args.length hc1] 30)) W7.heap.size 30 #[.string e.op, .string e.name, .int .i64 e.lit.kind, .bool e.lit.tr, .int .i64 e.lit.num, .string e.lit.str, .slice hL e.lit.items.length hl1, .slice hL' e.lit.keys.length hl2, .slice hA1 e.args.length hc1] := blk_new_at hsz _ _
       have hrl := kR.lt
       have HX80 : Blk (((((((((((W7.setCell ⟨X, 0, none⟩ (.string ⟨#[103, 101, 116]⟩)).setCell ⟨X, 1, none⟩ (.string tk.text)).setCell ⟨X, 2, none⟩ (.int .i64 0)).setCell ⟨X, 3, none⟩ (.bool false)).setCell ⟨X, 4, none⟩ (.int .i64 0)).setCell ⟨X, 5, none⟩ (.string ⟨#[]⟩)).setCell ⟨X, 6, none⟩ (.slice none 0 0)).setCell ⟨X, 7, none⟩ (.slice none 0 0)).setCell ⟨X, 8, none⟩ (.slice (some ⟨W7.heap.size, 0, none⟩) 1 1)).setCell ⟨X, 9, none⟩ (.int .i64 (tk.fin : Int))).setCell ⟨X, 10, none⟩ (.int .i64 0)) X 62 #[.string ⟨#[103, 101, 116]⟩, .string tk.text, .int .i64 0, .bool false, .int .i64 0, .string ⟨#[]⟩, .slice none 0 0, .slice none 0 0, .slice (some ⟨W7.heap.size, 0, none⟩) 1 1, .int .i64 (tk.fin : Int), .int .i64 0] := put11_blk HX7.out rfl _ _ _ _ _ _ _ _ _ _ _
       have HX8 : Blk ((((((((((((W7.setCell ⟨X, 0, none⟩ (.string ⟨#[103, 101, 116]⟩)).setCell ⟨X, 1, none⟩ (.string tk.text)).setCell ⟨X, 2, none⟩ (.int .i64 0)).setCell ⟨X, 3, none⟩ (.bool false)).setCell ⟨X, 4, none⟩ (.int .i64 0)).setCell ⟨X, 5, none⟩ (.string ⟨#[]⟩)).setCell ⟨X, 6, none⟩ (.slice none 0 0)).setCell ⟨X, 7, none⟩ (.slice none 0 0)).setCell ⟨X, 8, none⟩ (.slice (some ⟨W7.heap.size, 0, none⟩) 1 1)).setCell ⟨X, 9, none⟩ (.int .i64 (tk.fin : Int))).setCell ⟨X, 10, none⟩ (.int .i64 0)).alloc (.cells #[.string e.op, .string e.name, .int .i64 e.lit.kind, .bool e.lit.tr, .int .i64 e.lit.num, .string e.lit.str, .slice hL e.lit.items.length hl1, .slice hL' e.lit.keys.length hl2, .slice hA1 e.args.length hc1] 30)) X 62 (acs (.mk getB tk.text Rd.nulT [e]) ⟨none, 0, none, 0, some ⟨W7.heap.size, 0, none⟩, 1⟩ tk.fin) := HX80.onto hA8
       have HREL := hid (show LevI s w G X R (fun f' e p => prt s f' e p) f ((((((((((((W7.setCell ⟨X, 0, none⟩ (.string ⟨#[103, 101, 116]⟩)).setCell ⟨X, 1, none⟩ (.string tk.text)).setCell ⟨X, 2, none⟩ (.int .i64 0)).setCell ⟨X, 3, none⟩ (.bool false)).setCell ⟨X, 4, none⟩ (.int .i64 0)).setCell ⟨X, 5, none⟩ (.string ⟨#[]⟩)).setCell ⟨X, 6, none⟩ (.slice none 0 0)).setCell ⟨X, 7, none⟩ (.slice none 0 0)).setCell ⟨X, 8, none⟩ (.slice (some ⟨W7.heap.size, 0, none⟩) 1 1)).setCell ⟨X, 9, none⟩ (.int .i64 (tk.fin : Int))).setCell ⟨X, 10, none⟩ (.int .i64 0)).alloc (.cells #[.string e.op, .string e.name, .int .i64 e.lit.kind, .bool e.lit.tr, .int .i64 e.lit.num, .string e.lit.str, .slice hL e.lit.items.length hl1, .slice hL' e.lit.keys.length hl2, .slice hA1 e.args.length hc1] 30)) from ⟨f2, (.mk getB tk.text Rd.nulT [e]), tk.fin, ⟨none, 0, none, 0, some ⟨W7.heap.size, 0, none⟩, 1⟩, by omega, HX8,
        EV.one (o := getB) (n := tk.text) ⟨by omega, hrl, by omega⟩ (kR.nine8 (fun i hi => by rw [Nat.zero_add]; rfl)) (((HE7.out.keep (fun q hq => put11_heap hq.2.2 (.string ⟨#[103, 101, 116]⟩) (.string tk.text) (.int .i64 0) (.bool false) (.int .i64 0) (.string ⟨#[]⟩) (.slice none 0 0) (.slice none 0 0) (.slice (some ⟨W7.heap.size, 0, none⟩) 1 1) (.int .i64 (tk.fin : Int)) (.int .i64 0))).keep (fun q hq => hA8.block q (Nat.lt_of_lt_of_eq hq.2.1 hsz.symm))).wide (fun q hq => ⟨hq.1, Nat.lt_of_lt_of_le (Nat.lt_of_lt_of_eq hq.2.1 hsz.symm) hA8.size, hq.2.2⟩)) (Nat.le_refl 1),
        hzl, HKY.out, ((show Blk (((((((((((W7.setCell ⟨X, 0, none⟩ (.string ⟨#[103, 101, 116]⟩)).setCell ⟨X, 1, none⟩ (.string tk.text)).setCell ⟨X, 2, none⟩ (.int .i64 0)).setCell ⟨X, 3, none⟩ (.bool false)).setCell ⟨X, 4, none⟩ (.int .i64 0)).setCell ⟨X, 5, none⟩ (.string ⟨#[]⟩)).setCell ⟨X, 6, none⟩ (.slice none 0 0)).setCell ⟨X, 7, none⟩ (.slice none 0 0)).setCell ⟨X, 8, none⟩ (.slice (some ⟨W7.heap.size, 0, none⟩) 1 1)).setCell ⟨X, 9, none⟩ (.int .i64 (tk.fin : Int))).setCell ⟨X, 10, none⟩ (.int .i64 0)) G 62 nul11 from (put11_heap (by omega) (.string ⟨#[103, 101, 116]⟩) (.string tk.text) (.int .i64 0) (.bool false) (.int .i64 0) (.string ⟨#[]⟩) (.slice none 0 0) (.slice none 0 0) (.slice (some ⟨W7.heap.size, 0, none⟩) 1 1) (.int .i64 (tk.fin : Int)) (.int .i64 0)).trans KG7.out)).onto hA8, (put11_below HB7.out (Nat.le_of_lt hXG) (.string ⟨#[103, 101, 116]⟩) (.string tk.text) (.int .i64 0) (.bool false) (.int .i64 0) (.string ⟨#[]⟩) (.slice none 0 0) (.slice none 0 0) (.slice (some ⟨W7.heap.size, 0, none⟩) 1 1) (.int .i64 (tk.fin : Int)) (.int .i64 0)).trans (hA8.mono (Nat.le_trans (show G ≤ W7.heap.size by omega) (Nat.le_of_eq hsz.symm)))⟩)
       have HME := hid (atR_of HX8)
       clear hsz hA8 kR hrl HX80 HX8
       go_wp2_with fail
       go_roundw
       case rel => exact HREL.out
       case measure => rw [HME.out, HAT.out]; omega
     ·
      have HK3 := hid (show key s e d = (if isLt (bt s (bl s d)) = true then .ok (.mk getB (wd s d) Rd.nulT [e]) (wE s (bl s d)) else .err (bl s d) 1) from by unfold key; rw [if_neg h34])
      cases hlt : isLt (bt s (bl s d)) with
      | true =>
       have HKY := hid (show prt s f2 (.mk getB (wd s d) Rd.nulT [e]) (wE s (bl s d)) = R by rw [HCD.out, HK3.out, hlt]; rfl)
       have hwt : wordT s d = wd s d := if_pos hlt
       have hwp : wordP s d = wE s (bl s d) := if_pos hlt
       rw [hwt, hwp] at HWD
       have hl2 := lt_lt hlt
       have hz1 := wE_pos hlt
       have hzl : wE s (bl s d) ≤ s.size := wE_le (Nat.le_of_lt hl2)
       have hws := wd_size (s := s) (i := d) hdl
       have e1 : ((wd s d).toList == []) = false := by
        rw [ByteArray.toList_eq, beq_eq_false_iff_ne]
        intro h
        have : (wd s d).size = 0 := by rw [← size_toList, h]; rfl
        omega
       have e2 : (wd s d).toList.isEmpty = false := by
        cases hd : (wd s d).toList with
        | nil => rw [hd] at e1; cases e1
        | cons a b => rfl
       clear hwt hwp hl2 hws h34 hlt HK3 HCD
       generalize wd s d = u at *
       generalize wE s (bl s d) = z at *
       generalize bl s d = q at *
       have hV := hXl
       have KGr := HGG
       have HXr := HX
       have HEr := HEE
       have HBr := HBW
       clear a0 a1 a2 a3 a4 a5 a6 a7 a8
       go_wp2_with fail
       refine (HMD.out _).mono ?_
       rintro e8 w4 ⟨rfl, rfl⟩
       go_wp2_with fail
       refine (HWD.out _).mono ?_
       rintro e8 w4 ⟨rfl, rfl⟩
       go_wp2_with fail
       refine (HBB.out _).mono ?_
       rintro e8 w4 ⟨rfl, rfl⟩
       clear a9 a10
       have kX := HXr.out
       unfold acs at kX
       dsimp only at kX
       have a0 := kX.cell 0
       have a1 := kX.cell 1
       have a2 := kX.cell 2
       have a3 := kX.cell 3
       have a4 := kX.cell 4
       have a5 := kX.cell 5
       have a6 := kX.cell 6
       have a7 := kX.cell 7
       have a8 := kX.cell 8
       have a9 := kX.cell 9
       have a10 := kX.cell 10
       clear kX
       go_upto_region 15 with fail
       refine alloc_gn (fun W7 hA7 kX7 => ?_)
       clear a0 a1 a2 a3 a4 a5 a6 a7 a8 a9 a10
       have KG7 := hid (KGr.out.onto hA7)
       have HB7 := hid (HBr.out.trans (hA7.mono (by omega)))
       have HX7 := hid (HXr.out.onto hA7)
       have h7s := kX7.lt
       have HE7 := hid (show EV W7 (fun q => G < q ∧ q < W7.heap.size ∧ q ≠ X) e ⟨hL, hl1, hL', hl2, hA1, hc1⟩ from (HEr.out.keep (fun q hq => hA7.block q hq.2.1)).wide (fun q hq => ⟨hq.1, Nat.lt_of_lt_of_le hq.2.1 hA7.size, hq.2.2⟩))
       have HFB7 := hid kX7
       have hXF : X < wr.heap.size := hV
       generalize wr.heap.size = F at *
       clear hA7 kX7
       have kF := HFB7.out
       have d0 := kF.cell 0
       have d1 := kF.cell 1
       have d2 := kF.cell 2
       have d3 := kF.cell 3
       have d4 := kF.cell 4
       have d5 := kF.cell 5
       have d6 := kF.cell 6
       have d7 := kF.cell 7
       have d8 := kF.cell 8
       have hXW : X < W7.heap.size := by omega
       have hFW : F < W7.heap.size := by omega
       obtain ⟨y0, y1, y2, y3, y4, y5, y6, y7, y8, y9, y10, z0, z1, z2, z3, z4, z5, z6, z7, z8, z9, z10, x0, x1, x2, x3, x4, x5, x6, x7, x8, x9, x10⟩ := old11 HX7.out
       clear kF
       have hsz : (((((((((((W7.setCell ⟨X, 0, none⟩ (.string ⟨#[103, 101, 116]⟩)).setCell ⟨X, 1, none⟩ (.string u)).setCell ⟨X, 2, none⟩ (.int .i64 0)).setCell ⟨X, 3, none⟩ (.bool false)).setCell ⟨X, 4, none⟩ (.int .i64 0)).setCell ⟨X, 5, none⟩ (.string ⟨#[]⟩)).setCell ⟨X, 6, none⟩ (.slice none 0 0)).setCell ⟨X, 7, none⟩ (.slice none 0 0)).setCell ⟨X, 8, none⟩ (.slice (some ⟨W7.heap.size, 0, none⟩) 1 1)).setCell ⟨X, 9, none⟩ (.int .i64 (z : Int))).setCell ⟨X, 10, none⟩ (.int .i64 0)).heap.size = W7.heap.size := by simp only [World.size_setCell]
       have hA8 : Below (((((((((((W7.setCell ⟨X, 0, none⟩ (.string ⟨#[103, 101, 116]⟩)).setCell ⟨X, 1, none⟩ (.string u)).setCell ⟨X, 2, none⟩ (.int .i64 0)).setCell ⟨X, 3, none⟩ (.bool false)).setCell ⟨X, 4, none⟩ (.int .i64 0)).setCell ⟨X, 5, none⟩ (.string ⟨#[]⟩)).setCell ⟨X, 6, none⟩ (.slice none 0 0)).setCell ⟨X, 7, none⟩ (.slice none 0 0)).setCell ⟨X, 8, none⟩ (.slice (some ⟨W7.heap.size, 0, none⟩) 1 1)).setCell ⟨X, 9, none⟩ (.int .i64 (z : Int))).setCell ⟨X, 10, none⟩ (.int .i64 0)).heap.size (((((((((((W7.setCell ⟨X, 0, none⟩ (.string ⟨#[103, 101, 116]⟩)).setCell ⟨X, 1, none⟩ (.string u)).setCell ⟨X, 2, none⟩ (.int .i64 0)).setCell ⟨X, 3, none⟩ (.bool false)).setCell ⟨X, 4, none⟩ (.int .i64 0)).setCell ⟨X, 5, none⟩ (.string ⟨#[]⟩)).setCell ⟨X, 6, none⟩ (.slice none 0 0)).setCell ⟨X, 7, none⟩ (.slice none 0 0)).setCell ⟨X, 8, none⟩ (.slice (some ⟨W7.heap.size, 0, none⟩) 1 1)).setCell ⟨X, 9, none⟩ (.int .i64 (z : Int))).setCell ⟨X, 10, none⟩ (.int .i64 0)) ((((((((((((W7.setCell ⟨X, 0, none⟩ (.string ⟨#[103, 101, 116]⟩)).setCell ⟨X, 1, none⟩ (.string u)).setCell ⟨X, 2, none⟩ (.int .i64 0)).setCell ⟨X, 3, none⟩ (.bool false)).setCell ⟨X, 4, none⟩ (.int .i64 0)).setCell ⟨X, 5, none⟩ (.string ⟨#[]⟩)).setCell ⟨X, 6, none⟩ (.slice none 0 0)).setCell ⟨X, 7, none⟩ (.slice none 0 0)).setCell ⟨X, 8, none⟩ (.slice (some ⟨W7.heap.size, 0, none⟩) 1 1)).setCell ⟨X, 9, none⟩ (.int .i64 (z : Int))).setCell ⟨X, 10, none⟩ (.int .i64 0)).alloc (.cells #[.string e.op, .string e.name, .int .i64 e.lit.kind, .bool e.lit.tr, .int .i64 e.lit.num, .string e.lit.str, .slice hL e.lit.items.length hl1, .slice hL' e.lit.keys.length hl2, .slice hA1 e.args.length hc1] 30)) := (Below.refl _ _).alloc (Nat.le_refl _) _
       have kR : Blk ((((((((((((W7.setCell ⟨X, 0, none⟩ (.string ⟨#[103, 101, 116]⟩)).setCell ⟨X, 1, none⟩ (.string u)).setCell ⟨X, 2, none⟩ (.int .i64 0)).setCell ⟨X, 3, none⟩ (.bool false)).setCell ⟨X, 4, none⟩ (.int .i64 0)).setCell ⟨X, 5, none⟩ (.string ⟨#[]⟩)).setCell ⟨X, 6, none⟩ (.slice none 0 0)).setCell ⟨X, 7, none⟩ (.slice none 0 0)).setCell ⟨X, 8, none⟩ (.slice (some ⟨W7.heap.size, 0, none⟩) 1 1)).setCell ⟨X, 9, none⟩ (.int .i64 (z : Int))).setCell ⟨X, 10, none⟩ (.int .i64 0)).alloc (.cells #[.string e.op, .string e.name, .int .i64 e.lit.kind, .bool e.lit.tr, .int .i64 e.lit.num, .string e.lit.str, .slice hL e.lit.items.length hl1, .slice hL' e.lit.keys.length hl2, .slice hA1 e.args.length hc1] 30)) W7.heap.size 30 #[.string e.op, .string e.name, .int .i64 e.lit.kind, .bool e.lit.tr, .int .i64 e.lit.num, .string e.lit.str, .slice hL e.lit.items.length hl1, .slice hL' e.lit.keys.length hl2, .slice hA1 e.args.length hc1] := blk_new_at hsz _ _
       have hrl := kR.lt
       have HX80 : Blk (((((((((((W7.setCell ⟨X, 0, none⟩ (.string ⟨#[103, 101, 116]⟩)).setCell ⟨X, 1, none⟩ (.string u)).setCell ⟨X, 2, none⟩ (.int .i64 0)).setCell ⟨X, 3, none⟩ (.bool false)).setCell ⟨X, 4, none⟩ (.int .i64 0)).setCell ⟨X, 5, none⟩ (.string ⟨#[]⟩)).setCell ⟨X, 6, none⟩ (.slice none 0 0)).setCell ⟨X, 7, none⟩ (.slice none 0 0)).setCell ⟨X, 8, none⟩ (.slice (some ⟨W7.heap.size, 0, none⟩) 1 1)).setCell ⟨X, 9, none⟩ (.int .i64 (z : Int))).setCell ⟨X, 10, none⟩ (.int .i64 0)) X 62 #[.string ⟨#[103, 101, 116]⟩, .string u, .int .i64 0, .bool false, .int .i64 0, .string ⟨#[]⟩, .slice none 0 0, .slice none 0 0, .slice (some ⟨W7.heap.size, 0, none⟩) 1 1, .int .i64 (z : Int), .int .i64 0] := put11_blk HX7.out rfl _ _ _ _ _ _ _ _ _ _ _
       have HX8 : Blk ((((((((((((W7.setCell ⟨X, 0, none⟩ (.string ⟨#[103, 101, 116]⟩)).setCell ⟨X, 1, none⟩ (.string u)).setCell ⟨X, 2, none⟩ (.int .i64 0)).setCell ⟨X, 3, none⟩ (.bool false)).setCell ⟨X, 4, none⟩ (.int .i64 0)).setCell ⟨X, 5, none⟩ (.string ⟨#[]⟩)).setCell ⟨X, 6, none⟩ (.slice none 0 0)).setCell ⟨X, 7, none⟩ (.slice none 0 0)).setCell ⟨X, 8, none⟩ (.slice (some ⟨W7.heap.size, 0, none⟩) 1 1)).setCell ⟨X, 9, none⟩ (.int .i64 (z : Int))).setCell ⟨X, 10, none⟩ (.int .i64 0)).alloc (.cells #[.string e.op, .string e.name, .int .i64 e.lit.kind, .bool e.lit.tr, .int .i64 e.lit.num, .string e.lit.str, .slice hL e.lit.items.length hl1, .slice hL' e.lit.keys.length hl2, .slice hA1 e.args.length hc1] 30)) X 62 (acs (.mk getB u Rd.nulT [e]) ⟨none, 0, none, 0, some ⟨W7.heap.size, 0, none⟩, 1⟩ z) := HX80.onto hA8
       have HREL := hid (show LevI s w G X R (fun f' e p => prt s f' e p) f ((((((((((((W7.setCell ⟨X, 0, none⟩ (.string ⟨#[103, 101, 116]⟩)).setCell ⟨X, 1, none⟩ (.string u)).setCell ⟨X, 2, none⟩ (.int .i64 0)).setCell ⟨X, 3, none⟩ (.bool false)).setCell ⟨X, 4, none⟩ (.int .i64 0)).setCell ⟨X, 5, none⟩ (.string ⟨#[]⟩)).setCell ⟨X, 6, none⟩ (.slice none 0 0)).setCell ⟨X, 7, none⟩ (.slice none 0 0)).setCell ⟨X, 8, none⟩ (.slice (some ⟨W7.heap.size, 0, none⟩) 1 1)).setCell ⟨X, 9, none⟩ (.int .i64 (z : Int))).setCell ⟨X, 10, none⟩ (.int .i64 0)).alloc (.cells #[.string e.op, .string e.name, .int .i64 e.lit.kind, .bool e.lit.tr, .int .i64 e.lit.num, .string e.lit.str, .slice hL e.lit.items.length hl1, .slice hL' e.lit.keys.length hl2, .slice hA1 e.args.length hc1] 30)) from ⟨f2, (.mk getB u Rd.nulT [e]), z, ⟨none, 0, none, 0, some ⟨W7.heap.size, 0, none⟩, 1⟩, by omega, HX8,
        EV.one (o := getB) (n := u) ⟨by omega, hrl, by omega⟩ (kR.nine8 (fun i hi => by rw [Nat.zero_add]; rfl)) (((HE7.out.keep (fun q hq => put11_heap hq.2.2 (.string ⟨#[103, 101, 116]⟩) (.string u) (.int .i64 0) (.bool false) (.int .i64 0) (.string ⟨#[]⟩) (.slice none 0 0) (.slice none 0 0) (.slice (some ⟨W7.heap.size, 0, none⟩) 1 1) (.int .i64 (z : Int)) (.int .i64 0))).keep (fun q hq => hA8.block q (Nat.lt_of_lt_of_eq hq.2.1 hsz.symm))).wide (fun q hq => ⟨hq.1, Nat.lt_of_lt_of_le (Nat.lt_of_lt_of_eq hq.2.1 hsz.symm) hA8.size, hq.2.2⟩)) (Nat.le_refl 1),
        hzl, HKY.out, ((show Blk (((((((((((W7.setCell ⟨X, 0, none⟩ (.string ⟨#[103, 101, 116]⟩)).setCell ⟨X, 1, none⟩ (.string u)).setCell ⟨X, 2, none⟩ (.int .i64 0)).setCell ⟨X, 3, none⟩ (.bool false)).setCell ⟨X, 4, none⟩ (.int .i64 0)).setCell ⟨X, 5, none⟩ (.string ⟨#[]⟩)).setCell ⟨X, 6, none⟩ (.slice none 0 0)).setCell ⟨X, 7, none⟩ (.slice none 0 0)).setCell ⟨X, 8, none⟩ (.slice (some ⟨W7.heap.size, 0, none⟩) 1 1)).setCell ⟨X, 9, none⟩ (.int .i64 (z : Int))).setCell ⟨X, 10, none⟩ (.int .i64 0)) G 62 nul11 from (put11_heap (by omega) (.string ⟨#[103, 101, 116]⟩) (.string u) (.int .i64 0) (.bool false) (.int .i64 0) (.string ⟨#[]⟩) (.slice none 0 0) (.slice none 0 0) (.slice (some ⟨W7.heap.size, 0, none⟩) 1 1) (.int .i64 (z : Int)) (.int .i64 0)).trans KG7.out)).onto hA8, (put11_below HB7.out (Nat.le_of_lt hXG) (.string ⟨#[103, 101, 116]⟩) (.string u) (.int .i64 0) (.bool false) (.int .i64 0) (.string ⟨#[]⟩) (.slice none 0 0) (.slice none 0 0) (.slice (some ⟨W7.heap.size, 0, none⟩) 1 1) (.int .i64 (z : Int)) (.int .i64 0)).trans (hA8.mono (Nat.le_trans (show G ≤ W7.heap.size by omega) (Nat.le_of_eq hsz.symm)))⟩)
       have HME := hid (atR_of HX8)
       clear hsz hA8 kR hrl HX80 HX8
       go_wp2_with fail
       go_roundw
       case rel => exact HREL.out
       case measure => rw [HME.out, HAT.out]; omega
      | false =>
       have HRE := hid (show R = .err (bl s d) 1 by rw [HCD.out, HK3.out, hlt]; rfl)
       have hwt : wordT s d = nix := if_neg (by rw [hlt]; decide)
       have hwp : wordP s d = d := if_neg (by rw [hlt]; decide)
       rw [hwt, hwp] at HWD
       unfold nix at HWD
       clear hwt hwp hlt HK3 HCD a0 a1 a2 a3 a4 a5 a6 a7 a8
       by_cases hql : bl s d < s.size
       ·
        have hb0 := bt_at s (bl s d) hql
        have c34 : ((s[bl s d].toNat : Int) == 34) = false := by rw [beq_eq_false_iff_ne]; intro e; exact h34 (by omega)
        have c35 : decide ((s[bl s d].toNat : Int) = 34) = false := decide_eq_false (by intro e; exact h34 (by omega))
        clear hb0 h34
        generalize bl s d = q at *
        have i1 : (0 : Int) ≤ (q : Int) := by omega
        have i2 : (q : Int) < (s.size : Int) := by omega
        have u1 : decide ((q : Int) < (s.size : Int)) = true := decide_eq_true i2
        go_wp2_with fail
        refine (HMD.out _).mono ?_
        rintro e8 w4 ⟨rfl, rfl⟩
        go_wp2_with fail
        refine (HWD.out _).mono ?_
        rintro e8 w4 ⟨rfl, rfl⟩
        go_wp2_with fail
        refine (HBB.out _).mono ?_
        rintro e8 w4 ⟨rfl, rfl⟩
        go_wp2_with fail
        refine (r8wrong_any _ _ _).mono ?_
        rintro e8 w4 ⟨rfl, hb4⟩
        have KG4 := hid (HGG.out.onto hb4)
        have HB4 := hid (HBW.out.trans (hb4.mono (Nat.le_of_lt hGl)))
        clear hb4 a9 a10
        obtain ⟨y0, y1, y2, y3, y4, y5, y6, y7, y8, y9, y10, z0, z1, z2, z3, z4, z5, z6, z7, z8, z9, z10, x0, x1, x2, x3, x4, x5, x6, x7, x8, x9, x10⟩ := old11 KG4.out
        go_wp2_with fail
        refine put11_gen KG4.out _ _ _ _ _ _ _ _ _ _ _ (fun WF hf0 hf1 hf2 hf3 => ?_)
        have HF := hid hf0
        have HFB := hid ((hf1 _ _ HB4.out (Nat.le_refl G)))
        clear z0 x0 z1 x1 z2 x2 z3 x3 z4 x4 z5 x5 z6 x6 z7 x7 z8 x8 z9 x9 z10 x10
        clear hf0 hf1 hf2 hf3
        obtain ⟨c0, c1, c2, c3, c4, c5, c6, c7, c8, c9, c10⟩ := all11 HF.out
        refine bodyPost_ret (v := .agg #[.string ⟨#[]⟩, .string ⟨#[]⟩, .int .i64 0, .bool false, .int .i64 0, .string ⟨#[]⟩, .slice none 0 0, .slice none 0 0, .slice none 0 0, .int .i64 (q : Int), .int .i64 1]) (by simp [results, Tryz.results29, go_sem, c0, c1, c2, c3, c4, c5, c6, c7, c8, c9, c10]) rfl ?_
        rw [HRE.out]
        exact ⟨by unfold wcs; rfl, by decide, by rw [HG.out]; exact HFB.out⟩
       ·
        generalize bl s d = q at *
        have u1 : decide ((q : Int) < (s.size : Int)) = false := decide_eq_false (by omega)
        clear h34
        go_wp2_with fail
        refine (HMD.out _).mono ?_
        rintro e8 w4 ⟨rfl, rfl⟩
        go_wp2_with fail
        refine (HWD.out _).mono ?_
        rintro e8 w4 ⟨rfl, rfl⟩
        go_wp2_with fail
        refine (HBB.out _).mono ?_
        rintro e8 w4 ⟨rfl, rfl⟩
        go_wp2_with fail
        refine (r8wrong_any _ _ _).mono ?_
        rintro e8 w4 ⟨rfl, hb4⟩
        have KG4 := hid (HGG.out.onto hb4)
        have HB4 := hid (HBW.out.trans (hb4.mono (Nat.le_of_lt hGl)))
        clear hb4 a9 a10
        obtain ⟨y0, y1, y2, y3, y4, y5, y6, y7, y8, y9, y10, z0, z1, z2, z3, z4, z5, z6, z7, z8, z9, z10, x0, x1, x2, x3, x4, x5, x6, x7, x8, x9, x10⟩ := old11 KG4.out
        go_wp2_with fail
        refine put11_gen KG4.out _ _ _ _ _ _ _ _ _ _ _ (fun WF hf0 hf1 hf2 hf3 => ?_)
        have HF := hid hf0
        have HFB := hid ((hf1 _ _ HB4.out (Nat.le_refl G)))
        clear z0 x0 z1 x1 z2 x2 z3 x3 z4 x4 z5 x5 z6 x6 z7 x7 z8 x8 z9 x9 z10 x10
        clear hf0 hf1 hf2 hf3
        obtain ⟨c0, c1, c2, c3, c4, c5, c6, c7, c8, c9, c10⟩ := all11 HF.out
        refine bodyPost_ret (v := .agg #[.string ⟨#[]⟩, .string ⟨#[]⟩, .int .i64 0, .bool false, .int .i64 0, .string ⟨#[]⟩, .slice none 0 0, .slice none 0 0, .slice none 0 0, .int .i64 (q : Int), .int .i64 1]) (by simp [results, Tryz.results29, go_sem, c0, c1, c2, c3, c4, c5, c6, c7, c8, c9, c10]) rfl ?_
        rw [HRE.out]
        exact ⟨by unfold wcs; rfl, by decide, by rw [HG.out]; exact HFB.out⟩
    | false =>
     have HCD := hid (HCC.out.trans (if_neg (by rw [hdot]; decide)))
     have hmk := mark_no (t := dotB) hple (by decide) (by decide) hdot
     rw [hmk] at HMD
     have HMO := hid (show ∀ w1, Calls Tryz.prog 28 #[.string s, .int .i64 (p : Int), .string ⟨#[91]⟩] w1 (fun e w' => e = .returned (.int .i64 (markP s p osqB)) ∧ w1 = w') from fun w1 => r8mark_any s p osqB w1 (by omega) hple (by decide))
     clear hmk hdot HCC
     cases hsq : stands s p osqB with
     | false =>
      have HRE := hid (HCD.out.trans (if_neg (by rw [hsq]; decide)))
      have hmo := mark_no (t := osqB) hple (by decide) (by decide) hsq
      rw [hmo] at HMO
      clear hmo hsq HCD
      go_wp2_with fail
      refine (HMD.out _).mono ?_
      rintro e8 w4 ⟨rfl, rfl⟩
      go_wp2_with fail
      refine (HMO.out _).mono ?_
      rintro e8 w4 ⟨rfl, rfl⟩
      obtain ⟨y0, y1, y2, y3, y4, y5, y6, y7, y8, y9, y10, z0, z1, z2, z3, z4, z5, z6, z7, z8, z9, z10, x0, x1, x2, x3, x4, x5, x6, x7, x8, x9, x10⟩ := old11 HGG.out
      go_wp2_with fail
      refine put11_gen HGG.out _ _ _ _ _ _ _ _ _ _ _ (fun WF hf0 hf1 hf2 hf3 => ?_)
      have HF := hid hf0
      have HFB := hid ((hf1 _ _ HBW.out (Nat.le_refl G)))
      have HEF := hid (show EV WF (fun z => G ≤ z ∧ z < WF.heap.size) e ⟨hL, hl1, hL', hl2, hA1, hc1⟩ from (HEE.out.keep (fun z hz => (hf2 _ (by have := hz.1; omega)))).wide (fun z hz => ⟨Nat.le_of_lt hz.1, by rw [hf3]; exact hz.2.1⟩))
      clear z0 x0 z1 x1 z2 x2 z3 x3 z4 x4 z5 x5 z6 x6 z7 x7 z8 x8 z9 x9 z10 x10
      clear hf0 hf1 hf2 hf3
      obtain ⟨c0, c1, c2, c3, c4, c5, c6, c7, c8, c9, c10⟩ := all11 HF.out
      refine bodyPost_ret (v := .agg #[.string e.op, .string e.name, .int .i64 e.lit.kind, .bool e.lit.tr, .int .i64 e.lit.num, .string e.lit.str, .slice hL e.lit.items.length hl1, .slice hL' e.lit.keys.length hl2, .slice hA1 e.args.length hc1, .int .i64 (p : Int), .int .i64 0]) (by simp [results, Tryz.results29, go_sem, c0, c1, c2, c3, c4, c5, c6, c7, c8, c9, c10]) rfl ?_
      rw [HRE.out]
      refine ⟨⟨hL, hl1, hL', hl2, hA1, hc1⟩, rfl, ?_, by rw [HG.out]; exact HFB.out⟩
      rw [HG.out]
      exact HEF.out
     | true =>
      have hp := stands_le hple hsq
      have hmo := mark_yes (t := osqB) hple (by decide) (by decide) hsq
      rw [hmo] at HMO
      have HCE := hid (HCD.out.trans (if_pos hsq))
      have hb1 : osqB.size = 1 := rfl
      have hpb : p < past s p osqB := by omega
      have hbl := hp.2
      have HO2 := hid (show lev s f2 0 (past s p osqB) ≠ .out from fun h => HNE.out (by rw [HCE.out, h]))
      have HCALL := hid (fun w1 => HLV.out f2 (by omega) (past s p osqB) hbl HO2.out w1)
      have HLP := hid (fun y p2 (h : lev s f2 0 (past s p osqB) = .ok y p2) => lev_le (by decide) hbl h)
      clear hp hmo hb1 hsq HCD
      generalize lev s f2 0 (past s p osqB) = R2 at *
      generalize past s p osqB = sb at *
      have g1 : decide ((sb : Int) < 0) = false := decide_eq_false (by omega)
      clear a0 a1 a2 a3 a4 a5 a6 a7 a8
      go_wp2_with fail
      refine (HMD.out _).mono ?_
      rintro e8 w4 ⟨rfl, rfl⟩
      go_wp2_with fail
      clear a9 a10
      refine (HMO.out _).mono ?_
      rintro e8 w4 ⟨rfl, rfl⟩
      go_wp2_with fail
      refine (HCALL.out _).mono ?_
      intro e7 w5 hr
      cases R2 with
      | out => exact absurd rfl HO2.out
      | err p2 c =>
       have HRE := hid (show R = .err p2 c from HCE.out)
       obtain ⟨rfl, hc, hb5⟩ := hr
       have HC := hid hc
       have n1 : (c == 0) = false := beq_eq_false_iff_ne.2 hc
       have n2 : (c != 0) = true := by simpa using hc
       have hb5s := hb5.size
       have KG5 := hid (HGG.out.onto hb5)
       have HB5 := hid (HBW.out.trans (hb5.mono (by omega)))
       unfold wcs
       clear hb5 hc
       go_upto_region 20 with fail
       refine alloc_gn (fun W6 hA6 kX6 => ?_)
       have KG6 := hid (KG5.out.onto hA6)
       have HB6 := hid (HB5.out.trans (hA6.mono (by omega)))
       generalize w5.heap.size = Y at *
       have a0 := kX6.cell 0
       have a1 := kX6.cell 1
       have a2 := kX6.cell 2
       have a3 := kX6.cell 3
       have a4 := kX6.cell 4
       have a5 := kX6.cell 5
       have a6 := kX6.cell 6
       have a7 := kX6.cell 7
       have a8 := kX6.cell 8
       have a9 := kX6.cell 9
       have a10 := kX6.cell 10
       clear hA6 kX6
       obtain ⟨y0, y1, y2, y3, y4, y5, y6, y7, y8, y9, y10, z0, z1, z2, z3, z4, z5, z6, z7, z8, z9, z10, x0, x1, x2, x3, x4, x5, x6, x7, x8, x9, x10⟩ := old11 KG6.out
       go_wp2_with fail
       refine put11_gen KG6.out _ _ _ _ _ _ _ _ _ _ _ (fun WF hf0 hf1 hf2 hf3 => ?_)
       have HF := hid hf0
       have HFB := hid ((hf1 _ _ HB6.out (Nat.le_refl G)))
       clear z0 x0 z1 x1 z2 x2 z3 x3 z4 x4 z5 x5 z6 x6 z7 x7 z8 x8 z9 x9 z10 x10
       clear hf0 hf1 hf2 hf3
       obtain ⟨c0, c1, c2, c3, c4, c5, c6, c7, c8, c9, c10⟩ := all11 HF.out
       refine bodyPost_ret (v := .agg #[.string ⟨#[]⟩, .string ⟨#[]⟩, .int .i64 0, .bool false, .int .i64 0, .string ⟨#[]⟩, .slice none 0 0, .slice none 0 0, .slice none 0 0, .int .i64 (p2 : Int), .int .i64 c]) (by simp [results, Tryz.results29, go_sem, c0, c1, c2, c3, c4, c5, c6, c7, c8, c9, c10]) rfl ?_
       rw [HRE.out]
       exact ⟨by unfold wcs; rfl, HC.out, by rw [HG.out]; exact HFB.out⟩
      | ok y p2 =>
       have hp2 := HLP.out y p2 rfl
       have HCF := hid (show R = (if stands s p2 csqB = true then prt s f2 (.mk atB nix Rd.nulT [e, y]) (past s p2 csqB) else .err (bl s p2) 1) from HCE.out)
       obtain ⟨⟨kL, kl1, kL', kl2, kA1, kc1⟩, rfl, hevy, hb5⟩ := hr
       have hb5s := hb5.size
       have KG5 := hid (HGG.out.onto hb5)
       have HB5 := hid (HBW.out.trans (hb5.mono (by omega)))
       have HX5 := hid (HX.out.onto hb5)
       have HE5 := hid (show EV w5 (fun q => G < q ∧ q < w5.heap.size ∧ q ≠ X) e ⟨hL, hl1, hL', hl2, hA1, hc1⟩ from (HEE.out.keep (fun q hq => hb5.block q hq.2.1)).wide (fun q hq => ⟨hq.1, Nat.lt_of_lt_of_le hq.2.1 hb5.size, hq.2.2⟩))
       have HY5 := hid (show EV w5 (fun q => G < q ∧ q < w5.heap.size ∧ q ≠ X) y ⟨kL, kl1, kL', kl2, kA1, kc1⟩ from hevy.wide (fun q hq => ⟨by have := hq.1; omega, hq.2, by have := hq.1; omega⟩))
       unfold acs
       dsimp only
       clear hb5 hevy
       go_upto_region 20 with fail
       refine alloc_gn (fun W6 hA6 kX6 => ?_)
       have KG6 := hid (KG5.out.onto hA6)
       have HB6 := hid (HB5.out.trans (hA6.mono (by omega)))
       have HX6 := hid (HX5.out.onto hA6)
       have HYB := hid kX6
       have h6s := kX6.lt
       have HE6 := hid (show EV W6 (fun q => G < q ∧ q < W6.heap.size ∧ q ≠ X) e ⟨hL, hl1, hL', hl2, hA1, hc1⟩ from (HE5.out.keep (fun q hq => hA6.block q hq.2.1)).wide (fun q hq => ⟨hq.1, Nat.lt_of_lt_of_le hq.2.1 hA6.size, hq.2.2⟩))
       have HY6 := hid (show EV W6 (fun q => G < q ∧ q < W6.heap.size ∧ q ≠ X) y ⟨kL, kl1, kL', kl2, kA1, kc1⟩ from (HY5.out.keep (fun q hq => hA6.block q hq.2.1)).wide (fun q hq => ⟨hq.1, Nat.lt_of_lt_of_le hq.2.1 hA6.size, hq.2.2⟩))
       have hXY : X < w5.heap.size := by omega
       generalize w5.heap.size = Y at *
       have b9 := HYB.out.cell 9
       have b10 := HYB.out.cell 10
       clear hA6 kX6
       have HMC := hid (show ∀ w1, Calls Tryz.prog 28 #[.string s, .int .i64 (p2 : Int), .string ⟨#[93]⟩] w1 (fun e w' => e = .returned (.int .i64 (markP s p2 csqB)) ∧ w1 = w') from fun w1 => r8mark_any s p2 csqB w1 (by omega) hp2.2 (by decide))
       cases hcl : stands s p2 csqB with
       | false =>
        have HRE := hid (HCF.out.trans (if_neg (by rw [hcl]; decide)))
        have hmc := mark_no (t := csqB) hp2.2 (by decide) (by decide) hcl
        rw [hmc] at HMC
        have HBB := hid (show ∀ w1, Calls Tryz.prog 15 #[.string s, .int .i64 (p2 : Int)] w1 (fun e w' => e = .returned (.int .i64 (bl s p2 : Nat)) ∧ w1 = w') from fun w1 => rblanks_any s p2 w1 (by omega) (by omega))
        clear hmc hcl HCF
        generalize bl s p2 = bq at *
        go_wp2_with fail
        refine (HMC.out _).mono ?_
        rintro e8 w4 ⟨rfl, rfl⟩
        go_wp2_with fail
        refine (HBB.out _).mono ?_
        rintro e8 w4 ⟨rfl, rfl⟩
        go_wp2_with fail
        refine (r8wrong_any _ _ _).mono ?_
        rintro e8 w4 ⟨rfl, hb4⟩
        have KG4 := hid (KG6.out.onto hb4)
        have HB4 := hid (HB6.out.trans (hb4.mono (by omega)))
        clear hb4 b9 b10
        obtain ⟨y0, y1, y2, y3, y4, y5, y6, y7, y8, y9, y10, z0, z1, z2, z3, z4, z5, z6, z7, z8, z9, z10, x0, x1, x2, x3, x4, x5, x6, x7, x8, x9, x10⟩ := old11 KG4.out
        go_wp2_with fail
        refine put11_gen KG4.out _ _ _ _ _ _ _ _ _ _ _ (fun WF hf0 hf1 hf2 hf3 => ?_)
        have HF := hid hf0
        have HFB := hid ((hf1 _ _ HB4.out (Nat.le_refl G)))
        clear z0 x0 z1 x1 z2 x2 z3 x3 z4 x4 z5 x5 z6 x6 z7 x7 z8 x8 z9 x9 z10 x10
        clear hf0 hf1 hf2 hf3
        obtain ⟨c0, c1, c2, c3, c4, c5, c6, c7, c8, c9, c10⟩ := all11 HF.out
        refine bodyPost_ret (v := .agg #[.string ⟨#[]⟩, .string ⟨#[]⟩, .int .i64 0, .bool false, .int .i64 0, .string ⟨#[]⟩, .slice none 0 0, .slice none 0 0, .slice none 0 0, .int .i64 (bq : Int), .int .i64 1]) (by simp [results, Tryz.results29, go_sem, c0, c1, c2, c3, c4, c5, c6, c7, c8, c9, c10]) rfl ?_
        rw [HRE.out]
        exact ⟨by unfold wcs; rfl, by decide, by rw [HG.out]; exact HFB.out⟩
       | true =>
        have hmc := mark_yes (t := csqB) hp2.2 (by decide) (by decide) hcl
        rw [hmc] at HMC
        have HKY := hid (HCF.out.trans (if_pos hcl)).symm
        have hst := stands_le hp2.2 hcl
        have hzl := hst.2
        have hzp : p < past s p2 csqB := by omega
        clear hmc hcl HCF hst
        generalize past s p2 csqB = ze at *
        have g3 : decide ((ze : Int) < 0) = false := decide_eq_false (by omega)
        go_wp2_with fail
        refine (HMC.out _).mono ?_
        rintro e8 w4 ⟨rfl, rfl⟩
        have kX := HX6.out
        unfold acs at kX
        dsimp only at kX
        have a0 := kX.cell 0
        have a1 := kX.cell 1
        have a2 := kX.cell 2
        have a3 := kX.cell 3
        have a4 := kX.cell 4
        have a5 := kX.cell 5
        have a6 := kX.cell 6
        have a7 := kX.cell 7
        have a8 := kX.cell 8
        have a9 := kX.cell 9
        have a10 := kX.cell 10
        clear kX b9 b10
        go_upto_region 25 with fail
        refine alloc_gn (fun W7 hA7 kX7 => ?_)
        clear a0 a1 a2 a3 a4 a5 a6 a7 a8 a9 a10
        have KG7 := hid (KG6.out.onto hA7)
        have HB7 := hid (HB6.out.trans (hA7.mono (by omega)))
        have HX7 := hid (HX6.out.onto hA7)
        have HYB7 := hid (HYB.out.onto hA7)
        have h7s := kX7.lt
        have HE7 := hid (show EV W7 (fun q => G < q ∧ q < W7.heap.size ∧ q ≠ X) e ⟨hL, hl1, hL', hl2, hA1, hc1⟩ from (HE6.out.keep (fun q hq => hA7.block q hq.2.1)).wide (fun q hq => ⟨hq.1, Nat.lt_of_lt_of_le hq.2.1 hA7.size, hq.2.2⟩))
        have HY7 := hid (show EV W7 (fun q => G < q ∧ q < W7.heap.size ∧ q ≠ X) y ⟨kL, kl1, kL', kl2, kA1, kc1⟩ from (HY6.out.keep (fun q hq => hA7.block q hq.2.1)).wide (fun q hq => ⟨hq.1, Nat.lt_of_lt_of_le hq.2.1 hA7.size, hq.2.2⟩))
        have HFB7 := hid kX7
        have hYF : Y < W6.heap.size := h6s
        generalize W6.heap.size = F at *
        clear hA7 kX7
        have hXW : X < W7.heap.size := by omega
        have hYW : Y < W7.heap.size := by omega
        have hFW : F < W7.heap.size := by omega
        have HSO := hid (show ∀ w', Blk w' F 30 #[.string e.op, .string e.name, .int .i64 e.lit.kind, .bool e.lit.tr, .int .i64 e.lit.num, .string e.lit.str, .slice hL e.lit.items.length hl1, .slice hL' e.lit.keys.length hl2, .slice hA1 e.args.length hc1] → Blk w' Y 62 #[.string y.op, .string y.name, .int .i64 y.lit.kind, .bool y.lit.tr, .int .i64 y.lit.num, .string y.lit.str, .slice kL y.lit.items.length kl1, .slice kL' y.lit.keys.length kl2, .slice kA1 y.args.length kc1, .int .i64 (p2 : Int), .int .i64 0] → (w'.cell? ⟨F, 0, none⟩ = some (.string e.op) ∧ w'.cell? ⟨F, 1, none⟩ = some (.string e.name) ∧ w'.cell? ⟨F, 2, none⟩ = some (.int .i64 e.lit.kind) ∧ w'.cell? ⟨F, 3, none⟩ = some (.bool e.lit.tr) ∧ w'.cell? ⟨F, 4, none⟩ = some (.int .i64 e.lit.num) ∧ w'.cell? ⟨F, 5, none⟩ = some (.string e.lit.str) ∧ w'.cell? ⟨F, 6, none⟩ = some (.slice hL e.lit.items.length hl1) ∧ w'.cell? ⟨F, 7, none⟩ = some (.slice hL' e.lit.keys.length hl2) ∧ w'.cell? ⟨F, 8, none⟩ = some (.slice hA1 e.args.length hc1) ∧ w'.cell? ⟨Y, 0, none⟩ = some (.string y.op) ∧ w'.cell? ⟨Y, 1, none⟩ = some (.string y.name) ∧ w'.cell? ⟨Y, 2, none⟩ = some (.int .i64 y.lit.kind) ∧ w'.cell? ⟨Y, 3, none⟩ = some (.bool y.lit.tr) ∧ w'.cell? ⟨Y, 4, none⟩ = some (.int .i64 y.lit.num) ∧ w'.cell? ⟨Y, 5, none⟩ = some (.string y.lit.str) ∧ w'.cell? ⟨Y, 6, none⟩ = some (.slice kL y.lit.items.length kl1) ∧ w'.cell? ⟨Y, 7, none⟩ = some (.slice kL' y.lit.keys.length kl2) ∧ w'.cell? ⟨Y, 8, none⟩ = some (.slice kA1 y.args.length kc1) ∧ w'.cell? ⟨Y, 9, none⟩ = some (.int .i64 (p2 : Int))) from fun w' kF kY => ⟨kF.cell 0, kF.cell 1, kF.cell 2, kF.cell 3, kF.cell 4, kF.cell 5, kF.cell 6, kF.cell 7, kF.cell 8, kY.cell 0, kY.cell 1, kY.cell 2, kY.cell 3, kY.cell 4, kY.cell 5, kY.cell 6, kY.cell 7, kY.cell 8, kY.cell 9⟩)
        refine wp_region_held_drew (S := fun w' => (w'.cell? ⟨F, 0, none⟩ = some (.string e.op) ∧ w'.cell? ⟨F, 1, none⟩ = some (.string e.name) ∧ w'.cell? ⟨F, 2, none⟩ = some (.int .i64 e.lit.kind) ∧ w'.cell? ⟨F, 3, none⟩ = some (.bool e.lit.tr) ∧ w'.cell? ⟨F, 4, none⟩ = some (.int .i64 e.lit.num) ∧ w'.cell? ⟨F, 5, none⟩ = some (.string e.lit.str) ∧ w'.cell? ⟨F, 6, none⟩ = some (.slice hL e.lit.items.length hl1) ∧ w'.cell? ⟨F, 7, none⟩ = some (.slice hL' e.lit.keys.length hl2) ∧ w'.cell? ⟨F, 8, none⟩ = some (.slice hA1 e.args.length hc1) ∧ w'.cell? ⟨Y, 0, none⟩ = some (.string y.op) ∧ w'.cell? ⟨Y, 1, none⟩ = some (.string y.name) ∧ w'.cell? ⟨Y, 2, none⟩ = some (.int .i64 y.lit.kind) ∧ w'.cell? ⟨Y, 3, none⟩ = some (.bool y.lit.tr) ∧ w'.cell? ⟨Y, 4, none⟩ = some (.int .i64 y.lit.num) ∧ w'.cell? ⟨Y, 5, none⟩ = some (.string y.lit.str) ∧ w'.cell? ⟨Y, 6, none⟩ = some (.slice kL y.lit.items.length kl1) ∧ w'.cell? ⟨Y, 7, none⟩ = some (.slice kL' y.lit.keys.length kl2) ∧ w'.cell? ⟨Y, 8, none⟩ = some (.slice kA1 y.args.length kc1) ∧ w'.cell? ⟨Y, 9, none⟩ = some (.int .i64 (p2 : Int)))) (by kernel_rfl) ?_ (fun hHeld => ?_)
        · exact HSO.out _ HFB7.out HYB7.out
        refine wpAnyH_take (i := 0) (v := ?_) rfl (by kernel_rfl) (by kernel_rfl) (by kernel_rfl) (fun _ _ _ h => h) (Or.inl ⟨by rfl, ?_⟩) (by assumption) ?_
        rotate_left
        ·
         intro wq hSw
         try dsimp only at hSw
         go_simp
         try (with_reducible rfl)
        try simp only [Act.put, List.getElem_toArray, List.getElem_cons_zero, List.setIfInBounds_toArray, List.set_cons_zero, List.set_cons_succ]
        refine wpAnyH_take (i := 1) (v := ?_) rfl (by kernel_rfl) (by kernel_rfl) (by kernel_rfl) (fun _ _ _ h => h) (Or.inl ⟨by rfl, ?_⟩) (by assumption) ?_
        rotate_left
        ·
         intro wq hSw
         try dsimp only at hSw
         go_simp
         try (with_reducible rfl)
        try simp only [Act.put, sqa, sqb, sqc, sqd, sqe, sqf]
        refine wpAnyH_take (i := 2) (v := ?_) rfl (by kernel_rfl) (by kernel_rfl) (by kernel_rfl) (fun _ _ _ h => h) (Or.inl ⟨by rfl, ?_⟩) (by assumption) ?_
        rotate_left
        ·
         intro wq hSw
         try dsimp only at hSw
         go_simp
         try (with_reducible rfl)
        try simp only [Act.put, sqa, sqb, sqc, sqd, sqe, sqf]
        refine wpAnyH_take (i := 5) (v := ?_) rfl (by kernel_rfl) (by kernel_rfl) (by kernel_rfl) (fun _ _ _ h => h) (Or.inl ⟨by rfl, ?_⟩) (by assumption) ?_
        rotate_left
        ·
         intro wq hSw
         try dsimp only at hSw
         go_simp
         try (with_reducible rfl)
        try simp only [Act.put, sqa, sqb, sqc, sqd, sqe, sqf]
        refine wpAnyH_take (i := 6) (v := ?_) rfl (by kernel_rfl) (by kernel_rfl) (by kernel_rfl) (fun _ _ _ h => h) (Or.inl ⟨by rfl, ?_⟩) (by assumption) ?_
        rotate_left
        ·
         intro wq hSw
         try dsimp only at hSw
         go_simp
         try (with_reducible rfl)
        try simp only [Act.put, sqa, sqb, sqc, sqd, sqe, sqf]
        refine wpAnyH_take (i := 7) (v := ?_) rfl (by kernel_rfl) (by kernel_rfl) (by kernel_rfl) (fun _ _ _ h => h) (Or.inl ⟨by rfl, ?_⟩) (by assumption) ?_
        rotate_left
        ·
         intro wq hSw
         try dsimp only at hSw
         go_simp
         try (with_reducible rfl)
        try simp only [Act.put, sqa, sqb, sqc, sqd, sqe, sqf]
        refine wpAnyH_ready (rs := [3, 8]) (by kernel_rfl) (by simp) ?_
        refine AllReadyH.cons rfl (fun K0 hK => ?_) (AllReadyH.cons rfl (fun K0 hK => ?_) AllReadyH.nil)
        go_simp
        have hA8 : Below W7.heap.size W7 (W7.alloc (.cells #[.string e.op, .string e.name, .int .i64 e.lit.kind, .bool e.lit.tr, .int .i64 e.lit.num, .string e.lit.str, .slice hL e.lit.items.length hl1, .slice hL' e.lit.keys.length hl2, .slice hA1 e.args.length hc1, .string y.op, .string y.name, .int .i64 y.lit.kind, .bool y.lit.tr, .int .i64 y.lit.num, .string y.lit.str, .slice kL y.lit.items.length kl1, .slice kL' y.lit.keys.length kl2, .slice kA1 y.args.length kc1] 30)).drew := ((Below.refl _ _).alloc (Nat.le_refl _) _).drew
        have kR : Blk (W7.alloc (.cells #[.string e.op, .string e.name, .int .i64 e.lit.kind, .bool e.lit.tr, .int .i64 e.lit.num, .string e.lit.str, .slice hL e.lit.items.length hl1, .slice hL' e.lit.keys.length hl2, .slice hA1 e.args.length hc1, .string y.op, .string y.name, .int .i64 y.lit.kind, .bool y.lit.tr, .int .i64 y.lit.num, .string y.lit.str, .slice kL y.lit.items.length kl1, .slice kL' y.lit.keys.length kl2, .slice kA1 y.args.length kc1] 30)).drew W7.heap.size 30 #[.string e.op, .string e.name, .int .i64 e.lit.kind, .bool e.lit.tr, .int .i64 e.lit.num, .string e.lit.str, .slice hL e.lit.items.length hl1, .slice hL' e.lit.keys.length hl2, .slice hA1 e.args.length hc1, .string y.op, .string y.name, .int .i64 y.lit.kind, .bool y.lit.tr, .int .i64 y.lit.num, .string y.lit.str, .slice kL y.lit.items.length kl1, .slice kL' y.lit.keys.length kl2, .slice kA1 y.args.length kc1] := Blk.new W7 _ _
        have HR8 := hid kR
        have hrl := kR.lt
        have KG8 := hid (KG7.out.onto hA8)
        have HB8 := hid (HB7.out.trans (hA8.mono (by omega)))
        have HX8 := hid (HX7.out.onto hA8)
        have HYB8 := hid (HYB7.out.onto hA8)
        have HFB8 := hid (HFB7.out.onto hA8)
        have HE8 := hid (show EV (W7.alloc (.cells #[.string e.op, .string e.name, .int .i64 e.lit.kind, .bool e.lit.tr, .int .i64 e.lit.num, .string e.lit.str, .slice hL e.lit.items.length hl1, .slice hL' e.lit.keys.length hl2, .slice hA1 e.args.length hc1, .string y.op, .string y.name, .int .i64 y.lit.kind, .bool y.lit.tr, .int .i64 y.lit.num, .string y.lit.str, .slice kL y.lit.items.length kl1, .slice kL' y.lit.keys.length kl2, .slice kA1 y.args.length kc1] 30)).drew (fun q => G < q ∧ q < (W7.alloc (.cells #[.string e.op, .string e.name, .int .i64 e.lit.kind, .bool e.lit.tr, .int .i64 e.lit.num, .string e.lit.str, .slice hL e.lit.items.length hl1, .slice hL' e.lit.keys.length hl2, .slice hA1 e.args.length hc1, .string y.op, .string y.name, .int .i64 y.lit.kind, .bool y.lit.tr, .int .i64 y.lit.num, .string y.lit.str, .slice kL y.lit.items.length kl1, .slice kL' y.lit.keys.length kl2, .slice kA1 y.args.length kc1] 30)).drew.heap.size ∧ q ≠ X) e ⟨hL, hl1, hL', hl2, hA1, hc1⟩ from (HE7.out.keep (fun q hq => hA8.block q hq.2.1)).wide (fun q hq => ⟨hq.1, Nat.lt_of_lt_of_le hq.2.1 hA8.size, hq.2.2⟩))
        have HY8 := hid (show EV (W7.alloc (.cells #[.string e.op, .string e.name, .int .i64 e.lit.kind, .bool e.lit.tr, .int .i64 e.lit.num, .string e.lit.str, .slice hL e.lit.items.length hl1, .slice hL' e.lit.keys.length hl2, .slice hA1 e.args.length hc1, .string y.op, .string y.name, .int .i64 y.lit.kind, .bool y.lit.tr, .int .i64 y.lit.num, .string y.lit.str, .slice kL y.lit.items.length kl1, .slice kL' y.lit.keys.length kl2, .slice kA1 y.args.length kc1] 30)).drew (fun q => G < q ∧ q < (W7.alloc (.cells #[.string e.op, .string e.name, .int .i64 e.lit.kind, .bool e.lit.tr, .int .i64 e.lit.num, .string e.lit.str, .slice hL e.lit.items.length hl1, .slice hL' e.lit.keys.length hl2, .slice hA1 e.args.length hc1, .string y.op, .string y.name, .int .i64 y.lit.kind, .bool y.lit.tr, .int .i64 y.lit.num, .string y.lit.str, .slice kL y.lit.items.length kl1, .slice kL' y.lit.keys.length kl2, .slice kA1 y.args.length kc1] 30)).drew.heap.size ∧ q ≠ X) y ⟨kL, kl1, kL', kl2, kA1, kc1⟩ from (HY7.out.keep (fun q hq => hA8.block q hq.2.1)).wide (fun q hq => ⟨hq.1, Nat.lt_of_lt_of_le hq.2.1 hA8.size, hq.2.2⟩))
        refine hK.out _ _ ?_ (fun hHeld => ?_)
        · exact HSO.out _ HFB8.out HYB8.out
        clear hK K0
        try simp only [Act.put, sqa, sqb, sqc, sqd, sqe, sqf]
        generalize (W7.alloc (.cells #[.string e.op, .string e.name, .int .i64 e.lit.kind, .bool e.lit.tr, .int .i64 e.lit.num, .string e.lit.str, .slice hL e.lit.items.length hl1, .slice hL' e.lit.keys.length hl2, .slice hA1 e.args.length hc1, .string y.op, .string y.name, .int .i64 y.lit.kind, .bool y.lit.tr, .int .i64 y.lit.num, .string y.lit.str, .slice kL y.lit.items.length kl1, .slice kL' y.lit.keys.length kl2, .slice kA1 y.args.length kc1] 30)).drew = W8 at *
        have hB7 : X < W7.heap.size ∧ G < W7.heap.size ∧ F < W7.heap.size ∧ Y < W7.heap.size := ⟨hXW, by omega, hFW, hYW⟩
        generalize W7.heap.size = B at *
        clear hA8 kR
        refine wpAnyH_take (i := 4) (v := ?_) rfl (by kernel_rfl) (by kernel_rfl) (by kernel_rfl) (fun _ _ _ h => h) (Or.inl ⟨by rfl, ?_⟩) (by assumption) ?_
        rotate_left
        ·
         intro wq hSw
         try dsimp only at hSw
         go_simp
         try (with_reducible rfl)
        try simp only [Act.put, sqa, sqb, sqc, sqd, sqe, sqf]
        refine wpAnyH_ready (rs := [8]) (by kernel_rfl) (by simp) ?_
        refine AllReadyH.cons rfl (fun K0 hK => ?_) AllReadyH.nil
        go_simp
        refine (HMC.out _).mono ?_
        rintro e6 w9 ⟨rfl, rfl⟩
        go_wp2_with fail
        refine hK.out _ _ ?_ (fun hHeld => ?_)
        · exact HSO.out _ HFB8.out HYB8.out
        clear hK K0
        try simp only [Act.put, sqa, sqb, sqc, sqd, sqe, sqf]
        rotate_left
        go_simp
        refine (HMC.out _).mono ?_
        rintro e6 w9 ⟨rfl, rfl⟩
        go_wp2_with fail
        refine hK.out _ _ ?_ (fun hHeld => ?_)
        · exact HSO.out _ HFB7.out HYB7.out
        clear hK K0
        try simp only [Act.put, sqa, sqb, sqc, sqd, sqe, sqf]
        refine wpAnyH_ready (rs := [3]) (by kernel_rfl) (by simp) ?_
        refine AllReadyH.cons rfl (fun K0 hK => ?_) AllReadyH.nil
        go_simp
        have hA8 : Below W7.heap.size W7 (W7.alloc (.cells #[.string e.op, .string e.name, .int .i64 e.lit.kind, .bool e.lit.tr, .int .i64 e.lit.num, .string e.lit.str, .slice hL e.lit.items.length hl1, .slice hL' e.lit.keys.length hl2, .slice hA1 e.args.length hc1, .string y.op, .string y.name, .int .i64 y.lit.kind, .bool y.lit.tr, .int .i64 y.lit.num, .string y.lit.str, .slice kL y.lit.items.length kl1, .slice kL' y.lit.keys.length kl2, .slice kA1 y.args.length kc1] 30)).drew := ((Below.refl _ _).alloc (Nat.le_refl _) _).drew
        have kR : Blk (W7.alloc (.cells #[.string e.op, .string e.name, .int .i64 e.lit.kind, .bool e.lit.tr, .int .i64 e.lit.num, .string e.lit.str, .slice hL e.lit.items.length hl1, .slice hL' e.lit.keys.length hl2, .slice hA1 e.args.length hc1, .string y.op, .string y.name, .int .i64 y.lit.kind, .bool y.lit.tr, .int .i64 y.lit.num, .string y.lit.str, .slice kL y.lit.items.length kl1, .slice kL' y.lit.keys.length kl2, .slice kA1 y.args.length kc1] 30)).drew W7.heap.size 30 #[.string e.op, .string e.name, .int .i64 e.lit.kind, .bool e.lit.tr, .int .i64 e.lit.num, .string e.lit.str, .slice hL e.lit.items.length hl1, .slice hL' e.lit.keys.length hl2, .slice hA1 e.args.length hc1, .string y.op, .string y.name, .int .i64 y.lit.kind, .bool y.lit.tr, .int .i64 y.lit.num, .string y.lit.str, .slice kL y.lit.items.length kl1, .slice kL' y.lit.keys.length kl2, .slice kA1 y.args.length kc1] := Blk.new W7 _ _
        have HR8 := hid kR
        have hrl := kR.lt
        have KG8 := hid (KG7.out.onto hA8)
        have HB8 := hid (HB7.out.trans (hA8.mono (by omega)))
        have HX8 := hid (HX7.out.onto hA8)
        have HYB8 := hid (HYB7.out.onto hA8)
        have HFB8 := hid (HFB7.out.onto hA8)
        have HE8 := hid (show EV (W7.alloc (.cells #[.string e.op, .string e.name, .int .i64 e.lit.kind, .bool e.lit.tr, .int .i64 e.lit.num, .string e.lit.str, .slice hL e.lit.items.length hl1, .slice hL' e.lit.keys.length hl2, .slice hA1 e.args.length hc1, .string y.op, .string y.name, .int .i64 y.lit.kind, .bool y.lit.tr, .int .i64 y.lit.num, .string y.lit.str, .slice kL y.lit.items.length kl1, .slice kL' y.lit.keys.length kl2, .slice kA1 y.args.length kc1] 30)).drew (fun q => G < q ∧ q < (W7.alloc (.cells #[.string e.op, .string e.name, .int .i64 e.lit.kind, .bool e.lit.tr, .int .i64 e.lit.num, .string e.lit.str, .slice hL e.lit.items.length hl1, .slice hL' e.lit.keys.length hl2, .slice hA1 e.args.length hc1, .string y.op, .string y.name, .int .i64 y.lit.kind, .bool y.lit.tr, .int .i64 y.lit.num, .string y.lit.str, .slice kL y.lit.items.length kl1, .slice kL' y.lit.keys.length kl2, .slice kA1 y.args.length kc1] 30)).drew.heap.size ∧ q ≠ X) e ⟨hL, hl1, hL', hl2, hA1, hc1⟩ from (HE7.out.keep (fun q hq => hA8.block q hq.2.1)).wide (fun q hq => ⟨hq.1, Nat.lt_of_lt_of_le hq.2.1 hA8.size, hq.2.2⟩))
        have HY8 := hid (show EV (W7.alloc (.cells #[.string e.op, .string e.name, .int .i64 e.lit.kind, .bool e.lit.tr, .int .i64 e.lit.num, .string e.lit.str, .slice hL e.lit.items.length hl1, .slice hL' e.lit.keys.length hl2, .slice hA1 e.args.length hc1, .string y.op, .string y.name, .int .i64 y.lit.kind, .bool y.lit.tr, .int .i64 y.lit.num, .string y.lit.str, .slice kL y.lit.items.length kl1, .slice kL' y.lit.keys.length kl2, .slice kA1 y.args.length kc1] 30)).drew (fun q => G < q ∧ q < (W7.alloc (.cells #[.string e.op, .string e.name, .int .i64 e.lit.kind, .bool e.lit.tr, .int .i64 e.lit.num, .string e.lit.str, .slice hL e.lit.items.length hl1, .slice hL' e.lit.keys.length hl2, .slice hA1 e.args.length hc1, .string y.op, .string y.name, .int .i64 y.lit.kind, .bool y.lit.tr, .int .i64 y.lit.num, .string y.lit.str, .slice kL y.lit.items.length kl1, .slice kL' y.lit.keys.length kl2, .slice kA1 y.args.length kc1] 30)).drew.heap.size ∧ q ≠ X) y ⟨kL, kl1, kL', kl2, kA1, kc1⟩ from (HY7.out.keep (fun q hq => hA8.block q hq.2.1)).wide (fun q hq => ⟨hq.1, Nat.lt_of_lt_of_le hq.2.1 hA8.size, hq.2.2⟩))
        refine hK.out _ _ ?_ (fun hHeld => ?_)
        · exact HSO.out _ HFB8.out HYB8.out
        clear hK K0
        try simp only [Act.put, sqa, sqb, sqc, sqd, sqe, sqf]
        generalize (W7.alloc (.cells #[.string e.op, .string e.name, .int .i64 e.lit.kind, .bool e.lit.tr, .int .i64 e.lit.num, .string e.lit.str, .slice hL e.lit.items.length hl1, .slice hL' e.lit.keys.length hl2, .slice hA1 e.args.length hc1, .string y.op, .string y.name, .int .i64 y.lit.kind, .bool y.lit.tr, .int .i64 y.lit.num, .string y.lit.str, .slice kL y.lit.items.length kl1, .slice kL' y.lit.keys.length kl2, .slice kA1 y.args.length kc1] 30)).drew = W8 at *
        have hB7 : X < W7.heap.size ∧ G < W7.heap.size ∧ F < W7.heap.size ∧ Y < W7.heap.size := ⟨hXW, by omega, hFW, hYW⟩
        generalize W7.heap.size = B at *
        clear hA8 kR
        refine wpAnyH_take (i := 4) (v := ?_) rfl (by kernel_rfl) (by kernel_rfl) (by kernel_rfl) (fun _ _ _ h => h) (Or.inl ⟨by rfl, ?_⟩) (by assumption) ?_
        rotate_left
        ·
         intro wq hSw
         try dsimp only at hSw
         go_simp
         try (with_reducible rfl)
        try simp only [Act.put, sqa, sqb, sqc, sqd, sqe, sqf]
        all_goals
         refine wpAnyH_take (i := 9) (v := ?_) rfl (by kernel_rfl) (by kernel_rfl) (by kernel_rfl) (fun _ _ _ h => h) (Or.inl ⟨by rfl, ?_⟩) (by assumption) ?_
         rotate_left
         ·
          intro wq hSw
          try dsimp only at hSw
          go_simp
          try (with_reducible rfl)
         try simp only [Act.put, sqa, sqb, sqc, sqd, sqe, sqf]
         obtain ⟨y0, y1, y2, y3, y4, y5, y6, y7, y8, y9, y10, z0, z1, z2, z3, z4, z5, z6, z7, z8, z9, z10, x0, x1, x2, x3, x4, x5, x6, x7, x8, x9, x10⟩ := old11 HX8.out
         refine wpAnyH_ready (rs := [10]) (by kernel_rfl) (by simp) ?_
         refine AllReadyH.cons rfl (fun K0 hK => ?_) AllReadyH.nil
         go_simp
         refine put11_gen HX8.out _ _ _ _ _ _ _ _ _ _ _ (fun W9 hf0 hf1 hf2 hf3 => ?_)
         have HX9 := hid (show Blk W9 X 62 (acs (.mk atB nix Rd.nulT [e, y]) ⟨none, 0, none, 0, some ⟨B, 0, none⟩, 2⟩ ze) from hf0)
         have HB9 := hid ((hf1 _ _ HB8.out (Nat.le_of_lt hXG)))
         have HG9 := hid (show Blk W9 G 62 nul11 from ((hf2 _ (by omega))).trans KG8.out)
         have HF9 := hid (show Blk W9 F 30 #[.string e.op, .string e.name, .int .i64 e.lit.kind, .bool e.lit.tr, .int .i64 e.lit.num, .string e.lit.str, .slice hL e.lit.items.length hl1, .slice hL' e.lit.keys.length hl2, .slice hA1 e.args.length hc1] from ((hf2 _ (by omega))).trans HFB8.out)
         have HY9 := hid (show Blk W9 Y 62 #[.string y.op, .string y.name, .int .i64 y.lit.kind, .bool y.lit.tr, .int .i64 y.lit.num, .string y.lit.str, .slice kL y.lit.items.length kl1, .slice kL' y.lit.keys.length kl2, .slice kA1 y.args.length kc1, .int .i64 (p2 : Int), .int .i64 0] from ((hf2 _ (by omega))).trans HYB8.out)
         have HR9 := hid (show Blk W9 B 30 #[.string e.op, .string e.name, .int .i64 e.lit.kind, .bool e.lit.tr, .int .i64 e.lit.num, .string e.lit.str, .slice hL e.lit.items.length hl1, .slice hL' e.lit.keys.length hl2, .slice hA1 e.args.length hc1, .string y.op, .string y.name, .int .i64 y.lit.kind, .bool y.lit.tr, .int .i64 y.lit.num, .string y.lit.str, .slice kL y.lit.items.length kl1, .slice kL' y.lit.keys.length kl2, .slice kA1 y.args.length kc1] from ((hf2 _ (by omega))).trans HR8.out)
         have HE9 := hid (show EV W9 (fun q => G < q ∧ q < W9.heap.size ∧ q ≠ X) e ⟨hL, hl1, hL', hl2, hA1, hc1⟩ from (HE8.out.keep (fun q hq => (hf2 _ hq.2.2))).wide (fun q hq => ⟨hq.1, by rw [hf3]; exact hq.2.1, hq.2.2⟩))
         have HYE9 := hid (show EV W9 (fun q => G < q ∧ q < W9.heap.size ∧ q ≠ X) y ⟨kL, kl1, kL', kl2, kA1, kc1⟩ from (HY8.out.keep (fun q hq => (hf2 _ hq.2.2))).wide (fun q hq => ⟨hq.1, by rw [hf3]; exact hq.2.1, hq.2.2⟩))
         clear z0 x0 z1 x1 z2 x2 z3 x3 z4 x4 z5 x5 z6 x6 z7 x7 z8 x8 z9 x9 z10 x10
         clear hf0 hf1 hf2 hf3
         refine hK.out _ _ ?_ (fun hHeld => ?_)
         · exact HSO.out _ HF9.out HY9.out
         clear hK K0
         try simp only [Act.put, sqa, sqb, sqc, sqd, sqe, sqf]
         refine wpAnyH_done (by kernel_rfl) ?_ _
         have hrow := row_two (x := e) (y := y) (h := ⟨hL, hl1, hL', hl2, hA1, hc1⟩) (k := ⟨kL, kl1, kL', kl2, kA1, kc1⟩) HR9.out
         have hBl := HR9.out.lt
         have HRL := hid (show LevI s w G X R (fun f' e p => prt s f' e p) f W9 from ⟨f2, (.mk atB nix Rd.nulT [e, y]), ze, ⟨none, 0, none, 0, some ⟨B, 0, none⟩, 2⟩, by omega, HX9.out, EV.two (o := atB) (n := nix) ⟨by omega, hBl, by omega⟩ hrow.1 hrow.2 HE9.out HYE9.out (Nat.le_refl 2), hzl, HKY.out, HG9.out, HB9.out⟩)
         have HME := hid (atR_of HX9.out)
         clear hrow hBl
         go_wp2_with fail
         go_roundw
         case rel => exact HRL.out
         case measure => rw [HME.out, HAT.out]; omega
end Go.Proofs.YtfbipnflgjhaiaaGreatDoor
