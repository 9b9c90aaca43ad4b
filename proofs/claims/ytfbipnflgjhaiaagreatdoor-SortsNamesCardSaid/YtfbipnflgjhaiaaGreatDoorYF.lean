/- Rows of expressions that grow: what a call of the reference's has read. A call, by the reference: contract. The reference's parser: every function, by as many steps as are wanted. How deep a tree is, by the reference: contract. What begins at a place, by the reference: contract of Prefix. -/
import Derived.Test.YtfbipnflgjhaiaaGreatDoorYE
import Derived.Test.YtfbipnflgjhaiaaGreatDoorEO
import Derived.Test.YtfbipnflgjhaiaaGreatDoorEZ
set_option linter.unusedVariables false
set_option maxRecDepth 100000
set_option maxHeartbeats 8000000
open Go.Lib (hid)
namespace Go.Proofs.YtfbipnflgjhaiaaGreatDoor
open Go.RowKit
open Tk Ex
def e9 (x : E × Hd) : List Value := [.string x.1.op, .string x.1.name, .int .i64 x.1.lit.kind, .bool x.1.lit.tr, .int .i64 x.1.lit.num, .string x.1.lit.str, .slice x.2.L x.1.lit.items.length x.2.l, .slice x.2.L' x.1.lit.keys.length x.2.l', .slice x.2.A x.1.args.length x.2.c]
def flat9 : List (E × Hd) → List Value
 | [] => []
 | x :: l => e9 x ++ flat9 l
theorem flat9_app (l : List (E × Hd)) (x : E × Hd) : flat9 (l ++ [x]) = flat9 l ++ e9 x := by
 induction l with
 | nil => simp [flat9]
 | cons y r ih => rw [List.cons_append, flat9, ih, flat9, List.append_assoc]
theorem flat9_get : ∀ (l : List (E × Hd)) (i : Nat) (x : E × Hd) (j : Nat), l[i]? = some x → j < 9 → (flat9 l)[i * 9 + j]? = (e9 x)[j]?
 | [], i, x, j, h, hj => by simp at h
 | y :: r, 0, x, j, h, hj => by
  simp at h; subst h
  rw [flat9, List.getElem?_append_left (by simp [e9]; omega)]
  congr 1; omega
 | y :: r, i + 1, x, j, h, hj => by
  rw [flat9, List.getElem?_append_right (by simp [e9]; omega), ← flat9_get r i x j (by simpa using h) hj]
  congr 1; simp [e9]; omega
theorem infoE8 : (Tryz.prog.info? 30).map (fun i => (i.zero, i.size, i.bytes)) = some (some (.agg #[.string ⟨#[]⟩, .string ⟨#[]⟩, .int .i64 0, .bool false, .int .i64 0, .string ⟨#[]⟩, .slice none 0 0, .slice none 0 0, .slice none 0 0]), 9, 144) := by kernel_rfl
def Row9 (w : World) (base : Nat) (v : Value) (l : List (E × Hd)) : Prop := w.ownsRow base 30 9 v l.length (flat9 l)
def EVs (w : World) (S : Nat → Prop) (l : List (E × Hd)) : Prop := ∀ x ∈ l, EV w S x.1 x.2
theorem app_e {ops : Array Oper} {rest : List Oper} {o : Oper} {a : Act} {Q : Exit → Act → World → Prop} {w : World} (hgd : o.guard = none) (s x : Operand)
 (ho : o.op = .call { callee := .builtin .append, args := #[s, x], argTypes := #[28, 28] })
 (base : Nat) (v : Value) (l : List (E × Hd)) (y : E) (q : Hd) (hs : a.eval s = v) (hx : a.eval x = .slice (some ⟨w.heap.size, 0, none⟩) 1 1)
 (hown : Row9 w base v l) (hn : l.length ≤ 100000) (hbase : base ≤ w.heap.size)
 (h : ∀ (v' : Value) (w' : World), Row9 w' base v' (l ++ [(y, q)]) → (∀ W, Below base W w → Below base W w') → w.grownBy w' v.ownBlock → (v'.ownBlock = v.ownBlock ∨ v'.ownBlock = some (w.heap.size + 1)) → wpList Tryz.prog ops Q rest (a.put o.dst v') w') :
 wpList Tryz.prog ops Q (o :: rest) a (w.alloc (.cells #[.string y.op, .string y.name, .int .i64 y.lit.kind, .bool y.lit.tr, .int .i64 y.lit.num, .string y.lit.str, .slice q.L y.lit.items.length q.l, .slice q.L' y.lit.keys.length q.l', .slice q.A y.args.length q.c] 30)) := by
 obtain ⟨i0, hi, hz0, hz1, hz2⟩ := info_of infoE8
 unfold Row9 at hown
 obtain ⟨v', w', hr, h1, h2, _, h5⟩ := run_append_own_at (P := Tryz.prog) (w := w.alloc (.cells #[.string y.op, .string y.name, .int .i64 y.lit.kind, .bool y.lit.tr, .int .i64 y.lit.num, .string y.lit.str, .slice q.L y.lit.items.length q.l, .slice q.L' y.lit.keys.length q.l', .slice q.A y.args.length q.c] 30)) base 28 o.type 30 i0 _ 9 144 Tryz.underlying28 hi hz0 hz1 hz2 rfl (by decide) v _ _ (hown.alloc _) ⟨w.heap.size, 0, none⟩ 1 1 (e9 (y, q)) rfl (by
  intro j u hu
  have hadd : (⟨w.heap.size, 0, none⟩ : Addr).add j = ⟨w.heap.size, j, none⟩ := by unfold Addr.add; split <;> simp_all
  rw [hadd, cell_of_row _ _ j _ 30 (0, 0) (heap_alloc_new w _), ← hu, ← Array.getElem?_toList]
  rfl) (by intro u hu; simp [e9] at hu; rcases hu with h | h | h | h | h | h | h | h | h <;> subst h <;> rfl) (by unfold maxLen; omega) (by omega) (by simp; omega)
 refine wpList_plain hgd fun _ hK => ?_
 unfold Oper.wp execOp
 simp only [ho, resolve, invoke, builtin, Sem.run_bind, Sem.run_pure, Result.andThen_ok, List.map_toArray, List.map_cons, List.map_nil, hs, hx, hr]
 refine hK _ _ (h v' w' ?_ (fun W hW => ?_) ?_ ?_)
 · unfold Row9; rw [List.length_append, flat9_app]; exact h1
 · exact (hW.alloc hbase _).grown h2 (by simp; omega) (fun k hk => (hown.lt k hk).1)
 · exact ⟨h2.os, h2.tape, h2.output, Nat.le_trans (by simp) h2.size, fun k hk hne => (h2.block k (by simp; omega) hne).trans (heap_alloc_old w _ hk)⟩
 · simpa using h5
theorem Row9.nil (w : World) (base : Nat) : Row9 w base (.slice none 0 0) [] := World.ownsRow_nil _ _ _ _
theorem Row9.below {w w' : World} {base : Nat} {v : Value} {l : List (E × Hd)} (h : Row9 w base v l) (hb : Below w.heap.size w w') : Row9 w' base v l :=
 World.ownsRow.kept h (row := none) ⟨hb.os, hb.tape, hb.output, hb.size, fun k hk hn => hb.block k hk⟩ (by
  cases hv : v.ownBlock with
  | none => exact .inl rfl
  | some k => exact .inr (by simp))
theorem Row9.other {w w' : World} {base g : Nat} {v : Value} {l : List (E × Hd)} (h : Row9 w base v l) (ha : Aside g w w') (hg : v.ownBlock ≠ some g) : Row9 w' base v l :=
 World.ownsRow.kept h (row := some g) ⟨ha.os, ha.tape, ha.output, ha.size, fun k hk hn => ha.block k hk (by intro e; exact hn (by rw [e]))⟩ (by
  cases hv : v.ownBlock with
  | none => exact .inl rfl
  | some k => exact .inr (by rw [hv] at hg; exact hg))
theorem Row9.shape {w : World} {base : Nat} {v : Value} {l : List (E × Hd)} (h : Row9 w base v l) : ∃ A c, v = .slice A l.length c ∧ l.length ≤ c := by
 rcases h.2 with ⟨rfl, h0⟩ | ⟨g, cap, cur, rfl, hb, hh, hle, hm, hs, ht⟩
 · exact ⟨none, 0, by rw [h0], by omega⟩
 · exact ⟨_, _, rfl, hle⟩
theorem Row9.cells {w : World} {base : Nat} {A : Option Addr} {n c : Nat} {l : List (E × Hd)} (h : Row9 w base (.slice A n c) l) (hn : l ≠ []) :
 ∃ b, A = some ⟨b, 0, none⟩ ∧ base ≤ b ∧ b < w.heap.size ∧ ∀ i x, l[i]? = some x → Nine w b (0 + i * 9) x.1 x.2 := by
 rcases h.2 with ⟨_, h0⟩ | ⟨g, cap, cur, he, hb, hh, hle, hm, hs, ht⟩
 · exact absurd (List.eq_nil_of_length_eq_zero h0) hn
 ·
  injection he with e1 e2 e3
  refine ⟨g, e1, hb, (Array.getElem?_eq_some_iff.1 hh).1, fun i x hx => ?_⟩
  have hi := (List.getElem?_eq_some_iff.1 hx).1
  have key : ∀ j, j < 9 → w.cell? ⟨g, 0 + i * 9 + j, none⟩ = (e9 x)[j]? := by
   intro j hj
   rw [cell_of_row w g _ cur 30 _ hh, ← flat9_get l i x j hx hj, ← ht, List.getElem?_take_of_lt (by omega), Array.getElem?_toList, Nat.zero_add]
  exact ⟨key 0 (by omega), key 1 (by omega), ⟨key 2 (by omega), key 3 (by omega), key 4 (by omega), key 5 (by omega), key 6 (by omega), key 7 (by omega)⟩, key 8 (by omega)⟩
theorem EVs.below {w w' : World} {S : Nat → Prop} {l : List (E × Hd)} (h : EVs w S l) (hS : ∀ q, S q → q < w.heap.size) (hb : Below w.heap.size w w') : EVs w' S l := fun x hx => (h x hx).keep fun q hq => hb.block q (hS q hq)
theorem grown9 {wA w4 w5 : World} {base : Nat} {y : E} {q : Hd} {l : List (E × Hd)} {v v' : Value} (hrow : Row9 wA base v l) (hl : EVs wA (fun k => base ≤ k ∧ k < wA.heap.size ∧ some k ≠ v.ownBlock) l) (hb : Below wA.heap.size wA w4) (hbw : base ≤ wA.heap.size)
 (hy : EV w4 (fun k => wA.heap.size ≤ k ∧ k < w4.heap.size) y q) (hg : w4.grownBy w5 v.ownBlock) (ho : v'.ownBlock = v.ownBlock ∨ v'.ownBlock = some (w4.heap.size + 1)) :
 EVs w5 (fun k => base ≤ k ∧ k < w5.heap.size ∧ some k ≠ v'.ownBlock) (l ++ [(y, q)]) := by
 have key : ∀ k, k < w4.heap.size → some k ≠ v.ownBlock → some k ≠ v'.ownBlock := by
  intro k h1 h2
  rcases ho with h | h
  · rw [h]; exact h2
  · rw [h]; intro e; injection e with e; omega
 intro x hx
 rcases List.mem_append.1 hx with hx | hx
 · exact (((hl x hx).keep fun k hk => hb.block k hk.2.1).keep fun k hk => hg.block k (Nat.lt_of_lt_of_le hk.2.1 hb.size) hk.2.2).wide fun k hk => ⟨hk.1, Nat.lt_of_lt_of_le hk.2.1 (Nat.le_trans hb.size hg.size), key k (Nat.lt_of_lt_of_le hk.2.1 hb.size) hk.2.2⟩
 ·
  obtain rfl := List.mem_singleton.1 hx
  have hne : ∀ k, wA.heap.size ≤ k → some k ≠ v.ownBlock := by
   intro k hk e
   have := (World.ownsRow.lt hrow k e.symm).2
   omega
  exact (hy.keep fun k hk => hg.block k hk.2 (hne k hk.1)).wide fun k hk => ⟨by omega, Nat.lt_of_lt_of_le hk.2 hg.size, key k hk.2 (hne k hk.1)⟩
theorem EV.ofRow {w : World} {base n c : Nat} {A : Option Addr} {l : List (E × Hd)} {o : ByteArray} (hrow : Row9 w base (.slice A n c) l) (hl : EVs w (fun k => base ≤ k ∧ k < w.heap.size ∧ some k ≠ (Value.slice A n c).ownBlock) l) (hc : l.length ≤ c) :
 EV w (fun k => base ≤ k ∧ k < w.heap.size) (.mk o nix Rd.nulT (l.map (·.1))) ⟨none, 0, none, 0, A, c⟩ := by
 refine EV.of (TV.of (Nat.zero_le _) (Nat.zero_le _) (fun h => absurd rfl h) (SReads.none_ _ _ _)) (by show (l.map (·.1)).length ≤ c; rw [List.length_map]; exact hc) (fun hn => ?_)
 have hn' : l ≠ [] := by intro e; subst e; exact hn rfl
 obtain ⟨b, e1, h1, h2, h9⟩ := hrow.cells hn'
 refine ⟨b, 0, e1, ⟨h1, h2⟩, fun i x hx => ?_⟩
 have hx' : (l.map (·.1))[i]? = some x := hx
 rw [List.getElem?_map] at hx'
 cases hq : l[i]? with
 | none => rw [hq] at hx'; cases hx'
 | some z =>
  rw [hq] at hx'
  injection hx' with hx'
  subst hx'
  exact ⟨z.2, h9 i z hq, (hl z (List.mem_of_getElem? hq)).wide fun k hk => ⟨hk.1, hk.2.1⟩⟩
open Go.RowKit
open Tk Ex
def ocs (wd : ByteArray) (A : Option Addr) (n c : Nat) : Array Value := #[.string wd, .string ⟨#[]⟩, .int .i64 0, .bool false, .int .i64 0, .string ⟨#[]⟩, .slice none 0 0, .slice none 0 0, .slice A n c]
theorem argsN_le (wd : ByteArray) : argsN wd ≤ 2 := by
 unfold argsN
 split
 · decide
 · split <;> decide
theorem rcall_at (s : ByteArray) (f : Nat) (hs : s.size ≤ 2500) (hLV : ∀ f', f' < f → RLev s f' 0) : RCall s f := by
 intro wd a ha hN hne w
 have hN2 := argsN_le wd
 have HRR := hid (show calQ s f wd a = if stands s a opnB = true then cal s f wd [] (past s a opnB) else .err (bl s a) 1 from rfl)
 have HAR := hid (show ∀ w1, Calls Tryz.prog 55 #[.string wd] w1 (fun e w' => e = .returned (.int .i64 (argsN wd : Nat)) ∧ w' = w1) from fun w1 => (r8args_any wd w1).mono (fun e w' h => ⟨h.1, h.2.symm⟩))
 have HMK := hid (show ∀ (t : ByteArray) (p : Nat), t.size ≤ 1000 → p ≤ s.size → ∀ w1, Calls Tryz.prog 28 #[.string s, .int .i64 (p : Int), .string t] w1 (fun e w' => e = .returned (.int .i64 (markP s p t)) ∧ w1 = w') from fun t p ht hp w1 => r8mark_any s p t w1 (by omega) hp ht)
 have HBK := hid (show ∀ p : Nat, p ≤ s.size → ∀ w1, Calls Tryz.prog 15 #[.string s, .int .i64 (p : Int)] w1 (fun e w' => e = .returned (.int .i64 (bl s p : Nat)) ∧ w1 = w') from fun p hp w1 => rblanks_any s p w1 (by omega) (by omega))
 have HLV := hid hLV
 have HCS := hid (fun f acc p => cal_step s f wd acc p)
 have HC0 := hid (fun acc p => (show cal s 0 wd acc p = .out from by rw [cal]))
 generalize calQ s f wd a = R at *
 have HNE := hid hne
 clear hne hLV
 go_enter Tryz.func56, Tryz.ntmps56
 go_upto_region 1 with fail
 refine alloc_gen (fun W hW kG hWs => ?_)
 have HWS := hid hWs
 have hGW := kG.lt
 generalize hG : w.heap.size = G at *
 have HG := hid hG
 have HW := hid hW
 have KG := hid kG
 clear hW kG hWs hG
 go_upto_region 2 with fail
 refine alloc_gen (fun W1 hA kO hO1 => ?_)
 have KG1 := hid (KG.out.onto hA)
 have HW1 := hid (HW.out.trans (hA.mono (by omega)))
 generalize W.heap.size = O at *
 have KO1 := hid kO
 have HO1 := hid hO1
 have hOW := kO.lt
 clear hA kO hO1
 cases hop : stands s a opnB with
 | false =>
  have HRE := hid (HRR.out.trans (if_neg (by rw [hop]; decide)))
  have hm := mark_no (t := opnB) ha (by decide) (by decide) hop
  have HM := hid (HMK.out opnB a (by decide) ha)
  rw [hm] at HM
  have HB := hid (HBK.out a ha)
  unfold opnB at HM
  clear hm hop
  generalize bl s a = bq at *
  go_wp2_with fail
  refine (HM.out _).mono ?_
  rintro e8 w4 ⟨rfl, rfl⟩
  go_wp2_with fail
  refine (HB.out _).mono ?_
  rintro e8 w4 ⟨rfl, rfl⟩
  go_wp2_with fail
  refine (r8wrong_any _ _ _).mono ?_
  rintro e8 w4 ⟨rfl, hb4⟩
  have KG4 := hid (KG1.out.onto hb4)
  have HB4 := hid (HW1.out.trans (hb4.mono (by omega)))
  clear hb4
  obtain ⟨y0, y1, y2, y3, y4, y5, y6, y7, y8, y9, y10, z0, z1, z2, z3, z4, z5, z6, z7, z8, z9, z10, x0, x1, x2, x3, x4, x5, x6, x7, x8, x9, x10⟩ := old11 KG4.out
  go_wp2_with fail
  refine put11_gen KG4.out _ _ _ _ _ _ _ _ _ _ _ (fun WF hf0 hf1 hf2 hf3 => ?_)
  have HF := hid hf0
  have HFB := hid ((hf1 _ _ HB4.out (Nat.le_refl G)))
  clear z0 x0 z1 x1 z2 x2 z3 x3 z4 x4 z5 x5 z6 x6 z7 x7 z8 x8 z9 x9 z10 x10
  clear hf0 hf1 hf2 hf3
  obtain ⟨c0, c1, c2, c3, c4, c5, c6, c7, c8, c9, c10⟩ := all11 HF.out
  refine bodyPost_ret (v := .agg #[.string ⟨#[]⟩, .string ⟨#[]⟩, .int .i64 0, .bool false, .int .i64 0, .string ⟨#[]⟩, .slice none 0 0, .slice none 0 0, .slice none 0 0, .int .i64 (bq : Int), .int .i64 1]) (by simp [results, Tryz.results56, go_sem, c0, c1, c2, c3, c4, c5, c6, c7, c8, c9, c10]) rfl ?_
  rw [HRE.out]
  exact ⟨by unfold wcs; rfl, by decide, by rw [HG.out]; exact HFB.out⟩
 | true =>
  have hm := mark_yes (t := opnB) ha (by decide) (by decide) hop
  have HM := hid (HMK.out opnB a (by decide) ha)
  rw [hm] at HM
  obtain ⟨hs1, hs2⟩ := stands_le ha hop
  have hb1 : opnB.size = 1 := rfl
  have HST := hid (show cal s f wd [] (past s a opnB) = R from (HRR.out.trans (if_pos hop)).symm)
  clear hm hop
  generalize past s a opnB = p0 at *
  unfold opnB at HM
  have g1 : decide ((p0 : Int) < 0) = false := decide_eq_false (by omega)
  go_wp2_with fail
  refine (HM.out _).mono ?_
  rintro e8 w4 ⟨rfl, rfl⟩
  go_wp2_with fail
  go_loopw [8] (fun v wr => ∃ (f' : Nat) (l : List (E × Hd)) (p : Nat) (A : Option Addr) (c : Nat), v = .int .i64 (p : Int) ∧ p ≤ s.size ∧ f' ≤ f ∧ l.length < argsN wd ∧ l.length ≤ c ∧ Row9 wr (O + 1) (.slice A l.length c) l ∧ EVs wr (fun k => O + 1 ≤ k ∧ k < wr.heap.size ∧ some k ≠ (Value.slice A l.length c).ownBlock) l ∧ Below G w wr ∧ Blk wr G 62 nul11 ∧ Blk wr O 30 (ocs wd A l.length c) ∧ cal s f' wd (l.map (·.1)) p = R) (fun v _ => s.size + 1 - (intOf v).toNat)
  case atStart => exact ⟨f, [], p0, none, 0, rfl, hs2, Nat.le_refl f, hN, Nat.zero_le _, Row9.nil _ _, fun x hx => absurd hx (by simp), HW1.out, KG1.out, KO1.out, HST.out⟩
  case round =>
   obtain ⟨f', l, p, A, c, rfl, hps, hff, hlN, hlc, hrow, hevs, hbw, kg, ko, hst⟩ := hrel
   cases f' with
   | zero => exact absurd (hst.symm.trans (HC0.out _ _)) HNE.out
   | succ f1 =>
   rw [HCS.out] at hst
   have hne1 : lev s f1 0 p ≠ .out := by intro h0; rw [h0] at hst; exact HNE.out hst.symm
   have HO2 := hid hne1
   have HCALL := hid (fun w1 => HLV.out f1 (by omega) p hps hne1 w1)
   have HLP := hid (fun y q (h : lev s f1 0 p = .ok y q) => lev_le (by decide) hps h)
   have hwO := ko.lt
   have hwG := kg.lt
   have HROW := hid hrow
   have HEVS := hid hevs
   have HBW := hid hbw
   have KG2 := hid kg
   have KO2 := hid ko
   have HST2 := hid hst
   clear hrow hevs hbw kg ko hst hne1 HST HM HW1 KG1 KO1 HO1 hs1 hs2 hb1 g1 HRR hOW
   generalize lev s f1 0 p = R2 at *
   go_wp2_with fail
   refine (HCALL.out _).mono ?_
   intro e7 w5 hr
   cases R2 with
   | out => exact absurd rfl HO2.out
   | err p2 ce =>
    have HRE := hid (show R = .err p2 ce from HST2.out.symm)
    obtain ⟨rfl, hc, hb5⟩ := hr
    have HC := hid hc
    have n1 : (ce == 0) = false := beq_eq_false_iff_ne.2 hc
    have n2 : (ce != 0) = true := by simpa using hc
    have hb5s := hb5.size
    have KG5 := hid (KG2.out.onto hb5)
    have HB5 := hid (HBW.out.trans (hb5.mono (by omega)))
    unfold wcs
    clear hb5 hc
    go_upto_region 6 with fail
    refine alloc_gen (fun W6 hA6 kX6 hsz6 => ?_)
    have HXB := hid kX6
    have h6s := kX6.lt
    have KG6 := hid (KG5.out.onto hA6)
    have HB6 := hid (HB5.out.trans (hA6.mono (by omega)))
    generalize w5.heap.size = Y at *
    have HSZ6 := hid hsz6
    clear hA6 kX6 hsz6
    obtain ⟨a0, a1, a2, a3, a4, a5, a6, a7, a8, a9, a10⟩ := all11 HXB.out
    obtain ⟨y0, y1, y2, y3, y4, y5, y6, y7, y8, y9, y10, z0, z1, z2, z3, z4, z5, z6, z7, z8, z9, z10, x0, x1, x2, x3, x4, x5, x6, x7, x8, x9, x10⟩ := old11 KG6.out
    go_wp2_with fail
    refine put11_gen KG6.out _ _ _ _ _ _ _ _ _ _ _ (fun WF hf0 hf1 hf2 hf3 => ?_)
    have HF := hid hf0
    have HFB := hid ((hf1 _ _ HB6.out (Nat.le_refl G)))
    clear z0 x0 z1 x1 z2 x2 z3 x3 z4 x4 z5 x5 z6 x6 z7 x7 z8 x8 z9 x9 z10 x10
    clear hf0 hf1 hf2 hf3
    obtain ⟨c0, c1, c2, c3, c4, c5, c6, c7, c8, c9, c10⟩ := all11 HF.out
    refine bodyPost_ret (v := .agg #[.string ⟨#[]⟩, .string ⟨#[]⟩, .int .i64 0, .bool false, .int .i64 0, .string ⟨#[]⟩, .slice none 0 0, .slice none 0 0, .slice none 0 0, .int .i64 (p2 : Int), .int .i64 ce]) (by simp [results, Tryz.results56, go_sem, c0, c1, c2, c3, c4, c5, c6, c7, c8, c9, c10]) rfl ?_
    rw [HRE.out]
    exact ⟨by unfold wcs; rfl, HC.out, by rw [HG.out]; exact HFB.out⟩
   | ok y q =>
    have hq := HLP.out y q rfl
    have HST3 := hid (show aft s f1 wd (l.map (·.1) ++ [y]) q = R from HST2.out)
    obtain ⟨⟨kL, kl1, kL', kl2, kA1, kc1⟩, rfl, hev, hb5⟩ := hr
    have hb5s := hb5.size
    have KG5 := hid (KG2.out.onto hb5)
    have KO5 := hid (KO2.out.onto hb5)
    have HB5 := hid (HBW.out.trans (hb5.mono (by omega)))
    have HU5 := hid hb5
    have HE5 := hid hev
    unfold acs
    dsimp only
    clear hb5 hev HST2 HLP HO2 HCALL
    go_upto_region 6 with fail
    refine alloc_gen (fun W6 hA6 kX6 hsz6 => ?_)
    have HXB := hid kX6
    have h6s := kX6.lt
    have KG6 := hid (KG5.out.onto hA6)
    have KO6 := hid (KO5.out.onto hA6)
    have HB6 := hid (HB5.out.trans (hA6.mono (by omega)))
    have HU6 := hid (HU5.out.trans (hA6.mono hb5s))
    have HE6 := hid (HE5.out.more hA6)
    generalize w5.heap.size = Y at *
    have HSZ6 := hid hsz6
    clear hA6 kX6 hsz6
    have HROW6 := hid (HROW.out.below HU6.out)
    obtain ⟨b0, b1, b2, b3, b4, b5, b6, b7, b8, -, b10⟩ := all11 HXB.out
    have o8 : W6.cell? ⟨O, 8, none⟩ = some (.slice A l.length c) := KO6.out.cell 8
    have hOY : O + 1 ≤ wr.heap.size := hwO
    have HNL := hid (show l.length ≤ 100000 by omega)
    obtain ⟨l2, hl2⟩ : ∃ l2, l2 = l ++ [(y, (⟨kL, kl1, kL', kl2, kA1, kc1⟩ : Hd))] := ⟨_, rfl⟩
    have HL2 := hid hl2
    clear hl2
    go_upto_region 9 with (at_builtin; refine app_e rfl (.tmp 31) (.tmp 34) rfl (O + 1) _ _ y ⟨kL, kl1, kL', kl2, kA1, kc1⟩ rfl rfl HROW6.out HNL.out (by omega) ?_; intro v7 w7 hrow7 hb7 hg7 ho7; obtain ⟨A2, m2, rfl, hlm⟩ := hrow7.shape; have hb7' := hb7 W6 (Below.refl _ _); have kO7 := KO6.out.on hb7' (by omega); have x8 := kO7.free 8; obtain ⟨y8, z8⟩ : ∃ u, w7.cell? ⟨O, 8, none⟩ = some u := ⟨_, kO7.cell 8⟩)
    have hln : l2.length = l.length + 1 := by rw [HL2.out]; simp
    have hmp : l2.map (·.1) = l.map (·.1) ++ [y] := by rw [HL2.out]; simp
    have hneY : some Y ≠ (Value.slice A l.length c).ownBlock := by
     intro e
     have := (World.ownsRow.lt HROW.out Y e.symm).2
     omega
    have hev7 := grown9 HROW.out HEVS.out HU6.out (by omega) HE6.out hg7 ho7
    rw [← HL2.out, hln] at hrow7 hlm
    rw [← HL2.out, hln] at hev7
    have hx7 : Blk w7 Y _ _ := (hg7.block Y h6s hneY).trans HXB.out
    have kG7 := KG6.out.on hb7' (by omega)
    have hB7 := HB6.out.trans (hb7'.mono (by omega))
    have hneO : (Value.slice A2 (l.length + 1) m2).ownBlock ≠ some O := by
     intro e
     have := (World.ownsRow.lt hrow7 O e).1
     omega
    have ha8 : Aside O w7 (w7.setCell ⟨O, 8, none⟩ (.slice A2 (l.length + 1) m2)) := (Aside.of (Below.refl _ _)).set _
    have HROW8 := hid (hrow7.other ha8 hneO)
    have HEVS8 := hid (show EVs (w7.setCell ⟨O, 8, none⟩ (.slice A2 (l.length + 1) m2)) (fun k => O + 1 ≤ k ∧ k < (w7.setCell ⟨O, 8, none⟩ (.slice A2 (l.length + 1) m2)).heap.size ∧ some k ≠ (Value.slice A2 (l.length + 1) m2).ownBlock) l2 from fun x hx => ((hev7 x hx).keep fun k hk => ha8.block k hk.2.1 (by have := hk.1; omega)).wide fun k hk => ⟨hk.1, by rw [World.size_setCell]; exact hk.2.1, hk.2.2⟩)
    have KG8 := hid (kG7.far (p := ⟨O, 8, none⟩) (show G ≠ O by omega) (.slice A2 (l.length + 1) m2))
    have KO8 := hid (show Blk (w7.setCell ⟨O, 8, none⟩ (.slice A2 (l.length + 1) m2)) O 30 (ocs wd A2 (l.length + 1) m2) from kO7.set_ 8 _)
    have HX8 := hid (hx7.far (p := ⟨O, 8, none⟩) (show Y ≠ O by omega) (.slice A2 (l.length + 1) m2))
    have HB8 := hid (hB7.setCell (p := ⟨O, 8, none⟩) (show G ≤ O by omega) (.slice A2 (l.length + 1) m2))
    have HST4 := hid (show aft s f1 wd (l2.map (·.1)) q = R by rw [hmp]; exact HST3.out)
    have HLM := hid hlm
    have HLN := hid hln
    generalize (w7.setCell ⟨O, 8, none⟩ (.slice A2 (l.length + 1) m2)) = w8 at *
    have hn2 : l.length + 1 ≤ argsN wd := by omega
    generalize l.length + 1 = n2 at *
    have b9 : w8.cell? ⟨Y, 9, none⟩ = some (.int .i64 (q : Int)) := HX8.out.cell 9
    have o8' : w8.cell? ⟨O, 8, none⟩ = some (.slice A2 n2 m2) := KO8.out.cell 8
    have HNE8 := hid hneO
    clear hrow7 hb7 hg7 ho7 hb7' kO7 x8 z8 b0 b1 b2 b3 b4 b5 b6 b7 b8 b10 o8 hev7 hx7 kG7 hB7 ha8 hlm hln hmp hneY hneO HROW HEVS HBW KG2 KO2 HST3 KG5 KO5 HB5 HU5 HE5 KG6 KO6 HB6 HU6 HE6 HROW6 HXB HL2 HSZ6 HNL hlN hlc hOY hb5s h6s
    have HBQ := hid (HBK.out q hq.2)
    have HMC := hid (HMK.out clsB q (by decide) hq.2)
    have HB8S : G ≤ w8.heap.size := by have := KG8.out.lt; omega
    cases hcl : stands s q clsB with
    | true =>
     have hm := mark_yes (t := clsB) hq.2 (by decide) (by decide) hcl
     rw [hm] at HMC
     have HST5 := hid (show (if n2 < argsN wd then .err (bl s q) 12 else .ok (.mk wd nix Rd.nulT (l2.map (·.1))) (past s q clsB)) = R from by
      have h := HST4.out
      unfold aft at h
      rw [if_pos hcl, List.length_map, HLN.out] at h
      exact h)
     clear hm hcl HST4
     generalize bl s q = bq at *
     generalize past s q clsB = pq at *
     unfold clsB at HMC
     have g0 : (0 : Int) ≤ (pq : Int) := Int.natCast_nonneg pq
     by_cases hlt : n2 < argsN wd
     ·
      have g2 : decide ((n2 : Int) < (argsN wd : Int)) = true := decide_eq_true (by omega)
      have HRE := hid (show R = .err bq 12 from (HST5.out.symm.trans (if_pos hlt)))
      go_wp2_with fail
      refine (HBQ.out _).mono ?_
      rintro e8 w4 ⟨rfl, rfl⟩
      go_wp2_with fail
      refine (HMC.out _).mono ?_
      rintro e8 w4 ⟨rfl, rfl⟩
      go_wp2_with fail
      go_quiet ((go_at_call 55; refine Calls.quiet_of_same (HAR.out _)))
      rename_i nq
      have hD : Below w8.heap.size w8 (w8.drewN nq) := below_drewN (Below.refl _ _) nq
      have KG9 := hid (KG8.out.onto hD)
      have KO9 := hid (KO8.out.onto hD)
      have HX9 := hid (HX8.out.onto hD)
      have HROW9 := hid (HROW8.out.below hD)
      have HEVS9 := hid (show EVs (w8.drewN nq) (fun k => O + 1 ≤ k ∧ k < (w8.drewN nq).heap.size ∧ some k ≠ (Value.slice A2 n2 m2).ownBlock) l2 from fun x hx => ((HEVS8.out x hx).keep fun k hk => hD.block k hk.2.1).wide fun k hk => ⟨hk.1, Nat.lt_of_lt_of_le hk.2.1 hD.size, hk.2.2⟩)
      have HB9 := hid (HB8.out.trans (hD.mono HB8S))
      clear hD b9 o8'
      generalize w8.drewN nq = w9 at *
      have HB9S : G ≤ w9.heap.size := by have := KG9.out.lt; omega
      clear KG8 KO8 HX8 HROW8 HEVS8 HB8
      go_wp2_with fail
      refine (r8wrong_any _ _ _).mono ?_
      rintro e8 w4 ⟨rfl, hb4⟩
      have KG4 := hid (KG9.out.onto hb4)
      have HB4 := hid (HB9.out.trans (hb4.mono (by omega)))
      clear hb4
      obtain ⟨y0, y1, y2, y3, y4, y5, y6, y7, y8, y9, y10, z0, z1, z2, z3, z4, z5, z6, z7, z8, z9, z10, x0, x1, x2, x3, x4, x5, x6, x7, x8, x9, x10⟩ := old11 KG4.out
      go_wp2_with fail
      refine put11_gen KG4.out _ _ _ _ _ _ _ _ _ _ _ (fun WF hf0 hf1 hf2 hf3 => ?_)
      have HF := hid hf0
      have HFB := hid ((hf1 _ _ HB4.out (Nat.le_refl G)))
      clear z0 x0 z1 x1 z2 x2 z3 x3 z4 x4 z5 x5 z6 x6 z7 x7 z8 x8 z9 x9 z10 x10
      clear hf0 hf1 hf2 hf3
      obtain ⟨c0, c1, c2, c3, c4, c5, c6, c7, c8, c9, c10⟩ := all11 HF.out
      refine bodyPost_ret (v := .agg #[.string ⟨#[]⟩, .string ⟨#[]⟩, .int .i64 0, .bool false, .int .i64 0, .string ⟨#[]⟩, .slice none 0 0, .slice none 0 0, .slice none 0 0, .int .i64 (bq : Int), .int .i64 12]) (by simp [results, Tryz.results56, go_sem, c0, c1, c2, c3, c4, c5, c6, c7, c8, c9, c10]) rfl ?_
      rw [HRE.out]
      exact ⟨by unfold wcs; rfl, by decide, by rw [HG.out]; exact HFB.out⟩
     ·
      have g2 : decide ((n2 : Int) < (argsN wd : Int)) = false := decide_eq_false (by omega)
      have HRE := hid (show R = .ok (.mk wd nix Rd.nulT (l2.map (·.1))) pq from (HST5.out.symm.trans (if_neg hlt)))
      have HMAP := hid (show (l2.map (·.1)).length = n2 from by rw [List.length_map]; exact HLN.out)
      go_wp2_with fail
      refine (HBQ.out _).mono ?_
      rintro e8 w4 ⟨rfl, rfl⟩
      go_wp2_with fail
      refine (HMC.out _).mono ?_
      rintro e8 w4 ⟨rfl, rfl⟩
      go_wp2_with fail
      go_quiet ((go_at_call 55; refine Calls.quiet_of_same (HAR.out _)))
      rename_i nq
      have hD : Below w8.heap.size w8 (w8.drewN nq) := below_drewN (Below.refl _ _) nq
      have KG9 := hid (KG8.out.onto hD)
      have KO9 := hid (KO8.out.onto hD)
      have HX9 := hid (HX8.out.onto hD)
      have HROW9 := hid (HROW8.out.below hD)
      have HEVS9 := hid (show EVs (w8.drewN nq) (fun k => O + 1 ≤ k ∧ k < (w8.drewN nq).heap.size ∧ some k ≠ (Value.slice A2 n2 m2).ownBlock) l2 from fun x hx => ((HEVS8.out x hx).keep fun k hk => hD.block k hk.2.1).wide fun k hk => ⟨hk.1, Nat.lt_of_lt_of_le hk.2.1 hD.size, hk.2.2⟩)
      have HB9 := hid (HB8.out.trans (hD.mono HB8S))
      clear hD b9 o8'
      generalize w8.drewN nq = w9 at *
      have HB9S : G ≤ w9.heap.size := by have := KG9.out.lt; omega
      clear KG8 KO8 HX8 HROW8 HEVS8 HB8
      have e0 : w9.cell? ⟨O, 0, none⟩ = some (.string wd) := KO9.out.cell 0
      have e1 : w9.cell? ⟨O, 1, none⟩ = some (.string ⟨#[]⟩) := KO9.out.cell 1
      have e2 : w9.cell? ⟨O, 2, none⟩ = some (.int .i64 0) := KO9.out.cell 2
      have e3 : w9.cell? ⟨O, 3, none⟩ = some (.bool false) := KO9.out.cell 3
      have e4 : w9.cell? ⟨O, 4, none⟩ = some (.int .i64 0) := KO9.out.cell 4
      have e5 : w9.cell? ⟨O, 5, none⟩ = some (.string ⟨#[]⟩) := KO9.out.cell 5
      have e6 : w9.cell? ⟨O, 6, none⟩ = some (.slice none 0 0) := KO9.out.cell 6
      have e7 : w9.cell? ⟨O, 7, none⟩ = some (.slice none 0 0) := KO9.out.cell 7
      have e8 : w9.cell? ⟨O, 8, none⟩ = some (.slice A2 n2 m2) := KO9.out.cell 8
      obtain ⟨y0, y1, y2, y3, y4, y5, y6, y7, y8, y9, y10, z0, z1, z2, z3, z4, z5, z6, z7, z8, z9, z10, x0, x1, x2, x3, x4, x5, x6, x7, x8, x9, x10⟩ := old11 KG9.out
      go_wp2_with fail
      refine put11_gen KG9.out _ _ _ _ _ _ _ _ _ _ _ (fun WF hf0 hf1 hf2 hf3 => ?_)
      have hszF : WF.heap.size = w9.heap.size := hf3
      have HEVF := hid (show EV WF (fun k => G ≤ k ∧ k < WF.heap.size) (.mk wd nix Rd.nulT (l2.map (·.1))) ⟨none, 0, none, 0, A2, m2⟩ from ((EV.ofRow HROW9.out HEVS9.out (by rw [HLN.out]; exact HLM.out)).keep (fun b hb' => (hf2 _ (by have := hb'.1; omega)))).wide (fun b hb' => ⟨by have := hb'.1; omega, by rw [hszF]; exact hb'.2⟩))
      clear hszF
      have HF := hid hf0
      have HFB := hid ((hf1 _ _ HB9.out (Nat.le_refl G)))
      clear z0 x0 z1 x1 z2 x2 z3 x3 z4 x4 z5 x5 z6 x6 z7 x7 z8 x8 z9 x9 z10 x10
      clear hf0 hf1 hf2 hf3
      obtain ⟨c0, c1, c2, c3, c4, c5, c6, c7, c8, c9, c10⟩ := all11 HF.out
      refine bodyPost_ret (v := .agg #[.string wd, .string ⟨#[]⟩, .int .i64 0, .bool false, .int .i64 0, .string ⟨#[]⟩, .slice none 0 0, .slice none 0 0, .slice A2 n2 m2, .int .i64 (pq : Int), .int .i64 0]) (by simp [results, Tryz.results56, go_sem, c0, c1, c2, c3, c4, c5, c6, c7, c8, c9, c10]) rfl ?_
      rw [HRE.out]
      exact ⟨⟨none, 0, none, 0, A2, m2⟩, by rw [← HMAP.out]; rfl, by rw [HG.out]; exact HEVF.out, by rw [HG.out]; exact HFB.out⟩
    | false =>
     have hm := mark_no (t := clsB) hq.2 (by decide) (by decide) hcl
     rw [hm] at HMC
     have HST5 := hid (show (if stands s q commaB = true then (if n2 < argsN wd then cal s f1 wd (l2.map (·.1)) (past s q commaB) else .err (bl s q) 12) else .err (bl s q) 1) = R from by
      have h := HST4.out
      unfold aft at h
      rw [if_neg (by rw [hcl]; decide), List.length_map, HLN.out] at h
      exact h)
     clear hm hcl HST4
     have HMA := hid (HMK.out commaB q (by decide) hq.2)
     unfold clsB at HMC
     cases hco : stands s q commaB with
     | false =>
      have hm := mark_no (t := commaB) hq.2 (by decide) (by decide) hco
      rw [hm] at HMA
      have HRE := hid (show R = .err (bl s q) 1 from (HST5.out.symm.trans (if_neg (by rw [hco]; decide))))
      clear hm hco HST5
      generalize bl s q = bq at *
      unfold commaB at HMA
      go_wp2_with fail
      refine (HBQ.out _).mono ?_
      rintro e8 w4 ⟨rfl, rfl⟩
      go_wp2_with fail
      refine (HMC.out _).mono ?_
      rintro e8 w4 ⟨rfl, rfl⟩
      go_wp2_with fail
      refine (HMA.out _).mono ?_
      rintro e8 w4 ⟨rfl, rfl⟩
      go_wp2_with fail
      refine (r8wrong_any _ _ _).mono ?_
      rintro e8 w4 ⟨rfl, hb4⟩
      have KG4 := hid (KG8.out.onto hb4)
      have HB4 := hid (HB8.out.trans (hb4.mono (by omega)))
      clear hb4
      obtain ⟨y0, y1, y2, y3, y4, y5, y6, y7, y8, y9, y10, z0, z1, z2, z3, z4, z5, z6, z7, z8, z9, z10, x0, x1, x2, x3, x4, x5, x6, x7, x8, x9, x10⟩ := old11 KG4.out
      go_wp2_with fail
      refine put11_gen KG4.out _ _ _ _ _ _ _ _ _ _ _ (fun WF hf0 hf1 hf2 hf3 => ?_)
      have HF := hid hf0
      have HFB := hid ((hf1 _ _ HB4.out (Nat.le_refl G)))
      clear z0 x0 z1 x1 z2 x2 z3 x3 z4 x4 z5 x5 z6 x6 z7 x7 z8 x8 z9 x9 z10 x10
      clear hf0 hf1 hf2 hf3
      obtain ⟨c0, c1, c2, c3, c4, c5, c6, c7, c8, c9, c10⟩ := all11 HF.out
      refine bodyPost_ret (v := .agg #[.string ⟨#[]⟩, .string ⟨#[]⟩, .int .i64 0, .bool false, .int .i64 0, .string ⟨#[]⟩, .slice none 0 0, .slice none 0 0, .slice none 0 0, .int .i64 (bq : Int), .int .i64 1]) (by simp [results, Tryz.results56, go_sem, c0, c1, c2, c3, c4, c5, c6, c7, c8, c9, c10]) rfl ?_
      rw [HRE.out]
      exact ⟨by unfold wcs; rfl, by decide, by rw [HG.out]; exact HFB.out⟩
     | true =>
      have hm := mark_yes (t := commaB) hq.2 (by decide) (by decide) hco
      rw [hm] at HMA
      obtain ⟨hs3, hs4⟩ := stands_le hq.2 hco
      have hcz : commaB.size = 1 := rfl
      have HST6 := hid (show (if n2 < argsN wd then cal s f1 wd (l2.map (·.1)) (past s q commaB) else .err (bl s q) 12) = R from (if_pos hco).symm.trans HST5.out)
      clear hm hco HST5
      generalize bl s q = bq at *
      generalize past s q commaB = pq at *
      unfold commaB at HMA
      have g1 : decide ((pq : Int) < 0) = false := decide_eq_false (by omega)
      by_cases hlt : n2 < argsN wd
      ·
       have g2 : ((n2 : Int) == (argsN wd : Int)) = false := beq_eq_false_iff_ne.2 (by omega)
       have g3 : decide ((n2 : Int) = (argsN wd : Int)) = false := decide_eq_false (by omega)
       have HST7 := hid (show cal s f1 wd (l2.map (·.1)) pq = R from (if_pos hlt).symm.trans HST6.out)
       go_wp2_with fail
       refine (HBQ.out _).mono ?_
       rintro e8 w4 ⟨rfl, rfl⟩
       go_wp2_with fail
       refine (HMC.out _).mono ?_
       rintro e8 w4 ⟨rfl, rfl⟩
       go_wp2_with fail
       refine (HMA.out _).mono ?_
       rintro e8 w4 ⟨rfl, rfl⟩
       go_wp2_with fail
       go_quiet ((go_at_call 55; refine Calls.quiet_of_same (HAR.out _)))
       rename_i nq
       have hD : Below w8.heap.size w8 (w8.drewN nq) := below_drewN (Below.refl _ _) nq
       have KG9 := hid (KG8.out.onto hD)
       have KO9 := hid (KO8.out.onto hD)
       have HX9 := hid (HX8.out.onto hD)
       have HROW9 := hid (HROW8.out.below hD)
       have HEVS9 := hid (show EVs (w8.drewN nq) (fun k => O + 1 ≤ k ∧ k < (w8.drewN nq).heap.size ∧ some k ≠ (Value.slice A2 n2 m2).ownBlock) l2 from fun x hx => ((HEVS8.out x hx).keep fun k hk => hD.block k hk.2.1).wide fun k hk => ⟨hk.1, Nat.lt_of_lt_of_le hk.2.1 hD.size, hk.2.2⟩)
       have HB9 := hid (HB8.out.trans (hD.mono HB8S))
       clear hD b9 o8'
       generalize w8.drewN nq = w9 at *
       have HB9S : G ≤ w9.heap.size := by have := KG9.out.lt; omega
       clear KG8 KO8 HX8 HROW8 HEVS8 HB8
       go_wp2_with fail
       go_roundw
       case rel => exact ⟨f1, l2, pq, A2, m2, rfl, hs4, by omega, by rw [HLN.out]; exact hlt, by rw [HLN.out]; exact HLM.out, by rw [HLN.out]; exact HROW9.out, by rw [HLN.out]; exact HEVS9.out, HB9.out, KG9.out, by rw [HLN.out]; exact KO9.out, HST7.out⟩
       case measure => simp [intOf]; omega
      ·
       have g2 : ((n2 : Int) == (argsN wd : Int)) = true := beq_iff_eq.2 (by omega)
       have g3 : decide ((n2 : Int) = (argsN wd : Int)) = true := decide_eq_true (by omega)
       have HRE := hid (show R = .err bq 12 from (HST6.out.symm.trans (if_neg hlt)))
       go_wp2_with fail
       refine (HBQ.out _).mono ?_
       rintro e8 w4 ⟨rfl, rfl⟩
       go_wp2_with fail
       refine (HMC.out _).mono ?_
       rintro e8 w4 ⟨rfl, rfl⟩
       go_wp2_with fail
       refine (HMA.out _).mono ?_
       rintro e8 w4 ⟨rfl, rfl⟩
       go_wp2_with fail
       go_quiet ((go_at_call 55; refine Calls.quiet_of_same (HAR.out _)))
       rename_i nq
       have hD : Below w8.heap.size w8 (w8.drewN nq) := below_drewN (Below.refl _ _) nq
       have KG9 := hid (KG8.out.onto hD)
       have KO9 := hid (KO8.out.onto hD)
       have HX9 := hid (HX8.out.onto hD)
       have HROW9 := hid (HROW8.out.below hD)
       have HEVS9 := hid (show EVs (w8.drewN nq) (fun k => O + 1 ≤ k ∧ k < (w8.drewN nq).heap.size ∧ some k ≠ (Value.slice A2 n2 m2).ownBlock) l2 from fun x hx => ((HEVS8.out x hx).keep fun k hk => hD.block k hk.2.1).wide fun k hk => ⟨hk.1, Nat.lt_of_lt_of_le hk.2.1 hD.size, hk.2.2⟩)
       have HB9 := hid (HB8.out.trans (hD.mono HB8S))
       clear hD b9 o8'
       generalize w8.drewN nq = w9 at *
       have HB9S : G ≤ w9.heap.size := by have := KG9.out.lt; omega
       clear KG8 KO8 HX8 HROW8 HEVS8 HB8
       go_wp2_with fail
       refine (r8wrong_any _ _ _).mono ?_
       rintro e8 w4 ⟨rfl, hb4⟩
       have KG4 := hid (KG9.out.onto hb4)
       have HB4 := hid (HB9.out.trans (hb4.mono (by omega)))
       clear hb4
       obtain ⟨y0, y1, y2, y3, y4, y5, y6, y7, y8, y9, y10, z0, z1, z2, z3, z4, z5, z6, z7, z8, z9, z10, x0, x1, x2, x3, x4, x5, x6, x7, x8, x9, x10⟩ := old11 KG4.out
       go_wp2_with fail
       refine put11_gen KG4.out _ _ _ _ _ _ _ _ _ _ _ (fun WF hf0 hf1 hf2 hf3 => ?_)
       have HF := hid hf0
       have HFB := hid ((hf1 _ _ HB4.out (Nat.le_refl G)))
       clear z0 x0 z1 x1 z2 x2 z3 x3 z4 x4 z5 x5 z6 x6 z7 x7 z8 x8 z9 x9 z10 x10
       clear hf0 hf1 hf2 hf3
       obtain ⟨c0, c1, c2, c3, c4, c5, c6, c7, c8, c9, c10⟩ := all11 HF.out
       refine bodyPost_ret (v := .agg #[.string ⟨#[]⟩, .string ⟨#[]⟩, .int .i64 0, .bool false, .int .i64 0, .string ⟨#[]⟩, .slice none 0 0, .slice none 0 0, .slice none 0 0, .int .i64 (bq : Int), .int .i64 12]) (by simp [results, Tryz.results56, go_sem, c0, c1, c2, c3, c4, c5, c6, c7, c8, c9, c10]) rfl ?_
       rw [HRE.out]
       exact ⟨by unfold wcs; rfl, by decide, by rw [HG.out]; exact HFB.out⟩
open Go.RowKit
open Tk Ex
theorem rlevs_at (s : ByteArray) (hs : s.size ≤ 2500) (f : Nat) : (∀ n, n ≤ 6 → RLev s f n) ∧ RPart s f ∧ ROne s f ∧ RCall s f := by
 induction f using Nat.strongRecOn with
 | ind f ih =>
  have hC : RCall s f := rcall_at s f hs fun f' hf => (ih f' hf).1 0 (by omega)
  cases f with
  | zero => exact ⟨fun n _ i hi hne => absurd (by rw [lev]) hne, fun i hi hne => absurd (by rw [lev]) hne, fun i hi hne => absurd (by rw [lev]) hne, hC⟩
  | succ k =>
   have hk := ih k (by omega)
   have hb : s.size ≤ 1000000 := by omega
   refine ⟨fun n hn => ?_, rpart_at s k hs hk.2.2.1 fun f' hf => (ih f' (by omega)).1 0 (by omega), r8one_at s k hs (hk.1 0 (by omega)) hk.2.2.2, hC⟩
   rcases (by omega : n = 2 ∨ n = 6 ∨ n = 0 ∨ n = 1 ∨ n = 3 ∨ n = 4 ∨ n = 5) with rfl | rfl | rfl | rfl | rfl | rfl | rfl
   · exact rlev_2 s k hb (hk.1 2 (by omega)) (hk.1 3 (by omega))
   · exact rlev_6 s k hb (hk.1 6 (by omega)) hk.2.1
   · exact rlev_n s k 0 hb (by decide) (by decide) (by decide) (fun i hi w => r8btw_0 s i w hb hi) fun f' hf => (ih f' (by omega)).1 1 (by omega)
   · exact rlev_n s k 1 hb (by decide) (by decide) (by decide) (fun i hi w => r8btw_1 s i w hb hi) fun f' hf => (ih f' (by omega)).1 2 (by omega)
   · exact rlev_n s k 3 hb (by decide) (by decide) (by decide) (fun i hi w => r8btw_3 s i w hb hi) fun f' hf => (ih f' (by omega)).1 4 (by omega)
   · exact rlev_n s k 4 hb (by decide) (by decide) (by decide) (fun i hi w => r8btw_4 s i w hb hi) fun f' hf => (ih f' (by omega)).1 5 (by omega)
   · exact rlev_n s k 5 hb (by decide) (by decide) (by decide) (fun i hi w => r8btw_5 s i w hb hi) fun f' hf => (ih f' (by omega)).1 6 (by omega)
theorem rtop_any (s : ByteArray) (i : Nat) (w : World) (hs : s.size ≤ 2500) (hi : i ≤ s.size) (hne : top s i ≠ .out) : Calls Tryz.prog 14 #[.string s, .int .i64 (i : Int), .int .i64 0] w (ReadR (top s i) w) := (rlevs_at s hs (many s)).1 0 (by decide) i hi hne w
open Go.RowKit
open Tk Ex
theorem r8depth_any : ∀ e : E, e.size ≤ 100000 → ∀ (h : Hd) (w : World) (S : Nat → Prop), (∀ q, S q → q < w.heap.size) → EV w S e h → Calls Tryz.prog 16 #[.agg (ecs e h)] w fun en w' => en = .returned (.int .i64 (e.depth : Nat)) ∧ Below w.heap.size w w' := by
 refine E.ind ?_
 intro e ih hsz h w S hS hev
 have hal := args_len e
 have hde := E.depth_eq e
 have hds : e.depth ≤ 100000 := Nat.le_trans (size_depth e) hsz
 have HIH := hid ih
 have HE := hid hev
 have HS := hid hS
 have HDE := hid hde
 have HTK := hid (fun k => deps_take e.args k)
 have HSZ := hid (fun x (hx : x ∈ e.args) => (show x.size ≤ 100000 from by have := E.mem_size hx; have := E.size_eq e; omega))
 clear ih hev hS hde
 unfold ecs
 obtain ⟨hL, hl1, hL', hl2, hA1, hc1⟩ := h
 dsimp only
 go_enter Tryz.func16, Tryz.ntmps16
 go_upto_region 1 with fail
 refine alloc_gn (fun W hW hB => ?_)
 generalize hG : w.heap.size = G at *
 have HG := hid hG
 have HW := hid hW
 have HB := hid hB
 have b8 : W.cell? ⟨G, 8, none⟩ = some (.slice hA1 e.args.length hc1) := hB.cell 8
 clear hW hB hG
 go_wp2_with fail
 clear b8
 go_loopw [3, 8] (fun y x wr => ∃ k : Nat, k ≤ e.args.length ∧ x = .int .i64 k ∧ y = .int .i64 ((1 + E.depths (e.args.take k) : Nat) : Int) ∧ Below G w wr ∧ Blk wr G 30 #[.string e.op, .string e.name, .int .i64 e.lit.kind, .bool e.lit.tr, .int .i64 e.lit.num, .string e.lit.str, .slice hL e.lit.items.length hl1, .slice hL' e.lit.keys.length hl2, .slice hA1 e.args.length hc1]) (fun _ x _ => e.args.length - (intOf x).toNat)
 case atStart => exact ⟨0, Nat.zero_le _, rfl, by simp [E.depths], HW.out, HB.out⟩
 case round =>
  obtain ⟨k, hk, rfl, rfl, hbw, hbk⟩ := hrel
  have htk := HTK.out k
  have HBW := hid hbw
  have HBK := hid hbk
  have hbs := hbk.lt
  have b8 : wr.cell? ⟨G, 8, none⟩ = some (.slice hA1 e.args.length hc1) := hbk.cell 8
  have hd1 : E.depths (e.args.take k) ≤ 100000 := by have := HDE.out; omega
  by_cases hlt : k < e.args.length
  ·
   have u1 : decide (k < e.args.length) = true := decide_eq_true hlt
   have u2 : decide ((k : Int) < (e.args.length : Int)) = true := decide_eq_true (by omega)
   have i1 : (k : Int) < (e.args.length : Int) := by omega
   have i2 : (0 : Int) ≤ (k : Int) := by omega
   have hev2 := HE.out.keep (w' := wr) (fun q hq => hbw.block q (by have := HS.out q hq; have := HG.out; omega))
   obtain ⟨b, o, x, q, hAe, hSb, hx, h9, hex⟩ := hev2.at_ hlt
   dsimp only at hAe
   subst hAe
   obtain ⟨p0, p1, p2, p3, p4, p5, p6, p7, p8⟩ := h9.cells
   have HX := hid hx
   have HXM := hid (List.mem_of_getElem? HX.out)
   have HTD := hid (take_deps HX.out)
   have hxd : x.depth ≤ 100000 := Nat.le_trans (size_depth x) (HSZ.out x HXM.out)
   have hxp := x.depth_pos
   have HI := hid (show Calls Tryz.prog 16 #[.agg #[.string x.op, .string x.name, .int .i64 x.lit.kind, .bool x.lit.tr, .int .i64 x.lit.num, .string x.lit.str, .slice q.L x.lit.items.length q.l, .slice q.L' x.lit.keys.length q.l', .slice q.A x.args.length q.c]] wr (fun en w' => en = .returned (.int .i64 (x.depth : Nat)) ∧ Below wr.heap.size wr w') from HIH.out x HXM.out (HSZ.out x HXM.out) q wr S (fun q2 hq => by have := HS.out q2 hq; have := HG.out; omega) hex)
   obtain ⟨d2, hd2⟩ : ∃ d2, E.depths (e.args.take (k + 1)) = d2 := ⟨_, rfl⟩
   have HD2 := hid hd2
   have hdd : d2 = max (E.depths (e.args.take k)) x.depth := by rw [← hd2]; exact HTD.out
   have HDD := hid hdd
   clear hex hev2 h9 hbw hbk hd2
   generalize E.depths (e.args.take k) = d1 at *
   generalize x.depth = d at *
   have e1 : max (1 + (d1 : Int)) (1 + (d : Int)) = 1 + (d2 : Int) := by rw [HDD.out]; omega
   have e2 : max ((1 + d1 : Nat) : Int) (1 + (d : Int)) = 1 + (d2 : Int) := by rw [HDD.out]; omega
   clear hdd
   go_wp2_with fail
   refine HI.out.mono ?_
   rintro en w6 ⟨rfl, hb6⟩
   have HB6 := hid (HBW.out.trans (hb6.mono (by omega)))
   have HK6 := hid (HBK.out.onto hb6)
   clear hb6 b8 p0 p1 p2 p3 p4 p5 p6 p7 p8
   go_wp2_with fail
   go_roundw
   case rel => exact ⟨k + 1, hlt, by go_num, by have := HDD.out; rw [HD2.out] <;> first | rfl | (congr 1 <;> first | done | omega | (split <;> omega)), HB6.out, HK6.out⟩
   case measure => simp only [intOf, Int.toNat_natCast]; go_num
  ·
   obtain rfl : k = e.args.length := by omega
   have u1 : decide (e.args.length < e.args.length) = false := decide_eq_false (by omega)
   have u2 : decide ((e.args.length : Int) < (e.args.length : Int)) = false := decide_eq_false (by omega)
   rw [List.take_length] at *
   have HDE2 := hid HDE.out
   generalize E.depths e.args = dd at *
   go_wp2_with fail
   go_ret
   exact ⟨by rw [HDE2.out] <;> rfl, by rw [HG.out]; exact HBW.out⟩
open Go.RowKit
open Tk Ex
end Go.Proofs.YtfbipnflgjhaiaaGreatDoor
