/- The reference's isos: Prefix. Two rows of isos that are the same. -/
import Derived.Test.YtfiahpeajccinaaGreatDoorQG
import Derived.Test.YtfiahpeajccinaaGreatDoorPF
import Derived.Test.YtfiahpeajccinaaGreatDoorPH
namespace Go.Proofs.YtfiahpeajccinaaGreatDoor
open Go.RowKit
open Tk Ex
set_option linter.unusedVariables false
set_option linter.unusedSimpArgs false

theorem infoI11 : (Tryz.prog.info? 27).map (fun i => (i.zero, i.size, i.bytes)) = some (some (.agg #[.string ⟨#[]⟩, .int .i64 0, .string ⟨#[]⟩]), 3, 40) := by kernel_rfl
theorem RowI.one {w : World} {g base : Nat} {x : Iz.Iso} (h : Blk w g 27 #[.string x.name, .int .i64 x.n, .string x.key]) (hb : base ≤ g) : RowI w base (.slice (some ⟨g, 0, none⟩) 1 1) [x] :=
  ⟨rfl, .inr ⟨g, 1, _, rfl, hb, h, Nat.le_refl _, by unfold maxLen; omega, rfl, rfl⟩⟩
theorem RowI.shape {w : World} {base : Nat} {v : Value} {l : List Iz.Iso} (h : RowI w base v l) : ∃ A c, v = .slice A l.length c ∧ l.length ≤ c := by
  rcases h.2 with ⟨rfl, h0⟩ | ⟨g, cap, cur, rfl, hb, hh, hle, hm, hs, ht⟩
  · exact ⟨none, 0, by rw [h0], by omega⟩
  · exact ⟨_, _, rfl, hle⟩
theorem RowI.lt {w : World} {base : Nat} {v : Value} {l : List Iz.Iso} (h : RowI w base v l) (k : Nat) (hk : v.ownBlock = some k) : base ≤ k ∧ k < w.heap.size := World.ownsRow.lt h k hk
theorem RowI.below {w w' : World} {base : Nat} {v : Value} {l : List Iz.Iso} (h : RowI w base v l) (hb : Below w.heap.size w w') : RowI w' base v l :=
  World.ownsRow.kept h (row := none) ⟨hb.os, hb.tape, hb.output, hb.size, fun k hk hn => hb.block k hk⟩ (by
    cases hv : v.ownBlock with
    | none => exact .inl rfl
    | some k => exact .inr (by simp))
theorem RowI.other {w w' : World} {base g : Nat} {v : Value} {l : List Iz.Iso} (h : RowI w base v l) (ha : Aside g w w') (hg : v.ownBlock ≠ some g) : RowI w' base v l :=
  World.ownsRow.kept h (row := some g) ⟨ha.os, ha.tape, ha.output, ha.size, fun k hk hn => ha.block k hk (by intro e; exact hn (by rw [e]))⟩ (by
    cases hv : v.ownBlock with
    | none => exact .inl rfl
    | some k => exact .inr (by rw [hv] at hg; exact hg))
theorem app_i {ops : Array Oper} {rest : List Oper} {o : Oper} {a : Act} {Q : Exit → Act → World → Prop} {w : World} (hgd : o.guard = none) (s x : Operand)
    (ho : o.op = .call { callee := .builtin .append, args := #[s, x], argTypes := #[37, 37] })
    (base : Nat) (v : Value) (l : List Iz.Iso) (y : Iz.Iso) (g : Nat) (hs : a.eval s = v) (hx : a.eval x = .slice (some ⟨g, 0, none⟩) 1 1) (hsrc : Blk w g 27 #[.string y.name, .int .i64 y.n, .string y.key])
    (hown : RowI w base v l) (hn : l.length ≤ 100000) (hbase : base ≤ w.heap.size)
    (h : ∀ (v' : Value) (w' : World), RowI w' base v' (l ++ [y]) → (∀ W, Below base W w → Below base W w') → w.grownBy w' v.ownBlock → (v'.ownBlock = v.ownBlock ∨ v'.ownBlock = some w.heap.size) → wpList Tryz.prog ops Q rest (a.put o.dst v') w') :
    wpList Tryz.prog ops Q (o :: rest) a w := by
  obtain ⟨i0, hi, hz0, hz1, hz2⟩ := info_iz infoI11
  unfold RowI at hown
  obtain ⟨v', w', hr, h1, h2, _, h5⟩ := run_append_own_at (P := Tryz.prog) (w := w) base 37 o.type 27 i0 _ 3 40 Tryz.underlying37 hi hz0 hz1 hz2 rfl (by decide) v _ _ hown ⟨g, 0, none⟩ 1 1 (e3 y) rfl (by
    intro j u hu
    have hadd : (⟨g, 0, none⟩ : Addr).add j = ⟨g, j, none⟩ := by unfold Addr.add; split <;> simp_all
    rw [hadd, cell_of_row _ _ j _ 27 (0, 0) hsrc, ← hu, ← Array.getElem?_toList]
    rfl) (by intro u hu; simp [e3] at hu; rcases hu with h | h | h <;> subst h <;> rfl) (by unfold maxLen; omega) (by omega) (by omega)
  refine wpList_plain hgd fun _ hK => ?_
  unfold Oper.wp execOp
  simp only [ho, resolve, invoke, builtin, Sem.run_bind, Sem.run_pure, Result.andThen_ok, List.map_toArray, List.map_cons, List.map_nil, hs, hx, hr]
  refine hK _ _ (h v' w' ?_ (fun W hW => ?_) h2 h5)
  · unfold RowI; rw [List.length_append, flat3_app]; exact h1
  · exact hW.grown h2 hbase (fun k hk => (hown.lt k hk).1)
theorem has_bar {s : ByteArray} {a : Nat} (ha : a ≤ s.size) : has s a ⟨#[124]⟩ = (bt s a == 124) := by
  unfold has
  rcases Nat.lt_or_ge a s.size with h | h
  · rw [drop_cons h]
    show ((124 : UInt8) == _ && true) = _
    rw [Bool.and_true]
    cases hb : (bt s a == 124) with
    | true =>
      have h2 : s[a]'h = 124 := (bt_eq h (by decide)).1 (show bt s a = 124 from by simpa using hb)
      rw [h2]; rfl
    | false =>
      have h2 : ¬ bt s a = 124 := by simpa using hb
      rw [beq_eq_false_iff_ne]
      intro e
      exact h2 ((bt_eq h (by decide)).2 e.symm)
  · rw [List.drop_eq_nil_of_le (by rw [size_toList]; exact h), bt_end h]
    rfl
/-- what Prefix answers -/
def PrefR (r : Iz.LRes) (w : World) (e : Ending) (w' : World) : Prop := Below w.heap.size w w' ∧ match r with
  | .ok l p => ∃ v base, w.heap.size ≤ base ∧ e = .returned (.agg #[v, .int .i64 (p : Nat), .int .i64 0]) ∧ RowI w' base v l
  | .err p c => e = .returned (.agg #[.slice none 0 0, .int .i64 (p : Nat), .int .i64 c])
  | .out => False
/-- on from a place behind isos that are read -/
def contW (s : ByteArray) (f : Nat) (acc : List Iz.Iso) (p : Nat) : Iz.LRes := if bt s (bl s p) = 124 then Iz.isosF s f acc (bl s p + 1) else .ok acc p
theorem isosF_ok {s : ByteArray} {f : Nat} {l : List Iz.Iso} {j p : Nat} {x : Iz.Iso} (h : Iz.oneI s j = .ok x p) : Iz.isosF s (f + 1) l j = contW s f (l ++ [x]) p := by
  rw [Iz.isosF, h]; rfl
/-- the place that an answer at O tells -/
def ansAt11 (w : World) (b : Nat) : Nat := match w.cell? ⟨b, 1, none⟩ with
  | some (.int _ n) => n.toNat
  | _ => 0
theorem ansAt11_of {w : World} {b : Nat} {t : TypeId} {v c : Value} {i : Nat} (h : Blk w b t #[v, .int .i64 i, c]) : ansAt11 w b = i := by
  unfold ansAt11; rw [h.cell 1]; simp
set_option maxRecDepth 100000 in
set_option maxHeartbeats 4000000 in
theorem rprefix_out (s : ByteArray) (i : Int) (w : World) (hs : s.size ≤ 2000) (hi : i < 0 ∨ (s.size : Int) < i) :
    Calls Tryz.prog 11 #[.string s, .int .i64 i] w fun e w' => e = .returned (.agg #[.slice none 0 0, .int .i64 0, .int .i64 8]) ∧ Below w.heap.size w w' := by
  by_cases h0 : i < 0
  case' pos =>
    have v1 : decide (i < 0) = true := decide_eq_true h0
    clear hi
  case' neg =>
    have v1 : decide (i < 0) = false := decide_eq_false h0
    have v2 : decide ((s.size : Int) < i) = true := decide_eq_true (by omega)
    have v3 : decide (i > (s.size : Int)) = true := v2
    clear hi
  all_goals
    go_enter Tryz.func11, Tryz.ntmps11
    go_upto_region 1 with fail
    refine alloc_gz (fun W1 hW hR => ?_)
    have HW1 := Lib.hid hW
    have HR := Lib.hid hR
    clear hW hR
    have r0 := HR.out.cell 0
    have r1 := HR.out.cell 1
    have r2 := HR.out.cell 2
    have q0 := HR.out.free 0
    have q1 := HR.out.free 1
    have q2 := HR.out.free 2
    go_wp2_with fail
    refine bodyPost_ret (v := .agg #[.slice none 0 0, .int .i64 0, .int .i64 8]) (by simp [results, Tryz.results11, go_sem, r0, r1, r2]) rfl ⟨rfl, ?_⟩
    exact below_put3 HW1.out (Nat.le_refl _) _ _ _
theorem oneR_val {r : Iz.IRes} {w w' : World} {e : Ending} (h : OneR r w e w') : (∃ g x p, r = .ok x p ∧ w.heap.size ≤ g ∧ e = .returned (.agg #[.slice (some ⟨g, 0, none⟩) 1 1, .int .i64 (p : Nat), .int .i64 0]) ∧ Blk w' g 27 #[.string x.name, .int .i64 x.n, .string x.key]) ∨ (∃ p c, r = .err p c ∧ e = .returned (.agg #[.slice none 0 0, .int .i64 (p : Nat), .int .i64 c])) := by
  unfold OneR at h
  cases r with
  | ok x p => obtain ⟨_, g, h1, h2, h3⟩ := h; exact .inl ⟨g, x, p, rfl, h1, h2, h3⟩
  | err p c => exact .inr ⟨p, c, rfl, h.2⟩
set_option maxRecDepth 100000 in
set_option maxHeartbeats 8000000 in
theorem rprefix_in (s : ByteArray) (i : Nat) (w : World) (hs : s.size ≤ 2000) (hi : i ≤ s.size) : Calls Tryz.prog 11 #[.string s, .int .i64 i] w (PrefR (Iz.isos s i) w) := by
  have HONE := Lib.hid (fun j w1 (hj : j ≤ s.size) => rone_any s j w1 hs hj)
  generalize hfr : Iz.isos s i = fr
  unfold Iz.isos at hfr
  obtain ⟨f0, hf0⟩ : ∃ f, s.size + 2 - i = f + 1 := ⟨s.size + 1 - i, by omega⟩
  rw [hf0] at hfr
  have HF := Lib.hid hfr
  have i1 : (0 : Int) ≤ (i : Int) := by omega
  have i2 : (i : Int) ≤ (s.size : Int) := by omega
  have v1 : decide ((i : Int) < 0) = false := decide_eq_false (by omega)
  have v2 : decide ((s.size : Int) < (i : Int)) = false := decide_eq_false (by omega)
  have v3 : decide ((i : Int) > (s.size : Int)) = false := v2
  have HF0 := Lib.hid hf0
  clear hfr hf0
  go_enter Tryz.func11, Tryz.ntmps11
  go_upto_region 1 with fail
  refine alloc_gz (fun W1 hW hR => ?_)
  have HW1 := Lib.hid hW
  have HR := Lib.hid hR
  have hlR := hR.lt
  clear hW hR
  go_wp2_with fail
  refine (HONE.out i _ hi).mono ?_
  rintro e w2 hg
  have hb := hg.1
  have HW2 := Lib.hid (HW1.out.trans (hb.mono HW1.out.size))
  have HR := Lib.hid (HR.out.onto hb)
  rcases oneR_val hg with ⟨g, x, p, hox, hgl, rfl, hgb⟩ | ⟨p, c, hox, rfl⟩
  · have HG := Lib.hid hgb
    have hp := Iz.oneI_le hi hox
    have HC := Lib.hid (show contW s f0 [x] p = fr from (isosF_ok (l := []) hox).symm.trans HF.out)
    clear hg hb hgb hox
    go_upto_region 4 with fail
    refine alloc_gz (fun W3 hW hO => ?_)
    obtain ⟨O, hOe⟩ : ∃ O, w2.heap.size = O := ⟨_, rfl⟩
    have hgO := HG.out.lt
    have HG := Lib.hid (HG.out.onto hW)
    have HW3 := Lib.hid (HW2.out.trans (hW.mono HW2.out.size))
    have HR := Lib.hid (HR.out.onto hW)
    rw [hOe] at hO hgO ⊢
    have hRO : w.heap.size < O := by omega
    have HO := Lib.hid hO
    have hOl := hO.lt
    have HROW := Lib.hid (RowI.one HG.out hgl)
    clear hW hO hOe HG
    go_loopw [6] (fun _ wr => ∃ (acc : List Iz.Iso) (q f : Nat) (v : Value), q ≤ s.size ∧ acc.length ≤ q ∧ s.size + 1 - q ≤ f ∧ contW s f acc q = fr ∧ Blk wr O 39 #[v, .int .i64 q, .int .i64 0] ∧ RowI wr W1.heap.size v acc ∧ v.ownBlock ≠ some O ∧ Blk wr w.heap.size 39 #[.slice none 0 0, .int .i64 0, .int .i64 0] ∧ Below w.heap.size w wr ∧ O < wr.heap.size) (fun _ wr => s.size + 1 - ansAt11 wr O)
    case atStart => exact ⟨[x], p, f0, _, hp.2, by simp; omega, by have := HF0.out; omega, HC.out, HO.out, HROW.out, by intro e; injection e with e; have e2 : g = O := e; omega, HR.out, HW3.out, hOl⟩
    case round =>
      have hsz1 := HW1.out.size
      clear HO HR HROW HW3 HC HW2 HW1
      obtain ⟨acc, q, f, v, hq, hacc, hf, hcw, hO, hrow, hvo, hR, hW, hOl⟩ := hrel
      obtain ⟨rA, rc, rfl, hrc⟩ := hrow.shape
      have HCW := Lib.hid hcw
      have HO := Lib.hid hO
      have HROW := Lib.hid hrow
      have HVO := Lib.hid hvo
      have HR := Lib.hid hR
      have HW := Lib.hid hW
      have HAT := Lib.hid (ansAt11_of hO)
      have HMK := Lib.hid (fun w1 => r8mark_any s q ⟨#[124]⟩ w1 (by omega) hq (by decide))
      have hqa := bl_ge s q
      have hqb := bl_le hq
      rw [show markP s q ⟨#[124]⟩ = if (bt s (bl s q) == 124) = true then ((bl s q + 1 : Nat) : Int) else -1 from by unfold markP; rw [has_bar hqb]; rfl] at HMK
      have hd1 : (bt s (bl s q) == 124) = true → bl s q < s.size ∧ Iz.isosF s f acc (bl s q + 1) = fr := fun h => by
        have h1 : bt s (bl s q) = 124 := by simpa using h
        exact ⟨lt_of_bt (by rw [h1]; decide), by have := HCW.out; unfold contW at this; rw [if_pos h1] at this; exact this⟩
      have hd0 : (bt s (bl s q) == 124) = false → fr = .ok acc q := fun h => by
        have h1 : ¬ bt s (bl s q) = 124 := by simpa using h
        have := HCW.out; unfold contW at this; rw [if_neg h1] at this; exact this.symm
      have HD1 := Lib.hid hd1
      have HD0 := Lib.hid hd0
      clear hcw hO hrow hvo hR hW hd1 hd0
      generalize (bt s (bl s q) == 124) = d at *
      generalize bl s q = b at *
      have o0 := HO.out.cell 0
      have o1 := HO.out.cell 1
      have o2 := HO.out.cell 2
      go_wp2_with fail
      refine (HMK.out _).mono ?_
      rintro e w4 ⟨rfl, rfl⟩
      cases d
      · have HE := Lib.hid (HD0.out (by trivial))
        rw [if_neg (by decide)]
        have r0 := HR.out.cell 0
        have r1 := HR.out.cell 1
        have r2 := HR.out.cell 2
        have q0 := HR.out.free 0
        have q1 := HR.out.free 1
        have q2 := HR.out.free 2
        go_wp2_with fail
        refine bodyPost_ret (v := .agg #[.slice rA acc.length rc, .int .i64 (q : Nat), .int .i64 0]) (by simp [results, Tryz.results11, go_sem, r0, r1, r2]) rfl ?_
        rw [HE.out]
        refine ⟨below_put3 HW.out (Nat.le_refl _) _ _ _, _, W1.heap.size, by omega, rfl, ?_⟩
        exact HROW.out.other ((((Aside.of (Below.refl wr.heap.size wr)).set (o := 0) _).set (o := 1) _).set (o := 2) _) (by intro e; have := (HROW.out.lt _ e).1; omega)
      · obtain ⟨hbl, hiso⟩ := HD1.out (by trivial)
        have HI := Lib.hid hiso
        obtain ⟨f', rfl⟩ : ∃ f', f = f' + 1 := ⟨f - 1, by omega⟩
        clear hiso
        rw [if_pos rfl]
        have m1 : decide (((b + 1 : Nat) : Int) < 0) = false := decide_eq_false (by omega)
        clear o0 o1 o2
        go_wp2_with fail
        refine (HONE.out (b + 1) _ (by omega)).mono ?_
        rintro e w5 hg
        have hb5 := hg.1
        have HO := Lib.hid (HO.out.onto hb5)
        have HROW := Lib.hid (HROW.out.below hb5)
        have HR := Lib.hid (HR.out.onto hb5)
        have HW := Lib.hid (HW.out.trans (hb5.mono HW.out.size))
        rcases oneR_val hg with ⟨g2, y, p2, hox, hgl, rfl, hgb⟩ | ⟨p2, c2, hox, rfl⟩
        · have HG := Lib.hid hgb
          have hp2 := Iz.oneI_le (by omega) hox
          have HC := Lib.hid (show contW s f' (acc ++ [y]) p2 = fr from (isosF_ok hox).symm.trans HI.out)
          have hs5 := hb5.size
          clear hg hb5 hgb hox m1
          go_upto_region 9 with fail
          refine alloc_gz (fun W6 hW hX => ?_)
          obtain ⟨X, hXe⟩ : ∃ X, w5.heap.size = X := ⟨_, rfl⟩
          have HKX := Lib.hid (fun k hk => (HROW.out.lt k hk).2)
          rw [hXe] at HKX
          have HO := Lib.hid (HO.out.onto hW)
          have HG := Lib.hid (HG.out.onto hW)
          have HROW := Lib.hid (HROW.out.below hW)
          have HR := Lib.hid (HR.out.onto hW)
          have HW := Lib.hid (HW.out.trans (hW.mono HW.out.size))
          rw [hXe] at hX hs5 ⊢
          have HX := Lib.hid hX
          have hs6 := hX.lt
          clear hW hX hXe
          have o0 := HO.out.cell 0
          have o1 := HO.out.cell 1
          have o2 := HO.out.cell 2
          have x0 := HX.out.cell 0
          have x1 := HX.out.cell 1
          have x2 := HX.out.cell 2
          go_upto_region 11 with fail
          clear o0 o1 o2 x0 x1 x2
          have o0 := HO.out.cell 0
          have o1 := HO.out.cell 1
          have o2 := HO.out.cell 2
          have x0 := HX.out.cell 0
          have x1 := HX.out.cell 1
          have x2 := HX.out.cell 2
          have f0 := HO.out.free 0
          have f1 := HO.out.free 1
          have f2 := HO.out.free 2
          have hXO : ¬ X = O := by omega
          have hOX : ¬ O = X := by omega
          clear o0 o1 o2 x0 x1 x2 f0 f1 f2
          have o0 := HO.out.cell 0
          have o1 := HO.out.cell 1
          have o2 := HO.out.cell 2
          have x0 := HX.out.cell 0
          have x1 := HX.out.cell 1
          have x2 := HX.out.cell 2
          go_wp2_with (at_builtin; refine app_i rfl (.tmp 38) (.tmp 40) rfl W1.heap.size _ acc y g2 rfl rfl HG.out HROW.out (by omega) (by omega) ?_; intro v7 w7 hrow7 hb7 hg7 ho7; obtain ⟨A7, c7, rfl, hl7⟩ := hrow7.shape; have HO7 := Lib.hid (show Blk w7 O 39 _ from (hg7.block O (by omega) (fun e => HVO.out e.symm)).trans HO.out); have HX7 := Lib.hid (show Blk w7 X 39 _ from (hg7.block X hs6 (fun e => by have := HKX.out X e.symm; omega)).trans HX.out); have HR7 := Lib.hid (show Blk w7 w.heap.size 39 _ from (hg7.block w.heap.size (by omega) (fun e => by have := (HROW.out.lt _ e.symm).1; omega)).trans HR.out); have HW7 := Lib.hid (HW.out.trans ((hb7 W6 (Below.refl _ _)).mono hsz1)); have HROW7 := Lib.hid hrow7; have HV7 := Lib.hid ho7; have hs7 := hg7.size; clear hrow7 hb7 hg7 ho7 o0 o1 o2 x0 x1 x2; have o0 := HO7.out.cell 0; have o1 := HO7.out.cell 1; have f0 := HO7.out.free 0; have f1 := HO7.out.free 1; have x1 := HX7.out.cell 1)
          have hlen : (acc ++ [y]).length = acc.length + 1 := by simp
          have hB9 : Blk ((w7.setCell ⟨O, 0, none⟩ (.slice A7 (acc.length + 1) c7)).setCell ⟨O, 1, none⟩ (.int .i64 (p2 : Nat))) O 39 #[.slice A7 (acc.length + 1) c7, .int .i64 (p2 : Nat), .int .i64 0] := (HO7.out.set_ 0 _).set_ 1 _
          have h7 := HROW7.out
          have hv7 := HV7.out
          rw [hlen] at h7 hv7
          have hvo7 : (Value.slice A7 (acc.length + 1) c7).ownBlock ≠ some O := by
            rcases hv7 with h | h
            · rw [h]; exact HVO.out
            · rw [h]; intro e; injection e with e; omega
          refine ⟨⟨acc ++ [y], p2, f', .slice A7 (acc.length + 1) c7, hp2.2, by rw [hlen]; omega, by omega, HC.out, hB9, h7.other (((Aside.of (Below.refl _ _)).set (o := 0) _).set (o := 1) _) hvo7, hvo7, (HR7.out.far (p := ⟨O, 0, none⟩) (show ¬ w.heap.size = O by omega) _).far (p := ⟨O, 1, none⟩) (show ¬ w.heap.size = O by omega) _, (HW7.out.setCell (p := ⟨O, 0, none⟩) (show w.heap.size ≤ O by omega) _).setCell (p := ⟨O, 1, none⟩) (show w.heap.size ≤ O by omega) _, hB9.lt⟩, ?_⟩
          rw [ansAt11_of hB9, HAT.out]
          omega
        · have HC := Lib.hid (show fr = .err p2 c2 from HI.out.symm.trans (isosF_err hox))
          have v4 : (c2 != 0) = true := by rw [bne_iff_ne]; exact oneI_err hox
          have v5 : ¬ c2 = 0 := oneI_err hox
          clear hg hb5 hox m1
          go_upto_region 9 with fail
          refine alloc_gz (fun W6 hW hX => ?_)
          have HR := Lib.hid (HR.out.onto hW)
          have HW := Lib.hid (HW.out.trans (hW.mono HW.out.size))
          have HX := Lib.hid hX
          clear hW hX
          have x0 := HX.out.cell 0
          have x1 := HX.out.cell 1
          have x2 := HX.out.cell 2
          have r0 := HR.out.cell 0
          have r1 := HR.out.cell 1
          have r2 := HR.out.cell 2
          have q0 := HR.out.free 0
          have q1 := HR.out.free 1
          have q2 := HR.out.free 2
          go_wp2_with fail
          refine bodyPost_ret (v := .agg #[.slice none 0 0, .int .i64 (p2 : Nat), .int .i64 c2]) (by simp [results, Tryz.results11, go_sem, r0, r1, r2]) rfl ?_
          rw [HC.out]
          exact ⟨below_put3 HW.out (Nat.le_refl _) _ _ _, rfl⟩
  · have HC := Lib.hid (show fr = .err p c from HF.out.symm.trans (isosF_err hox))
    have v4 : (c != 0) = true := by rw [bne_iff_ne]; exact oneI_err hox
    have v5 : ¬ c = 0 := oneI_err hox
    have v6 : (c == 0) = false := beq_eq_false_iff_ne.2 v5
    clear hg hb hox
    go_upto_region 4 with fail
    refine alloc_gz (fun W3 hW hO => ?_)
    have HW3 := Lib.hid (HW2.out.trans (hW.mono HW2.out.size))
    have HR := Lib.hid (HR.out.onto hW)
    have HO := Lib.hid hO
    clear hW hO
    go_loopw [6] (fun _ wr => Blk wr w2.heap.size 39 #[.slice none 0 0, .int .i64 (p : Nat), .int .i64 c] ∧ Blk wr w.heap.size 39 #[.slice none 0 0, .int .i64 0, .int .i64 0] ∧ Below w.heap.size w wr) (fun _ _ => 0)
    case atStart => exact ⟨HO.out, HR.out, HW3.out⟩
    case round =>
      obtain ⟨hO, hR, hW⟩ := hrel
      have HO := Lib.hid hO
      have HR := Lib.hid hR
      have HW := Lib.hid hW
      clear hO hR hW
      have o0 := HO.out.cell 0
      have o1 := HO.out.cell 1
      have o2 := HO.out.cell 2
      have r0 := HR.out.cell 0
      have r1 := HR.out.cell 1
      have r2 := HR.out.cell 2
      have q0 := HR.out.free 0
      have q1 := HR.out.free 1
      have q2 := HR.out.free 2
      go_wp2_with fail
      refine bodyPost_ret (v := .agg #[.slice none 0 0, .int .i64 (p : Nat), .int .i64 c]) (by simp [results, Tryz.results11, go_sem, r0, r1, r2]) rfl ?_
      rw [HC.out]
      exact ⟨below_put3 HW.out (Nat.le_refl _) _ _ _, rfl⟩
end Go.Proofs.YtfiahpeajccinaaGreatDoor
namespace Go.Proofs.YtfiahpeajccinaaGreatDoor
open Go.RowKit
open Tk Ex
set_option linter.unusedVariables false
set_option linter.unusedSimpArgs false

theorem RowI.cells {w : World} {base : Nat} {v : Value} {l : List Iz.Iso} (h : RowI w base v l) (hl : l ≠ []) :
    ∃ g c, v = .slice (some ⟨g, 0, none⟩) l.length c ∧ g < w.heap.size ∧ l.length ≤ c ∧ ∀ (k : Nat) (x : Iz.Iso), l[k]? = some x → w.cell? ⟨g, 0 + k * 3, none⟩ = some (.string x.name) ∧ w.cell? ⟨g, 0 + k * 3 + 1, none⟩ = some (.int .i64 x.n) ∧ w.cell? ⟨g, 0 + k * 3 + 2, none⟩ = some (.string x.key) := by
  have h' := h
  rcases h.2 with ⟨rfl, h0⟩ | ⟨g, cap, cur, rfl, hb, hh, hle, hm, hs, ht⟩
  · exact absurd (List.length_eq_zero_iff.1 h0) hl
  · refine ⟨g, cap, rfl, (World.ownsRow.lt h' g rfl).2, hle, fun k x hx => ?_⟩
    rw [Nat.zero_add]
    have key : ∀ j, j < 3 → w.cell? ⟨g, k * 3 + j, none⟩ = (e3 x)[j]? := fun j hj => by
      have h2 := flat3_get l k x j hx hj
      have h3 : ((⟨g, 0, none⟩ : Addr).add (k * 3 + j)) = ⟨g, k * 3 + j, none⟩ := by unfold Addr.add; split <;> simp_all
      obtain ⟨u, hu⟩ : ∃ u, (e3 x)[j]? = some u := ⟨_, List.getElem?_eq_getElem (show j < (e3 x).length by simpa [e3] using hj)⟩
      have h4 := World.ownsRow.cells h' rfl (k * 3 + j) u (h2.trans hu)
      rw [h3] at h4
      rw [h4, hu]
    exact ⟨key 0 (by omega), key 1 (by omega), key 2 (by omega)⟩
set_option maxRecDepth 100000 in
set_option maxHeartbeats 8000000 in
theorem lsame_c (l : List Iz.Iso) (g1 o1 c1 g2 o2 c2 : Nat) (w : World) (hg1 : g1 < w.heap.size) (hg2 : g2 < w.heap.size) (hl : l.length ≤ 10000) (hl1 : l.length ≤ c1) (hl2 : l.length ≤ c2)
    (hc1 : ∀ (k : Nat) (x : Iz.Iso), l[k]? = some x → w.cell? ⟨g1, o1 + k * 3, none⟩ = some (.string x.name) ∧ w.cell? ⟨g1, o1 + k * 3 + 1, none⟩ = some (.int .i64 x.n) ∧ w.cell? ⟨g1, o1 + k * 3 + 2, none⟩ = some (.string x.key))
    (hc2 : ∀ (k : Nat) (x : Iz.Iso), l[k]? = some x → w.cell? ⟨g2, o2 + k * 3, none⟩ = some (.string x.name) ∧ w.cell? ⟨g2, o2 + k * 3 + 1, none⟩ = some (.int .i64 x.n) ∧ w.cell? ⟨g2, o2 + k * 3 + 2, none⟩ = some (.string x.key)) :
    Calls Tryz.prog 12 #[.slice (some ⟨g1, o1, none⟩) l.length c1, .slice (some ⟨g2, o2, none⟩) l.length c2] w fun e w' => e = .returned (.bool true) ∧ Below w.heap.size w w' := by
  have HC1 := Lib.hid hc1
  have HC2 := Lib.hid hc2
  clear hc1 hc2
  go_enter Tryz.func12, Tryz.ntmps12
  go_wp2_with fail
  go_loopw [13] (fun i wr => ∃ k : Nat, k ≤ l.length ∧ i = .int .i64 k ∧ Below w.heap.size w wr) (fun i _ => l.length - (intOf i).toNat)
  case atStart => exact ⟨0, Nat.zero_le _, rfl, Below.refl _ _⟩
  case round =>
    obtain ⟨k, hk, rfl, hW⟩ := hrel
    by_cases hkl : k < l.length
    · obtain ⟨x, hx⟩ : ∃ x, l[k]? = some x := ⟨_, List.getElem?_eq_getElem hkl⟩
      have a := HC1.out k x hx
      have b := HC2.out k x hx
      have x0 := (hW.cell (p := ⟨g1, o1 + k * 3, none⟩) hg1).trans a.1
      have x1 := (hW.cell (p := ⟨g1, o1 + k * 3 + 1, none⟩) hg1).trans a.2.1
      have x2 := (hW.cell (p := ⟨g1, o1 + k * 3 + 2, none⟩) hg1).trans a.2.2
      have y0 := (hW.cell (p := ⟨g2, o2 + k * 3, none⟩) hg2).trans b.1
      have y1 := (hW.cell (p := ⟨g2, o2 + k * 3 + 1, none⟩) hg2).trans b.2.1
      have y2 := (hW.cell (p := ⟨g2, o2 + k * 3 + 2, none⟩) hg2).trans b.2.2
      obtain ⟨nm, N, ky⟩ := x
      dsimp only at x0 x1 x2 y0 y1 y2
      have u1 : decide ((k : Int) < (l.length : Int)) = true := decide_eq_true (by omega)
      have i1 : (k : Int) < (l.length : Int) := by omega
      have i2 : (0 : Int) ≤ (k : Int) := by omega
      have s1 : (nm.toList != nm.toList) = false := by simp
      have s2 : (N != N) = false := by simp
      have s3 : (ky.toList != ky.toList) = false := by simp
      have HW := Lib.hid hW
      clear a b hx hW
      go_wp2_with fail
      go_region
      go_wp2_with fail
      go_roundw
      case rel => exact ⟨k + 1, by omega, by go_num, HW.out.drew⟩
      case measure => simp [intOf]; omega
    · obtain rfl : k = l.length := by omega
      have HW := Lib.hid hW
      clear hW
      go_wp2_with fail
      go_ret
      exact ⟨rfl, HW.out⟩
theorem lsame_any (l : List Iz.Iso) (A B : Option Addr) (c d b1 b2 : Nat) (w : World) (hl : l.length ≤ 10000) (hne : l ≠ []) (h1 : RowZ w b1 (.slice A l.length c) l) (h2 : RowI w b2 (.slice B l.length d) l) :
    Calls Tryz.prog 12 #[.slice A l.length c, .slice B l.length d] w fun e w' => e = .returned (.bool true) ∧ Below w.heap.size w w' := by
  obtain ⟨g1, c1, e1, hg1, hl1, hc1⟩ := h1.cells hne
  obtain ⟨g2, c2, e2, hg2, hl2, hc2⟩ := h2.cells hne
  injection e1 with e1 _ e3
  injection e2 with e2 _ e4
  subst e1 e2 e3 e4
  exact lsame_c l g1 0 c g2 0 d w hg1 hg2 hl hl1 hl2 (fun k x hx => by rw [Nat.zero_add]; exact hc1 k x hx) hc2
end Go.Proofs.YtfiahpeajccinaaGreatDoor
