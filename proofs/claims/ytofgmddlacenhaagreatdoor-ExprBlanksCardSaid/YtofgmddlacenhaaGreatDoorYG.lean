/- Two trees that are the same, by the reference: contract of Same. A value without parts in the document's words: contract of the law's Ref of values. The values in a tree that is read have no parts: plain mathematics. A tree out of a row of its parts, with a value that has none. A tree in the document's words: contract of the law's Ref, of any tree whose values have no parts. What the program's and the reference's parsers answer, in one form: a tree (the empty one beside an error), a place, an error's number. -/
import Derived.Deep.DeepCutAuto
import Derived.Deep.RegionLaw
import Derived.Test.YtofgmddlacenhaaGreatDoorYF
set_option linter.unusedVariables false
set_option maxRecDepth 100000
set_option maxHeartbeats 8000000
open Go.Lib (hid)
namespace Go.Proofs.YtofgmddlacenhaaGreatDoor
open Go.RowKit
open Tk Ex
inductive Lf : E → Prop
 | mk (e : E) (h1 : e.lit.items = []) (h2 : e.lit.keys = []) (h3 : ∀ x ∈ e.args, Lf x) : Lf e
theorem Lf.i {e : E} (h : Lf e) : e.lit.items = [] := by cases h; assumption
theorem Lf.k {e : E} (h : Lf e) : e.lit.keys = [] := by cases h; assumption
theorem Lf.a {e : E} (h : Lf e) : ∀ x ∈ e.args, Lf x := by cases h; assumption
theorem rsame_leafT (t : T) (A : Option Addr) (c : Nat) (A' : Option Addr) (c' : Nat) (B : Option Addr) (d : Nat) (B' : Option Addr) (d' : Nat) (w : World) :
 Calls Tryz.prog 32 #[.agg #[.int .i64 t.kind, .bool t.tr, .int .i64 t.num, .string t.str, .slice A 0 c, .slice A' 0 c'], .agg #[.int .i64 t.kind, .bool t.tr, .int .i64 t.num, .string t.str, .slice B 0 d, .slice B' 0 d']] w fun e w' => e = .returned (.bool true) ∧ Below w.heap.size w w' := by
 have q0 : (t.kind == t.kind) = true := by simp
 have q1 : (t.tr == t.tr) = true := by simp
 have q2 : (t.num == t.num) = true := by simp
 have q3 : (t.str.toList == t.str.toList) = true := by simp
 go_enter Tryz.func32, Tryz.ntmps32
 go_upto_region 1 with fail
 have hW : Below w.heap.size w ((w.alloc (.cells #[.int .i64 t.kind, .bool t.tr, .int .i64 t.num, .string t.str, .slice A 0 c, .slice A' 0 c'] 26)).alloc (.cells #[.int .i64 t.kind, .bool t.tr, .int .i64 t.num, .string t.str, .slice B 0 d, .slice B' 0 d'] 26)) := ((Below.refl _ _).alloc (Nat.le_refl _) _).alloc (by simp) _
 have kA : Blk ((w.alloc (.cells #[.int .i64 t.kind, .bool t.tr, .int .i64 t.num, .string t.str, .slice A 0 c, .slice A' 0 c'] 26)).alloc (.cells #[.int .i64 t.kind, .bool t.tr, .int .i64 t.num, .string t.str, .slice B 0 d, .slice B' 0 d'] 26)) w.heap.size 26 #[.int .i64 t.kind, .bool t.tr, .int .i64 t.num, .string t.str, .slice A 0 c, .slice A' 0 c'] := (Blk.new w _ _).alloc _
 have kB : Blk ((w.alloc (.cells #[.int .i64 t.kind, .bool t.tr, .int .i64 t.num, .string t.str, .slice A 0 c, .slice A' 0 c'] 26)).alloc (.cells #[.int .i64 t.kind, .bool t.tr, .int .i64 t.num, .string t.str, .slice B 0 d, .slice B' 0 d'] 26)) (w.heap.size + 1) 26 #[.int .i64 t.kind, .bool t.tr, .int .i64 t.num, .string t.str, .slice B 0 d, .slice B' 0 d'] := by
  have := Blk.new (w.alloc (.cells #[.int .i64 t.kind, .bool t.tr, .int .i64 t.num, .string t.str, .slice A 0 c, .slice A' 0 c'] 26)) 26 #[.int .i64 t.kind, .bool t.tr, .int .i64 t.num, .string t.str, .slice B 0 d, .slice B' 0 d']
  simpa using this
 change Code.wp _ _ _ _ ((w.alloc (.cells #[.int .i64 t.kind, .bool t.tr, .int .i64 t.num, .string t.str, .slice A 0 c, .slice A' 0 c'] 26)).alloc (.cells #[.int .i64 t.kind, .bool t.tr, .int .i64 t.num, .string t.str, .slice B 0 d, .slice B' 0 d'] 26))
 generalize ((w.alloc (.cells #[.int .i64 t.kind, .bool t.tr, .int .i64 t.num, .string t.str, .slice A 0 c, .slice A' 0 c'] 26)).alloc (.cells #[.int .i64 t.kind, .bool t.tr, .int .i64 t.num, .string t.str, .slice B 0 d, .slice B' 0 d'] 26)) = W at *
 have a0 := kA.cell 0
 have a1 := kA.cell 1
 have a2 := kA.cell 2
 have a3 := kA.cell 3
 have a4 := kA.cell 4
 have a5 := kA.cell 5
 have b0 := kB.cell 0
 have b1 := kB.cell 1
 have b2 := kB.cell 2
 have b3 := kB.cell 3
 have b4 := kB.cell 4
 have b5 := kB.cell 5
 have HW := hid hW
 clear hW kA kB
 go_wp2_with fail
 go_loopw [54] (fun x wr => x = .int .i64 0 ∧ wr = W) (fun _ _ => 0)
 case atStart => exact ⟨rfl, rfl⟩
 case round =>
  obtain ⟨rfl, rfl⟩ := hrel
  go_wp2_with fail
  go_loopw [72] (fun x wr2 => x = .int .i64 0 ∧ wr2 = wr) (fun _ _ => 0)
  case atStart => exact ⟨rfl, rfl⟩
  case round =>
   obtain ⟨rfl, rfl⟩ := hrel
   go_wp2_with fail
   go_ret
   exact ⟨rfl, HW.out⟩
theorem r8same_any : ∀ e : E, e.size ≤ 100000 → Lf e → ∀ (aL : Option Addr) (al : Nat) (aM : Option Addr) (am : Nat) (aA : Option Addr) (ac : Nat) (bL : Option Addr) (bl : Nat) (bM : Option Addr) (bm : Nat) (bA : Option Addr) (bc : Nat) (w : World), EV w (· < w.heap.size) e ⟨aL, al, aM, am, aA, ac⟩ → EV w (· < w.heap.size) e ⟨bL, bl, bM, bm, bA, bc⟩ →
 Calls Tryz.prog 13 #[.agg #[.string e.op, .string e.name, .int .i64 e.lit.kind, .bool e.lit.tr, .int .i64 e.lit.num, .string e.lit.str, .slice aL 0 al, .slice aM 0 am, .slice aA e.args.length ac], .agg #[.string e.op, .string e.name, .int .i64 e.lit.kind, .bool e.lit.tr, .int .i64 e.lit.num, .string e.lit.str, .slice bL 0 bl, .slice bM 0 bm, .slice bA e.args.length bc]] w fun en w' => en = .returned (.bool true) ∧ Below w.heap.size w w' := by
 refine E.ind ?_
 intro e ih hsz hlf aL al aM am aA ac bL bl bM bm bA bc w hva hvb
 have hal := args_len e
 have HIH := hid ih
 have HLF := hid hlf.a
 have HVA := hid hva
 have HVB := hid hvb
 have HSZ := hid (fun x (hx : x ∈ e.args) => (show x.size ≤ 100000 from by have := E.mem_size hx; have := E.size_eq e; omega))
 have q0 : (e.op.toList == e.op.toList) = true := by simp
 have q1 : (e.name.toList == e.name.toList) = true := by simp
 clear ih hlf hva hvb
 go_enter Tryz.func13, Tryz.ntmps13
 go_upto_region 1 with fail
 have hW : Below w.heap.size w ((w.alloc (.cells #[.string e.op, .string e.name, .int .i64 e.lit.kind, .bool e.lit.tr, .int .i64 e.lit.num, .string e.lit.str, .slice aL 0 al, .slice aM 0 am, .slice aA e.args.length ac] 29)).alloc (.cells #[.string e.op, .string e.name, .int .i64 e.lit.kind, .bool e.lit.tr, .int .i64 e.lit.num, .string e.lit.str, .slice bL 0 bl, .slice bM 0 bm, .slice bA e.args.length bc] 29)) := ((Below.refl _ _).alloc (Nat.le_refl _) _).alloc (by simp) _
 have kA : Blk ((w.alloc (.cells #[.string e.op, .string e.name, .int .i64 e.lit.kind, .bool e.lit.tr, .int .i64 e.lit.num, .string e.lit.str, .slice aL 0 al, .slice aM 0 am, .slice aA e.args.length ac] 29)).alloc (.cells #[.string e.op, .string e.name, .int .i64 e.lit.kind, .bool e.lit.tr, .int .i64 e.lit.num, .string e.lit.str, .slice bL 0 bl, .slice bM 0 bm, .slice bA e.args.length bc] 29)) w.heap.size 29 #[.string e.op, .string e.name, .int .i64 e.lit.kind, .bool e.lit.tr, .int .i64 e.lit.num, .string e.lit.str, .slice aL 0 al, .slice aM 0 am, .slice aA e.args.length ac] := (Blk.new w _ _).alloc _
 have kB : Blk ((w.alloc (.cells #[.string e.op, .string e.name, .int .i64 e.lit.kind, .bool e.lit.tr, .int .i64 e.lit.num, .string e.lit.str, .slice aL 0 al, .slice aM 0 am, .slice aA e.args.length ac] 29)).alloc (.cells #[.string e.op, .string e.name, .int .i64 e.lit.kind, .bool e.lit.tr, .int .i64 e.lit.num, .string e.lit.str, .slice bL 0 bl, .slice bM 0 bm, .slice bA e.args.length bc] 29)) (w.heap.size + 1) 29 #[.string e.op, .string e.name, .int .i64 e.lit.kind, .bool e.lit.tr, .int .i64 e.lit.num, .string e.lit.str, .slice bL 0 bl, .slice bM 0 bm, .slice bA e.args.length bc] := by
  have := Blk.new (w.alloc (.cells #[.string e.op, .string e.name, .int .i64 e.lit.kind, .bool e.lit.tr, .int .i64 e.lit.num, .string e.lit.str, .slice aL 0 al, .slice aM 0 am, .slice aA e.args.length ac] 29)) 29 #[.string e.op, .string e.name, .int .i64 e.lit.kind, .bool e.lit.tr, .int .i64 e.lit.num, .string e.lit.str, .slice bL 0 bl, .slice bM 0 bm, .slice bA e.args.length bc]
  simpa using this
 change Code.wp _ _ _ _ ((w.alloc (.cells #[.string e.op, .string e.name, .int .i64 e.lit.kind, .bool e.lit.tr, .int .i64 e.lit.num, .string e.lit.str, .slice aL 0 al, .slice aM 0 am, .slice aA e.args.length ac] 29)).alloc (.cells #[.string e.op, .string e.name, .int .i64 e.lit.kind, .bool e.lit.tr, .int .i64 e.lit.num, .string e.lit.str, .slice bL 0 bl, .slice bM 0 bm, .slice bA e.args.length bc] 29))
 generalize ((w.alloc (.cells #[.string e.op, .string e.name, .int .i64 e.lit.kind, .bool e.lit.tr, .int .i64 e.lit.num, .string e.lit.str, .slice aL 0 al, .slice aM 0 am, .slice aA e.args.length ac] 29)).alloc (.cells #[.string e.op, .string e.name, .int .i64 e.lit.kind, .bool e.lit.tr, .int .i64 e.lit.num, .string e.lit.str, .slice bL 0 bl, .slice bM 0 bm, .slice bA e.args.length bc] 29)) = W at *
 generalize hG : w.heap.size = G at *
 have a0 := kA.cell 0
 have b0 := kB.cell 0
 have a1 := kA.cell 1
 have b1 := kB.cell 1
 have a2 := kA.cell 2
 have b2 := kB.cell 2
 have a3 := kA.cell 3
 have b3 := kB.cell 3
 have a4 := kA.cell 4
 have b4 := kB.cell 4
 have a5 := kA.cell 5
 have b5 := kB.cell 5
 have a6 := kA.cell 6
 have b6 := kB.cell 6
 have a7 := kA.cell 7
 have b7 := kB.cell 7
 have a8 := kA.cell 8
 have b8 := kB.cell 8
 have HG := hid hG
 have HW := hid hW
 have HA := hid kA
 have HB := hid kB
 have hs := kB.lt
 clear hW kA kB hG
 go_wp2_with fail
 refine (rsame_leafT e.lit aL al aM am bL bl bM bm _).mono ?_
 rintro en w2 ⟨rfl, hb2⟩
 have HW2 := hid (HW.out.trans (hb2.mono (by omega)))
 have HA2 := hid (HA.out.onto hb2)
 have HB2 := hid (HB.out.onto hb2)
 have e8 : w2.cell? ⟨G, 8, none⟩ = some (.slice aA e.args.length ac) := HA2.out.cell 8
 have f8 : w2.cell? ⟨G + 1, 8, none⟩ = some (.slice bA e.args.length bc) := HB2.out.cell 8
 clear hb2 a0 b0 a1 b1 a2 b2 a3 b3 a4 b4 a5 b5 a6 b6 a7 b7 a8 b8 HW HA HB
 go_wp2_with fail
 go_loopw [38] (fun v wr => ∃ k : Nat, k ≤ e.args.length ∧ v = .int .i64 k ∧ Blk wr G 29 #[.string e.op, .string e.name, .int .i64 e.lit.kind, .bool e.lit.tr, .int .i64 e.lit.num, .string e.lit.str, .slice aL 0 al, .slice aM 0 am, .slice aA e.args.length ac] ∧ Blk wr (G + 1) 29 #[.string e.op, .string e.name, .int .i64 e.lit.kind, .bool e.lit.tr, .int .i64 e.lit.num, .string e.lit.str, .slice bL 0 bl, .slice bM 0 bm, .slice bA e.args.length bc] ∧ Below G w wr) (fun v _ => e.args.length - (intOf v).toNat)
 case atStart => exact ⟨0, Nat.zero_le _, rfl, HA2.out, HB2.out, HW2.out⟩
 case round =>
  clear e8 f8
  obtain ⟨k, hk, rfl, ka, kb, hbw⟩ := hrel
  have HA3 := hid ka
  have HB3 := hid kb
  have HBW := hid hbw
  have hbs := kb.lt
  have e8 : wr.cell? ⟨G, 8, none⟩ = some (.slice aA e.args.length ac) := ka.cell 8
  have f8 : wr.cell? ⟨G + 1, 8, none⟩ = some (.slice bA e.args.length bc) := kb.cell 8
  clear ka kb
  by_cases hlt : k < e.args.length
  ·
   have u1 : decide (k < e.args.length) = true := decide_eq_true hlt
   have u2 : decide ((k : Int) < (e.args.length : Int)) = true := decide_eq_true (by omega)
   have i1 : (k : Int) < (e.args.length : Int) := by omega
   have i2 : (0 : Int) ≤ (k : Int) := by omega
   have hva2 := HVA.out.keep (w' := wr) (fun q hq => hbw.block q (by have := HG.out; omega))
   have hvb2 := HVB.out.keep (w' := wr) (fun q hq => hbw.block q (by have := HG.out; omega))
   obtain ⟨b, o, x, q, hAe, hSb, hx, h9, hex⟩ := hva2.at_ hlt
   obtain ⟨b', o', x', q', hBe, hSb', hx', h9', hex'⟩ := hvb2.at_ hlt
   dsimp only at hAe hBe
   obtain rfl : x = x' := by rw [hx] at hx'; injection hx'
   subst hAe hBe
   have hxm := List.mem_of_getElem? hx
   have hlx := HLF.out x hxm
   have hxi := hlx.i
   have hxk := hlx.k
   have hss := (⟨h9.cells, h9'.cells⟩ : _ ∧ _)
   simp only [hxi, hxk, List.length_nil] at hss
   have HSS := hid (show ∀ w', Below wr.heap.size wr w' → w'.cell? ⟨G, 8, none⟩ = some (.slice (some ⟨b, o, none⟩) e.args.length ac) ∧ w'.cell? ⟨G + 1, 8, none⟩ = some (.slice (some ⟨b', o', none⟩) e.args.length bc) ∧ w'.cell? ⟨b, o + k * 9, none⟩ = some (.string x.op) ∧ w'.cell? ⟨b, o + k * 9 + 1, none⟩ = some (.string x.name) ∧ w'.cell? ⟨b, o + k * 9 + 2, none⟩ = some (.int .i64 x.lit.kind) ∧ w'.cell? ⟨b, o + k * 9 + 3, none⟩ = some (.bool x.lit.tr) ∧ w'.cell? ⟨b, o + k * 9 + 4, none⟩ = some (.int .i64 x.lit.num) ∧ w'.cell? ⟨b, o + k * 9 + 5, none⟩ = some (.string x.lit.str) ∧ w'.cell? ⟨b, o + k * 9 + 6, none⟩ = some (.slice q.L 0 q.l) ∧ w'.cell? ⟨b, o + k * 9 + 7, none⟩ = some (.slice q.L' 0 q.l') ∧ w'.cell? ⟨b, o + k * 9 + 8, none⟩ = some (.slice q.A x.args.length q.c) ∧ w'.cell? ⟨b', o' + k * 9, none⟩ = some (.string x.op) ∧ w'.cell? ⟨b', o' + k * 9 + 1, none⟩ = some (.string x.name) ∧ w'.cell? ⟨b', o' + k * 9 + 2, none⟩ = some (.int .i64 x.lit.kind) ∧ w'.cell? ⟨b', o' + k * 9 + 3, none⟩ = some (.bool x.lit.tr) ∧ w'.cell? ⟨b', o' + k * 9 + 4, none⟩ = some (.int .i64 x.lit.num) ∧ w'.cell? ⟨b', o' + k * 9 + 5, none⟩ = some (.string x.lit.str) ∧ w'.cell? ⟨b', o' + k * 9 + 6, none⟩ = some (.slice q'.L 0 q'.l) ∧ w'.cell? ⟨b', o' + k * 9 + 7, none⟩ = some (.slice q'.L' 0 q'.l') ∧ w'.cell? ⟨b', o' + k * 9 + 8, none⟩ = some (.slice q'.A x.args.length q'.c) from fun w' hb => by
    have hkk : ∀ g j, g < wr.heap.size → w'.cell? ⟨g, j, none⟩ = wr.cell? ⟨g, j, none⟩ := fun g j hg => (Keeps.of_below (B := wr.heap.size) hb).cell hg j
    have hg1 : b < wr.heap.size := by have := HG.out; omega
    have hg2 : b' < wr.heap.size := by have := HG.out; omega
    simp only [hkk _ _ (show G < wr.heap.size by omega), hkk _ _ (show G + 1 < wr.heap.size by omega), hkk _ _ hg1, hkk _ _ hg2]
    obtain ⟨⟨p0, p1, p2, p3, p4, p5, p6, p7, p8⟩, r0, r1, r2, r3, r4, r5, r6, r7, r8⟩ := hss
    exact ⟨e8, f8, p0, p1, p2, p3, p4, p5, p6, p7, p8, r0, r1, r2, r3, r4, r5, r6, r7, r8⟩)
   have HX := hid (show ∀ w', Below wr.heap.size wr w' → Calls Tryz.prog 13 #[.agg #[.string x.op, .string x.name, .int .i64 x.lit.kind, .bool x.lit.tr, .int .i64 x.lit.num, .string x.lit.str, .slice q.L 0 q.l, .slice q.L' 0 q.l', .slice q.A x.args.length q.c], .agg #[.string x.op, .string x.name, .int .i64 x.lit.kind, .bool x.lit.tr, .int .i64 x.lit.num, .string x.lit.str, .slice q'.L 0 q'.l, .slice q'.L' 0 q'.l', .slice q'.A x.args.length q'.c]] w' (fun en w'' => en = .returned (.bool true) ∧ Below w'.heap.size w' w'') from fun w' hb =>
    HIH.out x hxm (HSZ.out x hxm) hlx q.L q.l q.L' q.l' q.A q.c q'.L q'.l q'.L' q'.l' q'.A q'.c w'
     (((hex.wide (fun g hg => show g < wr.heap.size by have := HG.out; omega)).on hb)) (((hex'.wide (fun g hg => show g < wr.heap.size by have := HG.out; omega)).on hb)))
   clear hss hva2 hvb2 h9 h9' hex hex' hx hx' hxm hlx hxi hxk hbw
   go_wp2_with fail
   go_region_held3 (fun w' => w'.cell? ⟨G, 8, none⟩ = some (.slice (some ⟨b, o, none⟩) e.args.length ac) ∧ w'.cell? ⟨G + 1, 8, none⟩ = some (.slice (some ⟨b', o', none⟩) e.args.length bc) ∧ w'.cell? ⟨b, o + k * 9, none⟩ = some (.string x.op) ∧ w'.cell? ⟨b, o + k * 9 + 1, none⟩ = some (.string x.name) ∧ w'.cell? ⟨b, o + k * 9 + 2, none⟩ = some (.int .i64 x.lit.kind) ∧ w'.cell? ⟨b, o + k * 9 + 3, none⟩ = some (.bool x.lit.tr) ∧ w'.cell? ⟨b, o + k * 9 + 4, none⟩ = some (.int .i64 x.lit.num) ∧ w'.cell? ⟨b, o + k * 9 + 5, none⟩ = some (.string x.lit.str) ∧ w'.cell? ⟨b, o + k * 9 + 6, none⟩ = some (.slice q.L 0 q.l) ∧ w'.cell? ⟨b, o + k * 9 + 7, none⟩ = some (.slice q.L' 0 q.l') ∧ w'.cell? ⟨b, o + k * 9 + 8, none⟩ = some (.slice q.A x.args.length q.c) ∧ w'.cell? ⟨b', o' + k * 9, none⟩ = some (.string x.op) ∧ w'.cell? ⟨b', o' + k * 9 + 1, none⟩ = some (.string x.name) ∧ w'.cell? ⟨b', o' + k * 9 + 2, none⟩ = some (.int .i64 x.lit.kind) ∧ w'.cell? ⟨b', o' + k * 9 + 3, none⟩ = some (.bool x.lit.tr) ∧ w'.cell? ⟨b', o' + k * 9 + 4, none⟩ = some (.int .i64 x.lit.num) ∧ w'.cell? ⟨b', o' + k * 9 + 5, none⟩ = some (.string x.lit.str) ∧ w'.cell? ⟨b', o' + k * 9 + 6, none⟩ = some (.slice q'.L 0 q'.l) ∧ w'.cell? ⟨b', o' + k * 9 + 7, none⟩ = some (.slice q'.L' 0 q'.l') ∧ w'.cell? ⟨b', o' + k * 9 + 8, none⟩ = some (.slice q'.A x.args.length q'.c)) (first
    | with_reducible exact HSS.out _ HBX.out
    | with_reducible exact HSS.out _ (below_drewN (Below.refl _ _) _)
    | exact HSS.out _ (Below.refl _ _).drew
    | go_keep)
    (first
     | (
      go_at_call 13
      refine (HX.out _ (Below.refl _ _).drew).mono ?_
      rintro en w4 ⟨rfl, hb4⟩
      have HBX := hid (show Below wr.heap.size wr w4 from (Below.refl _ _).drew.trans hb4)
      clear hb4))
   go_wp2_with fail
   go_roundw
   case rel => exact ⟨k + 1, hlt, by go_num, HA3.out.onto HBX.out, HB3.out.onto HBX.out, HBW.out.trans (HBX.out.mono (by omega))⟩
   case measure => simp [intOf]; omega
  ·
   obtain rfl : k = e.args.length := by omega
   have u1 : decide (e.args.length < e.args.length) = false := decide_eq_false (by omega)
   have u2 : decide ((e.args.length : Int) < (e.args.length : Int)) = false := decide_eq_false (by omega)
   go_wp2_with fail
   go_ret
   exact ⟨rfl, by rw [HG.out]; exact HBW.out⟩
open Go.RowKit
open Tk Ex
theorem ref_leafT (t : T) (A : Option Addr) (c : Nat) (A' : Option Addr) (c' : Nat) (w : World) :
 Calls Tryz.prog 33 #[.agg #[.int .i64 t.kind, .bool t.tr, .int .i64 t.num, .string t.str, .slice A 0 c, .slice A' 0 c']] w fun e w' => e = .returned (.agg #[.int .i64 t.kind, .bool t.tr, .int .i64 t.num, .string t.str, .slice none 0 0, .slice A' 0 c']) ∧ Below w.heap.size w w' := by
 go_enter Tryz.func33, Tryz.ntmps33
 go_upto_region 1 with fail
 have hW : Below w.heap.size w ((w.alloc (.cells #[.int .i64 t.kind, .bool t.tr, .int .i64 t.num, .string t.str, .slice A 0 c, .slice A' 0 c'] 35)).alloc (.cells #[.int .i64 0, .bool false, .int .i64 0, .string ⟨#[]⟩, .slice none 0 0, .slice none 0 0] 26)) := ((Below.refl _ _).alloc (Nat.le_refl _) _).alloc (by simp) _
 have kA : Blk ((w.alloc (.cells #[.int .i64 t.kind, .bool t.tr, .int .i64 t.num, .string t.str, .slice A 0 c, .slice A' 0 c'] 35)).alloc (.cells #[.int .i64 0, .bool false, .int .i64 0, .string ⟨#[]⟩, .slice none 0 0, .slice none 0 0] 26)) w.heap.size 35 #[.int .i64 t.kind, .bool t.tr, .int .i64 t.num, .string t.str, .slice A 0 c, .slice A' 0 c'] := (Blk.new w _ _).alloc _
 have kB : Blk ((w.alloc (.cells #[.int .i64 t.kind, .bool t.tr, .int .i64 t.num, .string t.str, .slice A 0 c, .slice A' 0 c'] 35)).alloc (.cells #[.int .i64 0, .bool false, .int .i64 0, .string ⟨#[]⟩, .slice none 0 0, .slice none 0 0] 26)) (w.heap.size + 1) 26 #[.int .i64 0, .bool false, .int .i64 0, .string ⟨#[]⟩, .slice none 0 0, .slice none 0 0] := by
  have := Blk.new (w.alloc (.cells #[.int .i64 t.kind, .bool t.tr, .int .i64 t.num, .string t.str, .slice A 0 c, .slice A' 0 c'] 35)) 26 #[.int .i64 0, .bool false, .int .i64 0, .string ⟨#[]⟩, .slice none 0 0, .slice none 0 0]
  simpa using this
 change Code.wp _ _ _ _ ((w.alloc (.cells #[.int .i64 t.kind, .bool t.tr, .int .i64 t.num, .string t.str, .slice A 0 c, .slice A' 0 c'] 35)).alloc (.cells #[.int .i64 0, .bool false, .int .i64 0, .string ⟨#[]⟩, .slice none 0 0, .slice none 0 0] 26))
 generalize ((w.alloc (.cells #[.int .i64 t.kind, .bool t.tr, .int .i64 t.num, .string t.str, .slice A 0 c, .slice A' 0 c'] 35)).alloc (.cells #[.int .i64 0, .bool false, .int .i64 0, .string ⟨#[]⟩, .slice none 0 0, .slice none 0 0] 26)) = W at *
 have a0 := kA.cell 0
 have a1 := kA.cell 1
 have a2 := kA.cell 2
 have a3 := kA.cell 3
 have a4 := kA.cell 4
 have a5 := kA.cell 5
 have HW := hid hW
 have HA := hid kA
 have HB := hid kB
 have hs := hW.size
 clear hW kA kB
 go_upto_region 2 with fail
 clear a0 a1 a2 a3 a4 a5
 have hW2 : Below W.heap.size W (W.alloc (.cells #[.int .i64 t.kind, .bool t.tr, .int .i64 t.num, .string t.str, .slice none 0 0, .slice A' 0 c'] 26)) := (Below.refl _ _).alloc (Nat.le_refl _) _
 have kC := Blk.new W 26 #[.int .i64 t.kind, .bool t.tr, .int .i64 t.num, .string t.str, .slice none 0 0, .slice A' 0 c']
 change Code.wp _ _ _ _ (W.alloc (.cells #[.int .i64 t.kind, .bool t.tr, .int .i64 t.num, .string t.str, .slice none 0 0, .slice A' 0 c'] 26))
 have kA := HA.out.onto hW2
 have kB := HB.out.onto hW2
 have HW2 := hid (HW.out.trans (hW2.mono hs))
 generalize (W.alloc (.cells #[.int .i64 t.kind, .bool t.tr, .int .i64 t.num, .string t.str, .slice none 0 0, .slice A' 0 c'] 26)) = W2 at *
 generalize W.heap.size = g at *
 have a4 := kA.cell 4
 have HC := hid kC
 have HB2 := hid kB
 clear hW2 kA kB kC HA HB HW
 go_wp2_with fail
 clear a4
 go_loopw [20] (fun x wr => x = .int .i64 0 ∧ wr = W2) (fun _ _ => 0)
 case atStart => exact ⟨rfl, rfl⟩
 case round =>
  obtain ⟨rfl, rfl⟩ := hrel
  have c0 := HC.out.cell 0
  have c1 := HC.out.cell 1
  have c2 := HC.out.cell 2
  have c3 := HC.out.cell 3
  have c4 := HC.out.cell 4
  have c5 := HC.out.cell 5
  have r0 := HB2.out.cell 0
  have r1 := HB2.out.cell 1
  have r2 := HB2.out.cell 2
  have r3 := HB2.out.cell 3
  have r4 := HB2.out.cell 4
  have r5 := HB2.out.cell 5
  have x0 := HB2.out.free 0
  have x1 := HB2.out.free 1
  have x2 := HB2.out.free 2
  have x3 := HB2.out.free 3
  have x4 := HB2.out.free 4
  have x5 := HB2.out.free 5
  go_wp2_with fail
  refine bodyPost_ret (v := .agg #[.int .i64 t.kind, .bool t.tr, .int .i64 t.num, .string t.str, .slice none 0 0, .slice A' 0 c']) (by simp [results, Tryz.results33, go_sem, r0, r1, r2, r3, r4, r5]) rfl ⟨rfl, ?_⟩
  have hq : w.heap.size ≤ w.heap.size + 1 := Nat.le_succ _
  exact (((((HW2.out.setCell hq _).setCell hq _).setCell hq _).setCell hq _).setCell hq _).setCell hq _
open Tk Ex
def LfR (r : Res) : Prop := ∀ e p, r = .ok e p → Lf e
theorem lf_err {p : Nat} {c : Int} : LfR (.err p c) := fun e q h => by cases h
theorem lf_out : LfR .out := fun e q h => by cases h
theorem lf_ok {e : E} {p : Nat} (h : Lf e) : LfR (.ok e p) := fun e' p' k => by injection k with k1 k2; subst k1; exact h
theorem lf_nil {o n : ByteArray} {v : T} (h1 : v.items = []) (h2 : v.keys = []) : Lf (.mk o n v []) := .mk _ h1 h2 (fun x hx => by simp [E.args] at hx)
theorem lf_one {o n : ByteArray} {e : E} (h : Lf e) : Lf (.mk o n Rd.nulT [e]) := .mk _ rfl rfl (fun x hx => by simp [E.args] at hx; subst hx; exact h)
theorem lf_two {o n : ByteArray} {e y : E} (h : Lf e) (k : Lf y) : Lf (.mk o n Rd.nulT [e, y]) := .mk _ rfl rfl (fun x hx => by simp [E.args] at hx; rcases hx with rfl | rfl <;> assumption)
theorem lf_row {o n : ByteArray} {l : List E} (h : ∀ x ∈ l, Lf x) : Lf (.mk o n Rd.nulT l) := .mk _ rfl rfl h
theorem lf_snoc {l : List E} {y : E} (h : ∀ x ∈ l, Lf x) (k : Lf y) : ∀ x ∈ l ++ [y], Lf x := fun x hx => by
 rcases List.mem_append.1 hx with h1 | h1
 · exact h x h1
 · rw [List.mem_singleton.1 h1]; exact k
theorem lf_ite {c : Prop} [Decidable c] {a b : Res} (h1 : LfR a) (h2 : LfR b) : LfR (if c then a else b) := by
 by_cases h : c
 · rw [if_pos h]; exact h1
 · rw [if_neg h]; exact h2
theorem lf_up {o : ByteArray} {r : Res} (h : LfR r) : LfR (up o r) := by
 cases r with
 | ok e p => exact lf_ok (lf_one (h e p rfl))
 | err p c => exact lf_err
 | out => exact lf_out
theorem lf_key {s : ByteArray} {e : E} {i : Nat} (he : Lf e) : LfR (key s e i) := by
 intro x p hx
 unfold key at hx
 split at hx
 ·
  split at hx
  · injection hx with h1 _; subst h1; exact lf_one he
  · cases hx
 ·
  split at hx
  · injection hx with h1 _; subst h1; exact lf_one he
  · cases hx
theorem lf_num {s : ByteArray} {a : Nat} : LfR (num s a) := by
 intro e p h
 unfold num at h
 split at h
 · cases h
 ·
  split at h
  ·
   split at h
   · cases h
   · injection h with h1 _; subst h1; exact lf_nil rfl rfl
  · cases h
theorem lf_strs {s : ByteArray} {a : Nat} : LfR (strs s a) := by
 intro e p h
 unfold strs at h
 split at h
 · injection h with h1 _; subst h1; exact lf_nil rfl rfl
 · cases h
theorem lf_all (s : ByteArray) : ∀ f, (∀ n i, LfR (lev s f n i)) ∧ (∀ n e i, Lf e → LfR (chn s f n e i)) ∧ (∀ e i, Lf e → LfR (prt s f e i)) ∧ (∀ w acc i, (∀ x ∈ acc, Lf x) → LfR (cal s f w acc i)) := by
 intro f
 induction f with
 | zero => exact ⟨fun n i => by rw [lev]; exact lf_out, fun n e i _ => by rw [chn]; exact lf_out, fun e i _ => by rw [prt]; exact lf_out, fun w acc i _ => by rw [cal]; exact lf_out⟩
 | succ f ih =>
  obtain ⟨ih1, ih2, ih3, ih4⟩ := ih
  refine ⟨fun n i => ?_, fun n e i he => ?_, fun e i he => ?_, fun w acc i ha => ?_⟩
  ·
   rw [lev]
   repeat' (first | exact lf_num | exact lf_strs | refine lf_ite ?_ ?_)
   all_goals (repeat' split)
   all_goals first
    | exact lf_err
    | exact lf_out
    | exact lf_up (ih1 _ _)
    | exact ih1 _ _
    | exact lf_num
    | exact lf_strs
    | exact ih2 _ _ _ (ih1 _ _ _ _ (by assumption))
    | exact ih3 _ _ (ih1 _ _ _ _ (by assumption))
    | exact lf_ok (ih1 _ _ _ _ (by assumption))
    | exact ih4 _ _ _ (fun x hx => absurd hx (by simp))
    | exact lf_ok (lf_nil (v := Rd.nulT) rfl rfl)
    | exact lf_ok (lf_nil (v := Rd.truT true) rfl rfl)
    | exact lf_ok (lf_nil (v := Rd.truT false) rfl rfl)
  ·
   rw [chn]
   repeat' split
   all_goals first
    | exact lf_err
    | exact lf_out
    | exact lf_ok he
    | exact lf_ok (lf_two he (ih1 _ _ _ _ (by assumption)))
    | exact ih2 _ _ _ (lf_two he (ih1 _ _ _ _ (by assumption)))
  ·
   rw [prt]
   repeat' split
   all_goals first
    | exact lf_err
    | exact lf_out
    | exact lf_ok he
    | exact ih3 _ _ (lf_key he _ _ (by assumption))
    | exact ih3 _ _ (lf_two he (ih1 _ _ _ _ (by assumption)))
  ·
   rw [cal]
   repeat' split
   all_goals first
    | exact lf_err
    | exact lf_out
    | exact lf_ok (lf_row (lf_snoc ha (ih1 _ _ _ _ (by assumption))))
    | exact ih4 _ _ _ (lf_snoc ha (ih1 _ _ _ _ (by assumption)))
open Go.RowKit
open Tk Ex
theorem EV.ofRowV {w : World} {base n c cL cM : Nat} {A L M : Option Addr} {l : List (E × Hd)} {o m : ByteArray} {t : T} (h1 : t.items = []) (h2 : t.keys = []) (hrow : Row9 w base (.slice A n c) l) (hl : EVs w (fun k => base ≤ k ∧ k < w.heap.size ∧ some k ≠ (Value.slice A n c).ownBlock) l) (hc : l.length ≤ c) :
 EV w (fun k => base ≤ k ∧ k < w.heap.size) (.mk o m t (l.map (·.1))) ⟨L, cL, M, cM, A, c⟩ := by
 refine EV.of (TV.of (by rw [show (E.mk o m t (l.map (·.1))).lit = t from rfl, h1]; exact Nat.zero_le _) (by rw [show (E.mk o m t (l.map (·.1))).lit = t from rfl, h2]; exact Nat.zero_le _) (fun h => absurd h1 h) (by rw [show (E.mk o m t (l.map (·.1))).lit = t from rfl, h2]; exact SReads.none_ _ _ _)) (by show (l.map (·.1)).length ≤ c; rw [List.length_map]; exact hc) (fun hn => ?_)
 have hn' : l ≠ [] := by intro e; subst e; exact hn rfl
 obtain ⟨b, e1, h1, h2, h9⟩ := hrow.cells hn'
 refine ⟨b, 0, e1, ⟨h1, h2⟩, fun i x hx => ?_⟩
 have hx' : (l.map (·.1))[i]? = some x := hx
 rw [List.getElem?_map] at hx'
 cases hq : l[i]? with
 | none => rw [hq] at hx'; cases hx'
 | some z =>
  rw [hq] at hx'
  injection hx' with hx'
  subst hx'
  exact ⟨z.2, h9 i z hq, (hl z (List.mem_of_getElem? hq)).wide fun k hk => ⟨hk.1, hk.2.1⟩⟩
open Go.RowKit
open Tk Ex
theorem app_eS {ops : Array Oper} {o : Oper} {a : Act} {K : Act → World → Prop} {Q : Exit → Act → World → Prop} {E0 : Prop} {w : World} (hgd : o.guard = none) (s x : Operand)
 (ho : o.op = .call { callee := .builtin .append, args := #[s, x], argTypes := #[27, 27] })
 (base : Nat) (v : Value) (l : List (E × Hd)) (y : E) (q : Hd) (hs : a.eval s = v) (hx : a.eval x = .slice (some ⟨w.heap.size, 0, none⟩) 1 1)
 (hown : Row9 w base v l) (hn : l.length ≤ 100000) (hbase : base ≤ w.heap.size)
 (h : ∀ (v' : Value) (w' : World), Row9 w' base v' (l ++ [(y, q)]) → (∀ W, Below base W w → Below base W w') → w.grownBy w' v.ownBlock → (v'.ownBlock = v.ownBlock ∨ v'.ownBlock = some (w.heap.size + 1)) → K (a.put o.dst v') w') :
 if Region.wanted o (yielded ops a.tmps) = true then Oper.wp Tryz.prog o a (w.alloc (.cells #[.string y.op, .string y.name, .int .i64 y.lit.kind, .bool y.lit.tr, .int .i64 y.lit.num, .string y.lit.str, .slice q.L y.lit.items.length q.l, .slice q.L' y.lit.keys.length q.l', .slice q.A y.args.length q.c] 29)) K Q else E0 := by
 have hw : Region.wanted o (yielded ops a.tmps) = true := by simp [Region.wanted, hgd]
 rw [if_pos hw]
 obtain ⟨i0, hi, hz0, hz1, hz2⟩ := info_of infoE8
 unfold Row9 at hown
 obtain ⟨v', w', hr, h1, h2, _, h5⟩ := run_append_own_at (P := Tryz.prog) (w := w.alloc (.cells #[.string y.op, .string y.name, .int .i64 y.lit.kind, .bool y.lit.tr, .int .i64 y.lit.num, .string y.lit.str, .slice q.L y.lit.items.length q.l, .slice q.L' y.lit.keys.length q.l', .slice q.A y.args.length q.c] 29)) base 27 o.type 29 i0 _ 9 144 Tryz.underlying27 hi hz0 hz1 hz2 rfl (by decide) v _ _ (hown.alloc _) ⟨w.heap.size, 0, none⟩ 1 1 (e9 (y, q)) rfl (by
  intro j u hu
  have hadd : (⟨w.heap.size, 0, none⟩ : Addr).add j = ⟨w.heap.size, j, none⟩ := by unfold Addr.add; split <;> simp_all
  rw [hadd, cell_of_row _ _ j _ 29 (0, 0) (heap_alloc_new w _), ← hu, ← Array.getElem?_toList]
  rfl) (by intro u hu; simp [e9] at hu; rcases hu with h | h | h | h | h | h | h | h | h <;> subst h <;> rfl) (by unfold maxLen; omega) (by omega) (by simp; omega)
 unfold Oper.wp execOp
 simp only [ho, resolve, invoke, builtin, Sem.run_bind, Sem.run_pure, Result.andThen_ok, List.map_toArray, List.map_cons, List.map_nil, hs, hx, hr]
 refine h v' w' ?_ (fun W hW => ?_) ?_ ?_
 · unfold Row9; rw [List.length_append, flat9_app]; exact h1
 · exact (hW.alloc hbase _).grown h2 (by simp; omega) (fun k hk => (hown.lt k hk).1)
 · exact ⟨h2.os, h2.tape, h2.output, Nat.le_trans (by simp) h2.size, fun k hk hne => (h2.block k (by simp; omega) hne).trans (heap_alloc_old w _ hk)⟩
 · simpa using h5
theorem take_args {l : List E} {k : Nat} {x : E} (h : l[k]? = some x) : l.take (k + 1) = l.take k ++ [x] := by
 rw [List.take_add_one, h]; rfl
theorem l8ref_step (o n : ByteArray) (t : T) (l : List E) (hit : t.items = []) (hkt : t.keys = []) (hlen : l.length ≤ 100000) (ih : ∀ x ∈ l, ∀ (q2 : Hd) (w : World) (S : Nat → Prop), (∀ j, S j → j < w.heap.size) → EV w S x q2 → Calls Tryz.prog 14 #[.agg #[.string x.op, .string x.name, .int .i64 x.lit.kind, .bool x.lit.tr, .int .i64 x.lit.num, .string x.lit.str, .slice q2.L x.lit.items.length q2.l, .slice q2.L' x.lit.keys.length q2.l', .slice q2.A x.args.length q2.c]] w fun en w' => ∃ P2 p2, en = .returned (.agg #[.string x.op, .string x.name, .int .i64 x.lit.kind, .bool x.lit.tr, .int .i64 x.lit.num, .string x.lit.str, .slice none x.lit.items.length 0, .slice q2.L' x.lit.keys.length q2.l', .slice P2 x.args.length p2]) ∧ EV w' (fun j => w.heap.size ≤ j ∧ j < w'.heap.size) x ⟨none, 0, q2.L', q2.l', P2, p2⟩ ∧ Below w.heap.size w w')
 (A : Option Addr) (c : Nat) (A' : Option Addr) (c' : Nat) (P : Option Addr) (q : Nat) (w : World) (S : Nat → Prop) (hS : ∀ j, S j → j < w.heap.size) (hev : EV w S (.mk o n t l) ⟨A, c, A', c', P, q⟩) :
 Calls Tryz.prog 14 #[.agg #[.string o, .string n, .int .i64 t.kind, .bool t.tr, .int .i64 t.num, .string t.str, .slice A 0 c, .slice A' 0 c', .slice P l.length q]] w fun en w' => ∃ P2 p2, en = .returned (.agg #[.string o, .string n, .int .i64 t.kind, .bool t.tr, .int .i64 t.num, .string t.str, .slice none 0 0, .slice A' 0 c', .slice P2 l.length p2]) ∧ EV w' (fun j => w.heap.size ≤ j ∧ j < w'.heap.size) (.mk o n t l) ⟨none, 0, A', c', P2, p2⟩ ∧ Below w.heap.size w w' := by
 have HIH := hid ih
 have HE := hid hev
 have HS := hid hS
 have HIT := hid hit
 have HKT := hid hkt
 clear ih hev hS hit hkt
 go_enter Tryz.func14, Tryz.ntmps14
 go_upto_region 1 with fail
 have hW : Below w.heap.size w ((w.alloc (.cells #[.string o, .string n, .int .i64 t.kind, .bool t.tr, .int .i64 t.num, .string t.str, .slice A 0 c, .slice A' 0 c', .slice P l.length q] 38)).alloc (.cells #[.string ⟨#[]⟩, .string ⟨#[]⟩, .int .i64 0, .bool false, .int .i64 0, .string ⟨#[]⟩, .slice none 0 0, .slice none 0 0, .slice none 0 0] 29)) := ((Below.refl _ _).alloc (Nat.le_refl _) _).alloc (by simp) _
 have kA : Blk ((w.alloc (.cells #[.string o, .string n, .int .i64 t.kind, .bool t.tr, .int .i64 t.num, .string t.str, .slice A 0 c, .slice A' 0 c', .slice P l.length q] 38)).alloc (.cells #[.string ⟨#[]⟩, .string ⟨#[]⟩, .int .i64 0, .bool false, .int .i64 0, .string ⟨#[]⟩, .slice none 0 0, .slice none 0 0, .slice none 0 0] 29)) w.heap.size 38 #[.string o, .string n, .int .i64 t.kind, .bool t.tr, .int .i64 t.num, .string t.str, .slice A 0 c, .slice A' 0 c', .slice P l.length q] := (Blk.new w _ _).alloc _
 have kB : Blk ((w.alloc (.cells #[.string o, .string n, .int .i64 t.kind, .bool t.tr, .int .i64 t.num, .string t.str, .slice A 0 c, .slice A' 0 c', .slice P l.length q] 38)).alloc (.cells #[.string ⟨#[]⟩, .string ⟨#[]⟩, .int .i64 0, .bool false, .int .i64 0, .string ⟨#[]⟩, .slice none 0 0, .slice none 0 0, .slice none 0 0] 29)) (w.heap.size + 1) 29 nul9 := by
  have := Blk.new (w.alloc (.cells #[.string o, .string n, .int .i64 t.kind, .bool t.tr, .int .i64 t.num, .string t.str, .slice A 0 c, .slice A' 0 c', .slice P l.length q] 38)) 29 nul9
  simpa [nul9] using this
 change Code.wp _ _ _ _ ((w.alloc (.cells #[.string o, .string n, .int .i64 t.kind, .bool t.tr, .int .i64 t.num, .string t.str, .slice A 0 c, .slice A' 0 c', .slice P l.length q] 38)).alloc (.cells #[.string ⟨#[]⟩, .string ⟨#[]⟩, .int .i64 0, .bool false, .int .i64 0, .string ⟨#[]⟩, .slice none 0 0, .slice none 0 0, .slice none 0 0] 29))
 generalize ((w.alloc (.cells #[.string o, .string n, .int .i64 t.kind, .bool t.tr, .int .i64 t.num, .string t.str, .slice A 0 c, .slice A' 0 c', .slice P l.length q] 38)).alloc (.cells #[.string ⟨#[]⟩, .string ⟨#[]⟩, .int .i64 0, .bool false, .int .i64 0, .string ⟨#[]⟩, .slice none 0 0, .slice none 0 0, .slice none 0 0] 29)) = W at *
 have HW := hid hW
 have HA := hid kA
 have HB := hid kB
 have hs := hW.size
 have HSS := hid (show ∀ w', Below W.heap.size W w' → (w'.cell? ⟨w.heap.size, 0, none⟩ = some (.string o) ∧ w'.cell? ⟨w.heap.size, 1, none⟩ = some (.string n) ∧ w'.cell? ⟨w.heap.size, 2, none⟩ = some (.int .i64 t.kind) ∧ w'.cell? ⟨w.heap.size, 3, none⟩ = some (.bool t.tr) ∧ w'.cell? ⟨w.heap.size, 4, none⟩ = some (.int .i64 t.num) ∧ w'.cell? ⟨w.heap.size, 5, none⟩ = some (.string t.str) ∧ w'.cell? ⟨w.heap.size, 6, none⟩ = some (.slice A 0 c) ∧ w'.cell? ⟨w.heap.size, 7, none⟩ = some (.slice A' 0 c')) from fun w' hb => by
  have k := kA.onto hb
  exact ⟨k.cell 0, k.cell 1, k.cell 2, k.cell 3, k.cell 4, k.cell 5, k.cell 6, k.cell 7⟩)
 have hgs := kA.lt
 have hgB := kB.lt
 generalize hg : w.heap.size = g at *
 have HG := hid hg
 clear hW kA kB hg
 refine wp_region_held_drew (S := fun w' => (w'.cell? ⟨g, 0, none⟩ = some (.string o) ∧ w'.cell? ⟨g, 1, none⟩ = some (.string n) ∧ w'.cell? ⟨g, 2, none⟩ = some (.int .i64 t.kind) ∧ w'.cell? ⟨g, 3, none⟩ = some (.bool t.tr) ∧ w'.cell? ⟨g, 4, none⟩ = some (.int .i64 t.num) ∧ w'.cell? ⟨g, 5, none⟩ = some (.string t.str) ∧ w'.cell? ⟨g, 6, none⟩ = some (.slice A 0 c) ∧ w'.cell? ⟨g, 7, none⟩ = some (.slice A' 0 c'))) (by kernel_rfl) ?_ (fun hHeld => ?_)
 · exact HSS.out _ (Below.refl _ _).drew
 refine wpAnyH_take (i := 0) (v := ?_) rfl (by kernel_rfl) (by kernel_rfl) (by kernel_rfl) (fun _ _ _ h => h) (Or.inl ⟨by rfl, ?_⟩) (by assumption) ?_
 rotate_left
 ·
  intro wq hSw
  try dsimp only at hSw
  go_simp
  try (with_reducible rfl)
 try simp only [Act.put, List.getElem_toArray, List.getElem_cons_zero, List.setIfInBounds_toArray, List.set_cons_zero, List.set_cons_succ]
 refine wpAnyH_take (i := 1) (v := ?_) rfl (by kernel_rfl) (by kernel_rfl) (by kernel_rfl) (fun _ _ _ h => h) (Or.inl ⟨by rfl, ?_⟩) (by assumption) ?_
 rotate_left
 ·
  intro wq hSw
  try dsimp only at hSw
  go_simp
  try (with_reducible rfl)
 try simp only [Act.put, sqa, sqb, sqc, sqd, sqe, sqf]
 refine wpAnyH_take (i := 2) (v := ?_) rfl (by kernel_rfl) (by kernel_rfl) (by kernel_rfl) (fun _ _ _ h => h) (Or.inl ⟨by rfl, ?_⟩) (by assumption) ?_
 rotate_left
 ·
  intro wq hSw
  try dsimp only at hSw
  go_simp
  try (with_reducible rfl)
 try simp only [Act.put, sqa, sqb, sqc, sqd, sqe, sqf]
 refine wpAnyH_take (i := 3) (v := ?_) rfl (by kernel_rfl) (by kernel_rfl) (by kernel_rfl) (fun _ _ _ h => h) (Or.inl ⟨by rfl, ?_⟩) (by assumption) ?_
 rotate_left
 ·
  intro wq hSw
  try dsimp only at hSw
  go_simp
  try (with_reducible rfl)
 try simp only [Act.put, sqa, sqb, sqc, sqd, sqe, sqf]
 refine wpAnyH_take (i := 4) (v := ?_) rfl (by kernel_rfl) (by kernel_rfl) (by kernel_rfl) (fun _ _ _ h => h) (Or.inl ⟨by rfl, ?_⟩) (by assumption) ?_
 rotate_left
 ·
  intro wq hSw
  try dsimp only at hSw
  go_simp
  try (with_reducible rfl)
 try simp only [Act.put, sqa, sqb, sqc, sqd, sqe, sqf]
 refine wpAnyH_take (i := 5) (v := ?_) rfl (by kernel_rfl) (by kernel_rfl) (by kernel_rfl) (fun _ _ _ h => h) (Or.inl ⟨by rfl, ?_⟩) (by assumption) ?_
 rotate_left
 ·
  intro wq hSw
  try dsimp only at hSw
  go_simp
  try (with_reducible rfl)
 try simp only [Act.put, sqa, sqb, sqc, sqd, sqe, sqf]
 have HD := hid (show Below W.heap.size W W.drew from (Below.refl _ _).drew)
 refine wpAnyH_ready (rs := [6, 8]) (by kernel_rfl) (by simp) ?_
 refine AllReadyH.cons rfl (fun K0 hK => ?_) (AllReadyH.cons rfl (fun K0 hK => ?_) AllReadyH.nil)
 go_simp
 refine (ref_leafT t A c A' c' _).mono ?_
 rintro e w2 ⟨rfl, hb2⟩
 have H2 := hid (HD.out.trans hb2)
 clear hb2
 go_wp2_with fail
 refine hK.out _ _ ?_ (fun hHeld => ?_)
 · exact HSS.out _ H2.out
 clear hK K0
 try simp only [Act.put, sqa, sqb, sqc, sqd, sqe, sqf]
 refine wpAnyH_take (i := 7) (v := ?_) rfl (by kernel_rfl) (by kernel_rfl) (by kernel_rfl) (fun _ _ _ h => h) (Or.inl ⟨by rfl, ?_⟩) (by assumption) ?_
 rotate_left
 ·
  intro wq hSw
  try dsimp only at hSw
  go_simp
  try (with_reducible rfl)
 try simp only [Act.put, sqa, sqb, sqc, sqd, sqe, sqf]
 refine wpAnyH_ready (rs := [8]) (by kernel_rfl) (by simp) ?_
 refine AllReadyH.cons rfl (fun K0 hK => ?_) AllReadyH.nil
 go_simp
 have H3 := hid (show Below W.heap.size W (w2.alloc (.cells #[.string ⟨#[]⟩, .string ⟨#[]⟩, .int .i64 0, .bool false, .int .i64 0, .string ⟨#[]⟩, .slice none 0 0, .slice none 0 0, .slice none 0 0] 29)) from H2.out.alloc H2.out.size _)
 have K3 := hid (show Blk (w2.alloc (.cells #[.string ⟨#[]⟩, .string ⟨#[]⟩, .int .i64 0, .bool false, .int .i64 0, .string ⟨#[]⟩, .slice none 0 0, .slice none 0 0, .slice none 0 0] 29)) w2.heap.size 29 nul9 from Blk.new w2 _ _)
 have HQ := hid (show W.heap.size ≤ w2.heap.size from H2.out.size)
 refine hK.out _ _ ?_ (fun hHeld => ?_)
 · exact HSS.out _ H3.out
 clear hK K0
 try simp only [Act.put, sqa, sqb, sqc, sqd, sqe, sqf]
 generalize (w2.alloc (.cells #[.string ⟨#[]⟩, .string ⟨#[]⟩, .int .i64 0, .bool false, .int .i64 0, .string ⟨#[]⟩, .slice none 0 0, .slice none 0 0, .slice none 0 0] 29)) = W3 at *
 generalize w2.heap.size = Q at *
 obtain ⟨y0, y1, y2, y3, y4, y5, y6, y7, y8, z0, z1, z2, z3, z4, z5, z6, z7, z8, x0, x1, x2, x3, x4, x5, x6, x7, x8⟩ := old9 K3.out
 have hqs := K3.out.lt
 refine wpAnyH_ready (rs := [9]) (by kernel_rfl) (by simp) ?_
 refine AllReadyH.cons rfl (fun K0 hK => ?_) AllReadyH.nil
 go_simp
 refine put9_gen K3.out _ _ _ _ _ _ _ _ _ (fun WF hf0 hf1 hf2 hf3 => ?_)
 have HF := hid hf0
 have HFB := hid ((hf1 _ _ H3.out HQ.out))
 clear hf0 hf1 hf2 hf3
 refine hK.out _ _ ?_ (fun hHeld => ?_)
 · exact HSS.out _ HFB.out
 clear hK K0 z0 x0 z1 x1 z2 x2 z3 x3 z4 x4 z5 x5 z6 x6 z7 x7 z8 x8
 try simp only [Act.put, sqa, sqb, sqc, sqd, sqe, sqf]
 refine wpAnyH_done (by kernel_rfl) ?_ _
 have kA := HA.out.onto HFB.out
 have kB := HB.out.onto HFB.out
 have a8 := kA.cell 8
 have HBF := hid kB
 have HWF := hid (HW.out.trans (HFB.out.mono hs))
 clear kA kB
 go_wp2_with fail
 clear a8
 rotate_left
 go_simp
 have H3 := hid (show Below W.heap.size W (W.alloc (.cells #[.string ⟨#[]⟩, .string ⟨#[]⟩, .int .i64 0, .bool false, .int .i64 0, .string ⟨#[]⟩, .slice none 0 0, .slice none 0 0, .slice none 0 0] 29)).drew from ((Below.refl _ _).alloc (Nat.le_refl _) _).drew)
 have K3 := hid (show Blk (W.alloc (.cells #[.string ⟨#[]⟩, .string ⟨#[]⟩, .int .i64 0, .bool false, .int .i64 0, .string ⟨#[]⟩, .slice none 0 0, .slice none 0 0, .slice none 0 0] 29)).drew W.heap.size 29 nul9 from Blk.new W _ _)
 have HQ := hid (show W.heap.size ≤ W.heap.size from Nat.le_refl _)
 refine hK.out _ _ ?_ (fun hHeld => ?_)
 · exact HSS.out _ H3.out
 clear hK K0
 try simp only [Act.put, sqa, sqb, sqc, sqd, sqe, sqf]
 generalize (W.alloc (.cells #[.string ⟨#[]⟩, .string ⟨#[]⟩, .int .i64 0, .bool false, .int .i64 0, .string ⟨#[]⟩, .slice none 0 0, .slice none 0 0, .slice none 0 0] 29)).drew = W2 at *
 obtain ⟨Q, hQ⟩ : ∃ Q, Q = W.heap.size := ⟨_, rfl⟩
 rw [← hQ] at K3
 have HQ := hid (show W.heap.size ≤ Q from Nat.le_of_eq hQ.symm)
 rw [← hQ]
 clear hQ
 refine wpAnyH_ready (rs := [6]) (by kernel_rfl) (by simp) ?_
 refine AllReadyH.cons rfl (fun K0 hK => ?_) AllReadyH.nil
 go_simp
 refine (ref_leafT t A c A' c' _).mono ?_
 rintro e W3 ⟨rfl, hb2⟩
 have K4 := hid (K3.out.onto hb2)
 have H4 := hid (H3.out.trans (hb2.mono H3.out.size))
 clear hb2 K3 H3
 go_wp2_with fail
 refine hK.out _ _ ?_ (fun hHeld => ?_)
 · exact HSS.out _ H4.out
 clear hK K0
 try simp only [Act.put, sqa, sqb, sqc, sqd, sqe, sqf]
 refine wpAnyH_take (i := 7) (v := ?_) rfl (by kernel_rfl) (by kernel_rfl) (by kernel_rfl) (fun _ _ _ h => h) (Or.inl ⟨by rfl, ?_⟩) (by assumption) ?_
 rotate_left
 ·
  intro wq hSw
  try dsimp only at hSw
  go_simp
  try (with_reducible rfl)
 try simp only [Act.put, sqa, sqb, sqc, sqd, sqe, sqf]
 obtain ⟨y0, y1, y2, y3, y4, y5, y6, y7, y8, z0, z1, z2, z3, z4, z5, z6, z7, z8, x0, x1, x2, x3, x4, x5, x6, x7, x8⟩ := old9 K4.out
 have hqs := K4.out.lt
 refine wpAnyH_ready (rs := [9]) (by kernel_rfl) (by simp) ?_
 refine AllReadyH.cons rfl (fun K0 hK => ?_) AllReadyH.nil
 go_simp
 refine put9_gen K4.out _ _ _ _ _ _ _ _ _ (fun WF hf0 hf1 hf2 hf3 => ?_)
 have HF := hid hf0
 have HFB := hid ((hf1 _ _ H4.out HQ.out))
 clear hf0 hf1 hf2 hf3
 refine hK.out _ _ ?_ (fun hHeld => ?_)
 · exact HSS.out _ HFB.out
 clear hK K0 z0 x0 z1 x1 z2 x2 z3 x3 z4 x4 z5 x5 z6 x6 z7 x7 z8 x8
 try simp only [Act.put, sqa, sqb, sqc, sqd, sqe, sqf]
 refine wpAnyH_done (by kernel_rfl) ?_ _
 have kA := HA.out.onto HFB.out
 have kB := HB.out.onto HFB.out
 have a8 := kA.cell 8
 have HBF := hid kB
 have HWF := hid (HW.out.trans (HFB.out.mono hs))
 clear kA kB
 go_wp2_with fail
 clear a8
 all_goals
  go_loopw [17] (fun x wr => ∃ (rr : List (E × Hd)) (A2 : Option Addr) (m2 : Nat), x = .int .i64 (rr.length : Nat) ∧ rr.length ≤ l.length ∧ rr.map (·.1) = l.take rr.length ∧ rr.length ≤ m2 ∧ Row9 wr (Q + 1) (.slice A2 rr.length m2) rr ∧ EVs wr (fun j => Q + 1 ≤ j ∧ j < wr.heap.size ∧ some j ≠ (Value.slice A2 rr.length m2).ownBlock) rr ∧ Blk wr Q 29 #[.string o, .string n, .int .i64 t.kind, .bool t.tr, .int .i64 t.num, .string t.str, .slice none 0 0, .slice A' 0 c', .slice A2 rr.length m2] ∧ Blk wr (g + 1) 29 nul9 ∧ Below g w wr) (fun x _ => l.length - (intOf x).toNat)
  case atStart => exact ⟨[], none, 0, rfl, Nat.zero_le _, rfl, Nat.le_refl _, Row9.nil _ _, fun x hx => absurd hx (by simp), HF.out, HBF.out, HWF.out⟩
  case round =>
   obtain ⟨rr, A2, m2, rfl, hrl, hmap, hrm, hrow, hevs, kq, kb, hbw⟩ := hrel
   have HMAP := hid hmap
   have HRM := hid hrm
   have HROW := hid hrow
   have HEVS := hid hevs
   have KQ := hid kq
   have KB := hid kb
   have HBW := hid hbw
   have hgb : g ≤ wr.heap.size := by have := hbw.size; rw [HG.out] at this; exact this
   have hqw := kq.lt
   have hQg : g + 1 < Q := by have := HQ.out; omega
   clear hmap hrow hevs kq kb HF HFB HBF HWF
   by_cases hlt : rr.length < l.length
   ·
    have u1 : decide (rr.length < l.length) = true := decide_eq_true hlt
    have u2 : decide ((rr.length : Int) < (l.length : Int)) = true := decide_eq_true (by omega)
    have i1 : (rr.length : Int) < (l.length : Int) := by omega
    have i2 : (0 : Int) ≤ (rr.length : Int) := by omega
    have hev2 := HE.out.keep (w' := wr) (fun j hj => hbw.block j (HS.out j hj))
    obtain ⟨b, oo, x, q2, hAe, hSb, hx, h9, hex⟩ := hev2.at_ (i := rr.length) hlt
    dsimp only at hAe
    subst hAe
    obtain ⟨p0, p1, p2, p3, p4, p5, p6, p7, p8⟩ := h9.cells
    have HEX := hid hex
    have HX := hid (show l[rr.length]? = some x from hx)
    clear hex hev2 h9 hbw hx
    go_upto_region 5 with fail
    refine alloc_gn (fun W5 hA5 kX5 => ?_)
    have hXW := kX5.lt
    obtain ⟨X, hX⟩ : ∃ X, X = wr.heap.size := ⟨_, rfl⟩
    rw [← hX] at kX5 hXW ⊢
    have HXE := hid hX
    have hqX : Q < X := by omega
    clear hX
    have HSO := hid (show ∀ w', Blk w' X 38 #[.string x.op, .string x.name, .int .i64 x.lit.kind, .bool x.lit.tr, .int .i64 x.lit.num, .string x.lit.str, .slice q2.L x.lit.items.length q2.l, .slice q2.L' x.lit.keys.length q2.l', .slice q2.A x.args.length q2.c] → (w'.cell? ⟨X, 0, none⟩ = some (.string x.op) ∧ w'.cell? ⟨X, 1, none⟩ = some (.string x.name) ∧ w'.cell? ⟨X, 2, none⟩ = some (.int .i64 x.lit.kind) ∧ w'.cell? ⟨X, 3, none⟩ = some (.bool x.lit.tr) ∧ w'.cell? ⟨X, 4, none⟩ = some (.int .i64 x.lit.num) ∧ w'.cell? ⟨X, 5, none⟩ = some (.string x.lit.str) ∧ w'.cell? ⟨X, 6, none⟩ = some (.slice q2.L x.lit.items.length q2.l) ∧ w'.cell? ⟨X, 7, none⟩ = some (.slice q2.L' x.lit.keys.length q2.l') ∧ w'.cell? ⟨X, 8, none⟩ = some (.slice q2.A x.args.length q2.c)) from fun w' k => ⟨k.cell 0, k.cell 1, k.cell 2, k.cell 3, k.cell 4, k.cell 5, k.cell 6, k.cell 7, k.cell 8⟩)
    have hD : Below W5.heap.size W5 W5.drew := (Below.refl _ _).drew
    have HX6 := hid (kX5.onto hD)
    have HU6 := hid (hA5.trans (hD.mono hA5.size))
    have HB6 := hid (HBW.out.trans (HU6.out.mono hgb))
    have KQ6 := hid (KQ.out.onto HU6.out)
    have KB6 := hid (KB.out.onto HU6.out)
    have HE6 := hid (HEX.out.keep (w' := W5.drew) (fun j hj => HU6.out.block j (by have := HS.out j hj; omega)))
    have HM6 := hid (List.mem_of_getElem? HX.out)
    clear hD hA5 kX5 p0 p1 p2 p3 p4 p5 p6 p7 p8
    refine wp_region_held_drew (S := fun w' => (w'.cell? ⟨X, 0, none⟩ = some (.string x.op) ∧ w'.cell? ⟨X, 1, none⟩ = some (.string x.name) ∧ w'.cell? ⟨X, 2, none⟩ = some (.int .i64 x.lit.kind) ∧ w'.cell? ⟨X, 3, none⟩ = some (.bool x.lit.tr) ∧ w'.cell? ⟨X, 4, none⟩ = some (.int .i64 x.lit.num) ∧ w'.cell? ⟨X, 5, none⟩ = some (.string x.lit.str) ∧ w'.cell? ⟨X, 6, none⟩ = some (.slice q2.L x.lit.items.length q2.l) ∧ w'.cell? ⟨X, 7, none⟩ = some (.slice q2.L' x.lit.keys.length q2.l') ∧ w'.cell? ⟨X, 8, none⟩ = some (.slice q2.A x.args.length q2.c))) (by kernel_rfl) ?_ (fun hHeld => ?_)
    · exact HSO.out _ HX6.out
    generalize W5.drew = W6 at *
    have hg6 : g ≤ W6.heap.size := by have := HU6.out.size; omega
    have HI := hid (show Calls Tryz.prog 14 #[.agg #[.string x.op, .string x.name, .int .i64 x.lit.kind, .bool x.lit.tr, .int .i64 x.lit.num, .string x.lit.str, .slice q2.L x.lit.items.length q2.l, .slice q2.L' x.lit.keys.length q2.l', .slice q2.A x.args.length q2.c]] W6 (fun en w' => ∃ P2 p2, en = .returned (.agg #[.string x.op, .string x.name, .int .i64 x.lit.kind, .bool x.lit.tr, .int .i64 x.lit.num, .string x.lit.str, .slice none x.lit.items.length 0, .slice q2.L' x.lit.keys.length q2.l', .slice P2 x.args.length p2]) ∧ EV w' (fun j => W6.heap.size ≤ j ∧ j < w'.heap.size) x ⟨none, 0, q2.L', q2.l', P2, p2⟩ ∧ Below W6.heap.size W6 w') from HIH.out x HM6.out q2 W6 S (fun j hj => by have h1 := HS.out j hj; omega) HE6.out)
    have q8 : W6.cell? ⟨Q, 8, none⟩ = some (.slice A2 rr.length m2) := KQ6.out.cell 8
    refine wpAnyH_take (i := 0) (v := ?_) rfl (by kernel_rfl) (by kernel_rfl) (by kernel_rfl) (fun _ _ _ h => h) (Or.inl ⟨by rfl, ?_⟩) (by assumption) ?_
    rotate_left
    ·
     intro wq hSw
     try dsimp only at hSw
     go_simp
     try (with_reducible rfl)
    try simp only [Act.put, List.getElem_toArray, List.getElem_cons_zero, List.setIfInBounds_toArray, List.set_cons_zero, List.set_cons_succ]
    refine wpAnyH_take (i := 2) (v := ?_) rfl (by kernel_rfl) (by kernel_rfl) (by kernel_rfl) (fun _ _ _ h => h) (Or.inl ⟨by rfl, ?_⟩) (by assumption) ?_
    rotate_left
    ·
     intro wq hSw
     try dsimp only at hSw
     go_simp
     try (with_reducible rfl)
    try simp only [Act.put, sqa, sqb, sqc, sqd, sqe, sqf]
    refine wpAnyH_ready (rs := [1, 3]) (by kernel_rfl) (by simp) ?_
    refine AllReadyH.cons rfl (fun K0 hK => ?_) (AllReadyH.cons rfl (fun K0 hK => ?_) AllReadyH.nil)
    go_simp
    refine hK.out _ _ ?_ (fun hHeld => ?_)
    · exact HSO.out _ HX6.out
    clear hK K0
    try simp only [Act.put, sqa, sqb, sqc, sqd, sqe, sqf]
    refine wpAnyH_ready (rs := [3]) (by kernel_rfl) (by simp) ?_
    refine AllReadyH.cons rfl (fun K0 hK => ?_) AllReadyH.nil
    go_simp
    refine HI.out.mono ?_
    rintro en w2 ⟨P2, p2, rfl, hev2, hb2⟩
    have hs6 := HU6.out.size
    have HX2 := hid (HX6.out.onto hb2)
    have HU2 := hid (HU6.out.trans (hb2.mono hs6))
    have HB2 := hid (HB6.out.trans (hb2.mono hg6))
    have KQ2 := hid (KQ6.out.onto hb2)
    have KB2 := hid (KB6.out.onto hb2)
    have HE2 := hid (show EV w2 (fun j => wr.heap.size ≤ j ∧ j < w2.heap.size) x ⟨none, 0, q2.L', q2.l', P2, p2⟩ from hev2.wide fun j hj => ⟨Nat.le_trans hs6 hj.1, hj.2⟩)
    have q8' : w2.cell? ⟨Q, 8, none⟩ = some (.slice A2 rr.length m2) := KQ2.out.cell 8
    clear hb2 hev2 q8
    go_wp2_with fail
    refine hK.out _ _ ?_ (fun hHeld => ?_)
    · exact HSO.out _ HX2.out
    clear hK K0
    try simp only [Act.put, sqa, sqb, sqc, sqd, sqe, sqf]
    refine wpAnyH_ready (rs := [4]) (by kernel_rfl) (by simp) ?_
    refine AllReadyH.cons rfl (fun K0 hK => ?_) AllReadyH.nil
    go_simp
    have q8a : (w2.alloc (.cells #[.string x.op, .string x.name, .int .i64 x.lit.kind, .bool x.lit.tr, .int .i64 x.lit.num, .string x.lit.str, .slice none x.lit.items.length 0, .slice q2.L' x.lit.keys.length q2.l', .slice P2 x.args.length p2] 29)).cell? ⟨Q, 8, none⟩ = some (.slice A2 rr.length m2) := (KQ2.out.alloc _).cell 8
    refine hK.out _ _ ?_ (fun hHeld => ?_)
    · exact HSO.out _ (HX2.out.alloc _)
    clear hK K0
    try simp only [Act.put, sqa, sqb, sqc, sqd, sqe, sqf]
    rotate_left
    go_simp
    refine HI.out.mono ?_
    rintro en w2 ⟨P2, p2, rfl, hev2, hb2⟩
    have hs6 := HU6.out.size
    have HX2 := hid (HX6.out.onto hb2)
    have HU2 := hid (HU6.out.trans (hb2.mono hs6))
    have HB2 := hid (HB6.out.trans (hb2.mono hg6))
    have KQ2 := hid (KQ6.out.onto hb2)
    have KB2 := hid (KB6.out.onto hb2)
    have HE2 := hid (show EV w2 (fun j => wr.heap.size ≤ j ∧ j < w2.heap.size) x ⟨none, 0, q2.L', q2.l', P2, p2⟩ from hev2.wide fun j hj => ⟨Nat.le_trans hs6 hj.1, hj.2⟩)
    have q8' : w2.cell? ⟨Q, 8, none⟩ = some (.slice A2 rr.length m2) := KQ2.out.cell 8
    clear hb2 hev2 q8
    go_wp2_with fail
    refine hK.out _ _ ?_ (fun hHeld => ?_)
    · exact HSO.out _ HX2.out
    clear hK K0
    try simp only [Act.put, sqa, sqb, sqc, sqd, sqe, sqf]
    refine wpAnyH_ready (rs := [1, 4]) (by kernel_rfl) (by simp) ?_
    refine AllReadyH.cons rfl (fun K0 hK => ?_) (AllReadyH.cons rfl (fun K0 hK => ?_) AllReadyH.nil)
    go_simp
    refine hK.out _ _ ?_ (fun hHeld => ?_)
    · exact HSO.out _ HX2.out
    clear hK K0
    try simp only [Act.put, sqa, sqb, sqc, sqd, sqe, sqf]
    refine wpAnyH_ready (rs := [4]) (by kernel_rfl) (by simp) ?_
    refine AllReadyH.cons rfl (fun K0 hK => ?_) AllReadyH.nil
    go_simp
    have q8a : (w2.alloc (.cells #[.string x.op, .string x.name, .int .i64 x.lit.kind, .bool x.lit.tr, .int .i64 x.lit.num, .string x.lit.str, .slice none x.lit.items.length 0, .slice q2.L' x.lit.keys.length q2.l', .slice P2 x.args.length p2] 29)).cell? ⟨Q, 8, none⟩ = some (.slice A2 rr.length m2) := (KQ2.out.alloc _).cell 8
    refine hK.out _ _ ?_ (fun hHeld => ?_)
    · exact HSO.out _ (HX2.out.alloc _)
    clear hK K0
    try simp only [Act.put, sqa, sqb, sqc, sqd, sqe, sqf]
    rotate_left
    go_simp
    have q8a : (w2.alloc (.cells #[.string x.op, .string x.name, .int .i64 x.lit.kind, .bool x.lit.tr, .int .i64 x.lit.num, .string x.lit.str, .slice none x.lit.items.length 0, .slice q2.L' x.lit.keys.length q2.l', .slice P2 x.args.length p2] 29)).cell? ⟨Q, 8, none⟩ = some (.slice A2 rr.length m2) := (KQ2.out.alloc _).cell 8
    refine hK.out _ _ ?_ (fun hHeld => ?_)
    · exact HSO.out _ (HX2.out.alloc _)
    clear hK K0
    try simp only [Act.put, sqa, sqb, sqc, sqd, sqe, sqf]
    refine wpAnyH_ready (rs := [1]) (by kernel_rfl) (by simp) ?_
    refine AllReadyH.cons rfl (fun K0 hK => ?_) AllReadyH.nil
    go_simp
    refine hK.out _ _ ?_ (fun hHeld => ?_)
    · exact HSO.out _ (HX2.out.alloc _)
    clear hK K0
    try simp only [Act.put, sqa, sqb, sqc, sqd, sqe, sqf]
    all_goals
     refine wpAnyH_ready (rs := [5]) (by kernel_rfl) (by simp) ?_
     refine AllReadyH.cons rfl (fun K0 hK => ?_) AllReadyH.nil
     have HROW2 := hid (HROW.out.below HU2.out)
     have HNL := hid (show rr.length ≤ 100000 by omega)
     have hs2 := HU2.out.size
     refine app_eS rfl (.tmp 22) (.tmp 25) rfl (Q + 1) _ _ x ⟨none, 0, q2.L', q2.l', P2, p2⟩ rfl rfl HROW2.out HNL.out (by omega) ?_
     intro v7 w7 hrow7 hb7 hg7 ho7
     have hev7 := grown9 HROW.out HEVS.out HU2.out (by omega) HE2.out hg7 ho7
     obtain ⟨A3, m3, rfl, hlm⟩ := hrow7.shape
     have hb7' := hb7 w2 (Below.refl _ _)
     have hneX : some X ≠ (Value.slice A2 rr.length m2).ownBlock := by
      intro e
      have := (World.ownsRow.lt HROW.out X e.symm).2
      have := HXE.out
      omega
     have HX7 := hid (show Blk w7 X 38 #[.string x.op, .string x.name, .int .i64 x.lit.kind, .bool x.lit.tr, .int .i64 x.lit.num, .string x.lit.str, .slice q2.L x.lit.items.length q2.l, .slice q2.L' x.lit.keys.length q2.l', .slice q2.A x.args.length q2.c] from (hg7.block X HX2.out.lt hneX).trans HX2.out)
     have KQ7 := hid (KQ2.out.on hb7' (by omega))
     have KB7 := hid (KB2.out.on hb7' (by omega))
     have HB7 := hid (HB2.out.trans (hb7'.mono (by omega)))
     have hln : (rr ++ [(x, (⟨none, 0, q2.L', q2.l', P2, p2⟩ : Hd))]).length = rr.length + 1 := by simp
     have hmp : (rr ++ [(x, (⟨none, 0, q2.L', q2.l', P2, p2⟩ : Hd))]).map (·.1) = l.take (rr.length + 1) := by rw [take_args HX.out, ← HMAP.out]; simp
     rw [← hln] at hmp
     generalize (rr ++ [(x, (⟨none, 0, q2.L', q2.l', P2, p2⟩ : Hd))]) = l2 at *
     have HLN := hid hln
     have HMP := hid hmp
     have HLM := hid hlm
     have HROW7 := hid hrow7
     have HEVS7 := hid hev7
     clear hrow7 hb7 hg7 ho7 hb7' hev7 hlm hmp hln
     refine hK.out _ _ ?_ (fun hHeld => ?_)
     · exact HSO.out _ HX7.out
     clear hK K0
     try simp only [Act.put, sqa, sqb, sqc, sqd, sqe, sqf]
     refine wpAnyH_take (i := 6) (v := ?_) rfl (by kernel_rfl) (by kernel_rfl) (by kernel_rfl) (fun _ _ _ h => h) (Or.inl ⟨by rfl, ?_⟩) (by assumption) ?_
     rotate_left
     ·
      intro wq hSw
      try dsimp only at hSw
      go_simp
      try (with_reducible rfl)
     try simp only [Act.put, sqa, sqb, sqc, sqd, sqe, sqf]
     have x8 := KQ7.out.free 8
     obtain ⟨y8, z8⟩ : ∃ u, w7.cell? ⟨Q, 8, none⟩ = some u := ⟨_, KQ7.out.cell 8⟩
     refine wpAnyH_ready (rs := [7]) (by kernel_rfl) (by simp) ?_
     refine AllReadyH.cons rfl (fun K0 hK => ?_) AllReadyH.nil
     go_simp
     have hneQ : (Value.slice A3 l2.length m3).ownBlock ≠ some Q := by
      intro e
      have := (World.ownsRow.lt HROW7.out Q e).1
      omega
     have ha8 : Aside Q w7 (w7.setCell ⟨Q, 8, none⟩ (.slice A3 l2.length m3)) := (Aside.of (Below.refl _ _)).set _
     have HROW8 := hid (HROW7.out.other ha8 hneQ)
     have HEVS8 := hid (show EVs (w7.setCell ⟨Q, 8, none⟩ (.slice A3 l2.length m3)) (fun j => Q + 1 ≤ j ∧ j < (w7.setCell ⟨Q, 8, none⟩ (.slice A3 l2.length m3)).heap.size ∧ some j ≠ (Value.slice A3 l2.length m3).ownBlock) l2 from fun z hz => ((HEVS7.out z hz).keep fun k hk => ha8.block k hk.2.1 (by have := hk.1; omega)).wide fun k hk => ⟨hk.1, by rw [World.size_setCell]; exact hk.2.1, hk.2.2⟩)
     have KB8 := hid (KB7.out.far (p := ⟨Q, 8, none⟩) (show g + 1 ≠ Q by omega) (.slice A3 l2.length m3))
     have KQ8 := hid (show Blk (w7.setCell ⟨Q, 8, none⟩ (.slice A3 l2.length m3)) Q 29 #[.string o, .string n, .int .i64 t.kind, .bool t.tr, .int .i64 t.num, .string t.str, .slice none 0 0, .slice A' 0 c', .slice A3 l2.length m3] from KQ7.out.set_ 8 _)
     have HX8 := hid (HX7.out.far (p := ⟨Q, 8, none⟩) (show X ≠ Q by omega) (.slice A3 l2.length m3))
     have HB8 := hid (HB7.out.setCell (p := ⟨Q, 8, none⟩) (show g ≤ Q by omega) (.slice A3 l2.length m3))
     clear ha8 hneQ
     generalize (w7.setCell ⟨Q, 8, none⟩ (.slice A3 l2.length m3)) = w8 at *
     refine hK.out _ _ ?_ (fun hHeld => ?_)
     · exact HSO.out _ HX8.out
     clear hK K0 x8 z8
     try simp only [Act.put, sqa, sqb, sqc, sqd, sqe, sqf]
     refine wpAnyH_done (by kernel_rfl) ?_ _
     clear q8' q8a
     have hl2 : l2.length ≤ l.length := by rw [HLN.out]; omega
     have e2 : (rr.length : Int) + 1 = (l2.length : Nat) := by rw [HLN.out]; push_cast; rfl
     go_wp2_with fail
     go_roundw
     case rel => exact ⟨l2, A3, m3, by rw [HLN.out], hl2, HMP.out, HLM.out, HROW8.out, HEVS8.out, KQ8.out, KB8.out, HB8.out⟩
     case measure => simp only [intOf, Int.toNat_natCast]; have := HLN.out; go_num
   ·
    have hle : rr.length = l.length := by omega
    have HLE := hid hle
    have u1 : decide (rr.length < l.length) = false := decide_eq_false (by omega)
    have u2 : decide ((rr.length : Int) < (l.length : Int)) = false := decide_eq_false (by omega)
    clear hle
    obtain ⟨c0, c1, c2, c3, c4, c5, c6, c7, c8⟩ := all9 KQ.out
    obtain ⟨y0, y1, y2, y3, y4, y5, y6, y7, y8, z0, z1, z2, z3, z4, z5, z6, z7, z8, x0, x1, x2, x3, x4, x5, x6, x7, x8⟩ := old9 KB.out
    have HEE := hid (show EV wr (fun j => Q + 1 ≤ j ∧ j < wr.heap.size) (.mk o n t l) ⟨none, 0, A', c', A2, m2⟩ from by
     have h := EV.ofRowV (L := none) (cL := 0) (M := A') (cM := c') (o := o) (m := n) HIT.out HKT.out HROW.out HEVS.out HRM.out
     rw [HMAP.out, HLE.out, List.take_length] at h
     exact h)
    clear hbw hrl hrm hlt
    go_wp2_with fail
    refine put9_gen KB.out _ _ _ _ _ _ _ _ _ (fun WZ hf0 hf1 hf2 hf3 => ?_)
    have hsz : WZ.heap.size = wr.heap.size := hf3
    have HF2 := hid hf0
    have HFB2 := hid ((hf1 _ _ HBW.out (show g ≤ g + 1 from Nat.le_succ g)))
    have HEF := hid (show EV WZ (fun j => g ≤ j ∧ j < WZ.heap.size) (.mk o n t l) ⟨none, 0, A', c', A2, m2⟩ from (HEE.out.keep (fun j hj => (hf2 _ (by have := hj.1; omega)))).wide (fun j hj => ⟨by have := hj.1; omega, by rw [hsz]; exact hj.2⟩))
    clear z0 x0 z1 x1 z2 x2 z3 x3 z4 x4 z5 x5 z6 x6 z7 x7 z8 x8 c0 c1 c2 c3 c4 c5 c6 c7 c8 hsz
    clear hf0 hf1 hf2 hf3
    obtain ⟨c0, c1, c2, c3, c4, c5, c6, c7, c8⟩ := all9 HF2.out
    refine bodyPost_ret (v := .agg #[.string o, .string n, .int .i64 t.kind, .bool t.tr, .int .i64 t.num, .string t.str, .slice none 0 0, .slice A' 0 c', .slice A2 rr.length m2]) (by simp [results, Tryz.results14, go_sem, c0, c1, c2, c3, c4, c5, c6, c7, c8]) rfl ⟨A2, m2, ?_, ?_, ?_⟩
    · rw [HLE.out]
    · rw [HG.out]; exact HEF.out
    · rw [HG.out]; exact HFB2.out
theorem l8ref_any : ∀ e : E, e.size ≤ 100000 → Lf e → ∀ (q2 : Hd) (w : World) (S : Nat → Prop), (∀ j, S j → j < w.heap.size) → EV w S e q2 → Calls Tryz.prog 14 #[.agg (ecs e q2)] w fun en w' => ∃ P2 p2, en = .returned (.agg (ecs e ⟨none, 0, q2.L', q2.l', P2, p2⟩)) ∧ EV w' (fun j => w.heap.size ≤ j ∧ j < w'.heap.size) e ⟨none, 0, q2.L', q2.l', P2, p2⟩ ∧ Below w.heap.size w w' := by
 refine E.ind ?_
 intro e ih hsz hlf q2 w S hS hev
 have hal := args_len e
 have hms := fun x (hx : x ∈ e.args) => (show x.size ≤ 100000 from by have := E.mem_size hx; have := E.size_eq e; omega)
 have hi := hlf.i
 have hk := hlf.k
 have hla := hlf.a
 obtain ⟨o, n, t, l⟩ := e
 obtain ⟨A, c, A', c', P, q⟩ := q2
 have hi' : t.items = [] := hi
 have hk' : t.keys = [] := hk
 have h := l8ref_step o n t l hi' hk' (by have : l.length < _ := hal; omega) (fun x hx q2 w S hS hev => ih x hx (hms x hx) (hla x hx) q2 w S hS hev) A c A' c' P q w S hS hev
 unfold ecs
 dsimp only [E.op, E.name, E.lit, E.args]
 rw [hi', hk']
 exact h
open Go.RowKit
open Tk Ex
def nulE : E := .mk ⟨#[]⟩ ⟨#[]⟩ Rd.nulT []
def resE : Res → E
 | .ok x _ => x
 | _ => nulE
def resP : Res → Nat
 | .ok _ p => p
 | .err p _ => p
 | .out => 0
def resC : Res → Int
 | .err _ c => c
 | _ => 0
theorem nulE_ev (w : World) (S : Nat → Prop) : EV w S nulE hd0 := EV.leaf rfl rfl
def acn (x : E) (h : Hd) (p : Nat) (c : Int) : Array Value :=
 #[.string x.op, .string x.name, .int .i64 x.lit.kind, .bool x.lit.tr, .int .i64 x.lit.num, .string x.lit.str, .slice h.L x.lit.items.length h.l, .slice h.L' x.lit.keys.length h.l', .slice h.A x.args.length h.c, .int .i64 p, .int .i64 c]
theorem ReadP.any {R : Res} {w : World} {e : Ending} {w' : World} (h : ReadP R w e w') (hR : R ≠ .out) : ∃ q, e = .returned (.tuple #[.agg (ecs (resE R) q), .int .i64 (resP R : Nat), .int .i64 (resC R)]) ∧ EV w' (· < w'.heap.size) (resE R) q ∧ Below w.heap.size w w' := by
 cases R with
 | out => exact absurd rfl hR
 | ok x p => obtain ⟨q, he, hv, hb⟩ := h; exact ⟨q, he, hv.wide fun k hk => hk.2, hb⟩
 | err p c => obtain ⟨he, hb⟩ := h; exact ⟨hd0, he, nulE_ev _ _, hb⟩
theorem ReadR.any {R : Res} {w : World} {e : Ending} {w' : World} (h : ReadR R w e w') (hR : R ≠ .out) : ∃ q, e = .returned (.agg (acn (resE R) q (resP R) (resC R))) ∧ EV w' (· < w'.heap.size) (resE R) q ∧ Below w.heap.size w w' := by
 cases R with
 | out => exact absurd rfl hR
 | ok x p => obtain ⟨q, he, hv, hb⟩ := h; exact ⟨q, he, hv.wide fun k hk => hk.2, hb⟩
 | err p c => obtain ⟨he, hc, hb⟩ := h; exact ⟨hd0, he, nulE_ev _ _, hb⟩
theorem l8ref_lit {x : E} (hsz : x.size ≤ 100000) (hlf : Lf x) (A : Option Addr) (a : Nat) (B : Option Addr) (b : Nat) (C : Option Addr) (c : Nat) (w : World) (hev : EV w (· < w.heap.size) x ⟨A, a, B, b, C, c⟩) :
 Calls Tryz.prog 14 #[.agg #[.string x.op, .string x.name, .int .i64 x.lit.kind, .bool x.lit.tr, .int .i64 x.lit.num, .string x.lit.str, .slice A x.lit.items.length a, .slice B x.lit.keys.length b, .slice C x.args.length c]] w fun en w' => ∃ P q, en = .returned (.agg #[.string x.op, .string x.name, .int .i64 x.lit.kind, .bool x.lit.tr, .int .i64 x.lit.num, .string x.lit.str, .slice none x.lit.items.length 0, .slice B x.lit.keys.length b, .slice P x.args.length q]) ∧ EV w' (· < w'.heap.size) x ⟨none, 0, B, b, P, q⟩ ∧ Below w.heap.size w w' :=
 (l8ref_any x hsz hlf ⟨A, a, B, b, C, c⟩ w (· < w.heap.size) (fun j hj => hj) hev).mono fun en w' h => by
  obtain ⟨P, q, he, hv, hb⟩ := h
  exact ⟨P, q, he, hv.wide fun j hj => hj.2, hb⟩
theorem r8same_lit {x : E} (hsz : x.size ≤ 100000) (hlf : Lf x) (A : Option Addr) (a : Nat) (B : Option Addr) (b : Nat) (C : Option Addr) (c : Nat) (A' : Option Addr) (a' : Nat) (B' : Option Addr) (b' : Nat) (C' : Option Addr) (c' : Nat) (w : World) (h1 : EV w (· < w.heap.size) x ⟨A, a, B, b, C, c⟩) (h2 : EV w (· < w.heap.size) x ⟨A', a', B', b', C', c'⟩) :
 Calls Tryz.prog 13 #[.agg #[.string x.op, .string x.name, .int .i64 x.lit.kind, .bool x.lit.tr, .int .i64 x.lit.num, .string x.lit.str, .slice A x.lit.items.length a, .slice B x.lit.keys.length b, .slice C x.args.length c], .agg #[.string x.op, .string x.name, .int .i64 x.lit.kind, .bool x.lit.tr, .int .i64 x.lit.num, .string x.lit.str, .slice A' x.lit.items.length a', .slice B' x.lit.keys.length b', .slice C' x.args.length c']] w fun en w' => en = .returned (.bool true) ∧ Below w.heap.size w w' := by
 rw [hlf.i, hlf.k]
 exact r8same_any x hsz hlf A a B b C c A' a' B' b' C' c' w h1 h2
end Go.Proofs.YtofgmddlacenhaaGreatDoor
