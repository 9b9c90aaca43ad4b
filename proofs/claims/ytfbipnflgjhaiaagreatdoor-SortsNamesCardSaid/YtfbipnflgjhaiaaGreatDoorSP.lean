/- Names that have sorts: contracts of Index and of find. What kinds of values an expression may have: contract of Check, of any tree, wherever it is. The fixed fact of layer 9; the reference's sorts of a number: contracts. -/
import Derived.Test.YtfbipnflgjhaiaaGreatDoorSO
import Derived.Test.YtfbipnflgjhaiaaGreatDoorEO
import Derived.Laws.MakeOwn
import Derived.Test.YtfbipnflgjhaiaaGreatDoorEV
set_option linter.unusedVariables false
set_option maxRecDepth 100000
set_option maxHeartbeats 8000000
open Go.Lib (hid)
namespace Go.Proofs.YtfbipnflgjhaiaaGreatDoor
open Go.RowKit
open Tk Ex
def EnvIn (w : World) (n : En) (NA SA : Option Addr) : Prop := SReads w (· < w.heap.size) NA n.names ∧ (n.sorts ≠ [] → ∃ b o, SA = some ⟨b, o, none⟩ ∧ SRow w b o n.sorts)
theorem EnvIn.on {w w' : World} {n : En} {NA SA : Option Addr} (h : EnvIn w n NA SA) (hb : Below w.heap.size w w') : EnvIn w' n NA SA :=
 ⟨h.1.on hb, fun hn => by obtain ⟨b, o, e, hr⟩ := h.2 hn; exact ⟨b, o, e, hr.on hb⟩⟩
theorem findS_none : ∀ {ns : List ByteArray} {ss : List Nat} {m : ByteArray}, (∀ x ∈ ns, eqb x m = false) → findS ns ss m = none
 | [], _, _, _ => by simp [findS]
 | n :: ns, [], _, _ => by simp [findS]
 | n :: ns, s :: ss, m, h => by
  rw [findS, if_neg (by rw [h n List.mem_cons_self]; decide)]
  exact findS_none fun x hx => h x (List.mem_cons_of_mem _ hx)
theorem findS_hit : ∀ {ns : List ByteArray} {ss : List Nat} {m : ByteArray} {k : Nat} {x : ByteArray}, ns[k]? = some x → eqb x m = true → (∀ y ∈ ns.take k, eqb y m = false) → findS ns ss m = ss[k]?
 | [], _, _, _, _, h, _, _ => by simp at h
 | n :: ns, [], _, _, _, _, _, _ => by simp [findS]
 | n :: ns, s :: ss, m, 0, x, h, hx, _ => by
  simp at h
  subst h
  rw [findS, if_pos hx]; rfl
 | n :: ns, s :: ss, m, k + 1, x, h, hx, hy => by
  rw [findS, if_neg (by rw [hy n (by simp)]; decide), findS_hit (k := k) (by simpa using h) hx (fun y h2 => hy y (by simp [h2]))]
  simp
def fndS (n : En) (m : ByteArray) : Nat × Int := match findS n.names n.sorts m with
 | some s => (s, 0)
 | none => (0, 13)
theorem fndS_none {n : En} {m : ByteArray} (h : findS n.names n.sorts m = none) : fndS n m = (0, 13) := by unfold fndS; rw [h]
theorem fndS_some {n : En} {m : ByteArray} {s : Nat} (h : findS n.names n.sorts m = some s) : fndS n m = (s, 0) := by unfold fndS; rw [h]
def IdxS (ns : List ByteArray) (m : ByteArray) (r : Int) : Prop := (r = -1 ∧ ∀ x ∈ ns, eqb x m = false) ∨ ∃ (k : Nat) (x : ByteArray), r = (k : Int) ∧ ns[k]? = some x ∧ eqb x m = true ∧ ∀ y ∈ ns.take k, eqb y m = false
theorem index9_any (ns : List ByteArray) (m : ByteArray) (NA : Option Addr) (nc : Nat) (w : World) (hn : ns.length ≤ 1000) (h : SReads w (· < w.heap.size) NA ns) :
 Calls Tryz.prog 32 #[.slice NA ns.length nc, .string m] w fun e w' => ∃ r, e = .returned (.int .i64 r) ∧ IdxS ns m r ∧ w = w' := by
 have H := hid h
 clear h
 go_enter Tryz.func32, Tryz.ntmps32
 go_wp2_with fail
 go_loop [8] (fun x => ∃ k : Nat, k ≤ ns.length ∧ x = .int .i64 k ∧ ∀ y ∈ ns.take k, eqb y m = false) (fun x => ns.length - (intOf x).toNat)
 case atStart => exact ⟨0, Nat.zero_le _, rfl, fun y hy => by simp at hy⟩
 case round =>
  obtain ⟨k, hk, rfl, hall⟩ := hrel
  have HALL := hid hall
  clear hall
  by_cases hlt : k < ns.length
  ·
   have u1 : decide (k < ns.length) = true := decide_eq_true hlt
   have u2 : decide ((k : Int) < (ns.length : Int)) = true := decide_eq_true (by omega)
   have i1 : (k : Int) < (ns.length : Int) := by omega
   have i2 : (0 : Int) ≤ (k : Int) := by omega
   obtain ⟨b, o, hNA, _, hcs⟩ := H.out (by intro e; rw [e] at hlt; simp at hlt)
   obtain ⟨x, hx⟩ : ∃ x, ns[k]? = some x := ⟨_, List.getElem?_eq_getElem hlt⟩
   have c0 := hcs k x hx
   have HX := hid hx
   have HTK := hid (show ns.take (k + 1) = ns.take k ++ [x] by rw [List.take_add_one, hx]; rfl)
   clear hcs hx
   subst hNA
   obtain ⟨z, hz⟩ : ∃ z, eqb x m = z := ⟨_, rfl⟩
   have f1 : (x.toList == m.toList) = z := by rw [tl_eqb]; exact hz
   have f2 : (m.toList == x.toList) = z := by rw [BEq.comm]; exact f1
   have HZ := hid hz
   clear hz
   cases z with
   | true =>
    go_wp2_with fail
    go_ret
    exact ⟨_, rfl, .inr ⟨k, x, rfl, HX.out, HZ.out, HALL.out⟩, rfl⟩
   | false =>
    go_wp2_with fail
    go_round
    case rel => exact ⟨k + 1, hlt, by go_num, fun y hy => by
     rw [HTK.out, List.mem_append, List.mem_singleton] at hy
     rcases hy with hy | rfl
     · exact HALL.out y hy
     · exact HZ.out⟩
    case measure => simp [intOf]; omega
  ·
   obtain rfl : k = ns.length := by omega
   have u1 : decide (ns.length < ns.length) = false := decide_eq_false (by omega)
   have u2 : decide ((ns.length : Int) < (ns.length : Int)) = false := decide_eq_false (by omega)
   go_wp2_with fail
   go_ret
   exact ⟨-1, rfl, .inl ⟨rfl, fun x hx => HALL.out x (by rw [List.take_length]; exact hx)⟩, rfl⟩
theorem ofind_any (n : En) (m : ByteArray) (NA : Option Addr) (nc : Nat) (SA : Option Addr) (sc : Nat) (w : World) (hns : n.names.length ≤ 1000) (hss : n.sorts.length ≤ 1000) (h : EnvIn w n NA SA) :
 Calls Tryz.prog 18 #[.agg #[.int .i64 (n.this : Int), .slice NA n.names.length nc, .slice SA n.sorts.length sc], .string m] w fun e w' => e = .returned (.tuple #[.int .i64 ((fndS n m).1 : Nat), .int .i64 (fndS n m).2]) ∧ Below w.heap.size w w' := by
 have hW : Below w.heap.size w (w.alloc (.cells #[.int .i64 (n.this : Int), .slice NA n.names.length nc, .slice SA n.sorts.length sc] 36)) := (Below.refl _ _).alloc (Nat.le_refl _) _
 have kA : Blk (w.alloc (.cells #[.int .i64 (n.this : Int), .slice NA n.names.length nc, .slice SA n.sorts.length sc] 36)) w.heap.size 36 #[.int .i64 (n.this : Int), .slice NA n.names.length nc, .slice SA n.sorts.length sc] := Blk.new w _ _
 have HIX := hid (index9_any n.names m NA nc (w.alloc (.cells #[.int .i64 (n.this : Int), .slice NA n.names.length nc, .slice SA n.sorts.length sc] 36)) hns (h.1.on hW))
 have HEN := hid (h.on hW)
 have HFN := hid (fun hh => fndS_none (findS_none (ns := n.names) (ss := n.sorts) (m := m) hh))
 have HFH := hid (fun (k : Nat) x h1 h2 h3 => findS_hit (ns := n.names) (ss := n.sorts) (m := m) (k := k) (x := x) h1 h2 h3)
 have HKL := hid (fun (k : Nat) (x : ByteArray) (h : n.names[k]? = some x) => (List.getElem?_eq_some_iff.1 h).1)
 have HW := hid hW
 go_enter Tryz.func18, Tryz.ntmps18
 go_upto_region 1 with fail
 change Code.wp _ _ _ _ (w.alloc (.cells #[.int .i64 (n.this : Int), .slice NA n.names.length nc, .slice SA n.sorts.length sc] 36))
 have a1 := kA.cell 1
 have a2 := kA.cell 2
 generalize (w.alloc (.cells #[.int .i64 (n.this : Int), .slice NA n.names.length nc, .slice SA n.sorts.length sc] 36)) = W at *
 clear hW kA h
 go_wp2_with fail
 refine HIX.out.mono ?_
 rintro e w2 ⟨r, rfl, hix, rfl⟩
 rcases hix with ⟨rfl, hno⟩ | ⟨k, x, rfl, hx, hxm, hy⟩
 ·
  have HR := hid (HFN.out hno)
  clear hno
  go_wp2_with fail
  go_ret2
  exact ⟨by rw [HR.out] <;> rfl, HW.out⟩
 ·
  have hk := HKL.out k x hx
  have HR := hid (HFH.out k x hx hxm hy)
  have t1 : decide ((k : Int) < 0) = false := decide_eq_false (by omega)
  clear hx hxm hy
  by_cases hlt : k < n.sorts.length
  ·
   have t2 : decide ((k : Int) ≥ (n.sorts.length : Int)) = false := decide_eq_false (by omega)
   have t3 : decide ((n.sorts.length : Int) ≤ (k : Int)) = false := decide_eq_false (by omega)
   have t4 : decide (n.sorts.length ≤ k) = false := decide_eq_false (by omega)
   have i1 : (k : Int) < (n.sorts.length : Int) := by omega
   have i2 : (0 : Int) ≤ (k : Int) := by omega
   obtain ⟨b, o, hSA, hrow⟩ := HEN.out.2 (by intro e; rw [e] at hlt; simp at hlt)
   obtain ⟨s, hs⟩ : ∃ s, n.sorts[k]? = some s := ⟨_, List.getElem?_eq_getElem hlt⟩
   have c0 := hrow.2 k s hs
   have HS := hid (fndS_some (HR.out.trans hs))
   clear hrow hs
   subst hSA
   go_wp2_with fail
   go_ret2
   exact ⟨by rw [HS.out] <;> rfl, HW.out⟩
  ·
   have t2 : decide ((k : Int) ≥ (n.sorts.length : Int)) = true := decide_eq_true (by omega)
   have t3 : decide ((n.sorts.length : Int) ≤ (k : Int)) = true := decide_eq_true (by omega)
   have t4 : decide (n.sorts.length ≤ k) = true := decide_eq_true (by omega)
   have HS := hid (fndS_none (HR.out.trans (List.getElem?_eq_none (by omega))))
   go_wp2_with fail
   go_ret2
   exact ⟨by rw [HS.out] <;> rfl, HW.out⟩
open Go.RowKit
open Tk Ex
theorem infoSorts : (Tryz.prog.info? 33).map (fun i => (i.zero, i.size, i.bytes)) = some (some (.int .i64 0), 1, 8) := by kernel_rfl
def ChkAt (n : En) (e : E) : Prop := ∀ (h : Hd) (NA : Option Addr) (nc : Nat) (SA : Option Addr) (sc : Nat) (w : World), EV w (· < w.heap.size) e h → EnvIn w n NA SA → Calls Tryz.prog 8 #[.agg (ecs e h), .agg #[.int .i64 (n.this : Int), .slice NA n.names.length nc, .slice SA n.sorts.length sc]] w fun en w' => en = .returned (.tuple #[.int .i64 ((chk n e).1 : Nat), .int .i64 (chk n e).2]) ∧ Below w.heap.size w w'
theorem chk_step (n : En) (h64 : n.this < 64) (hs64 : ∀ x ∈ n.sorts, x < 64) (hns : n.names.length ≤ 1000) (hss : n.sorts.length ≤ 1000) (e : E) (hlen : e.args.length ≤ 1000) (ih : ∀ x ∈ e.args, ChkAt n x) : ChkAt n e := by
 intro h NA nc SA sc w hev hen
 obtain ⟨hL, hl1, hL', hl2, hA1, hc1⟩ := h
 have HEV := hid hev
 have HEN := hid hen
 have HAR := hid ih
 have H64 := hid h64
 have HS64 := hid hs64
 have HCE := hid (chk_eq n e)
 clear hev hen ih h64 hs64
 unfold ecs
 dsimp only
 obtain ⟨i0, hi, hz0, hz1, hz2⟩ := info_parts infoSorts
 have hmk : ∀ W : World, (Instr.makeSlice 34 (.int .i64 ((e.args.length : Nat) : Int)) (.int .i64 ((e.args.length : Nat) : Int))).run Tryz.prog W = .ok (.slice (some ⟨W.heap.size, 0, none⟩) e.args.length e.args.length) (W.alloc (.cells (madeCells #[.int .i64 0] e.args.length) 33)) := by
  intro W
  have := run_make (P := Tryz.prog) W 34 33 i0 _ Tryz.underlying34 hi hz0 .i64 .i64 e.args.length e.args.length (by omega) (by omega) (by rw [hz2]; omega) (by omega)
  rw [hz1, Nat.mul_one] at this
  exact this
 clear hi hz0 hz1 hz2
 go_enter Tryz.func8, Tryz.ntmps8
 go_upto_region 1 with fail
 have hW1 : Below w.heap.size w ((w.alloc (.cells #[.string e.op, .string e.name, .int .i64 e.lit.kind, .bool e.lit.tr, .int .i64 e.lit.num, .string e.lit.str, .slice hL e.lit.items.length hl1, .slice hL' e.lit.keys.length hl2, .slice hA1 e.args.length hc1] 52)).alloc (.cells #[.int .i64 (n.this : Int), .slice NA n.names.length nc, .slice SA n.sorts.length sc] 36)) := ((Below.refl _ _).alloc (Nat.le_refl _) _).alloc (by simp) _
 have kA : Blk ((w.alloc (.cells #[.string e.op, .string e.name, .int .i64 e.lit.kind, .bool e.lit.tr, .int .i64 e.lit.num, .string e.lit.str, .slice hL e.lit.items.length hl1, .slice hL' e.lit.keys.length hl2, .slice hA1 e.args.length hc1] 52)).alloc (.cells #[.int .i64 (n.this : Int), .slice NA n.names.length nc, .slice SA n.sorts.length sc] 36)) w.heap.size 52 #[.string e.op, .string e.name, .int .i64 e.lit.kind, .bool e.lit.tr, .int .i64 e.lit.num, .string e.lit.str, .slice hL e.lit.items.length hl1, .slice hL' e.lit.keys.length hl2, .slice hA1 e.args.length hc1] := (Blk.new w _ _).alloc _
 have kB : Blk ((w.alloc (.cells #[.string e.op, .string e.name, .int .i64 e.lit.kind, .bool e.lit.tr, .int .i64 e.lit.num, .string e.lit.str, .slice hL e.lit.items.length hl1, .slice hL' e.lit.keys.length hl2, .slice hA1 e.args.length hc1] 52)).alloc (.cells #[.int .i64 (n.this : Int), .slice NA n.names.length nc, .slice SA n.sorts.length sc] 36)) (w.heap.size + 1) 36 #[.int .i64 (n.this : Int), .slice NA n.names.length nc, .slice SA n.sorts.length sc] := by
  have := Blk.new (w.alloc (.cells #[.string e.op, .string e.name, .int .i64 e.lit.kind, .bool e.lit.tr, .int .i64 e.lit.num, .string e.lit.str, .slice hL e.lit.items.length hl1, .slice hL' e.lit.keys.length hl2, .slice hA1 e.args.length hc1] 52)) 36 #[.int .i64 (n.this : Int), .slice NA n.names.length nc, .slice SA n.sorts.length sc]
  simpa using this
 have hs1 : ((w.alloc (.cells #[.string e.op, .string e.name, .int .i64 e.lit.kind, .bool e.lit.tr, .int .i64 e.lit.num, .string e.lit.str, .slice hL e.lit.items.length hl1, .slice hL' e.lit.keys.length hl2, .slice hA1 e.args.length hc1] 52)).alloc (.cells #[.int .i64 (n.this : Int), .slice NA n.names.length nc, .slice SA n.sorts.length sc] 36)).heap.size = w.heap.size + 2 := by simp
 change Code.wp _ _ _ _ ((w.alloc (.cells #[.string e.op, .string e.name, .int .i64 e.lit.kind, .bool e.lit.tr, .int .i64 e.lit.num, .string e.lit.str, .slice hL e.lit.items.length hl1, .slice hL' e.lit.keys.length hl2, .slice hA1 e.args.length hc1] 52)).alloc (.cells #[.int .i64 (n.this : Int), .slice NA n.names.length nc, .slice SA n.sorts.length sc] 36))
 generalize ((w.alloc (.cells #[.string e.op, .string e.name, .int .i64 e.lit.kind, .bool e.lit.tr, .int .i64 e.lit.num, .string e.lit.str, .slice hL e.lit.items.length hl1, .slice hL' e.lit.keys.length hl2, .slice hA1 e.args.length hc1] 52)).alloc (.cells #[.int .i64 (n.this : Int), .slice NA n.names.length nc, .slice SA n.sorts.length sc] 36)) = W1 at *
 have a8 := kA.cell 8
 have HW1 := hid hW1
 have HA := hid kA
 have HB := hid kB
 have HS1 := hid hs1
 clear hW1 kA kB hs1
 go_upto_region 2 with fail
 have hW2 : Below W1.heap.size W1 (W1.alloc (.cells (madeCells #[.int .i64 0] e.args.length) 33)) := (Below.refl _ _).alloc (Nat.le_refl _) _
 have kC := Blk.new W1 33 (madeCells #[.int .i64 0] e.args.length)
 have kA := HA.out.onto hW2
 have kB := HB.out.onto hW2
 change Code.wp _ _ _ _ (W1.alloc (.cells (madeCells #[.int .i64 0] e.args.length) 33))
 have HW2 := hid (HW1.out.trans (hW2.mono HW1.out.size))
 have hs2 : (W1.alloc (.cells (madeCells #[.int .i64 0] e.args.length) 33)).heap.size = W1.heap.size + 1 := by simp
 generalize (W1.alloc (.cells (madeCells #[.int .i64 0] e.args.length) 33)) = W2 at *
 have HA2 := hid kA
 have HB2 := hid kB
 have HC2 := hid kC
 have HS2 := hid hs2
 clear hW2 kA kB kC hs2 a8 hmk
 have a8 := HA2.out.cell 8
 go_upto_region 3 with fail
 clear a8
 go_loopw [20] (fun x wr => ∃ (k : Nat) (vs : List Nat), k ≤ e.args.length ∧ chks n (e.args.take k) = .inl vs ∧ vs.length = k ∧ x = .int .i64 k ∧ (∃ cs, Blk wr W1.heap.size 33 cs ∧ cs.size = e.args.length ∧ ∀ i v : Nat, vs[i]? = some v → cs[i]? = some (.int .i64 (v : Int))) ∧ Below W1.heap.size W2 wr) (fun x _ => e.args.length - (intOf x).toNat)
 case atStart => exact ⟨0, [], Nat.zero_le _, rfl, rfl, rfl, ⟨_, HC2.out, by rw [size_madeCells], fun i v h => by simp at h⟩, Below.refl _ _⟩
 case round =>
  obtain ⟨k, vs, hk, hvs, hvl, rfl, ⟨cs, hcs, hcz, hci⟩, hbel⟩ := hrel
  have HVS := hid hvs
  have HVL := hid hvl
  have HCS := hid hcs
  have HCI := hid hci
  have HBl := hid hbel
  have hws := hbel.size
  have q2 : w.heap.size + 1 < W1.heap.size := by have := HS1.out; omega
  have q3 : W1.heap.size < W2.heap.size := by have := HS2.out; omega
  have kA : Blk wr w.heap.size 52 #[.string e.op, .string e.name, .int .i64 e.lit.kind, .bool e.lit.tr, .int .i64 e.lit.num, .string e.lit.str, .slice hL e.lit.items.length hl1, .slice hL' e.lit.keys.length hl2, .slice hA1 e.args.length hc1] := (HBl.out.block _ (by omega)).trans HA2.out
  have kB : Blk wr (w.heap.size + 1) 36 #[.int .i64 (n.this : Int), .slice NA n.names.length nc, .slice SA n.sorts.length sc] := (HBl.out.block _ (by omega)).trans HB2.out
  have HKA := hid kA
  have HKB := hid kB
  have HWR := hid (HW2.out.trans (HBl.out.mono (show w.heap.size ≤ W1.heap.size by omega)))
  have HCZ := hid hcz
  clear hvs hvl hcs hci hbel kA kB hcz
  by_cases hlt : k < e.args.length
  ·
   have u1 : decide (k < e.args.length) = true := decide_eq_true hlt
   have u2 : decide ((k : Int) < (e.args.length : Int)) = true := decide_eq_true (by omega)
   have i1 : (k : Int) < (e.args.length : Int) := by omega
   have i2 : (0 : Int) ≤ (k : Int) := by omega
   have hev2 := (HEV.out.keep (Keeps.of_below HWR.out))
   obtain ⟨bb, o, x, q, hAe, hSb, hx, h9, hex⟩ := hev2.at_ (show k < e.args.length from hlt)
   dsimp only at hAe
   subst hAe
   obtain ⟨p0, p1, p2, p3, p4, p5, p6, p7, p8⟩ := h9.cells
   have HEX := hid hex
   have HX := hid hx
   have HCK := hid (HAR.out x (List.mem_of_getElem? hx) q NA nc SA sc)
   clear hev2 h9 hex hx
   go_upto_region 5 with fail
   refine alloc_gn (fun W5 hW5 hB5 => ?_)
   have HEX5 := hid ((HEX.out.keep (w' := W5) (fun q2 hq => hW5.block q2 (Nat.lt_of_lt_of_le hq HWR.out.size))).wide (S' := (· < W5.heap.size)) (fun q2 hq => by have h1 : q2 < w.heap.size := hq; have h2 := HWR.out.size; have h3 := hW5.size; show q2 < _; omega))
   have HEN5 := hid ((HEN.out.on HWR.out).on (hW5.mono (w := wr) (Nat.le_refl _)))
   have HC5 := hid (HCS.out.onto hW5)
   have HE5 := hid (HKB.out.onto hW5)
   have HA5 := hid (HKA.out.onto hW5)
   have HBl5 := hid (HBl.out.trans (hW5.mono (by omega)))
   have HWR5 := hid (HWR.out.trans (hW5.mono HWR.out.size))
   have b0 := hB5.cell 0
   have b1 := hB5.cell 1
   have b2 := hB5.cell 2
   have b3 := hB5.cell 3
   have b4 := hB5.cell 4
   have b5 := hB5.cell 5
   have b6 := hB5.cell 6
   have b7 := hB5.cell 7
   have b8 := hB5.cell 8
   have e0 := HE5.out.cell 0
   have e1 := HE5.out.cell 1
   have e2 := HE5.out.cell 2
   clear hB5 hW5 p0 p1 p2 p3 p4 p5 p6 p7 p8
   generalize wr.heap.size = g5 at *
   have HCC := hid (show Calls Tryz.prog 8 #[.agg #[.string x.op, .string x.name, .int .i64 x.lit.kind, .bool x.lit.tr, .int .i64 x.lit.num, .string x.lit.str, .slice q.L x.lit.items.length q.l, .slice q.L' x.lit.keys.length q.l', .slice q.A x.args.length q.c], .agg #[.int .i64 (n.this : Int), .slice NA n.names.length nc, .slice SA n.sorts.length sc]] W5 fun en w' => en = .returned (.tuple #[.int .i64 ((chk n x).1 : Nat), .int .i64 (chk n x).2]) ∧ Below W5.heap.size W5 w' from HCK.out W5 HEX5.out HEN5.out)
   have HTK := hid (show e.args.take (k + 1) = e.args.take k ++ [x] by rw [List.take_add_one, HX.out]; rfl)
   have HBD := hid (fun h => chks_bad n x (e.args.drop (k + 1)) HVS.out h)
   have HSN := hid (fun h => chks_snoc n x HVS.out h)
   have HSP := hid (show e.args = e.args.take k ++ x :: e.args.drop (k + 1) by
    have h1 := List.drop_eq_getElem_cons hlt
    rw [(List.getElem?_eq_some_iff.1 HX.out).2] at h1
    rw [← h1]
    exact (List.take_append_drop k e.args).symm)
   clear HCK
   obtain ⟨cv, hcv⟩ : ∃ c, (chk n x).2 = c := ⟨_, rfl⟩
   rw [hcv] at HCC HBD HSN
   obtain ⟨v, hv⟩ : ∃ v, (chk n x).1 = v := ⟨_, rfl⟩
   rw [hv] at HCC HSN
   clear hcv hv
   by_cases hc : cv = 0
   ·
    subst hc
    go_wp2_with fail
    refine HCC.out.mono ?_
    rintro en w6 ⟨rfl, hb6⟩
    have h5s := HBl5.out.size
    have HC6 := hid (HC5.out.onto hb6)
    have HBl6 := hid (HBl5.out.trans (hb6.mono (by omega)))
    have hkcs : k < cs.size := by rw [HCZ.out]; exact hlt
    have z0 : w6.cell? ⟨W1.heap.size, k, none⟩ = some cs[k] := by rw [HC6.out.cell k, Array.getElem?_eq_getElem hkcs]
    have x0 := HC6.out.free k
    generalize cs[k] = old at *
    clear hb6 b0 b1 b2 b3 b4 b5 b6 b7 b8 e0 e1 e2 h5s
    go_wp2_with fail
    go_roundw
    case rel =>
     refine ⟨k + 1, vs ++ [v], hlt, ?_, ?_, ?_, ⟨_, HC6.out.set_ k _, ?_, ?_⟩, HBl6.out.setCell (p := ⟨W1.heap.size, k, none⟩) (Nat.le_refl _) _⟩
     · rw [HTK.out]; exact HSN.out (by first | trivial | rfl)
     · rw [List.length_append, List.length_singleton, HVL.out]
     · go_num
     · rw [Array.size_setIfInBounds]; exact HCZ.out
     ·
      intro i v' hv'
      rcases Nat.lt_or_ge i k with h | h
      ·
       rw [List.getElem?_append_left (by rw [HVL.out]; exact h)] at hv'
       rw [Array.getElem?_setIfInBounds_ne (by omega)]; exact HCI.out i v' hv'
      ·
       rw [List.getElem?_append_right (by rw [HVL.out]; exact h), HVL.out] at hv'
       obtain rfl : i = k := by
        rcases Nat.eq_or_lt_of_le h with e0 | e0
        · exact e0.symm
        · rw [List.getElem?_eq_none (by simp; omega)] at hv'; cases hv'
       rw [Nat.sub_self] at hv'
       injection hv' with hv'
       subst hv'
       rw [Array.getElem?_setIfInBounds_self_of_lt hkcs]
    case measure => simp [intOf]; omega
   ·
    have n1 : (cv == 0) = false := beq_eq_false_iff_ne.2 hc
    have n2 : (cv != 0) = true := by simpa using hc
    have HBAD := hid (show chk n e = (0, cv) by
     have h1 := HBD.out hc
     rw [← HSP.out] at h1
     rw [HCE.out, h1])
    clear hc
    go_wp2_with fail
    refine HCC.out.mono ?_
    rintro en w6 ⟨rfl, hb6⟩
    have HB6 := hid (HWR5.out.trans (hb6.mono HWR5.out.size))
    clear hb6 b0 b1 b2 b3 b4 b5 b6 b7 b8 e0 e1 e2
    go_wp2_with fail
    go_ret2
    exact ⟨by rw [HBAD.out] <;> rfl, HB6.out⟩
  ·
   obtain rfl : k = e.args.length := by omega
   have u1 : decide (e.args.length < e.args.length) = false := decide_eq_false (by omega)
   have u2 : decide ((e.args.length : Int) < (e.args.length : Int)) = false := decide_eq_false (by omega)
   have HVA := hid (show chks n e.args = .inl vs by have := HVS.out; rw [List.take_length] at this; exact this)
   have HSR := hid (show SRow wr W1.heap.size 0 vs from ⟨HCS.out.lt, fun i v hv => by
    rw [Nat.zero_add, HCS.out.cell]
    exact HCI.out i v hv⟩)
   have HV64 := hid (chks_lt H64.out HS64.out HVA.out)
   have HDD := hid (odone_any e.op vs W1.heap.size e.args.length wr (by rw [HVL.out]; exact hlen) HV64.out HSR.out)
   rw [HVL.out] at HDD
   have HCV := hid (show chk n e = (if eqb e.op litB = true then (kindS e.lit.kind, 0) else if eqb e.op thisB = true then (n.this, 0)
    else if eqb e.op varB = true then fndS n e.name
    else if doneB e.op vs = true then ((doneRow e.op).2, 0) else (0, 9)) by rw [HCE.out, HVA.out]; rfl)
   have HFD := hid (fun w1 hb => ofind_any n e.name NA nc SA sc w1 hns hss (HEN.out.on (HWR.out.trans hb)))
   obtain ⟨b0, h0⟩ : ∃ b, eqb e.op litB = b := ⟨_, rfl⟩
   obtain ⟨b1, h1⟩ : ∃ b, eqb e.op thisB = b := ⟨_, rfl⟩
   obtain ⟨b2, h2⟩ : ∃ b, eqb e.op varB = b := ⟨_, rfl⟩
   rw [h0, h1, h2] at HCV
   have f0 : (e.op.toList == [108, 105, 116]) = b0 := tl_lit rfl h0
   have g0 : (e.op.toList == (⟨#[108, 105, 116]⟩ : ByteArray).toList) = b0 := by rw [tl_eqb]; exact h0
   have f1 : (e.op.toList == [116, 104, 105, 115]) = b1 := tl_lit rfl h1
   have g1 : (e.op.toList == (⟨#[116, 104, 105, 115]⟩ : ByteArray).toList) = b1 := by rw [tl_eqb]; exact h1
   have f2 : (e.op.toList == [118, 97, 114]) = b2 := tl_lit rfl h2
   have g2 : (e.op.toList == (⟨#[118, 97, 114]⟩ : ByteArray).toList) = b2 := by rw [tl_eqb]; exact h2
   have a0 := HKA.out.cell 0
   have a1 := HKA.out.cell 1
   have a2 := HKA.out.cell 2
   have a3 := HKA.out.cell 3
   have a4 := HKA.out.cell 4
   have a5 := HKA.out.cell 5
   have a6 := HKA.out.cell 6
   have a7 := HKA.out.cell 7
   have e0 := HKB.out.cell 0
   have e1 := HKB.out.cell 1
   have e2 := HKB.out.cell 2
   clear h0 h1 h2
   generalize W1.heap.size = q1 at *
   cases b0 with
   | true =>
    have HV1 := hid (show chk n e = (kindS e.lit.kind, 0) from HCV.out)
    go_wp2_with fail
    refine (oof_any e.lit.kind _ _ _ _ _ _).mono ?_
    rintro en w4 ⟨rfl, hb4⟩
    have HB4 := hid (HWR.out.trans (hb4.mono HWR.out.size))
    clear hb4 a0 a1 a2 a3 a4 a5 a6 a7 e0 e1 e2
    go_wp2_with fail
    go_ret2
    exact ⟨by rw [HV1.out, kindS_only] <;> rfl, HB4.out⟩
   | false =>
   cases b1 with
   | true =>
    have HV1 := hid (show chk n e = (n.this, 0) from HCV.out)
    go_wp2_with fail
    go_ret2
    exact ⟨by rw [HV1.out] <;> rfl, HWR.out⟩
   | false =>
   cases b2 with
   | true =>
    have HFF := hid (HFD.out wr (Below.refl _ _))
    have HCW := hid (show chk n e = fndS n e.name from HCV.out)
    go_wp2_with fail
    refine HFF.out.mono ?_
    rintro en w4 ⟨rfl, hb4⟩
    have HB4 := hid (HWR.out.trans (hb4.mono HWR.out.size))
    clear hb4 a0 a1 a2 a3 a4 a5 a6 a7 e0 e1 e2
    go_wp2_with fail
    go_ret2
    exact ⟨by rw [HCW.out] <;> rfl, HB4.out⟩
   | false =>
    obtain ⟨z, hz⟩ : ∃ z, doneB e.op vs = z := ⟨_, rfl⟩
    have HDE := hid (show Calls Tryz.prog 19 #[.string e.op, .slice (some ⟨q1, 0, none⟩) e.args.length e.args.length] wr fun e' w' => e' = .returned (.tuple #[.int .i64 ((doneRow e.op).2 : Nat), .bool z]) ∧ Below wr.heap.size wr w' by rw [← hz]; exact HDD.out)
    rw [hz] at HCV
    clear hz
    cases z with
    | true =>
     have HV1 := hid (show chk n e = ((doneRow e.op).2, 0) from HCV.out)
     go_wp2_with fail
     refine HDE.out.mono ?_
     rintro en w4 ⟨rfl, hb4⟩
     have HB4 := hid (HWR.out.trans (hb4.mono HWR.out.size))
     clear hb4 a0 a1 a2 a3 a4 a5 a6 a7 e0 e1 e2
     go_wp2_with fail
     go_ret2
     exact ⟨by rw [HV1.out] <;> rfl, HB4.out⟩
    | false =>
     have HV1 := hid (show chk n e = (0, 9) from HCV.out)
     go_wp2_with fail
     refine HDE.out.mono ?_
     rintro en w4 ⟨rfl, hb4⟩
     have HB4 := hid (HWR.out.trans (hb4.mono HWR.out.size))
     clear hb4 a0 a1 a2 a3 a4 a5 a6 a7 e0 e1 e2
     go_wp2_with fail
     go_ret2
     exact ⟨by rw [HV1.out] <;> rfl, HB4.out⟩
theorem chk_any (n : En) (h64 : n.this < 64) (hs64 : ∀ x ∈ n.sorts, x < 64) (hns : n.names.length ≤ 1000) (hss : n.sorts.length ≤ 1000) : ∀ e : E, e.size ≤ 1000 → ChkAt n e := by
 refine E.ind ?_
 intro e ih hsz
 have hal := args_len e
 exact chk_step n h64 hs64 hns hss e (by omega) (fun x hx => ih x hx (by have := E.mem_size hx; have := E.size_eq e; omega))
open Go.RowKit
open Tk Ex
theorem chk_awk9 (h : Hd) (w : World) (hv : EV w (· < w.heap.size) awk9 h) : Calls Tryz.prog 8 #[.agg (ecs awk9 h), .agg #[.int .i64 ((63 : Nat) : Int), .slice none 0 0, .slice none 0 0]] w fun en w' => en = .returned (.tuple #[.int .i64 ((4 : Nat) : Int), .int .i64 0]) ∧ Below w.heap.size w w' := by
 have := chk_any ⟨63, [], []⟩ (by decide) (by simp) (by simp) (by simp) awk9 (by decide) h none 0 none 0 w hv ⟨SReads.none_ _ _ _, fun h => absurd rfl h⟩
 rw [show chk ⟨63, [], []⟩ awk9 = (4, 0) from by kernel_rfl] at this
 exact this
theorem awake9_any (w : World) (hr : RangeErr w) : Calls Tryz.prog 5 #[] w fun e w' => e = .returned (.bool true) ∧ Below w.heap.size w w' := by
 have HP := hid (show Calls Tryz.prog 11 #[.string ⟨#[116, 104, 105, 115, 46, 97, 32, 43, 32, 49]⟩] w (ReadP (.ok awk9 0) w) from xparse_short _ w (by decide) hr _ parse_awk9)
 clear hr
 go_enter Tryz.func5, Tryz.ntmps5
 go_wp2_with fail
 refine HP.out.mono ?_
 intro e w1 hrd
 obtain ⟨⟨hL, hl1, hL', hl2, hA1, hc1⟩, rfl, hev, hb1⟩ := hrd
 have hecs : ecs awk9 ⟨hL, hl1, hL', hl2, hA1, hc1⟩ = #[.string ⟨#[43]⟩, .string ⟨#[]⟩, .int .i64 0, .bool false, .int .i64 0, .string ⟨#[]⟩, .slice hL 0 hl1, .slice hL' 0 hl2, .slice hA1 2 hc1] := rfl
 have HCK := hid (fun (w5 : World) (hv : EV w5 (· < w5.heap.size) awk9 ⟨hL, hl1, hL', hl2, hA1, hc1⟩) => chk_awk9 ⟨hL, hl1, hL', hl2, hA1, hc1⟩ w5 hv)
 have HEV := hid (hev.wide (S' := (· < w1.heap.size)) fun q hq => hq.2)
 have HB1 := hid hb1
 clear hev hb1
 rw [hecs] at HCK
 rw [hecs]
 clear hecs
 go_upto_region 2 with fail
 refine alloc_gn (fun W hW hB => ?_)
 have HEV2 := hid (HEV.out.on hW)
 have HW := hid (HB1.out.trans (hW.mono HB1.out.size))
 generalize w1.heap.size = g at *
 have a0 := hB.cell 0
 have a1 := hB.cell 1
 have a2 := hB.cell 2
 have a3 := hB.cell 3
 have a4 := hB.cell 4
 have a5 := hB.cell 5
 have a6 := hB.cell 6
 have a7 := hB.cell 7
 have a8 := hB.cell 8
 have HPP := hid (HCK.out W HEV2.out)
 clear hB hW
 go_wp2_with fail
 refine HPP.out.mono ?_
 rintro e w4 ⟨rfl, hb4⟩
 have HW4 := hid (HW.out.trans (hb4.mono HW.out.size))
 clear hb4 a0 a1 a2 a3 a4 a5 a6 a7 a8
 go_wp2_with fail
 refine (xnumber_any 1 _).mono ?_
 rintro e w5 ⟨rfl, hb5⟩
 have HW5 := hid (HW4.out.trans (hb5.mono HW4.out.size))
 clear hb5
 go_wp2_with fail
 refine (oof_any 2 _ _ _ _ _ _).mono ?_
 rintro e w6 ⟨rfl, hb6⟩
 have HW6 := hid (HW5.out.trans (hb6.mono HW5.out.size))
 clear hb6
 rw [show onlyN 2 = 4 from rfl]
 go_wp2_with fail
 go_ret
 exact ⟨rfl, HW6.out⟩
end Go.Proofs.YtfbipnflgjhaiaaGreatDoor
