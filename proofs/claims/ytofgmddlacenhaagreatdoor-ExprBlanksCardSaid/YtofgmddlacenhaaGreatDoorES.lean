/- (*strings.Builder).WriteString: laid by hand at this seat (a callee of it has no body in the dump). A tree's text written into a builder: contract of the program's write. Print; the fixed fact of layer 8: contracts. The fixed fact of layer 8: contract. -/
import Derived.Shelf.Strings.BuilderK
import Derived.Test.YtofgmddlacenhaaGreatDoorER
import Derived.Test.YtofgmddlacenhaaGreatDoorEO
set_option linter.unusedVariables false
set_option maxRecDepth 100000
set_option maxHeartbeats 8000000
open Go.Lib (hid)
namespace Go.Proofs
open Go.Shelf
def Tryz.lays166_ren : Go.Shelf.Ren := ⟨fun | 166 => 46 | 240 => 62 | 276 => 103 | n => n, fun | 0 => 0 | 3 => 3 | 4 => 4 | 5 => 5 | 9 => 9 | 20 => 20 | 37 => 53 | 70 => 62 | 72 => 64 | 75 => 94 | 80 => 66 | 164 => 166 | n => n, fun  | n => n⟩
theorem Tryz.lays166 : Go.Proofs.Lays.n166 Tryz.prog Tryz.lays166_ren := {
 mixed := by kernel_rfl
 f166 := Tryz.func46.trans (congrArg some (by kernel_rfl))
 f240 := Tryz.func62.trans (congrArg some (by kernel_rfl))
 f276 := Tryz.func103.trans (congrArg some (by kernel_rfl))
 t0 := Tryz.underlying0
 a0 := Tryz.isAgg0
 z0 := Tryz.sizeOf0
 v0 := Tryz.zeroValue0
 t3 := Tryz.underlying3
 a3 := Tryz.isAgg3
 z3 := Tryz.sizeOf3
 v3 := Tryz.zeroValue3
 t4 := Tryz.underlying4
 a4 := Tryz.isAgg4
 z4 := Tryz.sizeOf4
 v4 := Tryz.zeroValue4
 t9 := Tryz.underlying9
 a9 := Tryz.isAgg9
 z9 := Tryz.sizeOf9
 v9 := Tryz.zeroValue9
 t20 := Tryz.underlying20
 a20 := Tryz.isAgg20
 z20 := Tryz.sizeOf20
 v20 := Tryz.zeroValue20
 t37 := Tryz.underlying53
 a37 := Tryz.isAgg53
 z37 := Tryz.sizeOf53
 v37 := Tryz.zeroValue53
 t70 := Tryz.underlying62
 a70 := Tryz.isAgg62
 z70 := Tryz.sizeOf62
 v70 := Tryz.zeroValue62
 t72 := Tryz.underlying64
 a72 := Tryz.isAgg64
 z72 := Tryz.sizeOf64
 v72 := Tryz.zeroValue64
 t75 := Tryz.underlying94
 a75 := Tryz.isAgg94
 z75 := Tryz.sizeOf94
 v75 := Tryz.zeroValue94
 t164 := Tryz.underlying166
 a164 := Tryz.isAgg166
 z164 := Tryz.sizeOf166
 v164 := Tryz.zeroValue166 }
theorem Tryz.Builder_Extra_166 : Builder.Extra Tryz.prog Tryz.lays166_ren := {
 sizeBuilder := by kernel_rfl
 liesBuilder := by kernel_rfl
 t5 := Tryz.underlying5
 a5 := Tryz.isAgg5
 z5 := Tryz.sizeOf5
 v5 := Tryz.zeroValue5
 infoByte := by kernel_rfl
 cellsByte := by kernel_rfl
 sizeByte := by kernel_rfl
 neB5 := by decide }
open Go.RowKit in
theorem Tryz.Builder_WriteString_k (B b : Nat) (bs : List Value) (s : ByteArray) (w : World) (h : Lib.IsBuilderF 64 5 B b bs w) (hlen : bs.length + s.size ≤ 140737488355328) (hBw : B ≤ w.heap.size) :
 Calls Tryz.prog 46 #[.pointer (some ⟨b, 0, none⟩), .string s] w fun e w' => e = .returned (.tuple #[.int .i64 s.size, .nilIface]) ∧ (Lib.BuilderAtF 64 5 B b (.pointer (some ⟨b, 0, none⟩)) (bs ++ Lib.strCells s) w' ∧ Below B w w' ∧ Lib.OthersKept 5 (some b) w w') := Any.Builder_WriteString_k Tryz.lays166 Tryz.Builder_Extra_166 B b bs s w h hlen hBw
end Go.Proofs
namespace Go.Proofs.YtofgmddlacenhaaGreatDoor
open Go.RowKit
open Tk Ex
def Ard (e : E) : Prop := ∀ (h : Hd) (w : World), Lib.TabIs Tryz.prog w "internal/strconv.uint64pow10" .u64 Lib.pow10Tab → Calls Tryz.prog 45 #[.agg (ecs e h)] w fun en w' => en = .returned (.tuple #[.string ⟨(Ex.ahead e).toArray⟩, .string ⟨(Ex.between e).toArray⟩, .string ⟨(Ex.behind e).toArray⟩]) ∧ Below w.heap.size w w'
def Bd (b : Nat) (l : List UInt8) (w : World) : Prop := Lib.IsBuilderF 64 5 b b (Lib.byteCells l) w
theorem Bd.lt {b : Nat} {l : List UInt8} {w : World} (h : Bd b l w) : b < w.heap.size := by
 rcases h with ⟨_, v, hv, _⟩ | ⟨_, v, hv, _⟩ <;> exact (Array.getElem?_eq_some_iff.1 hv).1
theorem Bd.on {b : Nat} {l : List UInt8} {w w' : World} (h : Bd b l w) (hb : Below w.heap.size w w') : Bd b l w' := bld_on h hb
theorem kept_of {b : Nat} {w w' : World} (h : Below w.heap.size w w') : Lib.OthersKept 5 (some b) w w' := fun k o hk _ _ => (h.block k (Array.getElem?_eq_some_iff.1 hk).1).trans hk
theorem kept_blk {b g : Nat} {t : TypeId} {cs : Array Value} {u v : World} (h : Lib.OthersKept 5 (some b) u v) (hb : Blk u g t cs) (hg : g ≠ b) (ht : t ≠ 5) : Blk v g t cs :=
 h g _ hb (by simpa using hg) (fun c fz e => by injection e with _ e _; exact ht e)
theorem bd_write (b : Nat) (l : List UInt8) (s : List UInt8) (w : World) (h : Bd b l w) (hlen : l.length + s.length ≤ 900000) :
 Calls Tryz.prog 46 #[.pointer (some ⟨b, 0, none⟩), .string ⟨s.toArray⟩] w fun e w' => e = .returned (.tuple #[.int .i64 s.length, .nilIface]) ∧ Bd b (l ++ s) w' ∧ Below b w w' ∧ Lib.OthersKept 5 (some b) w w' := by
 refine (Tryz.Builder_WriteString_k b b _ ⟨s.toArray⟩ w h (by rw [Lib.byteCells_length, show (⟨s.toArray⟩ : ByteArray).size = s.length from rfl]; omega) (Nat.le_of_lt h.lt)).mono ?_
 rintro e w2 ⟨rfl, h2, hb2, k2⟩
 exact ⟨rfl, .inr (by rw [Lib.byteCells_append]; exact h2), hb2, k2⟩
theorem gap_zero (sep : List UInt8) : gap sep 0 = [] := rfl
theorem gap_more (sep : List UInt8) {k : Nat} (h : 0 < k) : gap sep k = sep := by unfold gap; rw [if_neg (by omega)]
theorem xwrite_any : ∀ e : E, E.All Ard e → e.size ≤ 100000 → ∀ (h : Hd) (w : World) (S : Nat → Prop) (b : Nat) (l : List UInt8), (∀ q, S q → q < b) → EV w S e h → Tab8 b w → Bd b l w → l.length + e.pr.length ≤ 900000 →
 Calls Tryz.prog 22 #[.pointer (some ⟨b, 0, none⟩), .agg (ecs e h)] w fun en w' => en = .returned (.tuple #[]) ∧ Bd b (l ++ e.pr) w' ∧ Below b w w' ∧ Lib.OthersKept 5 (some b) w w' := by
 refine E.ind ?_
 intro e ih hard hsz h w S b l hS hev htab hbd hlen
 have hal := args_len e
 have hpr := E.pr_eq e
 have hbl := hbd.lt
 have HPL := hid (fun k => E.prs_le (sep := Ex.between e) (l := e.args) k)
 have HIH := hid ih
 have HTB0 := hid htab
 have HE := hid hev
 have HS := hid hS
 have hprl : e.pr.length = (Ex.ahead e).length + ((E.prs (Ex.between e) e.args 0).length + (Ex.behind e).length) := by rw [hpr, List.length_append, List.length_append]
 have HPR := hid hpr
 have HSZ := hid (fun x (hx : x ∈ e.args) => (show x.size ≤ 100000 from by have := E.mem_size hx; have := E.size_eq e; omega))
 have HAM := hid (fun x (hx : x ∈ e.args) => hard.mem hx)
 have HAR := hid (fun w1 ht => hard.here h w1 ht)
 have HTK := hid (fun k x (hx : e.args[k]? = some x) => E.prs_take (sep := Ex.between e) hx)
 clear ih hev hS hpr hard
 unfold ecs at HAR ⊢
 obtain ⟨hL, hl1, hL', hl2, hA1, hc1⟩ := h
 dsimp only at HAR ⊢
 have hW : Below w.heap.size w (w.alloc (.cells #[.string e.op, .string e.name, .int .i64 e.lit.kind, .bool e.lit.tr, .int .i64 e.lit.num, .string e.lit.str, .slice hL e.lit.items.length hl1, .slice hL' e.lit.keys.length hl2, .slice hA1 e.args.length hc1] 38)) := (Below.refl _ _).alloc (Nat.le_refl _) _
 have hB : Blk (w.alloc (.cells #[.string e.op, .string e.name, .int .i64 e.lit.kind, .bool e.lit.tr, .int .i64 e.lit.num, .string e.lit.str, .slice hL e.lit.items.length hl1, .slice hL' e.lit.keys.length hl2, .slice hA1 e.args.length hc1] 38)) w.heap.size 38 #[.string e.op, .string e.name, .int .i64 e.lit.kind, .bool e.lit.tr, .int .i64 e.lit.num, .string e.lit.str, .slice hL e.lit.items.length hl1, .slice hL' e.lit.keys.length hl2, .slice hA1 e.args.length hc1] := Blk.new w _ _
 generalize hla : Ex.ahead e = LA at *
 generalize hlb : Ex.between e = LB at *
 generalize hlc : Ex.behind e = LC at *
 go_enter Tryz.func22, Tryz.ntmps22
 go_upto_region 1 with fail
 change Code.wp _ _ _ _ (w.alloc (.cells #[.string e.op, .string e.name, .int .i64 e.lit.kind, .bool e.lit.tr, .int .i64 e.lit.num, .string e.lit.str, .slice hL e.lit.items.length hl1, .slice hL' e.lit.keys.length hl2, .slice hA1 e.args.length hc1] 38))
 have HBD := hid (hbd.on hW)
 have HTB := hid (htab.on (hW.mono (Nat.le_of_lt hbl)))
 have HBW := hid (hW.mono (Nat.le_of_lt hbl))
 have HKW := hid (kept_of (b := b) hW)
 have hgb : w.heap.size ≠ b := by omega
 generalize (w.alloc (.cells #[.string e.op, .string e.name, .int .i64 e.lit.kind, .bool e.lit.tr, .int .i64 e.lit.num, .string e.lit.str, .slice hL e.lit.items.length hl1, .slice hL' e.lit.keys.length hl2, .slice hA1 e.args.length hc1] 38)) = W at *
 generalize w.heap.size = g at *
 have HBK := hid hB
 have a0 := hB.cell 0
 have a1 := hB.cell 1
 have a2 := hB.cell 2
 have a3 := hB.cell 3
 have a4 := hB.cell 4
 have a5 := hB.cell 5
 have a6 := hB.cell 6
 have a7 := hB.cell 7
 have a8 := hB.cell 8
 clear hB hW hbd htab hla hlb hlc
 go_wp2_with fail
 refine (HAR.out _ HTB.out.2).mono ?_
 rintro en w2 ⟨rfl, hb2⟩
 have hbW := HBD.out.lt
 have HBD2 := hid (HBD.out.on hb2)
 have hb2' := hb2.mono (Nat.le_of_lt hbW)
 have HTB2 := hid (HTB.out.on hb2')
 have HBW2 := hid (HBW.out.trans hb2')
 have HKW2 := hid (HKW.out.trans (kept_of (b := b) hb2))
 have HBK2 := hid (HBK.out.onto hb2)
 clear hb2 hb2' a0 a1 a2 a3 a4 a5 a6 a7 a8 HBD HTB HBW HKW HBK HAR
 go_wp2_with fail
 refine (bd_write b l LA _ HBD2.out (by omega)).mono ?_
 rintro en w3 ⟨rfl, hd3, hb3, hk3⟩
 have HBD3 := hid hd3
 have HTB3 := hid (HTB2.out.on hb3)
 have HBW3 := hid (HBW2.out.trans hb3)
 have HKW3 := hid (HKW2.out.trans hk3)
 have a8 := (kept_blk hk3 HBK2.out hgb (by decide)).cell 8
 clear hd3 hb3 hk3 HBD2 HTB2 HBW2 HKW2 HBK2
 go_wp2_with fail
 clear a8
 go_loopw [21] (fun x wr => ∃ k : Nat, k ≤ e.args.length ∧ x = .int .i64 k ∧ Bd b (l ++ (LA ++ E.prs LB (e.args.take k) 0)) wr ∧ Below b w wr ∧ Lib.OthersKept 5 (some b) w wr) (fun x _ => e.args.length - (intOf x).toNat)
 case atStart => exact ⟨0, Nat.zero_le _, rfl, by simpa [E.prs] using HBD3.out, HBW3.out, HKW3.out⟩
 case round =>
  obtain ⟨k, hk, rfl, hbd, hbw, hkw⟩ := hrel
  have hpl := HPL.out k
  have HBDK := hid hbd
  have HBWK := hid hbw
  have HKWK := hid hkw
  by_cases hlt : k < e.args.length
  ·
   have u1 : decide (k < e.args.length) = true := decide_eq_true hlt
   have u2 : decide ((k : Int) < (e.args.length : Int)) = true := decide_eq_true (by omega)
   have i1 : (k : Int) < (e.args.length : Int) := by omega
   have i2 : (0 : Int) ≤ (k : Int) := by omega
   have hev2 := HE.out.keep (w' := wr) (fun q hq => hbw.block q (HS.out q hq))
   obtain ⟨bb, o, x, q, hAe, hSb, hx, h9, hex⟩ := hev2.at_ hlt
   dsimp only at hAe
   subst hAe
   obtain ⟨p0, p1, p2, p3, p4, p5, p6, p7, p8⟩ := h9.cells
   have HEX := hid hex
   have HXM := hid (List.mem_of_getElem? hx)
   have htk := HTK.out k x hx
   have hpl1 := HPL.out (k + 1)
   have hplk : (E.prs LB (e.args.take (k + 1)) 0).length = (E.prs LB (e.args.take k) 0).length + ((gap LB k).length + x.pr.length) := by rw [htk, List.length_append, List.length_append]
   have HTKK := hid htk
   clear hex hev2 h9 hbd hbw hkw htk hx
   have HBWR := hid HBWK.out
   go_upto_region 6 with fail
   refine alloc_gn (fun W5 hW5 hB5 => ?_)
   have hbr := HBDK.out.lt
   have HBD5 := hid (HBDK.out.on hW5)
   have HBW5 := hid (HBWK.out.trans (hW5.mono (Nat.le_of_lt hbr)))
   have HKW5 := hid (HKWK.out.trans (kept_of (b := b) hW5))
   have hgb5 : wr.heap.size ≠ b := by omega
   have HTB5 := hid (HTB0.out.on HBW5.out)
   have HB5 := hid hB5
   have b0 := hB5.cell 0
   have b1 := hB5.cell 1
   have b2 := hB5.cell 2
   have b3 := hB5.cell 3
   have b4 := hB5.cell 4
   have b5 := hB5.cell 5
   have b6 := hB5.cell 6
   have b7 := hB5.cell 7
   have b8 := hB5.cell 8
   generalize wr.heap.size = g5 at *
   clear hB5 hW5 p0 p1 p2 p3 p4 p5 p6 p7 p8 HBDK HBWK HKWK
   have HI := hid (fun (w5 : World) (m : List UInt8) (hbb : Below b w w5) (hd : Bd b m w5) (ht : Tab8 b w5) (hm : m.length + x.pr.length ≤ 900000) => (show Calls Tryz.prog 22 #[.pointer (some ⟨b, 0, none⟩), .agg #[.string x.op, .string x.name, .int .i64 x.lit.kind, .bool x.lit.tr, .int .i64 x.lit.num, .string x.lit.str, .slice q.L x.lit.items.length q.l, .slice q.L' x.lit.keys.length q.l', .slice q.A x.args.length q.c]] w5 fun en w' => en = .returned (.tuple #[]) ∧ Bd b (m ++ x.pr) w' ∧ Below b w5 w' ∧ Lib.OthersKept 5 (some b) w5 w' from HIH.out x HXM.out (HAM.out x HXM.out) (HSZ.out x HXM.out) q w5 S b m HS.out (HEX.out.keep (w' := w5) (fun q2 hq => (hbb.block q2 (HS.out q2 hq)).trans (HBWR.out.block q2 (HS.out q2 hq)).symm)) ht hd hm))
   by_cases hk0 : k = 0
   ·
    subst hk0
    have v1 : decide ((0 : Int) > 0) = false := rfl
    rw [gap_zero] at hplk HTKK
    rw [show ([] : List UInt8).length = 0 from rfl] at hplk
    have hle0 : (l ++ (LA ++ E.prs LB (List.take 0 e.args) 0)).length + x.pr.length ≤ 900000 := by simp only [List.length_append]; omega
    have HLE0 := hid hle0
    clear hle0
    go_wp2_with fail
    refine (HI.out _ _ HBW5.out HBD5.out HTB5.out HLE0.out).mono ?_
    rintro en w7 ⟨rfl, hd7, hb7, hk7⟩
    have HBD7 := hid hd7
    have HBW7 := hid (HBW5.out.trans hb7)
    have HKW7 := hid (HKW5.out.trans hk7)
    clear hd7 hb7 hk7 b0 b1 b2 b3 b4 b5 b6 b7 b8
    go_wp2_with fail
    go_roundw
    case rel => exact ⟨0 + 1, hlt, by go_num, by rw [HTKK.out]; simpa [List.append_assoc] using HBD7.out, HBW7.out, HKW7.out⟩
    case measure => simp only [intOf, Int.toNat_natCast]; go_num
   ·
    have v1 : decide ((k : Int) > 0) = true := decide_eq_true (by omega)
    have v2 : decide (0 < k) = true := decide_eq_true (by omega)
    have v3 : decide ((0 : Int) < (k : Int)) = true := decide_eq_true (by omega)
    rw [gap_more LB (by omega)] at hplk HTKK
    clear b0 b1 b2 b3 b4 b5 b6 b7 b8
    go_wp2_with fail
    refine (bd_write b _ LB _ HBD5.out (by simp only [List.length_append]; omega)).mono ?_
    rintro en w6 ⟨rfl, hd6, hb6, hk6⟩
    have HBD6 := hid hd6
    have HTB6 := hid (HTB5.out.on hb6)
    have HBW6 := hid (HBW5.out.trans hb6)
    have HKW6 := hid (HKW5.out.trans hk6)
    have HB6 := hid (kept_blk hk6 HB5.out hgb5 (by decide))
    obtain ⟨b0, b1, b2, b3, b4, b5, b6, b7, b8⟩ := all9 HB6.out
    clear hd6 hb6 hk6
    go_wp2_with fail
    refine (HI.out _ _ HBW6.out HBD6.out HTB6.out (by simp only [List.length_append]; omega)).mono ?_
    rintro en w7 ⟨rfl, hd7, hb7, hk7⟩
    have HBD7 := hid hd7
    have HBW7 := hid (HBW6.out.trans hb7)
    have HKW7 := hid (HKW6.out.trans hk7)
    clear hd7 hb7 hk7 b0 b1 b2 b3 b4 b5 b6 b7 b8
    go_wp2_with fail
    go_roundw
    case rel => exact ⟨k + 1, hlt, by go_num, by rw [HTKK.out]; simpa [List.append_assoc] using HBD7.out, HBW7.out, HKW7.out⟩
    case measure => simp only [intOf, Int.toNat_natCast]; go_num
  ·
   obtain rfl : k = e.args.length := by omega
   have u1 : decide (e.args.length < e.args.length) = false := decide_eq_false (by omega)
   have u2 : decide ((e.args.length : Int) < (e.args.length : Int)) = false := decide_eq_false (by omega)
   rw [List.take_length] at *
   clear hbd hbw hkw
   go_wp2_with fail
   refine (bd_write b _ LC _ HBDK.out (by rw [List.length_append, List.length_append]; omega)).mono ?_
   rintro en w4 ⟨rfl, hd4, hb4, hk4⟩
   have HBD4 := hid hd4
   have HBW4 := hid (HBWK.out.trans hb4)
   have HKW4 := hid (HKWK.out.trans hk4)
   clear hd4 hb4 hk4
   go_wp2_with fail
   go_end0
   exact ⟨rfl, by rw [HPR.out]; simpa [List.append_assoc] using HBD4.out, HBW4.out, HKW4.out⟩
open Go.RowKit
open Tk Ex
theorem ard_num (n : Int) (h0 : -9223372036854775808 ≤ n) (h1 : n ≤ 9223372036854775807) : Ard (numE n) := by
 intro h w ht
 exact xaround_lit nix (Rd.numT n) [] h w rfl h0 h1 ht
theorem ard_x : Ard (.mk varB ⟨#[120]⟩ Rd.nulT []) := by
 intro h w ht
 exact xaround_var ⟨#[120]⟩ Rd.nulT [] h w
theorem ard_star (l : List E) : Ard (.mk starB nix Rd.nulT l) := by
 intro h w ht
 exact xaround_star nix Rd.nulT l h w
theorem ard_plus (l : List E) : Ard (.mk plusB nix Rd.nulT l) := by
 intro h w ht
 exact xaround_plus nix Rd.nulT l h w
theorem all_leaf {P : E → Prop} {o n : ByteArray} {v : T} (h : P (.mk o n v [])) : E.All P (.mk o n v []) := .mk _ h (fun x hx => by cases hx)
theorem all_two {P : E → Prop} {o n : ByteArray} {v : T} {a b : E} (h : P (.mk o n v [a, b])) (ha : E.All P a) (hb : E.All P b) : E.All P (.mk o n v [a, b]) := .mk _ h (fun x hx => by
 have hx' : x ∈ [a, b] := hx
 simp only [List.mem_cons, List.not_mem_nil, or_false] at hx'
 rcases hx' with rfl | rfl
 · exact ha
 · exact hb)
theorem ard_awk8 : E.All Ard awk8 :=
 all_two (ard_plus _) (all_leaf (ard_num 1 (by decide) (by decide))) (all_two (ard_star _) (all_leaf (ard_num 2 (by decide) (by decide))) (all_leaf ard_x))
theorem xprint_any (e : E) (h : Hd) (w : World) (hard : E.All Ard e) (hsz : e.size ≤ 100000) (hev : EV w (· < w.heap.size) e h) (ht : Lib.TabIs Tryz.prog w "internal/strconv.uint64pow10" .u64 Lib.pow10Tab) (hlen : e.pr.length ≤ 900000) :
 Calls Tryz.prog 9 #[.agg (ecs e h)] w fun en w' => en = .returned (.string ⟨e.pr.toArray⟩) ∧ Below w.heap.size w w' := by
 have HA := hid hard
 have HV := hid hev
 have HT := hid (tab_of8 ht)
 clear hard hev ht
 have HWR := hid (fun (w1 : World) (hv : EV w1 (· < w.heap.size) e h) (htb : Tab8 (w.heap.size + 1) w1) (hb : Bd (w.heap.size + 1) [] w1) => xwrite_any e HA.out hsz h w1 (· < w.heap.size) (w.heap.size + 1) [] (fun q hq => by have : q < w.heap.size := hq; omega) hv htb hb (by simpa using hlen))
 unfold ecs at HWR ⊢
 obtain ⟨hL, hl1, hL', hl2, hA1, hc1⟩ := h
 dsimp only at HWR ⊢
 go_enter Tryz.func9, Tryz.ntmps9
 go_upto_region 1 with fail
 refine alloc_gen (fun W hW hB hsz1 => ?_)
 rw [← hsz1] at HWR
 have HSZ1 := hid hsz1
 clear hsz1
 have HW := hid hW
 have HB := hid hB
 clear hW hB
 go_upto_region 2 with fail
 change Code.wp _ _ _ _ (W.alloc (.cells #[.pointer none, .slice none 0 0] 64))
 have hI : Bd W.heap.size [] (W.alloc (.cells #[.pointer none, .slice none 0 0] 64)) := Lib.IsBuilderF.of (Lib.fresh_isBuilder 64 5 W)
 have hW2 : Below W.heap.size W (W.alloc (.cells #[.pointer none, .slice none 0 0] 64)) := (Below.refl _ _).alloc (Nat.le_refl _) _
 have HB2 := hid (HB.out.onto hW2)
 have HI := hid hI
 have HW2 := hid (HW.out.trans (hW2.mono HW.out.size))
 generalize (W.alloc (.cells #[.pointer none, .slice none 0 0] 64)) = W2 at *
 generalize hb : W.heap.size = b at *
 clear hI hW2
 have hbe := HSZ1.out
 obtain ⟨a0, a1, a2, a3, a4, a5, a6, a7, a8⟩ := all9 HB2.out
 have HWW := hid (HWR.out W2 (HV.out.keep (Keeps.of_below HW2.out)) ((HT.out.on HW2.out).raise (by omega)) HI.out)
 have HSB := hid (show w.heap.size ≤ b by omega)
 clear hbe hb
 go_wp2_with fail
 refine HWW.out.mono ?_
 rintro en w3 ⟨rfl, hd3, hb3, hk3⟩
 have HD3 := hid (show Bd b e.pr w3 by simpa using hd3)
 have HB3 := hid (HW2.out.trans (hb3.mono HSB.out))
 clear hd3 hb3 hk3 a0 a1 a2 a3 a4 a5 a6 a7 a8
 go_wp2_with fail
 refine (Tryz.Builder_String_any_k b b e.pr _ HD3.out (Nat.le_of_lt HD3.out.lt)).mono ?_
 rintro en w4 ⟨rfl, _, hb4, _⟩
 have HB4 := hid (HB3.out.trans (hb4.mono HSB.out))
 clear hb4
 go_wp2_with fail
 go_ret
 exact ⟨rfl, HB4.out⟩
open Go.RowKit
open Tk Ex
theorem awake8_any (w : World) (hr : RangeErr w) (ht : Lib.TabIs Tryz.prog w "internal/strconv.uint64pow10" .u64 Lib.pow10Tab) : Calls Tryz.prog 7 #[] w fun e w' => e = .returned (.bool true) ∧ Below w.heap.size w w' := by
 have HP := hid (show Calls Tryz.prog 12 #[.string ⟨#[49, 32, 43, 32, 50, 32, 42, 32, 120]⟩] w (ReadP (.ok awk8 0) w) from xparse_short _ w (by decide) hr _ parse_awk8)
 have HT := hid (tab_of8 ht)
 clear hr ht
 go_enter Tryz.func7, Tryz.ntmps7
 go_wp2_with fail
 refine HP.out.mono ?_
 intro e w1 hrd
 obtain ⟨⟨hL, hl1, hL', hl2, hA1, hc1⟩, rfl, hev, hb1⟩ := hrd
 have hecs : ecs awk8 ⟨hL, hl1, hL', hl2, hA1, hc1⟩ = #[.string ⟨#[43]⟩, .string ⟨#[]⟩, .int .i64 0, .bool false, .int .i64 0, .string ⟨#[]⟩, .slice hL 0 hl1, .slice hL' 0 hl2, .slice hA1 2 hc1] := rfl
 have HPR := hid (fun (w5 : World) (hv : EV w5 (· < w5.heap.size) awk8 ⟨hL, hl1, hL', hl2, hA1, hc1⟩) (htb : Lib.TabIs Tryz.prog w5 "internal/strconv.uint64pow10" .u64 Lib.pow10Tab) => xprint_any awk8 ⟨hL, hl1, hL', hl2, hA1, hc1⟩ w5 ard_awk8 (by decide) hv htb (by rw [pr_awk8]; decide))
 have HEV := hid (hev.wide (S' := (· < w1.heap.size)) fun q hq => hq.2)
 have HB1 := hid hb1
 clear hev hb1
 rw [hecs, pr_awk8] at HPR
 rw [hecs]
 clear hecs
 go_upto_region 2 with fail
 refine alloc_gn (fun W hW hB => ?_)
 have HEV2 := hid (HEV.out.on hW)
 have HW := hid (HB1.out.trans (hW.mono HB1.out.size))
 generalize w1.heap.size = g at *
 have HB := hid hB
 have a0 := hB.cell 0
 have a1 := hB.cell 1
 have a2 := hB.cell 2
 have a3 := hB.cell 3
 have a4 := hB.cell 4
 have a5 := hB.cell 5
 have a6 := hB.cell 6
 have a7 := hB.cell 7
 have a8 := hB.cell 8
 have HPP := hid (HPR.out W HEV2.out (HT.out.on HW.out).2)
 clear hB hW
 go_wp2_with fail
 refine HPP.out.mono ?_
 rintro e w4 ⟨rfl, hb4⟩
 have HW4 := hid (HW.out.trans (hb4.mono HW.out.size))
 have c8 := (HB.out.onto hb4).cell 8
 clear hb4 a0 a1 a2 a3 a4 a5 a6 a7 a8
 go_wp2_with fail
 go_ret
 exact ⟨rfl, HW4.out⟩
end Go.Proofs.YtofgmddlacenhaaGreatDoor
