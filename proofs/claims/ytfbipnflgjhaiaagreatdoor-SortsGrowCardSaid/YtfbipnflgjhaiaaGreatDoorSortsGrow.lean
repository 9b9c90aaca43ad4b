/- Where this and names may be more, what an expression may be it may be still, and it has no fewer sorts (tied card). -/
import Derived.Test.YtfbipnflgjhaiaaGreatDoorCards
import Derived.Test.YtfbipnflgjhaiaaGreatDoorTie
import Derived.WalkKit
import Derived.ProofKit
import Derived.OpenShut
import Derived.ChangeOld
import Derived.ShutString
import Derived.Below
import Derived.LaidMore
import Derived.Lib.LaidTab
import Derived.Stop.Joined
import Derived.Stop.LaidErr
import Derived.SevenTiedAt
import Derived.Lay
import Derived.Test.YtfbipnflgjhaiaaGreatDoorSP
import Derived.Test.YtfbipnflgjhaiaaGreatDoorYR
import Derived.Test.YtfbipnflgjhaiaaGreatDoorYZ
import Derived.Test.YtfbipnflgjhaiaaGreatDoorTR
set_option linter.unusedVariables false
set_option maxRecDepth 100000
set_option maxHeartbeats 8000000
open Go.Lib (hid)
namespace Go.Proofs.YtfbipnflgjhaiaaGreatDoor.sortsGrow
open Go.ChangeShapes Go.WideShapes Go.ChangeAt Go.RowKit
open Go.ChangeMaps (open_string shut_string)
open Tk Pl
theorem own : ownKnob Tryz.prog.godebug = none := by kernel_rfl
theorem laidOut : laidOutB Tryz.prog = true := by kernel_rfl
theorem gRange : Tryz.prog.globalNamed "strconv.ErrRange" = some 4 := by kernel_rfl
theorem star : "*" ++ "errors.errorString" = "*errors.errorString" := by decide
theorem rowPtr (u : TypeId) (h : Tryz.prog.typeName? 3 u = some "*errors.errorString") : u = 221 :=
 typeName_ptr_named (nm := "errors.errorString") (by rw [star]; kernel_rfl) (by kernel_rfl) (by decide) u (by rw [star]; exact h)
theorem errs {W : World} (h : laidMetH Tryz.prog Rows.sortsGrowRow.laid W) : RangeErr W := by
 have h' : laidMet Tryz.prog Rows.sortsGrowRow.laid W := h
 obtain ⟨a, s, hv, _⟩ := laid_sentinel h'.tail.tail.tail.tail gRange (by kernel_rfl) Tryz.underlying185 rowPtr Tryz.underlying221 Tryz.underlying223 rfl rfl Tryz.underlying9 (by kernel_rfl) (by kernel_rfl)
 exact ⟨_, _, hv⟩
open Ex
theorem wrap_or8 : ∀ s m : Fin 256, IntKind.u8.wrap ((BitVec.ofInt IntKind.u8.bits (s.val : Int) ||| BitVec.ofInt IntKind.u8.bits (m.val : Int)).toNat) = ((s.val ||| m.val : Nat) : Int) := by decide +kernel
theorem bits_or8 (s m : Nat) (hs : s ≤ 255) (hm : m ≤ 255) : bits BinOp.or .u8 (s : Int) (m : Int) = ((s ||| m : Nat) : Int) := wrap_or8 ⟨s, by omega⟩ ⟨m, by omega⟩
theorem or_le (s m : Nat) (hs : s ≤ 255) (hm : m ≤ 255) : s ||| m ≤ 255 := by
 have := Nat.or_lt_two_pow (n := 8) (x := s) (y := m) (by omega) (by omega)
 omega
theorem or_mod (s m : Nat) : (s ||| m) % 64 = s % 64 ||| m % 64 := Nat.or_mod_two_pow (n := 6)
theorem sub_or (s m : Nat) : Sub (s % 64) ((s ||| m) % 64) := by
 rw [or_mod]
 unfold Sub
 apply Nat.eq_of_testBit_eq
 intro i
 simp only [Nat.testBit_and, Nat.testBit_or]
 cases (s % 64).testBit i <;> simp
theorem l8real_lit {x : E} (hsz : x.size ≤ 100000) (hlf : Lf x) (A : Option Addr) (a : Nat) (B : Option Addr) (b : Nat) (C : Option Addr) (c : Nat) (w : World) (hev : EV w (· < w.heap.size) x ⟨A, a, B, b, C, c⟩) :
 Calls Tryz.prog 9 #[.agg #[.string x.op, .string x.name, .int .i64 x.lit.kind, .bool x.lit.tr, .int .i64 x.lit.num, .string x.lit.str, .slice A x.lit.items.length a, .slice B x.lit.keys.length b, .slice C x.args.length c]] w fun en w' => ∃ K k P q, en = .returned (.agg #[.string x.op, .string x.name, .int .i64 x.lit.kind, .bool x.lit.tr, .int .i64 x.lit.num, .string x.lit.str, .slice none x.lit.items.length 0, .slice K x.lit.keys.length k, .slice P x.args.length q]) ∧ EV w' (· < w'.heap.size) x ⟨none, 0, K, k, P, q⟩ ∧ Below w.heap.size w w' :=
 (l8real_any x hsz hlf ⟨A, a, B, b, C, c⟩ w (· < w.heap.size) (fun j hj => hj) hev).mono fun en w' h => by
  obtain ⟨K, k, P, q, he, hv, hb⟩ := h
  exact ⟨K, k, P, q, he, hv.wide fun j hj => hj.2, hb⟩
def OkEn (n : En) : Prop := n.this < 64 ∧ (∀ x ∈ n.sorts, x < 64) ∧ n.names.length ≤ 1000 ∧ n.sorts.length ≤ 1000
theorem chk_lit {n : En} (h : OkEn n) {x : E} (hsz : x.size ≤ 1000) {A B C NA SA : Option Addr} {a b c nc sc : Nat} {w : World} (hev : EV w (· < w.heap.size) x ⟨A, a, B, b, C, c⟩) (hen : EnvIn w n NA SA) :
 Calls Tryz.prog 8 #[.agg #[.string x.op, .string x.name, .int .i64 x.lit.kind, .bool x.lit.tr, .int .i64 x.lit.num, .string x.lit.str, .slice A x.lit.items.length a, .slice B x.lit.keys.length b, .slice C x.args.length c], .agg #[.int .i64 (n.this : Int), .slice NA n.names.length nc, .slice SA n.sorts.length sc]] w fun en w' => en = .returned (.tuple #[.int .i64 ((chk n x).1 : Nat), .int .i64 (chk n x).2]) ∧ Below w.heap.size w w' :=
 chk_any n h.1 h.2.1 h.2.2.1 h.2.2.2 x hsz ⟨A, a, B, b, C, c⟩ NA nc SA sc w hev hen
theorem okEn (a b c : Nat) : OkEn ⟨a % 64, xyN, [b % 64, c % 64]⟩ := ⟨Nat.mod_lt _ (by decide), fun x hx => by simp at hx; rcases hx with rfl | rfl <;> exact Nat.mod_lt _ (by decide), by show 2 ≤ 1000; decide, by show 2 ≤ 1000; decide⟩
theorem parse_p0 {s : ByteArray} {e : E} {p0 : Nat} (h : parse s = .ok e p0) : p0 = 0 := by
 unfold parse at h
 split at h
 · cases h
 ·
  cases hx : top s 0 with
  | err q c => rw [hx] at h; cases h
  | out => rw [hx] at h; cases h
  | ok e' p =>
   rw [hx] at h
   dsimp only at h
   split at h
   · cases h
   ·
    split at h
    · cases h
    ·
     injection h with h4 h5
     exact h5.symm
theorem walkL (s : ByteArray) (a b c d e f : Nat) (w : World) (hl : 600 < s.size) (hr : RangeErr w) :
 Calls Tryz.prog 3 #[.string s, .agg #[.int .u8 (a : Int), .int .u8 (b : Int), .int .u8 (c : Int)], .agg #[.int .u8 (d : Int), .int .u8 (e : Int), .int .u8 (f : Int)]] w fun en w' => en = .returned (.bool true) ∧ Below w.heap.size w w' := by
 have HR := hid hr
 clear hr
 have u1 : decide ((s.size : Int) > 600) = true := decide_eq_true (by omega)
 have u2 : decide ((600 : Int) < (s.size : Int)) = true := decide_eq_true (by omega)
 have u3 : decide (600 < s.size) = true := decide_eq_true (by omega)
 go_enter Tryz.func3, Tryz.ntmps3
 go_upto_region 1 with fail
 have hW : Below w.heap.size w ((w.alloc (.cells #[.int .u8 (a : Int), .int .u8 (b : Int), .int .u8 (c : Int)] 22)).alloc (.cells #[.int .u8 (d : Int), .int .u8 (e : Int), .int .u8 (f : Int)] 22)) := ((Below.refl _ _).alloc (Nat.le_refl _) _).alloc (by simp) _
 have kA : Blk ((w.alloc (.cells #[.int .u8 (a : Int), .int .u8 (b : Int), .int .u8 (c : Int)] 22)).alloc (.cells #[.int .u8 (d : Int), .int .u8 (e : Int), .int .u8 (f : Int)] 22)) w.heap.size 22 #[.int .u8 (a : Int), .int .u8 (b : Int), .int .u8 (c : Int)] := (Blk.new w _ _).alloc _
 have kB : Blk ((w.alloc (.cells #[.int .u8 (a : Int), .int .u8 (b : Int), .int .u8 (c : Int)] 22)).alloc (.cells #[.int .u8 (d : Int), .int .u8 (e : Int), .int .u8 (f : Int)] 22)) (w.heap.size + 1) 22 #[.int .u8 (d : Int), .int .u8 (e : Int), .int .u8 (f : Int)] := by
  have := Blk.new (w.alloc (.cells #[.int .u8 (a : Int), .int .u8 (b : Int), .int .u8 (c : Int)] 22)) 22 #[.int .u8 (d : Int), .int .u8 (e : Int), .int .u8 (f : Int)]
  simpa using this
 change Code.wp _ _ _ _ ((w.alloc (.cells #[.int .u8 (a : Int), .int .u8 (b : Int), .int .u8 (c : Int)] 22)).alloc (.cells #[.int .u8 (d : Int), .int .u8 (e : Int), .int .u8 (f : Int)] 22))
 generalize ((w.alloc (.cells #[.int .u8 (a : Int), .int .u8 (b : Int), .int .u8 (c : Int)] 22)).alloc (.cells #[.int .u8 (d : Int), .int .u8 (e : Int), .int .u8 (f : Int)] 22)) = W at *
 have HW := hid hW
 have HA := hid kA
 have HB := hid kB
 generalize hg : w.heap.size = g at *
 have HG := hid hg
 clear hW kA kB hg
 have HR0 := hid (show RangeErr W by have h := HW.out; rw [← HG.out] at h; exact HR.out.on h)
 go_wp2_with fail
 refine (awake9_any _ HR0.out).mono ?_
 rintro en w1 ⟨rfl, hb1⟩
 have hWs := HA.out.lt
 have H1 := hid (HW.out.trans (hb1.mono (by omega)))
 have HA1 := hid (HA.out.onto hb1)
 have HB1 := hid (HB.out.onto hb1)
 have HR1 := hid (HR0.out.on hb1)
 clear hb1
 go_wp2_with fail
 refine (awake9_any _ HR1.out).mono ?_
 rintro en w2 ⟨rfl, hb2⟩
 have hs1 := HA1.out.lt
 have H2 := hid (H1.out.trans (hb2.mono (by omega)))
 clear hb2
 go_wp2_with fail
 go_ret
 exact ⟨rfl, by rw [HG.out]; exact H2.out⟩
theorem walkE (s : ByteArray) (a b c d e f : Nat) (w : World) (x : E) (p k : Int) (P : Prop) (hs : s.size ≤ 600) (hQ : ∀ w1, Calls Tryz.prog 6 #[.string s] w1 (fun e w' => Told x p k w1 e w' ∧ (k = 0 → P))) (hP : ¬ P) (hr : RangeErr w) :
 Calls Tryz.prog 3 #[.string s, .agg #[.int .u8 (a : Int), .int .u8 (b : Int), .int .u8 (c : Int)], .agg #[.int .u8 (d : Int), .int .u8 (e : Int), .int .u8 (f : Int)]] w fun en w' => en = .returned (.bool true) ∧ Below w.heap.size w w' := by
 have HR := hid hr
 have HQ := hid hQ
 have HP := hid hP
 clear hr hQ hP
 have u1 : decide ((s.size : Int) > 600) = false := decide_eq_false (by omega)
 have u2 : decide ((600 : Int) < (s.size : Int)) = false := decide_eq_false (by omega)
 have u3 : decide (600 < s.size) = false := decide_eq_false (by omega)
 go_enter Tryz.func3, Tryz.ntmps3
 go_upto_region 1 with fail
 have hW : Below w.heap.size w ((w.alloc (.cells #[.int .u8 (a : Int), .int .u8 (b : Int), .int .u8 (c : Int)] 22)).alloc (.cells #[.int .u8 (d : Int), .int .u8 (e : Int), .int .u8 (f : Int)] 22)) := ((Below.refl _ _).alloc (Nat.le_refl _) _).alloc (by simp) _
 have kA : Blk ((w.alloc (.cells #[.int .u8 (a : Int), .int .u8 (b : Int), .int .u8 (c : Int)] 22)).alloc (.cells #[.int .u8 (d : Int), .int .u8 (e : Int), .int .u8 (f : Int)] 22)) w.heap.size 22 #[.int .u8 (a : Int), .int .u8 (b : Int), .int .u8 (c : Int)] := (Blk.new w _ _).alloc _
 have kB : Blk ((w.alloc (.cells #[.int .u8 (a : Int), .int .u8 (b : Int), .int .u8 (c : Int)] 22)).alloc (.cells #[.int .u8 (d : Int), .int .u8 (e : Int), .int .u8 (f : Int)] 22)) (w.heap.size + 1) 22 #[.int .u8 (d : Int), .int .u8 (e : Int), .int .u8 (f : Int)] := by
  have := Blk.new (w.alloc (.cells #[.int .u8 (a : Int), .int .u8 (b : Int), .int .u8 (c : Int)] 22)) 22 #[.int .u8 (d : Int), .int .u8 (e : Int), .int .u8 (f : Int)]
  simpa using this
 change Code.wp _ _ _ _ ((w.alloc (.cells #[.int .u8 (a : Int), .int .u8 (b : Int), .int .u8 (c : Int)] 22)).alloc (.cells #[.int .u8 (d : Int), .int .u8 (e : Int), .int .u8 (f : Int)] 22))
 generalize ((w.alloc (.cells #[.int .u8 (a : Int), .int .u8 (b : Int), .int .u8 (c : Int)] 22)).alloc (.cells #[.int .u8 (d : Int), .int .u8 (e : Int), .int .u8 (f : Int)] 22)) = W at *
 have HW := hid hW
 have HA := hid kA
 have HB := hid kB
 generalize hg : w.heap.size = g at *
 have HG := hid hg
 clear hW kA kB hg
 have HR0 := hid (show RangeErr W by have h := HW.out; rw [← HG.out] at h; exact HR.out.on h)
 go_wp2_with fail
 refine (awake9_any _ HR0.out).mono ?_
 rintro en w1 ⟨rfl, hb1⟩
 have hWs := HA.out.lt
 have H1 := hid (HW.out.trans (hb1.mono (by omega)))
 have HA1 := hid (HA.out.onto hb1)
 have HB1 := hid (HB.out.onto hb1)
 have HR1 := hid (HR0.out.on hb1)
 clear hb1
 go_wp2_with fail
 refine (HQ.out _).mono ?_
 rintro en w2 ⟨⟨⟨aA, a1, aB, a2, aC, a3⟩, rfl, -, hb2⟩, hq⟩
 have hs1 := HA1.out.lt
 have H2 := hid (H1.out.trans (hb2.mono (by omega)))
 have hc : k ≠ 0 := fun h => HP.out (hq h)
 have hg2 := Nat.lt_of_lt_of_le hs1 hb2.size
 clear hb2 hq
 unfold ecs
 dsimp only
 go_upto_region 4 with fail
 refine alloc_gn (fun W2 hW kB => ?_)
 have H3 := hid (H2.out.trans (hW.mono (by omega)))
 clear hW kB
 generalize w2.heap.size = y at *
 have n1 : (k == 0) = false := beq_eq_false_iff_ne.2 hc
 have n2 : (k != 0) = true := by simpa using hc
 clear hc
 go_wp2_with fail
 go_ret
 exact ⟨rfl, by rw [HG.out]; exact H3.out⟩
theorem walkG (s : ByteArray) (a b c d e f : Nat) (w : World) (ha : a ≤ 255) (hb : b ≤ 255) (hc : c ≤ 255) (hd : d ≤ 255) (he : e ≤ 255) (hf : f ≤ 255) (m : E) (hs : s.size ≤ 600) (hQ : ∀ w1, Calls Tryz.prog 6 #[.string s] w1 (Told m 0 0 w1)) (hlm : Lf m) (hzm : m.size ≤ 600) (hr : RangeErr w) :
 Calls Tryz.prog 3 #[.string s, .agg #[.int .u8 (a : Int), .int .u8 (b : Int), .int .u8 (c : Int)], .agg #[.int .u8 (d : Int), .int .u8 (e : Int), .int .u8 (f : Int)]] w fun en w' => en = .returned (.bool true) ∧ Below w.heap.size w w' := by
 have HR := hid hr
 have HQ := hid hQ
 have HLM := hid hlm
 clear hr hQ hlm
 have o1 := bits_or8 a d ha hd
 have o2 := bits_or8 b e hb he
 have o3 := bits_or8 c f hc hf
 have hg1 := or_le a d ha hd
 have hg2 := or_le b e hb he
 have hg3 := or_le c f hc hf
 have HGR := hid (chk_grow (a := ⟨a % 64, xyN, [b % 64, c % 64]⟩) (b := ⟨(a ||| d) % 64, xyN, [(b ||| e) % 64, (c ||| f) % 64]⟩) (sub_or a d) rfl ⟨sub_or b e, sub_or c f, trivial⟩ m)
 generalize a ||| d = o4 at *
 generalize b ||| e = o5 at *
 generalize c ||| f = o6 at *
 have HE1 := hid (fun w1 => env_any a b c (by omega) (by omega) (by omega) w1)
 have HK1 := hid (fun (A B C NA SA : Option Addr) (i j l : Nat) (w1 : World) (hev : EV w1 (· < w1.heap.size) m ⟨A, i, B, j, C, l⟩) (hen : EnvIn w1 ⟨a % 64, xyN, [b % 64, c % 64]⟩ NA SA) => (show Calls Tryz.prog 8 #[.agg #[.string m.op, .string m.name, .int .i64 m.lit.kind, .bool m.lit.tr, .int .i64 m.lit.num, .string m.lit.str, .slice A m.lit.items.length i, .slice B m.lit.keys.length j, .slice C m.args.length l], .agg #[.int .i64 ((a % 64 : Nat) : Int), .slice NA 2 2, .slice SA 2 2]] w1 (fun en w' => en = .returned (.tuple #[.int .i64 ((chk ⟨a % 64, xyN, [b % 64, c % 64]⟩ m).1 : Nat), .int .i64 (chk ⟨a % 64, xyN, [b % 64, c % 64]⟩ m).2]) ∧ Below w1.heap.size w1 w') from chk_lit (okEn a b c) (by omega) hev hen))
 have hx1 : (chk ⟨a % 64, xyN, [b % 64, c % 64]⟩ m).1 < 64 := chk_lt (okEn a b c).1 (okEn a b c).2.1 m
 have HE2 := hid (fun w1 => env_any o4 o5 o6 (by omega) (by omega) (by omega) w1)
 have HK2 := hid (fun (A B C NA SA : Option Addr) (i j l : Nat) (w1 : World) (hev : EV w1 (· < w1.heap.size) m ⟨A, i, B, j, C, l⟩) (hen : EnvIn w1 ⟨o4 % 64, xyN, [o5 % 64, o6 % 64]⟩ NA SA) => (show Calls Tryz.prog 8 #[.agg #[.string m.op, .string m.name, .int .i64 m.lit.kind, .bool m.lit.tr, .int .i64 m.lit.num, .string m.lit.str, .slice A m.lit.items.length i, .slice B m.lit.keys.length j, .slice C m.args.length l], .agg #[.int .i64 ((o4 % 64 : Nat) : Int), .slice NA 2 2, .slice SA 2 2]] w1 (fun en w' => en = .returned (.tuple #[.int .i64 ((chk ⟨o4 % 64, xyN, [o5 % 64, o6 % 64]⟩ m).1 : Nat), .int .i64 (chk ⟨o4 % 64, xyN, [o5 % 64, o6 % 64]⟩ m).2]) ∧ Below w1.heap.size w1 w') from chk_lit (okEn o4 o5 o6) (by omega) hev hen))
 have hx2 : (chk ⟨o4 % 64, xyN, [o5 % 64, o6 % 64]⟩ m).1 < 64 := chk_lt (okEn o4 o5 o6).1 (okEn o4 o5 o6).2.1 m
 generalize (chk (⟨a % 64, xyN, [b % 64, c % 64]⟩ : En) m).1 = X1 at *
 generalize (chk (⟨a % 64, xyN, [b % 64, c % 64]⟩ : En) m).2 = C1 at *
 generalize a % 64 = p1 at *
 generalize b % 64 = q1 at *
 generalize c % 64 = r1 at *
 generalize (chk (⟨o4 % 64, xyN, [o5 % 64, o6 % 64]⟩ : En) m).1 = X2 at *
 generalize (chk (⟨o4 % 64, xyN, [o5 % 64, o6 % 64]⟩ : En) m).2 = C2 at *
 generalize o4 % 64 = p2 at *
 generalize o5 % 64 = q2 at *
 generalize o6 % 64 = r2 at *
 have u1 : decide ((s.size : Int) > 600) = false := decide_eq_false (by omega)
 have u2 : decide ((600 : Int) < (s.size : Int)) = false := decide_eq_false (by omega)
 have u3 : decide (600 < s.size) = false := decide_eq_false (by omega)
 go_enter Tryz.func3, Tryz.ntmps3
 go_upto_region 1 with fail
 have hW : Below w.heap.size w ((w.alloc (.cells #[.int .u8 (a : Int), .int .u8 (b : Int), .int .u8 (c : Int)] 22)).alloc (.cells #[.int .u8 (d : Int), .int .u8 (e : Int), .int .u8 (f : Int)] 22)) := ((Below.refl _ _).alloc (Nat.le_refl _) _).alloc (by simp) _
 have kA : Blk ((w.alloc (.cells #[.int .u8 (a : Int), .int .u8 (b : Int), .int .u8 (c : Int)] 22)).alloc (.cells #[.int .u8 (d : Int), .int .u8 (e : Int), .int .u8 (f : Int)] 22)) w.heap.size 22 #[.int .u8 (a : Int), .int .u8 (b : Int), .int .u8 (c : Int)] := (Blk.new w _ _).alloc _
 have kB : Blk ((w.alloc (.cells #[.int .u8 (a : Int), .int .u8 (b : Int), .int .u8 (c : Int)] 22)).alloc (.cells #[.int .u8 (d : Int), .int .u8 (e : Int), .int .u8 (f : Int)] 22)) (w.heap.size + 1) 22 #[.int .u8 (d : Int), .int .u8 (e : Int), .int .u8 (f : Int)] := by
  have := Blk.new (w.alloc (.cells #[.int .u8 (a : Int), .int .u8 (b : Int), .int .u8 (c : Int)] 22)) 22 #[.int .u8 (d : Int), .int .u8 (e : Int), .int .u8 (f : Int)]
  simpa using this
 change Code.wp _ _ _ _ ((w.alloc (.cells #[.int .u8 (a : Int), .int .u8 (b : Int), .int .u8 (c : Int)] 22)).alloc (.cells #[.int .u8 (d : Int), .int .u8 (e : Int), .int .u8 (f : Int)] 22))
 generalize ((w.alloc (.cells #[.int .u8 (a : Int), .int .u8 (b : Int), .int .u8 (c : Int)] 22)).alloc (.cells #[.int .u8 (d : Int), .int .u8 (e : Int), .int .u8 (f : Int)] 22)) = W at *
 have HW := hid hW
 have HA := hid kA
 have HB := hid kB
 generalize hg : w.heap.size = g at *
 have HG := hid hg
 clear hW kA kB hg
 have HR0 := hid (show RangeErr W by have h := HW.out; rw [← HG.out] at h; exact HR.out.on h)
 go_wp2_with fail
 refine (awake9_any _ HR0.out).mono ?_
 rintro en w1 ⟨rfl, hb1⟩
 have hWs := HA.out.lt
 have H1 := hid (HW.out.trans (hb1.mono (by omega)))
 have HA1 := hid (HA.out.onto hb1)
 have HB1 := hid (HB.out.onto hb1)
 have HR1 := hid (HR0.out.on hb1)
 clear hb1
 go_wp2_with fail
 refine (HQ.out _).mono ?_
 rintro en w2 ⟨⟨aA, a1, aB, a2, aC, a3⟩, rfl, hev, hb2⟩
 have hs1 := HA1.out.lt
 have H2 := hid (H1.out.trans (hb2.mono (by omega)))
 have HA2 := hid (HA1.out.onto hb2)
 have HB2 := hid (HB1.out.onto hb2)
 have HEV2 := hid hev
 have hgw := Nat.lt_of_lt_of_le hs1 hb2.size
 clear hb2 hev
 unfold ecs
 dsimp only
 go_upto_region 4 with fail
 refine alloc_gn (fun W2 hW kB => ?_)
 have H3 := hid (H2.out.trans (hW.mono (by omega)))
 have HA3 := hid (HA2.out.onto hW)
 have HB3 := hid (HB2.out.onto hW)
 have HT3 := hid kB
 have HEV3 := hid (HEV2.out.on hW)
 clear hW kB
 generalize w2.heap.size = y at *
 have t0 := HA3.out.cell 0
 have t1 := HA3.out.cell 1
 have t2 := HA3.out.cell 2
 go_wp2_with fail
 refine (HE1.out _).mono ?_
 rintro en w4a ⟨G1, H1, J1, K1, rfl, hen, hb⟩
 have hs4 := HA3.out.lt
 have H4a := hid (H3.out.trans (hb.mono (by omega)))
 have HA4a := hid (HA3.out.onto hb)
 have HB4a := hid (HB3.out.onto hb)
 have HT4a := hid (HT3.out.onto hb)
 have HEV4a := hid (HEV3.out.on hb)
 have HEN14a := hid hen
 clear hb hen
 go_upto_region 7 with fail
 have hb : Below w4a.heap.size w4a ((w4a.alloc (.cells #[.int .i64 (p1 : Int), .slice (some ⟨G1, 0, none⟩) 2 2, .slice (some ⟨H1, 0, none⟩) 2 2] 36)).alloc (.cells #[.bool (bitN p1 0), .bool (bitN p1 1), .bool (bitN p1 2), .bool (bitN p1 3), .bool (bitN p1 4), .bool (bitN p1 5), .slice (some ⟨J1, 0, none⟩) 2 2, .slice (some ⟨K1, 0, none⟩) 2 2] 41)) := ((Below.refl _ _).alloc (Nat.le_refl _) _).alloc (by simp) _
 have HE314 := hid (show Blk ((w4a.alloc (.cells #[.int .i64 (p1 : Int), .slice (some ⟨G1, 0, none⟩) 2 2, .slice (some ⟨H1, 0, none⟩) 2 2] 36)).alloc (.cells #[.bool (bitN p1 0), .bool (bitN p1 1), .bool (bitN p1 2), .bool (bitN p1 3), .bool (bitN p1 4), .bool (bitN p1 5), .slice (some ⟨J1, 0, none⟩) 2 2, .slice (some ⟨K1, 0, none⟩) 2 2] 41)) w4a.heap.size 36 #[.int .i64 (p1 : Int), .slice (some ⟨G1, 0, none⟩) 2 2, .slice (some ⟨H1, 0, none⟩) 2 2] from (Blk.new w4a _ _).alloc _)
 have hs4a := HA4a.out.lt
 have H4 := hid (H4a.out.trans (hb.mono (by omega)))
 have HA4 := hid (HA4a.out.onto hb)
 have HB4 := hid (HB4a.out.onto hb)
 have HT4 := hid (HT4a.out.onto hb)
 have HEV4 := hid (HEV4a.out.on hb)
 have HEN14 := hid (HEN14a.out.on hb)
 clear hb
 generalize ((w4a.alloc (.cells #[.int .i64 (p1 : Int), .slice (some ⟨G1, 0, none⟩) 2 2, .slice (some ⟨H1, 0, none⟩) 2 2] 36)).alloc (.cells #[.bool (bitN p1 0), .bool (bitN p1 1), .bool (bitN p1 2), .bool (bitN p1 3), .bool (bitN p1 4), .bool (bitN p1 5), .slice (some ⟨J1, 0, none⟩) 2 2, .slice (some ⟨K1, 0, none⟩) 2 2] 41)) = W4 at *
 generalize w4a.heap.size = B1 at *
 clear t0 t1 t2
 have t0 := HA4.out.cell 0
 have t1 := HA4.out.cell 1
 have t2 := HA4.out.cell 2
 have s0 := HB4.out.cell 0
 have s1 := HB4.out.cell 1
 have s2 := HB4.out.cell 2
 go_wp2_with fail
 refine (HE2.out _).mono ?_
 rintro en w5a ⟨G2, H2, J2, K2, rfl, hen, hb⟩
 have hs5 := HA4.out.lt
 have H5a := hid (H4.out.trans (hb.mono (by omega)))
 have HA5a := hid (HA4.out.onto hb)
 have HB5a := hid (HB4.out.onto hb)
 have HT5a := hid (HT4.out.onto hb)
 have HEV5a := hid (HEV4.out.on hb)
 have HE315a := hid (HE314.out.onto hb)
 have HEN15a := hid (HEN14.out.on hb)
 have HEN25a := hid hen
 clear hb hen
 go_upto_region 8 with fail
 have hb : Below w5a.heap.size w5a ((w5a.alloc (.cells #[.int .i64 (p2 : Int), .slice (some ⟨G2, 0, none⟩) 2 2, .slice (some ⟨H2, 0, none⟩) 2 2] 36)).alloc (.cells #[.bool (bitN p2 0), .bool (bitN p2 1), .bool (bitN p2 2), .bool (bitN p2 3), .bool (bitN p2 4), .bool (bitN p2 5), .slice (some ⟨J2, 0, none⟩) 2 2, .slice (some ⟨K2, 0, none⟩) 2 2] 41)) := ((Below.refl _ _).alloc (Nat.le_refl _) _).alloc (by simp) _
 have HE325 := hid (show Blk ((w5a.alloc (.cells #[.int .i64 (p2 : Int), .slice (some ⟨G2, 0, none⟩) 2 2, .slice (some ⟨H2, 0, none⟩) 2 2] 36)).alloc (.cells #[.bool (bitN p2 0), .bool (bitN p2 1), .bool (bitN p2 2), .bool (bitN p2 3), .bool (bitN p2 4), .bool (bitN p2 5), .slice (some ⟨J2, 0, none⟩) 2 2, .slice (some ⟨K2, 0, none⟩) 2 2] 41)) w5a.heap.size 36 #[.int .i64 (p2 : Int), .slice (some ⟨G2, 0, none⟩) 2 2, .slice (some ⟨H2, 0, none⟩) 2 2] from (Blk.new w5a _ _).alloc _)
 have hs5a := HA5a.out.lt
 have H5 := hid (H5a.out.trans (hb.mono (by omega)))
 have HA5 := hid (HA5a.out.onto hb)
 have HB5 := hid (HB5a.out.onto hb)
 have HT5 := hid (HT5a.out.onto hb)
 have HEV5 := hid (HEV5a.out.on hb)
 have HE315 := hid (HE315a.out.onto hb)
 have HEN15 := hid (HEN15a.out.on hb)
 have HEN25 := hid (HEN25a.out.on hb)
 clear hb
 generalize ((w5a.alloc (.cells #[.int .i64 (p2 : Int), .slice (some ⟨G2, 0, none⟩) 2 2, .slice (some ⟨H2, 0, none⟩) 2 2] 36)).alloc (.cells #[.bool (bitN p2 0), .bool (bitN p2 1), .bool (bitN p2 2), .bool (bitN p2 3), .bool (bitN p2 4), .bool (bitN p2 5), .slice (some ⟨J2, 0, none⟩) 2 2, .slice (some ⟨K2, 0, none⟩) 2 2] 41)) = W5 at *
 generalize w5a.heap.size = B2 at *
 clear t0 t1 t2 s0 s1 s2
 have hD : Below W5.heap.size W5 W5.drew := (Below.refl _ _).drew
 have HSA6 := hid (show ∀ w', Below W5.drew.heap.size W5.drew w' → ((w'.cell? ⟨y, 0, none⟩ = some (.string m.op) ∧ w'.cell? ⟨y, 1, none⟩ = some (.string m.name) ∧ w'.cell? ⟨y, 2, none⟩ = some (.int .i64 m.lit.kind) ∧ w'.cell? ⟨y, 3, none⟩ = some (.bool m.lit.tr) ∧ w'.cell? ⟨y, 4, none⟩ = some (.int .i64 m.lit.num) ∧ w'.cell? ⟨y, 5, none⟩ = some (.string m.lit.str) ∧ w'.cell? ⟨y, 6, none⟩ = some (.slice aA m.lit.items.length a1) ∧ w'.cell? ⟨y, 7, none⟩ = some (.slice aB m.lit.keys.length a2) ∧ w'.cell? ⟨y, 8, none⟩ = some (.slice aC m.args.length a3)) ∧ w'.cell? ⟨B1, 0, none⟩ = some (.int .i64 (p1 : Int)) ∧ w'.cell? ⟨B1, 1, none⟩ = some (.slice (some ⟨G1, 0, none⟩) 2 2) ∧ w'.cell? ⟨B1, 2, none⟩ = some (.slice (some ⟨H1, 0, none⟩) 2 2)) from fun w' hb => by
  have k := (HT5.out.onto hD).onto hb
  have j := (HE315.out.onto hD).onto hb
  exact ⟨⟨k.cell 0, k.cell 1, k.cell 2, k.cell 3, k.cell 4, k.cell 5, k.cell 6, k.cell 7, k.cell 8⟩, j.cell 0, j.cell 1, j.cell 2⟩)
 have HD6 := hid hD
 clear hD
 refine wp_region_held_drew (S := fun w' => ((w'.cell? ⟨y, 0, none⟩ = some (.string m.op) ∧ w'.cell? ⟨y, 1, none⟩ = some (.string m.name) ∧ w'.cell? ⟨y, 2, none⟩ = some (.int .i64 m.lit.kind) ∧ w'.cell? ⟨y, 3, none⟩ = some (.bool m.lit.tr) ∧ w'.cell? ⟨y, 4, none⟩ = some (.int .i64 m.lit.num) ∧ w'.cell? ⟨y, 5, none⟩ = some (.string m.lit.str) ∧ w'.cell? ⟨y, 6, none⟩ = some (.slice aA m.lit.items.length a1) ∧ w'.cell? ⟨y, 7, none⟩ = some (.slice aB m.lit.keys.length a2) ∧ w'.cell? ⟨y, 8, none⟩ = some (.slice aC m.args.length a3)) ∧ w'.cell? ⟨B1, 0, none⟩ = some (.int .i64 (p1 : Int)) ∧ w'.cell? ⟨B1, 1, none⟩ = some (.slice (some ⟨G1, 0, none⟩) 2 2) ∧ w'.cell? ⟨B1, 2, none⟩ = some (.slice (some ⟨H1, 0, none⟩) 2 2))) (by kernel_rfl) ?_ (fun hHeld => ?_)
 · exact HSA6.out _ (Below.refl _ _)
 refine wpAnyH_take (i := 0) (v := ?_) rfl (by kernel_rfl) (by kernel_rfl) (by kernel_rfl) (fun _ _ _ h => h) (Or.inl ⟨by rfl, ?_⟩) (by assumption) ?_
 rotate_left
 ·
  intro wq hSw
  try dsimp only at hSw
  go_simp
  try (with_reducible rfl)
 try simp only [Act.put, List.getElem_toArray, List.getElem_cons_zero, List.setIfInBounds_toArray, List.set_cons_zero, List.set_cons_succ]
 refine wpAnyH_take (i := 2) (v := ?_) rfl (by kernel_rfl) (by kernel_rfl) (by kernel_rfl) (fun _ _ _ h => h) (Or.inl ⟨by rfl, ?_⟩) (by assumption) ?_
 rotate_left
 ·
  intro wq hSw
  try dsimp only at hSw
  go_simp
  try (with_reducible rfl)
 try simp only [Act.put, sqa, sqb, sqc, sqd, sqe, sqf]
 refine wpAnyH_ready (rs := [1]) (by kernel_rfl) (by simp) ?_
 refine AllReadyH.cons rfl (fun K0 hK => ?_) AllReadyH.nil
 go_simp
 refine (l8real_lit (by omega) HLM.out aA a1 aB a2 aC a3 W5.drew (HEV5.out.on HD6.out)).mono ?_
 rintro en w6b ⟨K9, k9, P9, p9, rfl, hev, hb⟩
 have HX6 := hid hb
 have HCK6 := hid (HK1.out _ _ _ _ _ _ _ _ _ hev (((HEN15.out.on HD6.out).on hb)))
 clear hb hev
 go_wp2_with fail
 refine hK.out _ _ ?_ (fun hHeld => ?_)
 · exact HSA6.out _ HX6.out
 clear hK K0
 try simp only [Act.put, sqa, sqb, sqc, sqd, sqe, sqf]
 refine wpAnyH_ready (rs := [3]) (by kernel_rfl) (by simp) ?_
 refine AllReadyH.cons rfl (fun K0 hK => ?_) AllReadyH.nil
 go_simp
 refine HCK6.out.mono ?_
 rintro en W6 ⟨rfl, hb⟩
 have HY6 := hid (HX6.out.trans (hb.mono HX6.out.size))
 clear hb
 go_wp2_with fail
 refine hK.out _ _ ?_ (fun hHeld => ?_)
 · exact HSA6.out _ HY6.out
 clear hK K0
 try simp only [Act.put, sqa, sqb, sqc, sqd, sqe, sqf]
 refine wpAnyH_take (i := 4) (v := ?_) rfl (by kernel_rfl) (by kernel_rfl) (by kernel_rfl) (fun _ _ _ h => h) (Or.inl ⟨by rfl, ?_⟩) (by assumption) ?_
 rotate_left
 ·
  intro wq hSw
  try dsimp only at hSw
  go_simp
  try (with_reducible rfl)
 try simp only [Act.put, sqa, sqb, sqc, sqd, sqe, sqf]
 refine wpAnyH_take (i := 5) (v := ?_) rfl (by kernel_rfl) (by kernel_rfl) (by kernel_rfl) (fun _ _ _ h => h) (Or.inl ⟨by rfl, ?_⟩) (by assumption) ?_
 rotate_left
 ·
  intro wq hSw
  try dsimp only at hSw
  go_simp
  try (with_reducible rfl)
 try simp only [Act.put, sqa, sqb, sqc, sqd, sqe, sqf]
 refine wpAnyH_take (i := 6) (v := ?_) rfl (by kernel_rfl) (by kernel_rfl) (by kernel_rfl) (fun _ _ _ h => h) (Or.inl ⟨by rfl, ?_⟩) (by assumption) ?_
 rotate_left
 ·
  intro wq hSw
  try dsimp only at hSw
  go_simp
  try (with_reducible rfl)
 try simp only [Act.put, sqa, sqb, sqc, sqd, sqe, sqf]
 refine wpAnyH_take (i := 7) (v := ?_) rfl (by kernel_rfl) (by kernel_rfl) (by kernel_rfl) (fun _ _ _ h => h) (Or.inl ⟨by rfl, ?_⟩) (by assumption) ?_
 rotate_left
 ·
  intro wq hSw
  try dsimp only at hSw
  go_simp
  try (with_reducible rfl)
 try simp only [Act.put, sqa, sqb, sqc, sqd, sqe, sqf]
 refine wpAnyH_take (i := 8) (v := ?_) rfl (by kernel_rfl) (by kernel_rfl) (by kernel_rfl) (fun _ _ _ h => h) (Or.inl ⟨by rfl, ?_⟩) (by assumption) ?_
 rotate_left
 ·
  intro wq hSw
  try dsimp only at hSw
  go_simp
  try (with_reducible rfl)
 try simp only [Act.put, sqa, sqb, sqc, sqd, sqe, sqf]
 refine wpAnyH_done (by kernel_rfl) ?_ _
 have hb6 := HD6.out.trans (HY6.out.mono HD6.out.size)
 have hs6 := HA5.out.lt
 have H6 := hid (H5.out.trans (hb6.mono (by omega)))
 have HA6 := hid (HA5.out.onto hb6)
 have HB6 := hid (HB5.out.onto hb6)
 have HT6 := hid (HT5.out.onto hb6)
 have HEV6 := hid (HEV5.out.on hb6)
 have HE326 := hid (HE325.out.onto hb6)
 have HEN26 := hid (HEN25.out.on hb6)
 clear hb6 hHeld HSA6 HCK6
 go_upto_region 9 with fail
 have hD : Below W6.heap.size W6 W6.drew := (Below.refl _ _).drew
 have HSA7 := hid (show ∀ w', Below W6.drew.heap.size W6.drew w' → ((w'.cell? ⟨y, 0, none⟩ = some (.string m.op) ∧ w'.cell? ⟨y, 1, none⟩ = some (.string m.name) ∧ w'.cell? ⟨y, 2, none⟩ = some (.int .i64 m.lit.kind) ∧ w'.cell? ⟨y, 3, none⟩ = some (.bool m.lit.tr) ∧ w'.cell? ⟨y, 4, none⟩ = some (.int .i64 m.lit.num) ∧ w'.cell? ⟨y, 5, none⟩ = some (.string m.lit.str) ∧ w'.cell? ⟨y, 6, none⟩ = some (.slice aA m.lit.items.length a1) ∧ w'.cell? ⟨y, 7, none⟩ = some (.slice aB m.lit.keys.length a2) ∧ w'.cell? ⟨y, 8, none⟩ = some (.slice aC m.args.length a3)) ∧ w'.cell? ⟨B2, 0, none⟩ = some (.int .i64 (p2 : Int)) ∧ w'.cell? ⟨B2, 1, none⟩ = some (.slice (some ⟨G2, 0, none⟩) 2 2) ∧ w'.cell? ⟨B2, 2, none⟩ = some (.slice (some ⟨H2, 0, none⟩) 2 2)) from fun w' hb => by
  have k := (HT6.out.onto hD).onto hb
  have j := (HE326.out.onto hD).onto hb
  exact ⟨⟨k.cell 0, k.cell 1, k.cell 2, k.cell 3, k.cell 4, k.cell 5, k.cell 6, k.cell 7, k.cell 8⟩, j.cell 0, j.cell 1, j.cell 2⟩)
 have HD7 := hid hD
 clear hD
 refine wp_region_held_drew (S := fun w' => ((w'.cell? ⟨y, 0, none⟩ = some (.string m.op) ∧ w'.cell? ⟨y, 1, none⟩ = some (.string m.name) ∧ w'.cell? ⟨y, 2, none⟩ = some (.int .i64 m.lit.kind) ∧ w'.cell? ⟨y, 3, none⟩ = some (.bool m.lit.tr) ∧ w'.cell? ⟨y, 4, none⟩ = some (.int .i64 m.lit.num) ∧ w'.cell? ⟨y, 5, none⟩ = some (.string m.lit.str) ∧ w'.cell? ⟨y, 6, none⟩ = some (.slice aA m.lit.items.length a1) ∧ w'.cell? ⟨y, 7, none⟩ = some (.slice aB m.lit.keys.length a2) ∧ w'.cell? ⟨y, 8, none⟩ = some (.slice aC m.args.length a3)) ∧ w'.cell? ⟨B2, 0, none⟩ = some (.int .i64 (p2 : Int)) ∧ w'.cell? ⟨B2, 1, none⟩ = some (.slice (some ⟨G2, 0, none⟩) 2 2) ∧ w'.cell? ⟨B2, 2, none⟩ = some (.slice (some ⟨H2, 0, none⟩) 2 2))) (by kernel_rfl) ?_ (fun hHeld => ?_)
 · exact HSA7.out _ (Below.refl _ _)
 refine wpAnyH_take (i := 0) (v := ?_) rfl (by kernel_rfl) (by kernel_rfl) (by kernel_rfl) (fun _ _ _ h => h) (Or.inl ⟨by rfl, ?_⟩) (by assumption) ?_
 rotate_left
 ·
  intro wq hSw
  try dsimp only at hSw
  go_simp
  try (with_reducible rfl)
 try simp only [Act.put, List.getElem_toArray, List.getElem_cons_zero, List.setIfInBounds_toArray, List.set_cons_zero, List.set_cons_succ]
 refine wpAnyH_take (i := 2) (v := ?_) rfl (by kernel_rfl) (by kernel_rfl) (by kernel_rfl) (fun _ _ _ h => h) (Or.inl ⟨by rfl, ?_⟩) (by assumption) ?_
 rotate_left
 ·
  intro wq hSw
  try dsimp only at hSw
  go_simp
  try (with_reducible rfl)
 try simp only [Act.put, sqa, sqb, sqc, sqd, sqe, sqf]
 refine wpAnyH_ready (rs := [1]) (by kernel_rfl) (by simp) ?_
 refine AllReadyH.cons rfl (fun K0 hK => ?_) AllReadyH.nil
 go_simp
 refine (l8real_lit (by omega) HLM.out aA a1 aB a2 aC a3 W6.drew (HEV6.out.on HD7.out)).mono ?_
 rintro en w7b ⟨K9, k9, P9, p9, rfl, hev, hb⟩
 have HX7 := hid hb
 have HCK7 := hid (HK2.out _ _ _ _ _ _ _ _ _ hev (((HEN26.out.on HD7.out).on hb)))
 clear hb hev
 go_wp2_with fail
 refine hK.out _ _ ?_ (fun hHeld => ?_)
 · exact HSA7.out _ HX7.out
 clear hK K0
 try simp only [Act.put, sqa, sqb, sqc, sqd, sqe, sqf]
 refine wpAnyH_ready (rs := [3]) (by kernel_rfl) (by simp) ?_
 refine AllReadyH.cons rfl (fun K0 hK => ?_) AllReadyH.nil
 go_simp
 refine HCK7.out.mono ?_
 rintro en W7 ⟨rfl, hb⟩
 have HY7 := hid (HX7.out.trans (hb.mono HX7.out.size))
 clear hb
 go_wp2_with fail
 refine hK.out _ _ ?_ (fun hHeld => ?_)
 · exact HSA7.out _ HY7.out
 clear hK K0
 try simp only [Act.put, sqa, sqb, sqc, sqd, sqe, sqf]
 refine wpAnyH_take (i := 4) (v := ?_) rfl (by kernel_rfl) (by kernel_rfl) (by kernel_rfl) (fun _ _ _ h => h) (Or.inl ⟨by rfl, ?_⟩) (by assumption) ?_
 rotate_left
 ·
  intro wq hSw
  try dsimp only at hSw
  go_simp
  try (with_reducible rfl)
 try simp only [Act.put, sqa, sqb, sqc, sqd, sqe, sqf]
 refine wpAnyH_take (i := 5) (v := ?_) rfl (by kernel_rfl) (by kernel_rfl) (by kernel_rfl) (fun _ _ _ h => h) (Or.inl ⟨by rfl, ?_⟩) (by assumption) ?_
 rotate_left
 ·
  intro wq hSw
  try dsimp only at hSw
  go_simp
  try (with_reducible rfl)
 try simp only [Act.put, sqa, sqb, sqc, sqd, sqe, sqf]
 refine wpAnyH_take (i := 6) (v := ?_) rfl (by kernel_rfl) (by kernel_rfl) (by kernel_rfl) (fun _ _ _ h => h) (Or.inl ⟨by rfl, ?_⟩) (by assumption) ?_
 rotate_left
 ·
  intro wq hSw
  try dsimp only at hSw
  go_simp
  try (with_reducible rfl)
 try simp only [Act.put, sqa, sqb, sqc, sqd, sqe, sqf]
 refine wpAnyH_take (i := 7) (v := ?_) rfl (by kernel_rfl) (by kernel_rfl) (by kernel_rfl) (fun _ _ _ h => h) (Or.inl ⟨by rfl, ?_⟩) (by assumption) ?_
 rotate_left
 ·
  intro wq hSw
  try dsimp only at hSw
  go_simp
  try (with_reducible rfl)
 try simp only [Act.put, sqa, sqb, sqc, sqd, sqe, sqf]
 refine wpAnyH_take (i := 8) (v := ?_) rfl (by kernel_rfl) (by kernel_rfl) (by kernel_rfl) (fun _ _ _ h => h) (Or.inl ⟨by rfl, ?_⟩) (by assumption) ?_
 rotate_left
 ·
  intro wq hSw
  try dsimp only at hSw
  go_simp
  try (with_reducible rfl)
 try simp only [Act.put, sqa, sqb, sqc, sqd, sqe, sqf]
 refine wpAnyH_done (by kernel_rfl) ?_ _
 have hb7 := HD7.out.trans (HY7.out.mono HD7.out.size)
 have hs7 := HA6.out.lt
 have H7 := hid (H6.out.trans (hb7.mono (by omega)))
 have HA7 := hid (HA6.out.onto hb7)
 have HB7 := hid (HB6.out.onto hb7)
 have HT7 := hid (HT6.out.onto hb7)
 have HEV7 := hid (HEV6.out.on hb7)
 clear hb7 hHeld HSA7 HCK7
 have HH := hid (show C1 = 0 → C2 = 0 ∧ X1 &&& X2 = X1 from HGR.out)
 by_cases hc : C1 = 0
 ·
  obtain ⟨hc2, hsub⟩ := HH.out hc
  subst hc hc2
  have hrun := bits_and X1 X2 hx1 hx2
  rw [hsub] at hrun
  have e1 : ((X1 : Int) == (X1 : Int)) = true := by simp
  clear hsub
  go_wp2_with fail
  go_ret
  exact ⟨rfl, by rw [HG.out]; exact H7.out⟩
 ·
  have n1 : (C1 == 0) = false := beq_eq_false_iff_ne.2 hc
  have n2 : (C1 != 0) = true := by simpa using hc
  clear hc
  go_wp2_with fail
  go_ret
  exact ⟨rfl, by rw [HG.out]; exact H7.out⟩
theorem walk (s : ByteArray) (a b c d e f : Nat) (w : World) (hzs : s.size ≤ maxLen) (ha : a ≤ 255) (hb : b ≤ 255) (hc : c ≤ 255) (hd : d ≤ 255) (he : e ≤ 255) (hf : f ≤ 255) (hr : RangeErr w) :
 Calls Tryz.prog 3 #[.string s, .agg #[.int .u8 (a : Int), .int .u8 (b : Int), .int .u8 (c : Int)], .agg #[.int .u8 (d : Int), .int .u8 (e : Int), .int .u8 (f : Int)]] w fun en w' => en = .returned (.bool true) ∧ Below w.heap.size w w' := by
 by_cases hl : 600 < s.size
 · exact walkL s a b c d e f w hl hr
 ·
  have hs : s.size ≤ 600 := by omega
  by_cases hP : ∃ m p, parse s = .ok m p
  ·
   obtain ⟨m, p, hps⟩ := hP
   have hp0 := parse_p0 hps
   subst hp0
   have hla : Lf m := by have := @parse_lf s; rw [hps] at this; exact this m 0 rfl
   have hza := parse_sz hps
   exact walkG s a b c d e f w ha hb hc hd he hf m hs (fun w1 => (rtold hps (by omega) w1).mono fun e w' h => h.1) hla (by omega) hr
  · exact walkE s a b c d e f w _ _ _ _ hs (fun w1 => rtold rfl (by omega) w1) hP hr
theorem lifted (os : Os) (started : os.Started) (H : Type) (enc : TypeId × Value → H) :
 ReturnsInHanded {} Tryz.checked os 3 .any (fun w args => (Rows.sortsGrowSpec.pre enc Tryz.prog Tryz.f3 [] false w args ∧ laidMetH Tryz.prog Rows.sortsGrowRow.laid w) ∧ sizedMet enc Tryz.prog Tryz.f3 (OpenSpec.ofChange Rows.sortsGrowSpec) false w args)
  (Rows.sortsGrowSpec.post enc Tryz.prog Tryz.f3 false true false false) := by
 refine returnsInHanded_of_change_and (C := Tryz.checked) (X := fun w _ => laidMetH Tryz.prog Rows.sortsGrowRow.laid w) (fun _ _ _ hh h => h.of_heap hh) own started (by kernel_rfl) Tryz.func3
  (ChangeSpec.witness_shaped (enc := enc) (C := Tryz.checked) (os := os) (X := fun w _ => laidMetH Tryz.prog Rows.sortsGrowRow.laid w) false (World.laidAll Tryz.prog os Rows.sortsGrowRow.laid) #[.string ByteArray.empty, .agg #[.int .u8 0, .int .u8 0, .int .u8 0], .agg #[.int .u8 0, .int .u8 0, .int .u8 0]] 8 (World.laidAll_os _ _ _) (World.shaped_of_ZipB (by kernel_rfl) (by kernel_rfl)) (by kernel_rfl) (by kernel_rfl) (by kernel_rfl) (by rw [MakeChecks.laidMetH_plain _ _ _ (by kernel_rfl)]; exact laidMet_laidAll _ (by kernel_rfl) (by kernel_rfl))) ?_
 intro W base args ds gs before hval0 hW _ _ hL _
 have hval : ∀ (j : Nat) t v, Tryz.f3.params[j]? = some t → args[j]? = some v → Value.okWide Tryz.prog W .any base t v := hval0
 have hW' := hW
 obtain ⟨p, q, hA0, hV, rfl, hfz, hnd⟩ := hW
 have hA : DataW.TrodAll enc Tryz.prog W 0 (fun _ => true) true Tryz.f3.params.toList args.toList ds p := hA0
 rw [Tryz.params3] at hA hval
 obtain ⟨v0, vs0, d0, ds0, p0, q0, hargs, rfl, rfl, h0, r0⟩ := trodAll_cons hA
 obtain ⟨v1, vs1, d1, ds1, p1, q1, rfl, rfl, rfl, h1, r1⟩ := trodAll_cons r0
 obtain ⟨v2, vs2, d2, ds2, p2, q2, rfl, rfl, rfl, h2, r2⟩ := trodAll_cons r1
 obtain ⟨rfl, rfl, rfl⟩ := trodAll_nil r2
 obtain rfl : args = #[v0, v1, v2] := by cases args; simp_all
 obtain ⟨rfl, rfl⟩ := trodVars_none hV
 obtain ⟨s0, rfl, rfl, rfl, w0⟩ := open_string Tryz.underlying9 (hval 0 9 v0 rfl rfl) h0
 have k1 := h1
 have lt1 : ∀ x ∈ p1, x.block < W.heap.size := by obtain ⟨m, hm⟩ := k1; exact DataW.trod_lt m _ _ _ hm
 obtain ⟨x1, y1, z1, rfl, hx1, hy1, hz1⟩ := tri_open (hval 1 22 v1 rfl rfl) h1
 have k2 := h2
 have lt2 : ∀ x ∈ p2, x.block < W.heap.size := by obtain ⟨m, hm⟩ := k2; exact DataW.trod_lt m _ _ _ hm
 obtain ⟨x2, y2, z2, rfl, hx2, hy2, hz2⟩ := tri_open (hval 2 22 v2 rfl rfl) h2
 clear hA0 hval0
 refine (walk s0 x1 y1 z1 x2 y2 z2 W w0 hx1 hy1 hz1 hx2 hy2 hz2 (errs hL)).mono fun e W' ⟨he, bel⟩ => ?_
 subst he
 exact ⟨_, rfl, _, _, _, [], _, [], hW', trodAll_mk1 (shut_bool Tryz.underlying4 _), (trodAll_cons_mk (shut_string Tryz.underlying9 w0) (trodAll_cons_mk (Below.trod laidOut (by kernel_rfl) (of_decide_eq_true (by kernel_rfl)) k1 bel lt1) (trodAll_cons_mk (Below.trod laidOut (by kernel_rfl) (of_decide_eq_true (by kernel_rfl)) k2 bel lt2) trodAll_mk0))), rfl, bel.frame _, fun h => by cases h⟩
theorem said : Rows.SortsGrowSaid :=
 OpenClaim.holds_of_wide 3 Tryz.f3 rfl rfl rfl rfl rfl rfl rfl ⟨rfl, rfl, rfl, rfl, rfl⟩ rfl rfl rfl rfl rfl (by kernel_rfl) Tryz.func3 (by kernel_rfl)
  (of_decide_eq_true (by kernel_rfl)) (by unfold Func.isWrapper; first | (rw [if_pos (by decide +kernel)]; kernel_rfl) | (rw [if_neg (by decide +kernel)]; exact ⟨rfl, rfl⟩))
  (fun os started H enc _ => lifted os started H enc)
theorem plain (f : FuncId) (fn : Func) (hf : Tryz.pinned.checked.prog.funcNamed "cheval/chevallaw09.SortsGrow" = some f) (hfn : Tryz.pinned.checked.prog.funcs[f]? = some fn) :
 true = Tryz.pinned.checked.prog.looks [] ∧ ∀ (j : Nat) t, fn.params[j]? = some t → Tryz.pinned.checked.prog.wantsStandIn t = false := by
 obtain rfl : f = 3 := Option.some.inj ((show Tryz.prog.funcNamed "cheval/chevallaw09.SortsGrow" = some 3 by kernel_rfl).symm.trans hf) |>.symm
 obtain rfl : fn = Tryz.f3 := (Option.some.inj (Tryz.func3.symm.trans hfn)).symm
 refine ⟨by kernel_rfl, fun j t ht => ?_⟩
 rw [Tryz.params3] at ht
 have hm := Array.mem_of_getElem? ht
 simp only [List.mem_toArray, List.mem_cons, List.not_mem_nil, or_false] at hm
 rcases hm with rfl | rfl | rfl
 · exact (show Tryz.prog.wantsStandIn 9 = false by kernel_rfl)
 · exact (show Tryz.prog.wantsStandIn 22 = false by kernel_rfl)
 · exact (show Tryz.prog.wantsStandIn 22 = false by kernel_rfl)
theorem card : Rows.SortsGrowCardSaid :=
 Claim7.holds_tied_plain_at .later [] _ _ _ _ said (fun _ h => by cases h) (by kernel_rfl) (fun _ h => by cases h) sortsGrow_row_tie rfl ⟨rfl, rfl⟩ (by kernel_rfl) rfl plain (by kernel_rfl)
end Go.Proofs.YtfbipnflgjhaiaaGreatDoor.sortsGrow
