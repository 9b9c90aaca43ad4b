/- What stands about a tree's parts, of a number, a name, a sign: contracts. -/
import Derived.Test.YtofgmddlacenhaaGreatDoorEQ
import Derived.Test.YtofgmddlacenhaaGreatDoorEV
import Derived.Test.YtofgmddlacenhaaGreatDoorEF
import Derived.BigQuiet
set_option linter.unusedVariables false
set_option maxRecDepth 100000
set_option maxHeartbeats 8000000
open Go.Lib (hid)
namespace Go.Proofs.YtofgmddlacenhaaGreatDoor
open Go.RowKit
open Tk Ex
theorem xaround_lit (n : ByteArray) (v : T) (l : List E) (h : Hd) (w : World) (hk : v.kind = 2) (hn0 : -9223372036854775808 ≤ v.num) (hn1 : v.num ≤ 9223372036854775807) (ht : Lib.TabIs Tryz.prog w "internal/strconv.uint64pow10" .u64 Lib.pow10Tab) :
 Calls Tryz.prog 45 #[.agg #[.string ⟨#[108, 105, 116]⟩, .string n, .int .i64 v.kind, .bool v.tr, .int .i64 v.num, .string v.str, .slice h.L v.items.length h.l, .slice h.L' v.keys.length h.l', .slice h.A l.length h.c]] w fun e w' => e = .returned (.tuple #[.string ⟨(Lib.itoa v.num).toArray⟩, .string ⟨#[]⟩, .string ⟨#[]⟩]) ∧ Below w.heap.size w w' := by
 have HT := hid (tab_of8 ht)
 have HK := hid hk
 clear ht hk
 go_enter Tryz.func45, Tryz.ntmps45
 go_upto_region 1 with fail
 refine alloc_gn (fun W hW0 hB0 => ?_)
 generalize hg : w.heap.size = g at *
 have a0 := hB0.cell 0
 have a1 := hB0.cell 1
 have a2 := hB0.cell 2
 have a3 := hB0.cell 3
 have a4 := hB0.cell 4
 have a5 := hB0.cell 5
 have a6 := hB0.cell 6
 have a7 := hB0.cell 7
 have HW := hid hW0
 have HG := hid hg
 clear hB0 hW0 hg
 have HT2 := hid (HT.out.on HW.out).2
 go_wp2_with fail
 refine (rntext_int v h.L h.l h.L' h.l' _ HK.out hn0 hn1 HT2.out).mono ?_
 rintro e w2 ⟨rfl, hb2⟩
 have HB2 := hid (HW.out.trans (hb2.mono (by rw [← HG.out]; exact HW.out.size)))
 clear hb2
 go_wp2_with fail
 go_ret3
 exact ⟨rfl, by rw [HG.out]; exact HB2.out⟩
theorem xaround_var (n : ByteArray) (v : T) (l : List E) (h : Hd) (w : World) :
 Calls Tryz.prog 45 #[.agg #[.string ⟨#[118, 97, 114]⟩, .string n, .int .i64 v.kind, .bool v.tr, .int .i64 v.num, .string v.str, .slice h.L v.items.length h.l, .slice h.L' v.keys.length h.l', .slice h.A l.length h.c]] w fun e w' => e = .returned (.tuple #[.string n, .string ⟨#[]⟩, .string ⟨#[]⟩]) ∧ Below w.heap.size w w' := by
 go_enter Tryz.func45, Tryz.ntmps45
 go_upto_region 1 with fail
 refine alloc_gn (fun W hW0 hB0 => ?_)
 generalize hg : w.heap.size = g at *
 have a0 := hB0.cell 0
 have a1 := hB0.cell 1
 have a2 := hB0.cell 2
 have a3 := hB0.cell 3
 have a4 := hB0.cell 4
 have a5 := hB0.cell 5
 have a6 := hB0.cell 6
 have a7 := hB0.cell 7
 have HW := hid hW0
 have HG := hid hg
 clear hB0 hW0 hg
 go_wp2_with fail
 go_ret3
 exact ⟨rfl, by rw [HG.out]; exact HW.out⟩
theorem args_plus : argsN ⟨#[43]⟩ = 0 := by decide +kernel
theorem xaround_plus (n : ByteArray) (v : T) (l : List E) (h : Hd) (w : World) :
 Calls Tryz.prog 45 #[.agg #[.string ⟨#[43]⟩, .string n, .int .i64 v.kind, .bool v.tr, .int .i64 v.num, .string v.str, .slice h.L v.items.length h.l, .slice h.L' v.keys.length h.l', .slice h.A l.length h.c]] w fun e w' => e = .returned (.tuple #[.string ⟨#[40]⟩, .string ⟨#[32, 43, 32]⟩, .string ⟨#[41]⟩]) ∧ Below w.heap.size w w' := by
 go_enter Tryz.func45, Tryz.ntmps45
 go_upto_region 1 with fail
 refine alloc_gn (fun W hW0 hB0 => ?_)
 generalize hg : w.heap.size = g at *
 have a0 := hB0.cell 0
 have a1 := hB0.cell 1
 have a2 := hB0.cell 2
 have a3 := hB0.cell 3
 have a4 := hB0.cell 4
 have a5 := hB0.cell 5
 have a6 := hB0.cell 6
 have a7 := hB0.cell 7
 have HW := hid hW0
 have HG := hid hg
 clear hB0 hW0 hg
 have HA := hid (show ∀ w1, Calls Tryz.prog 61 #[.string ⟨#[43]⟩] w1 fun e w' => e = .returned (.int .i64 (0 : Nat)) ∧ w1 = w' from fun w1 => by have := xargs_any ⟨#[43]⟩ w1; rw [args_plus] at this; exact this)
 go_wp2_with fail
 refine (HA.out _).mono ?_
 rintro e w2 ⟨rfl, rfl⟩
 go_wp2_with fail
 go_quiet (fail)
 go_wp2_with fail
 go_ret3
 exact ⟨rfl, by rw [HG.out]; first | exact below_drewN HW.out _ | exact HW.out.drew | exact HW.out⟩
theorem args_star : argsN ⟨#[42]⟩ = 0 := by decide +kernel
theorem xaround_star (n : ByteArray) (v : T) (l : List E) (h : Hd) (w : World) :
 Calls Tryz.prog 45 #[.agg #[.string ⟨#[42]⟩, .string n, .int .i64 v.kind, .bool v.tr, .int .i64 v.num, .string v.str, .slice h.L v.items.length h.l, .slice h.L' v.keys.length h.l', .slice h.A l.length h.c]] w fun e w' => e = .returned (.tuple #[.string ⟨#[40]⟩, .string ⟨#[32, 42, 32]⟩, .string ⟨#[41]⟩]) ∧ Below w.heap.size w w' := by
 go_enter Tryz.func45, Tryz.ntmps45
 go_upto_region 1 with fail
 refine alloc_gn (fun W hW0 hB0 => ?_)
 generalize hg : w.heap.size = g at *
 have a0 := hB0.cell 0
 have a1 := hB0.cell 1
 have a2 := hB0.cell 2
 have a3 := hB0.cell 3
 have a4 := hB0.cell 4
 have a5 := hB0.cell 5
 have a6 := hB0.cell 6
 have a7 := hB0.cell 7
 have HW := hid hW0
 have HG := hid hg
 clear hB0 hW0 hg
 have HA := hid (show ∀ w1, Calls Tryz.prog 61 #[.string ⟨#[42]⟩] w1 fun e w' => e = .returned (.int .i64 (0 : Nat)) ∧ w1 = w' from fun w1 => by have := xargs_any ⟨#[42]⟩ w1; rw [args_star] at this; exact this)
 go_wp2_with fail
 refine (HA.out _).mono ?_
 rintro e w2 ⟨rfl, rfl⟩
 go_wp2_with fail
 go_quiet (fail)
 go_wp2_with fail
 go_ret3
 exact ⟨rfl, by rw [HG.out]; first | exact below_drewN HW.out _ | exact HW.out.drew | exact HW.out⟩
end Go.Proofs.YtofgmddlacenhaaGreatDoor
