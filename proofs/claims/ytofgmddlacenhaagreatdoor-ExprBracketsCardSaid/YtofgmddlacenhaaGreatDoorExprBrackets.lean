/- Brackets about an expression change nothing of its tree; two with a sign between, each in brackets, are what they are, as long as it is not too deep (tied card). -/
import Derived.Test.YtofgmddlacenhaaGreatDoorCards
import Derived.Test.YtofgmddlacenhaaGreatDoorTie
import Derived.WalkKit
import Derived.ProofKit
import Derived.OpenShut
import Derived.ChangeOld
import Derived.ShutString
import Derived.Below
import Derived.LaidMore
import Derived.Lib.LaidTab
import Derived.Stop.Joined
import Derived.Stop.LaidErr
import Derived.SevenTiedAt
import Derived.Lay
import Derived.Test.YtofgmddlacenhaaGreatDoorES
import Derived.Test.YtofgmddlacenhaaGreatDoorYZ
import Derived.Test.YtofgmddlacenhaaGreatDoorEE2
set_option linter.unusedVariables false
set_option maxRecDepth 100000
set_option maxHeartbeats 8000000
open Go.Lib (hid)
namespace Go.Proofs.YtofgmddlacenhaaGreatDoor.exprBrackets
open Go.ChangeShapes Go.WideShapes Go.ChangeAt Go.RowKit
open Go.ChangeMaps (open_string shut_string)
open Tk Pl
theorem own : ownKnob Tryz.prog.godebug = none := by kernel_rfl
theorem laidOut : laidOutB Tryz.prog = true := by kernel_rfl
theorem gRange : Tryz.prog.globalNamed "strconv.ErrRange" = some 7 := by kernel_rfl
theorem star : "*" ++ "errors.errorString" = "*errors.errorString" := by decide
theorem rowPtr (u : TypeId) (h : Tryz.prog.typeName? 3 u = some "*errors.errorString") : u = 267 :=
 typeName_ptr_named (nm := "errors.errorString") (by rw [star]; kernel_rfl) (by kernel_rfl) (by decide) u (by rw [star]; exact h)
theorem errs {W : World} (h : laidMetH Tryz.prog Rows.exprBracketsRow.laid W) : RangeErr W := by
 have h' : laidMet Tryz.prog Rows.exprBracketsRow.laid W := h
 obtain ⟨a, s, hv, _⟩ := laid_sentinel h'.tail.tail.tail.tail gRange (by kernel_rfl) Tryz.underlying94 rowPtr Tryz.underlying267 Tryz.underlying269 rfl rfl Tryz.underlying9 (by kernel_rfl) (by kernel_rfl)
 exact ⟨_, _, hv⟩
theorem gPow5 : Tryz.prog.globalNamed "internal/strconv.uint64pow10" = some 3 := by kernel_rfl
theorem table {W : World} (h : laidMetH Tryz.prog Rows.exprBracketsRow.laid W) : Lib.TabIs Tryz.prog W "internal/strconv.uint64pow10" .u64 Lib.pow10Tab := by
 have h' : laidMet Tryz.prog Rows.exprBracketsRow.laid W := h
 exact Lib.tabIs_of_head (rest := _) gPow5 (by kernel_rfl) Tryz.underlying221 Tryz.underlying144 (by kernel_rfl) (by kernel_rfl) h'.tail.tail
open Ex
def opN (k : Nat) : ByteArray := if k = 0 then ⟨#[111, 114]⟩ else if k = 1 then ⟨#[97, 110, 100]⟩ else if k = 2 then ⟨#[61, 61]⟩ else if k = 3 then ⟨#[33, 61]⟩ else if k = 4 then ⟨#[60]⟩ else if k = 5 then ⟨#[60, 61]⟩ else if k = 6 then ⟨#[62]⟩ else if k = 7 then ⟨#[62, 61]⟩ else if k = 8 then ⟨#[43]⟩ else if k = 9 then ⟨#[45]⟩ else if k = 10 then ⟨#[42]⟩ else if k = 11 then ⟨#[47]⟩ else ⟨#[37]⟩
theorem case13 {P : Nat → Prop} (h0 : P 0) (h1 : P 1) (h2 : P 2) (h3 : P 3) (h4 : P 4) (h5 : P 5) (h6 : P 6) (h7 : P 7) (h8 : P 8) (h9 : P 9) (h10 : P 10) (h11 : P 11) (h12 : P 12) (k : Nat) (hk : k < 13) : P k := by
 rcases (by omega : k = 0 ∨ k = 1 ∨ k = 2 ∨ k = 3 ∨ k = 4 ∨ k = 5 ∨ k = 6 ∨ k = 7 ∨ k = 8 ∨ k = 9 ∨ k = 10 ∨ k = 11 ∨ k = 12) with rfl | rfl | rfl | rfl | rfl | rfl | rfl | rfl | rfl | rfl | rfl | rfl | rfl <;> assumption
theorem op_size : ∀ k, k < 13 → (opN k).size ≤ 3 := case13 (by decide) (by decide) (by decide) (by decide) (by decide) (by decide) (by decide) (by decide) (by decide) (by decide) (by decide) (by decide) (by decide)
theorem op_in : ∀ k, k < 13 → ∃ n, (opN k, n) ∈ ops := by
 have key : ∀ (o : ByteArray) (n : Nat) (i : Nat), ops[i]? = some (o, n) → ∃ n, (o, n) ∈ ops := fun o n i h => ⟨n, List.mem_of_getElem? h⟩
 exact case13 (key _ 0 0 rfl) (key _ 1 1 rfl) (key _ 3 2 rfl) (key _ 3 3 rfl) (key _ 3 4 rfl) (key _ 3 5 rfl) (key _ 3 6 rfl) (key _ 3 7 rfl) (key _ 4 8 rfl) (key _ 4 9 rfl) (key _ 5 10 rfl) (key _ 5 11 rfl) (key _ 5 12 rfl)
theorem index13 (w : World) (k : Nat) (hk : k < 13) : (Instr.index 57 (.agg #[.string ⟨#[111, 114]⟩, .string ⟨#[97, 110, 100]⟩, .string ⟨#[61, 61]⟩, .string ⟨#[33, 61]⟩, .string ⟨#[60]⟩, .string ⟨#[60, 61]⟩, .string ⟨#[62]⟩, .string ⟨#[62, 61]⟩, .string ⟨#[43]⟩, .string ⟨#[45]⟩, .string ⟨#[42]⟩, .string ⟨#[47]⟩, .string ⟨#[37]⟩]) (.int .u8 (k : Int))).run Tryz.prog w = .ok (.string (opN k)) w := by
 rcases (by omega : k = 0 ∨ k = 1 ∨ k = 2 ∨ k = 3 ∨ k = 4 ∨ k = 5 ∨ k = 6 ∨ k = 7 ∨ k = 8 ∨ k = 9 ∨ k = 10 ∨ k = 11 ∨ k = 12) with rfl | rfl | rfl | rfl | rfl | rfl | rfl | rfl | rfl | rfl | rfl | rfl | rfl <;> kernel_rfl
theorem two_row {w : World} {g : Nat} {t : TypeId} {a b : E} {aA aB aC bA bB bC : Option Addr} {a1 a2 a3 b1 b2 b3 : Nat} {op : ByteArray} (kG : Blk w g t #[.string a.op, .string a.name, .int .i64 a.lit.kind, .bool a.lit.tr, .int .i64 a.lit.num, .string a.lit.str, .slice aA a.lit.items.length a1, .slice aB a.lit.keys.length a2, .slice aC a.args.length a3, .string b.op, .string b.name, .int .i64 b.lit.kind, .bool b.lit.tr, .int .i64 b.lit.num, .string b.lit.str, .slice bA b.lit.items.length b1, .slice bB b.lit.keys.length b2, .slice bC b.args.length b3]) (ha : EV w (· < w.heap.size) a ⟨aA, a1, aB, a2, aC, a3⟩) (hb : EV w (· < w.heap.size) b ⟨bA, b1, bB, b2, bC, b3⟩) : EV w (· < w.heap.size) (.mk op nix Rd.nulT [a, b]) ⟨none, 0, none, 0, some ⟨g, 0, none⟩, 2⟩ := by
 refine EV.two (S := (· < w.heap.size)) kG.lt (kG.nine8 fun i hi => ?_) (kG.nine8 fun i hi => ?_) ha hb (Nat.le_refl 2)
 · rcases (by omega : i = 0 ∨ i = 1 ∨ i = 2 ∨ i = 3 ∨ i = 4 ∨ i = 5 ∨ i = 6 ∨ i = 7 ∨ i = 8) with rfl | rfl | rfl | rfl | rfl | rfl | rfl | rfl | rfl <;> rfl
 · rcases (by omega : i = 0 ∨ i = 1 ∨ i = 2 ∨ i = 3 ∨ i = 4 ∨ i = 5 ∨ i = 6 ∨ i = 7 ∨ i = 8) with rfl | rfl | rfl | rfl | rfl | rfl | rfl | rfl | rfl <;> rfl
theorem walkG (s t : ByteArray) (n : Int) (k : Nat) (w : World) (a b z : E) (op : ByteArray) (c : Int) (hs : s.size ≤ 600) (ht : t.size ≤ 600) (hn0 : 0 ≤ n) (hn1 : n ≤ 255) (hn : n % 13 = (k : Int)) (hk : k < 13) (hop : opN k = op)
 (hA : ∀ w1, Calls Tryz.prog 8 #[.string s] w1 (Told a 0 0 w1)) (hB : ∀ w1, Calls Tryz.prog 8 #[.string t] w1 (Told b 0 0 w1))
 (hX : ∀ w1, RangeErr w1 → Calls Tryz.prog 12 #[.string (⟨#[40, 40]⟩ ++ s ++ ⟨#[41, 41]⟩)] w1 (Told a 0 0 w1)) (hY : ∀ w1, RangeErr w1 → Calls Tryz.prog 12 #[.string (⟨#[40]⟩ ++ s ++ ⟨#[41]⟩ ++ op ++ ⟨#[40]⟩ ++ t ++ ⟨#[41]⟩)] w1 (Told z 0 c w1))
 (hR : (a.depth = 32 ∨ b.depth = 32) ∧ c = 6 ∨ (a.depth ≠ 32 ∧ b.depth ≠ 32) ∧ c = 0 ∧ z = .mk op nix Rd.nulT [a, b]) (hla : Lf a) (hlb : Lf b) (hza : a.size ≤ 3000) (hzb : b.size ≤ 3000) (hr : RangeErr w) (htb : Lib.TabIs Tryz.prog w "internal/strconv.uint64pow10" .u64 Lib.pow10Tab) :
 Calls Tryz.prog 6 #[.string s, .string t, .int .u8 n] w fun e w' => e = .returned (.bool true) ∧ Below w.heap.size w w' := by
 have hoz : op.size ≤ 3 := by rw [← hop]; exact op_size k hk
 have HIX := hid (fun w1 => index13 w1 k hk)
 rw [hop] at HIX
 have HR := hid hr
 have HT := hid (tab_of8 htb)
 have HA := hid hA
 have HB := hid hB
 have HX := hid hX
 have HY := hid hY
 have HC := hid hR
 have HLA := hid hla
 have HLB := hid hlb
 have HOP := hid hop
 clear hr htb hA hB hX hY hR hla hlb hop
 have u1 : decide ((s.size : Int) > 600) = false := decide_eq_false (by omega)
 have u2 : decide ((600 : Int) < (s.size : Int)) = false := decide_eq_false (by omega)
 have u3 : decide (600 < s.size) = false := decide_eq_false (by omega)
 have v1 : decide ((t.size : Int) > 600) = false := decide_eq_false (by omega)
 have v2 : decide ((600 : Int) < (t.size : Int)) = false := decide_eq_false (by omega)
 have v3 : decide (600 < t.size) = false := decide_eq_false (by omega)
 go_enter Tryz.func6, Tryz.ntmps6
 go_wp2_with fail
 refine (awake8_any _ HR.out HT.out.2).mono ?_
 rintro e w1 ⟨rfl, hb1⟩
 have H1 := hid hb1
 clear hb1
 have HR1 := hid (HR.out.on H1.out)
 go_wp2_with fail
 refine (HA.out _).mono ?_
 rintro e w2 ⟨⟨aA, a1, aB, a2, aC, a3⟩, rfl, hev, hb2⟩
 have H2 := hid (H1.out.trans (hb2.mono H1.out.size))
 have HEA := hid hev
 clear hb2 hev
 unfold ecs
 dsimp only
 go_upto_region 4 with fail
 refine alloc_gn (fun W2 hW kB => ?_)
 have H3 := hid (H2.out.trans (hW.mono H2.out.size))
 have HEA3 := hid (HEA.out.on hW)
 have KA := hid kB
 clear hW kB
 generalize w2.heap.size = f at *
 go_wp2_with fail
 refine (HB.out _).mono ?_
 rintro e w4 ⟨⟨bA, b1, bB, b2, bC, b3⟩, rfl, hev, hb4⟩
 have H4 := hid (H3.out.trans (hb4.mono H3.out.size))
 have HEA4 := hid (HEA3.out.on hb4)
 have KA4 := hid (KA.out.onto hb4)
 have HEB := hid hev
 clear hb4 hev
 unfold ecs
 dsimp only
 go_upto_region 5 with fail
 refine alloc_gn (fun W5 hW kB => ?_)
 have H5 := hid (H4.out.trans (hW.mono H4.out.size))
 have HEA5 := hid (HEA4.out.on hW)
 have HEB5 := hid (HEB.out.on hW)
 have KA5 := hid (KA4.out.onto hW)
 have KB5 := hid kB
 clear hW kB
 generalize w4.heap.size = h at *
 have HR5 := hid (HR.out.on H5.out)
 go_wp2_with fail
 refine (HX.out _ HR5.out).mono ?_
 rintro e w6 ⟨⟨xA, x1, xB, x2, xC, x3⟩, rfl, hev, hb6⟩
 have H6 := hid (H5.out.trans (hb6.mono H5.out.size))
 have HEA6 := hid (HEA5.out.on hb6)
 have HEB6 := hid (HEB5.out.on hb6)
 have KA6 := hid (KA5.out.onto hb6)
 have KB6 := hid (KB5.out.onto hb6)
 have HEX := hid hev
 clear hb6 hev
 unfold ecs
 dsimp only
 go_upto_region 8 with fail
 refine alloc_gn (fun W7 hW kB => ?_)
 have H7 := hid (H6.out.trans (hW.mono H6.out.size))
 have HEA7 := hid (HEA6.out.on hW)
 have HEB7 := hid (HEB6.out.on hW)
 have HEX7 := hid (HEX.out.on hW)
 have KA7 := hid (KA6.out.onto hW)
 have KB7 := hid (KB6.out.onto hW)
 have KX7 := hid kB
 clear hW kB
 generalize w6.heap.size = g at *
 have HR7 := hid (HR.out.on H7.out)
 have hix := HIX.out
 have hx6 : n.tmod 13 = (k : Int) := by rw [Int.tmod_eq_emod_of_nonneg hn0]; exact hn
 go_upto_region 9 with fail
 go_wp2_with fail
 refine (HY.out _ HR7.out).mono ?_
 rintro e w8 ⟨⟨yA, y1, yB, y2, yC, y3⟩, rfl, hev, hb8⟩
 have H8 := hid (H7.out.trans (hb8.mono H7.out.size))
 have HEA8 := hid (HEA7.out.on hb8)
 have HEB8 := hid (HEB7.out.on hb8)
 have HEX8 := hid (HEX7.out.on hb8)
 have KA8 := hid (KA7.out.onto hb8)
 have KB8 := hid (KB7.out.onto hb8)
 have KX8 := hid (KX7.out.onto hb8)
 have HEY := hid hev
 clear hb8 hev hix hx6
 unfold ecs
 dsimp only
 go_upto_region 10 with fail
 refine alloc_gn (fun W9 hW kB => ?_)
 have H9 := hid (H8.out.trans (hW.mono H8.out.size))
 have hD : Below W9.heap.size W9 W9.drew := (Below.refl _ _).drew
 have HEA9 := hid ((HEA8.out.on hW).on hD)
 have HEB9 := hid ((HEB8.out.on hW).on hD)
 have HEX9 := hid ((HEX8.out.on hW).on hD)
 have HEY9 := hid ((HEY.out.on hW).on hD)
 have KA9 := hid ((KA8.out.onto hW).onto hD)
 have KB9 := hid ((KB8.out.onto hW).onto hD)
 have KX9 := hid ((KX8.out.onto hW).onto hD)
 have KY9 := hid (kB.onto hD)
 have H9D := hid (H9.out.trans (hD.mono H9.out.size))
 clear hW kB hD
 generalize w8.heap.size = p at *
 have HSA := hid (show ∀ w', Below W9.drew.heap.size W9.drew w' → ((w'.cell? ⟨g, 0, none⟩ = some (.string a.op) ∧ w'.cell? ⟨g, 1, none⟩ = some (.string a.name) ∧ w'.cell? ⟨g, 2, none⟩ = some (.int .i64 a.lit.kind) ∧ w'.cell? ⟨g, 3, none⟩ = some (.bool a.lit.tr) ∧ w'.cell? ⟨g, 4, none⟩ = some (.int .i64 a.lit.num) ∧ w'.cell? ⟨g, 5, none⟩ = some (.string a.lit.str) ∧ w'.cell? ⟨g, 6, none⟩ = some (.slice xA a.lit.items.length x1) ∧ w'.cell? ⟨g, 7, none⟩ = some (.slice xB a.lit.keys.length x2) ∧ w'.cell? ⟨g, 8, none⟩ = some (.slice xC a.args.length x3)) ∧ (w'.cell? ⟨f, 0, none⟩ = some (.string a.op) ∧ w'.cell? ⟨f, 1, none⟩ = some (.string a.name) ∧ w'.cell? ⟨f, 2, none⟩ = some (.int .i64 a.lit.kind) ∧ w'.cell? ⟨f, 3, none⟩ = some (.bool a.lit.tr) ∧ w'.cell? ⟨f, 4, none⟩ = some (.int .i64 a.lit.num) ∧ w'.cell? ⟨f, 5, none⟩ = some (.string a.lit.str) ∧ w'.cell? ⟨f, 6, none⟩ = some (.slice aA a.lit.items.length a1) ∧ w'.cell? ⟨f, 7, none⟩ = some (.slice aB a.lit.keys.length a2) ∧ w'.cell? ⟨f, 8, none⟩ = some (.slice aC a.args.length a3))) from fun w' hb => by
  have k := KX9.out.onto hb
  have j := KA9.out.onto hb
  exact ⟨⟨k.cell 0, k.cell 1, k.cell 2, k.cell 3, k.cell 4, k.cell 5, k.cell 6, k.cell 7, k.cell 8⟩, ⟨j.cell 0, j.cell 1, j.cell 2, j.cell 3, j.cell 4, j.cell 5, j.cell 6, j.cell 7, j.cell 8⟩⟩)
 refine wp_region_held_drew (S := fun w' => ((w'.cell? ⟨g, 0, none⟩ = some (.string a.op) ∧ w'.cell? ⟨g, 1, none⟩ = some (.string a.name) ∧ w'.cell? ⟨g, 2, none⟩ = some (.int .i64 a.lit.kind) ∧ w'.cell? ⟨g, 3, none⟩ = some (.bool a.lit.tr) ∧ w'.cell? ⟨g, 4, none⟩ = some (.int .i64 a.lit.num) ∧ w'.cell? ⟨g, 5, none⟩ = some (.string a.lit.str) ∧ w'.cell? ⟨g, 6, none⟩ = some (.slice xA a.lit.items.length x1) ∧ w'.cell? ⟨g, 7, none⟩ = some (.slice xB a.lit.keys.length x2) ∧ w'.cell? ⟨g, 8, none⟩ = some (.slice xC a.args.length x3)) ∧ (w'.cell? ⟨f, 0, none⟩ = some (.string a.op) ∧ w'.cell? ⟨f, 1, none⟩ = some (.string a.name) ∧ w'.cell? ⟨f, 2, none⟩ = some (.int .i64 a.lit.kind) ∧ w'.cell? ⟨f, 3, none⟩ = some (.bool a.lit.tr) ∧ w'.cell? ⟨f, 4, none⟩ = some (.int .i64 a.lit.num) ∧ w'.cell? ⟨f, 5, none⟩ = some (.string a.lit.str) ∧ w'.cell? ⟨f, 6, none⟩ = some (.slice aA a.lit.items.length a1) ∧ w'.cell? ⟨f, 7, none⟩ = some (.slice aB a.lit.keys.length a2) ∧ w'.cell? ⟨f, 8, none⟩ = some (.slice aC a.args.length a3)))) (by kernel_rfl) ?_ (fun hHeld => ?_)
 · exact HSA.out _ (Below.refl _ _)
 refine wpAnyH_take (i := 0) (v := ?_) rfl (by kernel_rfl) (by kernel_rfl) (by kernel_rfl) (fun _ _ _ h => h) (Or.inl ⟨by rfl, ?_⟩) (by assumption) ?_
 rotate_left
 ·
  intro wq hSw
  try dsimp only at hSw
  go_simp
  try (with_reducible rfl)
 try simp only [Act.put, List.getElem_toArray, List.getElem_cons_zero, List.setIfInBounds_toArray, List.set_cons_zero, List.set_cons_succ]
 refine wpAnyH_take (i := 1) (v := ?_) rfl (by kernel_rfl) (by kernel_rfl) (by kernel_rfl) (fun _ _ _ h => h) (Or.inl ⟨by rfl, ?_⟩) (by assumption) ?_
 rotate_left
 ·
  intro wq hSw
  try dsimp only at hSw
  go_simp
  try (with_reducible rfl)
 try simp only [Act.put, sqa, sqb, sqc, sqd, sqe, sqf]
 refine wpAnyH_take (i := 2) (v := ?_) rfl (by kernel_rfl) (by kernel_rfl) (by kernel_rfl) (fun _ _ _ h => h) (Or.inl ⟨by rfl, ?_⟩) (by assumption) ?_
 rotate_left
 ·
  intro wq hSw
  try dsimp only at hSw
  go_simp
  try (with_reducible rfl)
 try simp only [Act.put, sqa, sqb, sqc, sqd, sqe, sqf]
 refine wpAnyH_take (i := 3) (v := ?_) rfl (by kernel_rfl) (by kernel_rfl) (by kernel_rfl) (fun _ _ _ h => h) (Or.inl ⟨by rfl, ?_⟩) (by assumption) ?_
 rotate_left
 ·
  intro wq hSw
  try dsimp only at hSw
  go_simp
  try (with_reducible rfl)
 try simp only [Act.put, sqa, sqb, sqc, sqd, sqe, sqf]
 refine wpAnyH_take (i := 5) (v := ?_) rfl (by kernel_rfl) (by kernel_rfl) (by kernel_rfl) (fun _ _ _ h => h) (Or.inl ⟨by rfl, ?_⟩) (by assumption) ?_
 rotate_left
 ·
  intro wq hSw
  try dsimp only at hSw
  go_simp
  try (with_reducible rfl)
 try simp only [Act.put, sqa, sqb, sqc, sqd, sqe, sqf]
 generalize W9.drew = WD at *
 refine wpAnyH_ready (rs := [4]) (by kernel_rfl) (by simp) ?_
 refine AllReadyH.cons rfl (fun K0 hK => ?_) AllReadyH.nil
 go_simp
 refine (l8ref_lit (by omega) HLA.out xA x1 xB x2 xC x3 WD HEX9.out).mono ?_
 rintro e w10 ⟨P2, p2, rfl, hev, hb⟩
 have H10 := hid hb
 have HSM := hid (r8same_lit (by omega) HLA.out none 0 xB x2 P2 p2 aA a1 aB a2 aC a3 w10 hev (HEA9.out.on hb))
 clear hb hev
 go_wp2_with fail
 refine hK.out _ _ ?_ (fun hHeld => ?_)
 · exact HSA.out _ H10.out
 clear hK K0
 try simp only [Act.put, sqa, sqb, sqc, sqd, sqe, sqf]
 refine wpAnyH_ready (rs := [6]) (by kernel_rfl) (by simp) ?_
 refine AllReadyH.cons rfl (fun K0 hK => ?_) AllReadyH.nil
 go_simp
 refine HSM.out.mono ?_
 rintro e w11 ⟨rfl, hb⟩
 have H11 := hid (H10.out.trans (hb.mono H10.out.size))
 clear hb
 go_wp2_with fail
 refine hK.out _ _ ?_ (fun hHeld => ?_)
 · exact HSA.out _ H11.out
 clear hK K0
 try simp only [Act.put, sqa, sqb, sqc, sqd, sqe, sqf]
 refine wpAnyH_take (i := 7) (v := ?_) rfl (by kernel_rfl) (by kernel_rfl) (by kernel_rfl) (fun _ _ _ h => h) (Or.inl ⟨by rfl, ?_⟩) (by assumption) ?_
 rotate_left
 ·
  intro wq hSw
  try dsimp only at hSw
  go_simp
  try (with_reducible rfl)
 try simp only [Act.put, sqa, sqb, sqc, sqd, sqe, sqf]
 refine wpAnyH_take (i := 8) (v := ?_) rfl (by kernel_rfl) (by kernel_rfl) (by kernel_rfl) (fun _ _ _ h => h) (Or.inl ⟨by rfl, ?_⟩) (by assumption) ?_
 rotate_left
 ·
  intro wq hSw
  try dsimp only at hSw
  go_simp
  try (with_reducible rfl)
 try simp only [Act.put, sqa, sqb, sqc, sqd, sqe, sqf]
 refine wpAnyH_done (by kernel_rfl) ?_ _
 have H11W := hid (H9D.out.trans (H11.out.mono H9D.out.size))
 have HEA11 := hid (HEA9.out.on H11.out)
 have HEB11 := hid (HEB9.out.on H11.out)
 have HEY11 := hid (HEY9.out.on H11.out)
 have KA11 := hid (KA9.out.onto H11.out)
 have KB11 := hid (KB9.out.onto H11.out)
 have KY11 := hid (KY9.out.onto H11.out)
 clear HSA HSM hHeld
 have HDA := hid (show Calls Tryz.prog 18 #[.agg #[.string a.op, .string a.name, .int .i64 a.lit.kind, .bool a.lit.tr, .int .i64 a.lit.num, .string a.lit.str, .slice aA a.lit.items.length a1, .slice aB a.lit.keys.length a2, .slice aC a.args.length a3]] w11 (fun en w' => en = .returned (.int .i64 (a.depth : Nat)) ∧ Below w11.heap.size w11 w') from r8depth_any a (by omega) ⟨aA, a1, aB, a2, aC, a3⟩ w11 _ (fun q hq => hq) HEA11.out)
 obtain ⟨c0, c1, c2, c3, c4, c5, c6, c7, c8⟩ := all9 KA11.out
 go_wp2_with fail
 refine HDA.out.mono ?_
 rintro e w12 ⟨rfl, hb⟩
 have H12 := hid (H11W.out.trans (hb.mono H11W.out.size))
 have HEA12 := hid (HEA11.out.on hb)
 have HEB12 := hid (HEB11.out.on hb)
 have HEY12 := hid (HEY11.out.on hb)
 have KA12 := hid (KA11.out.onto hb)
 have KB12 := hid (KB11.out.onto hb)
 have KY12 := hid (KY11.out.onto hb)
 clear hb c0 c1 c2 c3 c4 c5 c6 c7 c8
 generalize a.depth = da at *
 by_cases hda : da = 32
 ·
  have t1 : (((da : Nat) : Int) == 32) = true := beq_iff_eq.2 (by omega)
  have t2 : (da == 32) = true := beq_iff_eq.2 hda
  have hc6 : c = 6 := by
   rcases HC.out with ⟨_, h6⟩ | ⟨⟨h1, _⟩, _⟩
   · exact h6
   · exact absurd hda h1
  subst hc6
  clear hda
  go_wp2_with fail
  go_ret
  exact ⟨rfl, H12.out⟩
 ·
  have t1 : (((da : Nat) : Int) == 32) = false := by rw [beq_eq_false_iff_ne]; omega
  have t2 : (da == 32) = false := by rw [beq_eq_false_iff_ne]; omega
  have HDB := hid (show Calls Tryz.prog 18 #[.agg #[.string b.op, .string b.name, .int .i64 b.lit.kind, .bool b.lit.tr, .int .i64 b.lit.num, .string b.lit.str, .slice bA b.lit.items.length b1, .slice bB b.lit.keys.length b2, .slice bC b.args.length b3]] w12 (fun en w' => en = .returned (.int .i64 (b.depth : Nat)) ∧ Below w12.heap.size w12 w') from r8depth_any b (by omega) ⟨bA, b1, bB, b2, bC, b3⟩ w12 _ (fun q hq => hq) HEB12.out)
  obtain ⟨c0, c1, c2, c3, c4, c5, c6, c7, c8⟩ := all9 KB12.out
  go_wp2_with fail
  refine HDB.out.mono ?_
  rintro e w13 ⟨rfl, hb⟩
  have H13 := hid (H12.out.trans (hb.mono H12.out.size))
  have hD : Below w13.heap.size w13 w13.drew := (Below.refl _ _).drew
  have HEA13 := hid ((HEA12.out.on hb).on hD)
  have HEB13 := hid ((HEB12.out.on hb).on hD)
  have HEY13 := hid ((HEY12.out.on hb).on hD)
  have KA13 := hid ((KA12.out.onto hb).onto hD)
  have KB13 := hid ((KB12.out.onto hb).onto hD)
  have KY13 := hid ((KY12.out.onto hb).onto hD)
  have H13D := hid (H13.out.trans (hD.mono H13.out.size))
  clear hb c0 c1 c2 c3 c4 c5 c6 c7 c8 hD
  generalize b.depth = db at *
  by_cases hdb : db = 32
  ·
   have t3 : (((db : Nat) : Int) == 32) = true := beq_iff_eq.2 (by omega)
   have t4 : (db == 32) = true := beq_iff_eq.2 hdb
   have hc6 : c = 6 := by
    rcases HC.out with ⟨_, h6⟩ | ⟨⟨_, h1⟩, _⟩
    · exact h6
    · exact absurd hdb h1
   subst hc6
   clear hdb
   go_wp2_with fail
   go_ret
   exact ⟨rfl, H13.out⟩
  ·
   have t3 : (((db : Nat) : Int) == 32) = false := by rw [beq_eq_false_iff_ne]; omega
   have t4 : (db == 32) = false := by rw [beq_eq_false_iff_ne]; omega
   obtain ⟨hc0, hz⟩ : c = 0 ∧ z = .mk op nix Rd.nulT [a, b] := by
    rcases HC.out with ⟨h1 | h1, _⟩ | ⟨_, h2⟩
    · exact absurd h1 hda
    · exact absurd h1 hdb
    · exact h2
   subst hc0 hz
   have hlz : Lf (.mk op nix Rd.nulT [a, b]) := lf_two HLA.out HLB.out
   have hsz : (E.mk op nix Rd.nulT [a, b]).size ≤ 100000 := by rw [E.size_eq]; show 1 + (a.size + (b.size + 0)) ≤ 100000; omega
   have HRF := hid (show ∀ w5, EV w5 (· < w5.heap.size) (.mk op nix Rd.nulT [a, b]) ⟨yA, y1, yB, y2, yC, y3⟩ → Calls Tryz.prog 14 #[.agg #[.string op, .string ⟨#[]⟩, .int .i64 0, .bool false, .int .i64 0, .string ⟨#[]⟩, .slice yA 0 y1, .slice yB 0 y2, .slice yC 2 y3]] w5 (fun en w' => ∃ P q, en = .returned (.agg #[.string op, .string ⟨#[]⟩, .int .i64 0, .bool false, .int .i64 0, .string ⟨#[]⟩, .slice none 0 0, .slice yB 0 y2, .slice P 2 q]) ∧ EV w' (· < w'.heap.size) (.mk op nix Rd.nulT [a, b]) ⟨none, 0, yB, y2, P, q⟩ ∧ Below w5.heap.size w5 w') from fun w5 he => l8ref_lit hsz hlz yA y1 yB y2 yC y3 w5 he)
   have HSM := hid (show ∀ w5 P q G, EV w5 (· < w5.heap.size) (.mk op nix Rd.nulT [a, b]) ⟨none, 0, yB, y2, P, q⟩ → EV w5 (· < w5.heap.size) (.mk op nix Rd.nulT [a, b]) ⟨none, 0, none, 0, some ⟨G, 0, none⟩, 2⟩ → Calls Tryz.prog 13 #[.agg #[.string op, .string ⟨#[]⟩, .int .i64 0, .bool false, .int .i64 0, .string ⟨#[]⟩, .slice none 0 0, .slice yB 0 y2, .slice P 2 q], .agg #[.string op, .string ⟨#[]⟩, .int .i64 0, .bool false, .int .i64 0, .string ⟨#[]⟩, .slice none 0 0, .slice none 0 0, .slice (some ⟨G, 0, none⟩) 2 2]] w5 (fun en w' => en = .returned (.bool true) ∧ Below w5.heap.size w5 w') from fun w5 P q G h1 h2 => r8same_lit hsz hlz none 0 yB y2 P q none 0 none 0 (some ⟨G, 0, none⟩) 2 w5 h1 h2)
   have KYL := hid (show Blk w13.drew p 38 #[.string op, .string ⟨#[]⟩, .int .i64 0, .bool false, .int .i64 0, .string ⟨#[]⟩, .slice yA 0 y1, .slice yB 0 y2, .slice yC 2 y3] from KY13.out)
   have HSA := hid (show ∀ w', Below w13.drew.heap.size w13.drew w' → ((w'.cell? ⟨p, 0, none⟩ = some (.string op) ∧ w'.cell? ⟨p, 1, none⟩ = some (.string ⟨#[]⟩) ∧ w'.cell? ⟨p, 2, none⟩ = some (.int .i64 0) ∧ w'.cell? ⟨p, 3, none⟩ = some (.bool false) ∧ w'.cell? ⟨p, 4, none⟩ = some (.int .i64 0) ∧ w'.cell? ⟨p, 5, none⟩ = some (.string ⟨#[]⟩) ∧ w'.cell? ⟨p, 6, none⟩ = some (.slice yA 0 y1) ∧ w'.cell? ⟨p, 7, none⟩ = some (.slice yB 0 y2) ∧ w'.cell? ⟨p, 8, none⟩ = some (.slice yC 2 y3)) ∧ (w'.cell? ⟨f, 0, none⟩ = some (.string a.op) ∧ w'.cell? ⟨f, 1, none⟩ = some (.string a.name) ∧ w'.cell? ⟨f, 2, none⟩ = some (.int .i64 a.lit.kind) ∧ w'.cell? ⟨f, 3, none⟩ = some (.bool a.lit.tr) ∧ w'.cell? ⟨f, 4, none⟩ = some (.int .i64 a.lit.num) ∧ w'.cell? ⟨f, 5, none⟩ = some (.string a.lit.str) ∧ w'.cell? ⟨f, 6, none⟩ = some (.slice aA a.lit.items.length a1) ∧ w'.cell? ⟨f, 7, none⟩ = some (.slice aB a.lit.keys.length a2) ∧ w'.cell? ⟨f, 8, none⟩ = some (.slice aC a.args.length a3)) ∧ (w'.cell? ⟨h, 0, none⟩ = some (.string b.op) ∧ w'.cell? ⟨h, 1, none⟩ = some (.string b.name) ∧ w'.cell? ⟨h, 2, none⟩ = some (.int .i64 b.lit.kind) ∧ w'.cell? ⟨h, 3, none⟩ = some (.bool b.lit.tr) ∧ w'.cell? ⟨h, 4, none⟩ = some (.int .i64 b.lit.num) ∧ w'.cell? ⟨h, 5, none⟩ = some (.string b.lit.str) ∧ w'.cell? ⟨h, 6, none⟩ = some (.slice bA b.lit.items.length b1) ∧ w'.cell? ⟨h, 7, none⟩ = some (.slice bB b.lit.keys.length b2) ∧ w'.cell? ⟨h, 8, none⟩ = some (.slice bC b.args.length b3))) from fun w' hb => by
    have k := KYL.out.onto hb
    have j := KA13.out.onto hb
    have i := KB13.out.onto hb
    exact ⟨⟨k.cell 0, k.cell 1, k.cell 2, k.cell 3, k.cell 4, k.cell 5, k.cell 6, k.cell 7, k.cell 8⟩, ⟨j.cell 0, j.cell 1, j.cell 2, j.cell 3, j.cell 4, j.cell 5, j.cell 6, j.cell 7, j.cell 8⟩, ⟨i.cell 0, i.cell 1, i.cell 2, i.cell 3, i.cell 4, i.cell 5, i.cell 6, i.cell 7, i.cell 8⟩⟩)
   clear hlz hsz hda hdb
   go_upto_region 14 with fail
   refine wp_region_held_drew (S := fun w' => ((w'.cell? ⟨p, 0, none⟩ = some (.string op) ∧ w'.cell? ⟨p, 1, none⟩ = some (.string ⟨#[]⟩) ∧ w'.cell? ⟨p, 2, none⟩ = some (.int .i64 0) ∧ w'.cell? ⟨p, 3, none⟩ = some (.bool false) ∧ w'.cell? ⟨p, 4, none⟩ = some (.int .i64 0) ∧ w'.cell? ⟨p, 5, none⟩ = some (.string ⟨#[]⟩) ∧ w'.cell? ⟨p, 6, none⟩ = some (.slice yA 0 y1) ∧ w'.cell? ⟨p, 7, none⟩ = some (.slice yB 0 y2) ∧ w'.cell? ⟨p, 8, none⟩ = some (.slice yC 2 y3)) ∧ (w'.cell? ⟨f, 0, none⟩ = some (.string a.op) ∧ w'.cell? ⟨f, 1, none⟩ = some (.string a.name) ∧ w'.cell? ⟨f, 2, none⟩ = some (.int .i64 a.lit.kind) ∧ w'.cell? ⟨f, 3, none⟩ = some (.bool a.lit.tr) ∧ w'.cell? ⟨f, 4, none⟩ = some (.int .i64 a.lit.num) ∧ w'.cell? ⟨f, 5, none⟩ = some (.string a.lit.str) ∧ w'.cell? ⟨f, 6, none⟩ = some (.slice aA a.lit.items.length a1) ∧ w'.cell? ⟨f, 7, none⟩ = some (.slice aB a.lit.keys.length a2) ∧ w'.cell? ⟨f, 8, none⟩ = some (.slice aC a.args.length a3)) ∧ (w'.cell? ⟨h, 0, none⟩ = some (.string b.op) ∧ w'.cell? ⟨h, 1, none⟩ = some (.string b.name) ∧ w'.cell? ⟨h, 2, none⟩ = some (.int .i64 b.lit.kind) ∧ w'.cell? ⟨h, 3, none⟩ = some (.bool b.lit.tr) ∧ w'.cell? ⟨h, 4, none⟩ = some (.int .i64 b.lit.num) ∧ w'.cell? ⟨h, 5, none⟩ = some (.string b.lit.str) ∧ w'.cell? ⟨h, 6, none⟩ = some (.slice bA b.lit.items.length b1) ∧ w'.cell? ⟨h, 7, none⟩ = some (.slice bB b.lit.keys.length b2) ∧ w'.cell? ⟨h, 8, none⟩ = some (.slice bC b.args.length b3)))) (by kernel_rfl) ?_ (fun hHeld => ?_)
   · exact HSA.out _ (Below.refl _ _)
   refine wpAnyH_take (i := 0) (v := ?_) rfl (by kernel_rfl) (by kernel_rfl) (by kernel_rfl) (fun _ _ _ h => h) (Or.inl ⟨by rfl, ?_⟩) (by assumption) ?_
   rotate_left
   ·
    intro wq hSw
    try dsimp only at hSw
    go_simp
    try (with_reducible rfl)
   try simp only [Act.put, List.getElem_toArray, List.getElem_cons_zero, List.setIfInBounds_toArray, List.set_cons_zero, List.set_cons_succ]
   refine wpAnyH_take (i := 1) (v := ?_) rfl (by kernel_rfl) (by kernel_rfl) (by kernel_rfl) (fun _ _ _ h => h) (Or.inl ⟨by rfl, ?_⟩) (by assumption) ?_
   rotate_left
   ·
    intro wq hSw
    try dsimp only at hSw
    go_simp
    try (with_reducible rfl)
   try simp only [Act.put, sqa, sqb, sqc, sqd, sqe, sqf]
   refine wpAnyH_take (i := 2) (v := ?_) rfl (by kernel_rfl) (by kernel_rfl) (by kernel_rfl) (fun _ _ _ h => h) (Or.inl ⟨by rfl, ?_⟩) (by assumption) ?_
   rotate_left
   ·
    intro wq hSw
    try dsimp only at hSw
    go_simp
    try (with_reducible rfl)
   try simp only [Act.put, sqa, sqb, sqc, sqd, sqe, sqf]
   refine wpAnyH_take (i := 3) (v := ?_) rfl (by kernel_rfl) (by kernel_rfl) (by kernel_rfl) (fun _ _ _ h => h) (Or.inl ⟨by rfl, ?_⟩) (by assumption) ?_
   rotate_left
   ·
    intro wq hSw
    try dsimp only at hSw
    go_simp
    try (with_reducible rfl)
   try simp only [Act.put, sqa, sqb, sqc, sqd, sqe, sqf]
   refine wpAnyH_take (i := 5) (v := ?_) rfl (by kernel_rfl) (by kernel_rfl) (by kernel_rfl) (fun _ _ _ h => h) (Or.inl ⟨by rfl, ?_⟩) (by assumption) ?_
   rotate_left
   ·
    intro wq hSw
    try dsimp only at hSw
    go_simp
    try (with_reducible rfl)
   try simp only [Act.put, sqa, sqb, sqc, sqd, sqe, sqf]
   refine wpAnyH_take (i := 6) (v := ?_) rfl (by kernel_rfl) (by kernel_rfl) (by kernel_rfl) (fun _ _ _ h => h) (Or.inl ⟨by rfl, ?_⟩) (by assumption) ?_
   rotate_left
   ·
    intro wq hSw
    try dsimp only at hSw
    go_simp
    try (with_reducible rfl)
   try simp only [Act.put, sqa, sqb, sqc, sqd, sqe, sqf]
   refine wpAnyH_take (i := 7) (v := ?_) rfl (by kernel_rfl) (by kernel_rfl) (by kernel_rfl) (fun _ _ _ h => h) (Or.inl ⟨by rfl, ?_⟩) (by assumption) ?_
   rotate_left
   ·
    intro wq hSw
    try dsimp only at hSw
    go_simp
    try (with_reducible rfl)
   try simp only [Act.put, sqa, sqb, sqc, sqd, sqe, sqf]
   generalize w13.drew = WE at *
   refine wpAnyH_ready (rs := [4, 8]) (by kernel_rfl) (by simp) ?_
   refine AllReadyH.cons rfl (fun K0 hK => ?_) (AllReadyH.cons rfl (fun K0 hK => ?_) AllReadyH.nil)
   ·
    go_simp
    refine (HRF.out _ HEY13.out).mono ?_
    rintro e w14 ⟨P2, p2, rfl, hev, hb⟩
    have H14 := hid hb
    have HEV := hid hev
    clear hb hev
    go_wp2_with fail
    refine hK.out _ _ ?_ (fun hHeld => ?_)
    · exact HSA.out _ H14.out
    clear hK K0
    try simp only [Act.put, sqa, sqb, sqc, sqd, sqe, sqf]
    refine wpAnyH_ready (rs := [8]) (by kernel_rfl) (by simp) ?_
    refine AllReadyH.cons rfl (fun K0 hK => ?_) AllReadyH.nil
    go_simp
    have hW : Below w14.heap.size w14 (w14.alloc (.cells #[.string a.op, .string a.name, .int .i64 a.lit.kind, .bool a.lit.tr, .int .i64 a.lit.num, .string a.lit.str, .slice aA a.lit.items.length a1, .slice aB a.lit.keys.length a2, .slice aC a.args.length a3, .string b.op, .string b.name, .int .i64 b.lit.kind, .bool b.lit.tr, .int .i64 b.lit.num, .string b.lit.str, .slice bA b.lit.items.length b1, .slice bB b.lit.keys.length b2, .slice bC b.args.length b3] 29)) := (Below.refl _ _).alloc (Nat.le_refl _) _
    have kB : Blk (w14.alloc (.cells #[.string a.op, .string a.name, .int .i64 a.lit.kind, .bool a.lit.tr, .int .i64 a.lit.num, .string a.lit.str, .slice aA a.lit.items.length a1, .slice aB a.lit.keys.length a2, .slice aC a.args.length a3, .string b.op, .string b.name, .int .i64 b.lit.kind, .bool b.lit.tr, .int .i64 b.lit.num, .string b.lit.str, .slice bA b.lit.items.length b1, .slice bB b.lit.keys.length b2, .slice bC b.args.length b3] 29)) w14.heap.size 29 #[.string a.op, .string a.name, .int .i64 a.lit.kind, .bool a.lit.tr, .int .i64 a.lit.num, .string a.lit.str, .slice aA a.lit.items.length a1, .slice aB a.lit.keys.length a2, .slice aC a.args.length a3, .string b.op, .string b.name, .int .i64 b.lit.kind, .bool b.lit.tr, .int .i64 b.lit.num, .string b.lit.str, .slice bA b.lit.items.length b1, .slice bB b.lit.keys.length b2, .slice bC b.args.length b3] := Blk.new w14 _ _
    have H15 := hid (H14.out.trans (hW.mono H14.out.size))
    have HE := hid (two_row (op := op) kB (HEA13.out.on H15.out) (HEB13.out.on H15.out))
    have HSS := hid (HSM.out _ P2 p2 _ (HEV.out.on hW) HE.out)
    refine hK.out _ _ ?_ (fun hHeld => ?_)
    · exact HSA.out _ H15.out
    clear hK K0 hW kB
    generalize (w14.alloc (.cells #[.string a.op, .string a.name, .int .i64 a.lit.kind, .bool a.lit.tr, .int .i64 a.lit.num, .string a.lit.str, .slice aA a.lit.items.length a1, .slice aB a.lit.keys.length a2, .slice aC a.args.length a3, .string b.op, .string b.name, .int .i64 b.lit.kind, .bool b.lit.tr, .int .i64 b.lit.num, .string b.lit.str, .slice bA b.lit.items.length b1, .slice bB b.lit.keys.length b2, .slice bC b.args.length b3] 29)) = W15 at *
    try simp only [Act.put, sqa, sqb, sqc, sqd, sqe, sqf]
    generalize w14.heap.size = G at *
    refine wpAnyH_take (i := 9) (v := ?_) rfl (by kernel_rfl) (by kernel_rfl) (by kernel_rfl) (fun _ _ _ h => h) (Or.inl ⟨by rfl, ?_⟩) (by assumption) ?_
    rotate_left
    ·
     intro wq hSw
     try dsimp only at hSw
     go_simp
     try (with_reducible rfl)
    try simp only [Act.put, sqa, sqb, sqc, sqd, sqe, sqf]
    refine wpAnyH_ready (rs := [10]) (by kernel_rfl) (by simp) ?_
    refine AllReadyH.cons rfl (fun K0 hK => ?_) AllReadyH.nil
    go_simp
    refine HSS.out.mono ?_
    rintro e w16 ⟨rfl, hb⟩
    have H16 := hid (H15.out.trans (hb.mono H15.out.size))
    clear hb
    go_wp2_with fail
    refine hK.out _ _ ?_ (fun hHeld => ?_)
    · exact HSA.out _ H16.out
    clear hK K0
    try simp only [Act.put, sqa, sqb, sqc, sqd, sqe, sqf]
    refine wpAnyH_take (i := 11) (v := ?_) rfl (by kernel_rfl) (by kernel_rfl) (by kernel_rfl) (fun _ _ _ h => h) (Or.inl ⟨by rfl, ?_⟩) (by assumption) ?_
    rotate_left
    ·
     intro wq hSw
     try dsimp only at hSw
     go_simp
     try (with_reducible rfl)
    try simp only [Act.put, sqa, sqb, sqc, sqd, sqe, sqf]
    refine wpAnyH_take (i := 12) (v := ?_) rfl (by kernel_rfl) (by kernel_rfl) (by kernel_rfl) (fun _ _ _ h => h) (Or.inl ⟨by rfl, ?_⟩) (by assumption) ?_
    rotate_left
    ·
     intro wq hSw
     try dsimp only at hSw
     go_simp
     try (with_reducible rfl)
    try simp only [Act.put, sqa, sqb, sqc, sqd, sqe, sqf]
    refine wpAnyH_done (by kernel_rfl) ?_ _
    go_wp2_with fail
    go_ret
    exact ⟨rfl, H13D.out.trans (H16.out.mono H13D.out.size)⟩
   ·
    go_simp
    have KB := hid (show Blk (WE.alloc (.cells #[.string a.op, .string a.name, .int .i64 a.lit.kind, .bool a.lit.tr, .int .i64 a.lit.num, .string a.lit.str, .slice aA a.lit.items.length a1, .slice aB a.lit.keys.length a2, .slice aC a.args.length a3, .string b.op, .string b.name, .int .i64 b.lit.kind, .bool b.lit.tr, .int .i64 b.lit.num, .string b.lit.str, .slice bA b.lit.items.length b1, .slice bB b.lit.keys.length b2, .slice bC b.args.length b3] 29)) WE.heap.size 29 #[.string a.op, .string a.name, .int .i64 a.lit.kind, .bool a.lit.tr, .int .i64 a.lit.num, .string a.lit.str, .slice aA a.lit.items.length a1, .slice aB a.lit.keys.length a2, .slice aC a.args.length a3, .string b.op, .string b.name, .int .i64 b.lit.kind, .bool b.lit.tr, .int .i64 b.lit.num, .string b.lit.str, .slice bA b.lit.items.length b1, .slice bB b.lit.keys.length b2, .slice bC b.args.length b3] from Blk.new WE _ _)
    have H15 := hid (show Below WE.heap.size WE (WE.alloc (.cells #[.string a.op, .string a.name, .int .i64 a.lit.kind, .bool a.lit.tr, .int .i64 a.lit.num, .string a.lit.str, .slice aA a.lit.items.length a1, .slice aB a.lit.keys.length a2, .slice aC a.args.length a3, .string b.op, .string b.name, .int .i64 b.lit.kind, .bool b.lit.tr, .int .i64 b.lit.num, .string b.lit.str, .slice bA b.lit.items.length b1, .slice bB b.lit.keys.length b2, .slice bC b.args.length b3] 29)) from (Below.refl _ _).alloc (Nat.le_refl _) _)
    refine hK.out _ _ ?_ (fun hHeld => ?_)
    · exact HSA.out _ H15.out
    clear hK K0
    generalize (WE.alloc (.cells #[.string a.op, .string a.name, .int .i64 a.lit.kind, .bool a.lit.tr, .int .i64 a.lit.num, .string a.lit.str, .slice aA a.lit.items.length a1, .slice aB a.lit.keys.length a2, .slice aC a.args.length a3, .string b.op, .string b.name, .int .i64 b.lit.kind, .bool b.lit.tr, .int .i64 b.lit.num, .string b.lit.str, .slice bA b.lit.items.length b1, .slice bB b.lit.keys.length b2, .slice bC b.args.length b3] 29)) = W15 at *
    try simp only [Act.put, sqa, sqb, sqc, sqd, sqe, sqf]
    refine wpAnyH_take (i := 9) (v := ?_) rfl (by kernel_rfl) (by kernel_rfl) (by kernel_rfl) (fun _ _ _ h => h) (Or.inl ⟨by rfl, ?_⟩) (by assumption) ?_
    rotate_left
    ·
     intro wq hSw
     try dsimp only at hSw
     go_simp
     try (with_reducible rfl)
    try simp only [Act.put, sqa, sqb, sqc, sqd, sqe, sqf]
    refine wpAnyH_ready (rs := [4]) (by kernel_rfl) (by simp) ?_
    refine AllReadyH.cons rfl (fun K0 hK => ?_) AllReadyH.nil
    go_simp
    refine (HRF.out _ (HEY13.out.on H15.out)).mono ?_
    rintro e w14 ⟨P2, p2, rfl, hev, hb⟩
    have H14 := hid (H15.out.trans (hb.mono H15.out.size))
    have HE := hid (two_row (op := op) (KB.out.onto hb) (HEA13.out.on H14.out) (HEB13.out.on H14.out))
    have HSS := hid (HSM.out w14 P2 p2 _ hev HE.out)
    clear hb hev
    go_wp2_with fail
    refine hK.out _ _ ?_ (fun hHeld => ?_)
    · exact HSA.out _ H14.out
    clear hK K0
    try simp only [Act.put, sqa, sqb, sqc, sqd, sqe, sqf]
    refine wpAnyH_ready (rs := [10]) (by kernel_rfl) (by simp) ?_
    refine AllReadyH.cons rfl (fun K0 hK => ?_) AllReadyH.nil
    go_simp
    refine HSS.out.mono ?_
    rintro e w16 ⟨rfl, hb⟩
    have H16 := hid (H14.out.trans (hb.mono H14.out.size))
    clear hb
    go_wp2_with fail
    refine hK.out _ _ ?_ (fun hHeld => ?_)
    · exact HSA.out _ H16.out
    clear hK K0
    try simp only [Act.put, sqa, sqb, sqc, sqd, sqe, sqf]
    refine wpAnyH_take (i := 11) (v := ?_) rfl (by kernel_rfl) (by kernel_rfl) (by kernel_rfl) (fun _ _ _ h => h) (Or.inl ⟨by rfl, ?_⟩) (by assumption) ?_
    rotate_left
    ·
     intro wq hSw
     try dsimp only at hSw
     go_simp
     try (with_reducible rfl)
    try simp only [Act.put, sqa, sqb, sqc, sqd, sqe, sqf]
    refine wpAnyH_take (i := 12) (v := ?_) rfl (by kernel_rfl) (by kernel_rfl) (by kernel_rfl) (fun _ _ _ h => h) (Or.inl ⟨by rfl, ?_⟩) (by assumption) ?_
    rotate_left
    ·
     intro wq hSw
     try dsimp only at hSw
     go_simp
     try (with_reducible rfl)
    try simp only [Act.put, sqa, sqb, sqc, sqd, sqe, sqf]
    refine wpAnyH_done (by kernel_rfl) ?_ _
    go_wp2_with fail
    go_ret
    exact ⟨rfl, H13D.out.trans (H16.out.mono H13D.out.size)⟩
theorem walkL (s t : ByteArray) (n : Int) (w : World) (hl : 600 < s.size ∨ 600 < t.size) (hr : RangeErr w) (htb : Lib.TabIs Tryz.prog w "internal/strconv.uint64pow10" .u64 Lib.pow10Tab) :
 Calls Tryz.prog 6 #[.string s, .string t, .int .u8 n] w fun e w' => e = .returned (.bool true) ∧ Below w.heap.size w w' := by
 have HR := hid hr
 have HT := hid (tab_of8 htb)
 have HL := hid hl
 clear hr htb hl
 by_cases h1 : 600 < s.size
 ·
  have u1 : decide ((s.size : Int) > 600) = true := decide_eq_true (by omega)
  have u2 : decide ((600 : Int) < (s.size : Int)) = true := decide_eq_true (by omega)
  have u3 : decide (600 < s.size) = true := decide_eq_true (by omega)
  go_enter Tryz.func6, Tryz.ntmps6
  go_wp2_with fail
  refine (awake8_any _ HR.out HT.out.2).mono ?_
  rintro e w1 ⟨rfl, hb1⟩
  have H1 := hid hb1
  clear hb1
  go_wp2_with fail
  refine (awake8_any _ (HR.out.on H1.out) (HT.out.on H1.out).2).mono ?_
  rintro e w2 ⟨rfl, hb2⟩
  have H2 := hid (H1.out.trans (hb2.mono H1.out.size))
  clear hb2
  go_wp2_with fail
  go_ret
  exact ⟨rfl, H2.out⟩
 ·
  have u1 : decide ((s.size : Int) > 600) = false := decide_eq_false (by omega)
  have u2 : decide ((600 : Int) < (s.size : Int)) = false := decide_eq_false (by omega)
  have u3 : decide (600 < s.size) = false := decide_eq_false (by omega)
  have h2 : 600 < t.size := HL.out.resolve_left h1
  have v1 : decide ((t.size : Int) > 600) = true := decide_eq_true (by omega)
  have v2 : decide ((600 : Int) < (t.size : Int)) = true := decide_eq_true (by omega)
  have v3 : decide (600 < t.size) = true := decide_eq_true (by omega)
  go_enter Tryz.func6, Tryz.ntmps6
  go_wp2_with fail
  refine (awake8_any _ HR.out HT.out.2).mono ?_
  rintro e w1 ⟨rfl, hb1⟩
  have H1 := hid hb1
  clear hb1
  go_wp2_with fail
  refine (awake8_any _ (HR.out.on H1.out) (HT.out.on H1.out).2).mono ?_
  rintro e w2 ⟨rfl, hb2⟩
  have H2 := hid (H1.out.trans (hb2.mono H1.out.size))
  clear hb2
  go_wp2_with fail
  go_ret
  exact ⟨rfl, H2.out⟩
theorem walkE (s t : ByteArray) (n : Int) (w : World) (a b : E) (p q c d : Int) (P Q : Prop) (hs : s.size ≤ 600) (ht : t.size ≤ 600) (hA : ∀ w1, Calls Tryz.prog 8 #[.string s] w1 (fun e w' => Told a p c w1 e w' ∧ (c = 0 → P))) (hB : ∀ w1, Calls Tryz.prog 8 #[.string t] w1 (fun e w' => Told b q d w1 e w' ∧ (d = 0 → Q))) (hcd : P → ¬ Q) (hr : RangeErr w) (htb : Lib.TabIs Tryz.prog w "internal/strconv.uint64pow10" .u64 Lib.pow10Tab) :
 Calls Tryz.prog 6 #[.string s, .string t, .int .u8 n] w fun e w' => e = .returned (.bool true) ∧ Below w.heap.size w w' := by
 have HR := hid hr
 have HT := hid (tab_of8 htb)
 have HA := hid hA
 have HB := hid hB
 have HC := hid hcd
 clear hr htb hA hB hcd
 have u1 : decide ((s.size : Int) > 600) = false := decide_eq_false (by omega)
 have u2 : decide ((600 : Int) < (s.size : Int)) = false := decide_eq_false (by omega)
 have u3 : decide (600 < s.size) = false := decide_eq_false (by omega)
 have v1 : decide ((t.size : Int) > 600) = false := decide_eq_false (by omega)
 have v2 : decide ((600 : Int) < (t.size : Int)) = false := decide_eq_false (by omega)
 have v3 : decide (600 < t.size) = false := decide_eq_false (by omega)
 go_enter Tryz.func6, Tryz.ntmps6
 go_wp2_with fail
 refine (awake8_any _ HR.out HT.out.2).mono ?_
 rintro e w1 ⟨rfl, hb1⟩
 have H1 := hid hb1
 clear hb1
 go_wp2_with fail
 refine (HA.out _).mono ?_
 rintro e w2 ⟨⟨⟨aA, a1, aB, a2, aC, a3⟩, rfl, -, hb2⟩, hP⟩
 have HP := hid hP
 clear hP
 have H2 := hid (H1.out.trans (hb2.mono H1.out.size))
 clear hb2
 unfold ecs
 dsimp only
 go_upto_region 4 with fail
 refine alloc_gn (fun W2 hW kB => ?_)
 have H3 := hid (H2.out.trans (hW.mono H2.out.size))
 clear hW kB
 generalize w2.heap.size = f at *
 go_wp2_with fail
 refine (HB.out _).mono ?_
 rintro e w4 ⟨⟨⟨bA, b1, bB, b2, bC, b3⟩, rfl, -, hb4⟩, hQ⟩
 have HQ := hid hQ
 clear hQ
 have H4 := hid (H3.out.trans (hb4.mono H3.out.size))
 clear hb4
 unfold ecs
 dsimp only
 go_upto_region 5 with fail
 refine alloc_gn (fun W5 hW kB => ?_)
 have H5 := hid (H4.out.trans (hW.mono H4.out.size))
 clear hW kB
 generalize w4.heap.size = h at *
 by_cases hc : c = 0
 ·
  have hd : d ≠ 0 := fun h => HC.out (HP.out hc) (HQ.out h)
  have n1 : (d == 0) = false := beq_eq_false_iff_ne.2 hd
  have n2 : (d != 0) = true := by simpa using hd
  clear HP HQ HC
  subst hc
  clear hd
  go_wp2_with fail
  go_ret
  exact ⟨rfl, H5.out⟩
 ·
  have n1 : (c == 0) = false := beq_eq_false_iff_ne.2 hc
  have n2 : (c != 0) = true := by simpa using hc
  clear hc
  go_wp2_with fail
  go_ret
  exact ⟨rfl, H5.out⟩
theorem told0 {s : ByteArray} {x : E} {p : Nat} (h : parse s = .ok x p) (hs : s.size ≤ 2048) (w : World) (hr : RangeErr w) (hp : p = 0) : Calls Tryz.prog 12 #[.string s] w (Told x 0 0 w) := by
 subst hp
 exact xtold h hs (by intro h; cases h) w hr
theorem walk (s t : ByteArray) (n : Int) (w : World) (hzs : s.size ≤ maxLen) (hzt : t.size ≤ maxLen) (hn0 : 0 ≤ n) (hn1 : n ≤ 255) (hr : RangeErr w) (htb : Lib.TabIs Tryz.prog w "internal/strconv.uint64pow10" .u64 Lib.pow10Tab) :
 Calls Tryz.prog 6 #[.string s, .string t, .int .u8 n] w fun e w' => e = .returned (.bool true) ∧ Below w.heap.size w w' := by
 by_cases hl : 600 < s.size ∨ 600 < t.size
 · exact walkL s t n w hl hr htb
 ·
  have hs : s.size ≤ 600 := by omega
  have ht : t.size ≤ 600 := by omega
  by_cases hP : ∃ a p, parse s = .ok a p
  ·
   by_cases hQ : ∃ b q, parse t = .ok b q
   ·
    obtain ⟨a, p, hps⟩ := hP
    obtain ⟨b, q, hpt⟩ := hQ
    obtain ⟨_, hp0, hda, _⟩ := parse_in hps
    obtain ⟨_, hq0, hdb, _⟩ := parse_in hpt
    subst hp0 hq0
    obtain ⟨k, hk, hk13⟩ : ∃ k : Nat, n % 13 = (k : Int) ∧ k < 13 := ⟨(n % 13).toNat, by omega, by omega⟩
    obtain ⟨n0, hin⟩ := op_in k hk13
    have hoz := op_size k hk13
    have hX : parse (⟨#[40, 40]⟩ ++ s ++ ⟨#[41, 41]⟩) = .ok a 0 := parse_brk hps (by rw [cat8, cat8]; rfl) (by omega)
    have hY := parse_two hin hps hpt (s' := ⟨#[40]⟩ ++ s ++ ⟨#[41]⟩ ++ opN k ++ ⟨#[40]⟩ ++ t ++ ⟨#[41]⟩) (by simp only [cat8, List.append_assoc]; rfl) (by omega)
    have hzX : (⟨#[40, 40]⟩ ++ s ++ ⟨#[41, 41]⟩ : ByteArray).size ≤ 2048 := by simp only [cat8_size]; show 2 + s.size + 2 ≤ 2048; omega
    have hzY : (⟨#[40]⟩ ++ s ++ ⟨#[41]⟩ ++ opN k ++ ⟨#[40]⟩ ++ t ++ ⟨#[41]⟩ : ByteArray).size ≤ 2048 := by simp only [cat8_size]; show 1 + s.size + 1 + (opN k).size + 1 + t.size + 1 ≤ 2048; omega
    have hdd : (E.mk (opN k) nix Rd.nulT [a, b]).depth = 1 + max a.depth (max b.depth 0) := rfl
    have hA : ∀ w1, Calls Tryz.prog 8 #[.string s] w1 (Told a 0 0 w1) := fun w1 => (rtold hps (by omega) w1).mono fun e w' h => h.1
    have hB : ∀ w1, Calls Tryz.prog 8 #[.string t] w1 (Told b 0 0 w1) := fun w1 => (rtold hpt (by omega) w1).mono fun e w' h => h.1
    have hla : Lf a := by have := @parse_lf s; rw [hps] at this; exact this a 0 rfl
    have hlb : Lf b := by have := @parse_lf t; rw [hpt] at this; exact this b 0 rfl
    have hza := parse_sz hps
    have hzb := parse_sz hpt
    by_cases h32 : a.depth = 32 ∨ b.depth = 32
    ·
     rw [if_pos (by omega)] at hY
     exact walkG s t n k w a b nulE (opN k) 6 hs ht hn0 hn1 hk hk13 rfl hA hB (fun w1 h1 => told0 hX hzX w1 h1 rfl) (fun w1 h1 => xtold hY hzY (by intro h; cases h) w1 h1) (.inl ⟨h32, rfl⟩) hla hlb (by omega) (by omega) hr htb
    ·
     rw [if_neg (by omega)] at hY
     exact walkG s t n k w a b (.mk (opN k) nix Rd.nulT [a, b]) (opN k) 0 hs ht hn0 hn1 hk hk13 rfl hA hB (fun w1 h1 => told0 hX hzX w1 h1 rfl) (fun w1 h1 => told0 hY hzY w1 h1 rfl) (.inr ⟨⟨by omega, by omega⟩, rfl, rfl⟩) hla hlb (by omega) (by omega) hr htb
   · exact walkE s t n w _ _ _ _ _ _ _ _ hs ht (fun w1 => rtold rfl (by omega) w1) (fun w1 => rtold rfl (by omega) w1) (fun _ => hQ) hr htb
  · exact walkE s t n w _ _ _ _ _ _ _ _ hs ht (fun w1 => rtold rfl (by omega) w1) (fun w1 => rtold rfl (by omega) w1) (fun h => absurd h hP) hr htb
theorem lifted (os : Os) (started : os.Started) (H : Type) (enc : TypeId × Value → H) :
 ReturnsInHanded {} Tryz.checked os 6 .any (fun w args => (Rows.exprBracketsSpec.pre enc Tryz.prog Tryz.f6 [] false w args ∧ laidMetH Tryz.prog Rows.exprBracketsRow.laid w) ∧ sizedMet enc Tryz.prog Tryz.f6 (OpenSpec.ofChange Rows.exprBracketsSpec) false w args)
  (Rows.exprBracketsSpec.post enc Tryz.prog Tryz.f6 false true false false) := by
 refine returnsInHanded_of_change_and (C := Tryz.checked) (X := fun w _ => laidMetH Tryz.prog Rows.exprBracketsRow.laid w) (fun _ _ _ hh h => h.of_heap hh) own started (by kernel_rfl) Tryz.func6
  (ChangeSpec.witness_shaped (enc := enc) (C := Tryz.checked) (os := os) (X := fun w _ => laidMetH Tryz.prog Rows.exprBracketsRow.laid w) false (World.laidAll Tryz.prog os Rows.exprBracketsRow.laid) #[.string ByteArray.empty, .string ByteArray.empty, .int .u8 0] 8 (World.laidAll_os _ _ _) (World.shaped_of_ZipB (by kernel_rfl) (by kernel_rfl)) (by kernel_rfl) (by kernel_rfl) (by kernel_rfl) (by rw [MakeChecks.laidMetH_plain _ _ _ (by kernel_rfl)]; exact laidMet_laidAll _ (by kernel_rfl) (by kernel_rfl))) ?_
 intro W base args ds gs before hval0 hW _ _ hL _
 have hval : ∀ (j : Nat) t v, Tryz.f6.params[j]? = some t → args[j]? = some v → Value.okWide Tryz.prog W .any base t v := hval0
 have hW' := hW
 obtain ⟨p, q, hA0, hV, rfl, hfz, hnd⟩ := hW
 have hA : DataW.TrodAll enc Tryz.prog W 0 (fun _ => true) true Tryz.f6.params.toList args.toList ds p := hA0
 rw [Tryz.params6] at hA hval
 obtain ⟨v0, vs0, d0, ds0, p0, q0, hargs, rfl, rfl, h0, r0⟩ := trodAll_cons hA
 obtain ⟨v1, vs1, d1, ds1, p1, q1, rfl, rfl, rfl, h1, r1⟩ := trodAll_cons r0
 obtain ⟨v2, vs2, d2, ds2, p2, q2, rfl, rfl, rfl, h2, r2⟩ := trodAll_cons r1
 obtain ⟨rfl, rfl, rfl⟩ := trodAll_nil r2
 obtain rfl : args = #[v0, v1, v2] := by cases args; simp_all
 obtain ⟨rfl, rfl⟩ := trodVars_none hV
 obtain ⟨s0, rfl, rfl, rfl, w0⟩ := open_string Tryz.underlying9 (hval 0 9 v0 rfl rfl) h0
 obtain ⟨s1, rfl, rfl, rfl, w1⟩ := open_string Tryz.underlying9 (hval 1 9 v1 rfl rfl) h1
 obtain ⟨x2, rfl, rfl, rfl, w2⟩ := open_int Tryz.underlying5 (hval 2 5 v2 rfl rfl) h2
 have b2 := w2
 simp only [Lit.wf, decide_eq_true_eq, Bool.and_eq_true] at b2
 have eu8a : IntKind.u8.min = 0 := rfl
 have eu8b : IntKind.u8.max = 255 := rfl
 have ei64a : IntKind.i64.min = -9223372036854775808 := rfl
 have ei64b : IntKind.i64.max = 9223372036854775807 := rfl
 have eu32a : IntKind.u32.min = 0 := rfl
 have eu32b : IntKind.u32.max = 4294967295 := rfl
 clear hA0 hval0
 refine (walk s0 s1 x2 W w0 w1 (by omega) (by omega) (errs hL) (table hL)).mono fun e W' ⟨he, bel⟩ => ?_
 subst he
 exact ⟨_, rfl, _, _, _, [], _, [], hW', trodAll_mk1 (shut_bool Tryz.underlying4 _), (trodAll_cons_mk (shut_string Tryz.underlying9 w0) (trodAll_cons_mk (shut_string Tryz.underlying9 w1) (trodAll_cons_mk (shut_int Tryz.underlying5 w2) trodAll_mk0))), rfl, bel.frame _, fun h => by cases h⟩
theorem said : Rows.ExprBracketsSaid :=
 OpenClaim.holds_of_wide 6 Tryz.f6 rfl rfl rfl rfl rfl rfl rfl ⟨rfl, rfl, rfl, rfl, rfl⟩ rfl rfl rfl rfl rfl (by kernel_rfl) Tryz.func6 (by kernel_rfl)
  (of_decide_eq_true (by kernel_rfl)) (by unfold Func.isWrapper; first | (rw [if_pos (by decide +kernel)]; kernel_rfl) | (rw [if_neg (by decide +kernel)]; exact ⟨rfl, rfl⟩))
  (fun os started H enc _ => lifted os started H enc)
theorem plain (f : FuncId) (fn : Func) (hf : Tryz.pinned.checked.prog.funcNamed "cheval/chevallaw08.ExprBrackets" = some f) (hfn : Tryz.pinned.checked.prog.funcs[f]? = some fn) :
 true = Tryz.pinned.checked.prog.looks [] ∧ ∀ (j : Nat) t, fn.params[j]? = some t → Tryz.pinned.checked.prog.wantsStandIn t = false := by
 obtain rfl : f = 6 := Option.some.inj ((show Tryz.prog.funcNamed "cheval/chevallaw08.ExprBrackets" = some 6 by kernel_rfl).symm.trans hf) |>.symm
 obtain rfl : fn = Tryz.f6 := (Option.some.inj (Tryz.func6.symm.trans hfn)).symm
 refine ⟨by kernel_rfl, fun j t ht => ?_⟩
 rw [Tryz.params6] at ht
 have hm := Array.mem_of_getElem? ht
 simp only [List.mem_toArray, List.mem_cons, List.not_mem_nil, or_false] at hm
 rcases hm with rfl | rfl | rfl
 · exact (show Tryz.prog.wantsStandIn 9 = false by kernel_rfl)
 · exact (show Tryz.prog.wantsStandIn 9 = false by kernel_rfl)
 · exact (show Tryz.prog.wantsStandIn 5 = false by kernel_rfl)
theorem card : Rows.ExprBracketsCardSaid :=
 Claim7.holds_tied_plain_at .later [] _ _ _ _ said (fun _ h => by cases h) (by kernel_rfl) (fun _ h => by cases h) exprBrackets_row_tie rfl ⟨rfl, rfl⟩ (by kernel_rfl) rfl plain (by kernel_rfl)
end Go.Proofs.YtofgmddlacenhaaGreatDoor.exprBrackets
