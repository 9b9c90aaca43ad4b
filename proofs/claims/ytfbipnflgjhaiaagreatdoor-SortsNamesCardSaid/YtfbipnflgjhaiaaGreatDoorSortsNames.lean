/- A name is told to have no sorts where the environment has none for it, and nowhere else (tied card). -/
import Derived.Test.YtfbipnflgjhaiaaGreatDoorCards
import Derived.Test.YtfbipnflgjhaiaaGreatDoorTie
import Derived.WalkKit
import Derived.ProofKit
import Derived.OpenShut
import Derived.ChangeOld
import Derived.ShutString
import Derived.Below
import Derived.LaidMore
import Derived.Lib.LaidTab
import Derived.Stop.Joined
import Derived.Stop.LaidErr
import Derived.SevenTiedAt
import Derived.Lay
import Derived.Test.YtfbipnflgjhaiaaGreatDoorYR
import Derived.Test.YtfbipnflgjhaiaaGreatDoorYZ
import Derived.Test.YtfbipnflgjhaiaaGreatDoorNM
set_option linter.unusedVariables false
set_option maxRecDepth 100000
set_option maxHeartbeats 8000000
open Go.Lib (hid)
namespace Go.Proofs.YtfbipnflgjhaiaaGreatDoor.sortsNames
open Go.ChangeShapes Go.WideShapes Go.ChangeAt Go.RowKit
open Go.ChangeMaps (open_string shut_string)
open Tk Pl
theorem own : ownKnob Tryz.prog.godebug = none := by kernel_rfl
theorem laidOut : laidOutB Tryz.prog = true := by kernel_rfl
theorem gRange : Tryz.prog.globalNamed "strconv.ErrRange" = some 4 := by kernel_rfl
theorem star : "*" ++ "errors.errorString" = "*errors.errorString" := by decide
theorem rowPtr (u : TypeId) (h : Tryz.prog.typeName? 3 u = some "*errors.errorString") : u = 221 :=
 typeName_ptr_named (nm := "errors.errorString") (by rw [star]; kernel_rfl) (by kernel_rfl) (by decide) u (by rw [star]; exact h)
theorem errs {W : World} (h : laidMetH Tryz.prog Rows.sortsNamesRow.laid W) : RangeErr W := by
 have h' : laidMet Tryz.prog Rows.sortsNamesRow.laid W := h
 obtain ⟨a, s, hv, _⟩ := laid_sentinel h'.tail.tail.tail.tail gRange (by kernel_rfl) Tryz.underlying185 rowPtr Tryz.underlying221 Tryz.underlying223 rfl rfl Tryz.underlying9 (by kernel_rfl) (by kernel_rfl)
 exact ⟨_, _, hv⟩
open Ex
theorem l8real_lit {x : E} (hsz : x.size ≤ 100000) (hlf : Lf x) (A : Option Addr) (a : Nat) (B : Option Addr) (b : Nat) (C : Option Addr) (c : Nat) (w : World) (hev : EV w (· < w.heap.size) x ⟨A, a, B, b, C, c⟩) :
 Calls Tryz.prog 9 #[.agg #[.string x.op, .string x.name, .int .i64 x.lit.kind, .bool x.lit.tr, .int .i64 x.lit.num, .string x.lit.str, .slice A x.lit.items.length a, .slice B x.lit.keys.length b, .slice C x.args.length c]] w fun en w' => ∃ K k P q, en = .returned (.agg #[.string x.op, .string x.name, .int .i64 x.lit.kind, .bool x.lit.tr, .int .i64 x.lit.num, .string x.lit.str, .slice none x.lit.items.length 0, .slice K x.lit.keys.length k, .slice P x.args.length q]) ∧ EV w' (· < w'.heap.size) x ⟨none, 0, K, k, P, q⟩ ∧ Below w.heap.size w w' :=
 (l8real_any x hsz hlf ⟨A, a, B, b, C, c⟩ w (· < w.heap.size) (fun j hj => hj) hev).mono fun en w' h => by
  obtain ⟨K, k, P, q, he, hv, hb⟩ := h
  exact ⟨K, k, P, q, he, hv.wide fun j hj => hj.2, hb⟩
def nmE (l : List ByteArray) : En := ⟨63, l, List.replicate l.length 63⟩
theorem chk_nm (l : List ByteArray) (hl : l.length ≤ 1000) {x : E} (hsz : x.size ≤ 1000) {A B C NA SA : Option Addr} {a b c nc sc : Nat} {w : World} (hev : EV w (· < w.heap.size) x ⟨A, a, B, b, C, c⟩) (hen : EnvIn w (nmE l) NA SA) :
 Calls Tryz.prog 8 #[.agg #[.string x.op, .string x.name, .int .i64 x.lit.kind, .bool x.lit.tr, .int .i64 x.lit.num, .string x.lit.str, .slice A x.lit.items.length a, .slice B x.lit.keys.length b, .slice C x.args.length c], .agg #[.int .i64 63, .slice NA l.length nc, .slice SA l.length sc]] w fun en w' => en = .returned (.tuple #[.int .i64 ((chk (nmE l) x).1 : Nat), .int .i64 (chk (nmE l) x).2]) ∧ Below w.heap.size w w' := by
 have h := chk_any (nmE l) (show 63 < 64 by decide) (fun y hy => by have := List.eq_of_mem_replicate hy; omega) hl (by show (List.replicate l.length 63).length ≤ 1000; rw [List.length_replicate]; exact hl) x hsz ⟨A, a, B, b, C, c⟩ NA nc SA sc w hev hen
 have e : (nmE l).sorts.length = l.length := List.length_replicate
 rw [e] at h
 exact h
theorem findS_mem : ∀ {l : List ByteArray} {x : ByteArray}, x ∈ l → findS l (List.replicate l.length 63) x ≠ none
 | y :: l, x, h => by
  rw [show List.replicate (y :: l).length 63 = 63 :: List.replicate l.length 63 from rfl, findS]
  split
  · simp
  ·
   rename_i hne
   rcases List.mem_cons.1 h with rfl | h
   · exact absurd (by unfold eqb; exact beq_self_eq_true _) hne
   · exact findS_mem h
theorem names_plain (m : E) (l : List ByteArray) (hl : nms [] m = l) : (l.length = 0 → (chk (nmE []) m).2 ≠ 13) ∧ (chk (nmE l) m).2 ≠ 13 ∧ ((chk (nmE []) m).2 = 0 → l.length = 0 ∧ (chk (nmE l) m).2 = 0) := by
 have hm : ∀ x, x ∈ l ↔ Has x m := fun x => by rw [← hl, mem_nms]; simp
 refine ⟨fun h0 h => ?_, fun h => ?_, fun h => ?_⟩
 ·
  obtain ⟨x, hx, _⟩ := chk_none m h
  rw [List.eq_nil_of_length_eq_zero h0] at hm
  exact absurd ((hm x).2 hx) (by simp)
 ·
  obtain ⟨x, hx, hf⟩ := chk_none m h
  exact findS_mem ((hm x).2 hx) hf
 ·
  have h0 : l = [] := by
   rcases l with _ | ⟨x, r⟩
   · rfl
   · exact absurd (show findS [] [] x = none by simp [findS]) (chk_has m h ((hm x).1 (by simp)))
  rw [h0]
  exact ⟨rfl, h⟩
theorem env_last {X : World} {B : Nat} {v u : Value} {l : List ByteArray} (h : RowS X B v l) (h2 : RowI X B u (List.replicate l.length 63)) : ∃ A c A' c', v = .slice A l.length c ∧ u = .slice A' l.length c' ∧ EnvIn X (nmE l) A A' := by
 obtain ⟨A, c, rfl, _, _, hr⟩ := h.reads
 obtain ⟨A', c', rfl, hs⟩ := h2.reads
 exact ⟨A, c, A', c', rfl, by rw [List.length_replicate], hr, hs⟩
theorem parse_p0 {s : ByteArray} {e : E} {p0 : Nat} (h : parse s = .ok e p0) : p0 = 0 := by
 unfold parse at h
 split at h
 · cases h
 ·
  cases hx : top s 0 with
  | err q c => rw [hx] at h; cases h
  | out => rw [hx] at h; cases h
  | ok e' p =>
   rw [hx] at h
   dsimp only at h
   split at h
   · cases h
   ·
    split at h
    · cases h
    ·
     injection h with h4 h5
     exact h5.symm
theorem walkL (s : ByteArray) (w : World) (hl : 600 < s.size) (hr : RangeErr w) :
 Calls Tryz.prog 4 #[.string s] w fun en w' => en = .returned (.bool true) ∧ Below w.heap.size w w' := by
 have HR := hid hr
 clear hr
 have u1 : decide ((s.size : Int) > 600) = true := decide_eq_true (by omega)
 have u2 : decide ((600 : Int) < (s.size : Int)) = true := decide_eq_true (by omega)
 have u3 : decide (600 < s.size) = true := decide_eq_true (by omega)
 go_enter Tryz.func4, Tryz.ntmps4
 go_wp2_with fail
 refine (awake9_any _ HR.out).mono ?_
 rintro en w1 ⟨rfl, hb1⟩
 have H1 := hid hb1
 have HR1 := hid (HR.out.on hb1)
 clear hb1
 go_wp2_with fail
 refine (awake9_any _ HR1.out).mono ?_
 rintro en w2 ⟨rfl, hb2⟩
 have H2 := hid (H1.out.trans (hb2.mono H1.out.size))
 clear hb2
 go_wp2_with fail
 go_ret
 exact ⟨rfl, H2.out⟩
theorem walkE (s : ByteArray) (w : World) (x : E) (p k : Int) (P : Prop) (hs : s.size ≤ 600) (hQ : ∀ w1, Calls Tryz.prog 6 #[.string s] w1 (fun e w' => Told x p k w1 e w' ∧ (k = 0 → P))) (hP : ¬ P) (hr : RangeErr w) :
 Calls Tryz.prog 4 #[.string s] w fun en w' => en = .returned (.bool true) ∧ Below w.heap.size w w' := by
 have HR := hid hr
 have HQ := hid hQ
 have HP := hid hP
 clear hr hQ hP
 have u1 : decide ((s.size : Int) > 600) = false := decide_eq_false (by omega)
 have u2 : decide ((600 : Int) < (s.size : Int)) = false := decide_eq_false (by omega)
 have u3 : decide (600 < s.size) = false := decide_eq_false (by omega)
 go_enter Tryz.func4, Tryz.ntmps4
 go_wp2_with fail
 refine (awake9_any _ HR.out).mono ?_
 rintro en w1 ⟨rfl, hb1⟩
 have H1 := hid hb1
 have HR1 := hid (HR.out.on hb1)
 clear hb1
 go_wp2_with fail
 refine (HQ.out _).mono ?_
 rintro en w2 ⟨⟨⟨aA, a1, aB, a2, aC, a3⟩, rfl, -, hb2⟩, hq⟩
 have H2 := hid (H1.out.trans (hb2.mono H1.out.size))
 have hc : k ≠ 0 := fun h => HP.out (hq h)
 clear hb2 hq
 unfold ecs
 dsimp only
 go_upto_region 4 with fail
 refine alloc_gn (fun W2 hW kB => ?_)
 have H3 := hid (H2.out.trans (hW.mono H2.out.size))
 clear hW kB
 generalize w2.heap.size = y at *
 have n1 : (k == 0) = false := beq_eq_false_iff_ne.2 hc
 have n2 : (k != 0) = true := by simpa using hc
 clear hc
 go_wp2_with fail
 go_ret
 exact ⟨rfl, H3.out⟩
theorem walkG (
 s : ByteArray) (w : World) (m : E) (hs : s.size ≤ 600) (hQ : ∀ w1, Calls Tryz.prog 6 #[.string s] w1 (Told m 0 0 w1)) (hlm : Lf m) (hzm : m.size ≤ 600) (hr : RangeErr w) :
 Calls Tryz.prog 4 #[.string s] w fun en w' => en = .returned (.bool true) ∧ Below w.heap.size w w' := by
 have HR := hid hr
 have HQ := hid hQ
 have HLM := hid hlm
 clear hr hQ hlm
 obtain ⟨l, hl⟩ : ∃ l, nms [] m = l := ⟨_, rfl⟩
 have hln : l.length ≤ 600 := by have := nms_len m []; rw [hl] at this; simp at this; omega
 have HNM := hid (show ∀ (h : Hd) (w1 : World), EV w1 (· < w1.heap.size) m h → Calls Tryz.prog 10 #[.slice none 0 0, .agg (ecs m h)] w1 fun en w' => ∃ A' c', en = .returned (.slice A' l.length c') ∧ l.length ≤ c' ∧ c' ≤ maxLen ∧ SReads w' (· < w'.heap.size) A' l ∧ Below w1.heap.size w1 w' from fun h w1 hev => by
  rw [← hl]
  exact names_any m [] none 0 h w1 hev (SReads.none_ _ _ _) (Nat.le_refl _) (Nat.zero_le _) (by simp; omega))
 have HPL := hid (names_plain m l hl)
 have HK1 := hid (fun (A B C NA SA : Option Addr) (i j p nc sc : Nat) (w1 : World) (hev : EV w1 (· < w1.heap.size) m ⟨A, i, B, j, C, p⟩) (hen : EnvIn w1 (nmE []) NA SA) => chk_nm [] (by decide) (x := m) (by omega) (nc := nc) (sc := sc) hev hen)
 have HK2 := hid (fun (A B C NA SA : Option Addr) (i j p nc sc : Nat) (w1 : World) (hev : EV w1 (· < w1.heap.size) m ⟨A, i, B, j, C, p⟩) (hen : EnvIn w1 (nmE l) NA SA) => chk_nm l (by omega) (x := m) (by omega) (nc := nc) (sc := sc) hev hen)
 generalize (chk (nmE []) m).1 = X1 at *
 generalize (chk (nmE []) m).2 = C1 at *
 generalize (chk (nmE l) m).1 = X2 at *
 generalize (chk (nmE l) m).2 = C2 at *
 clear hl
 have u1 : decide ((s.size : Int) > 600) = false := decide_eq_false (by omega)
 have u2 : decide ((600 : Int) < (s.size : Int)) = false := decide_eq_false (by omega)
 have u3 : decide (600 < s.size) = false := decide_eq_false (by omega)
 go_enter Tryz.func4, Tryz.ntmps4
 go_wp2_with fail
 refine (awake9_any _ HR.out).mono ?_
 rintro en w1 ⟨rfl, hb1⟩
 have H1 := hid hb1
 have HR1 := hid (HR.out.on hb1)
 clear hb1
 go_wp2_with fail
 refine (HQ.out _).mono ?_
 rintro en w2 ⟨⟨aA, a1, aB, a2, aC, a3⟩, rfl, hev, hb2⟩
 have H2 := hid (H1.out.trans (hb2.mono H1.out.size))
 have HEV2 := hid hev
 clear hb2 hev
 unfold ecs
 dsimp only
 go_upto_region 4 with fail
 refine alloc_gn (fun W2 hW kB => ?_)
 have H3 := hid (H2.out.trans (hW.mono H2.out.size))
 have HT3 := hid kB
 have HEV3 := hid (HEV2.out.on hW)
 clear hW kB
 generalize w2.heap.size = y at *
 obtain ⟨n0, n1, n2, n3, n4, n5, n6, n7, n8⟩ := all9 HT3.out
 go_wp2_with fail
 refine (HNM.out ⟨aA, a1, aB, a2, aC, a3⟩ _ HEV3.out).mono ?_
 rintro en w4 ⟨A, c, rfl, hlc, hcm, hsr, hb⟩
 have H4 := hid (H3.out.trans (hb.mono H3.out.size))
 have HT4 := hid (HT3.out.onto hb)
 have HEV4 := hid (HEV3.out.on hb)
 have HL4 := hid hsr
 clear hb hsr n0 n1 n2 n3 n4 n5 n6 n7 n8
 go_upto_region 8 with fail
 refine alloc_gn (fun W5 hW kB => ?_)
 have HB5 := hid hW
 have HE5 := hid kB
 have HT5 := hid (HT4.out.onto hW)
 have HEV5 := hid (HEV4.out.on hW)
 clear hW kB
 have hD : Below W5.heap.size W5 W5.drew := (Below.refl _ _).drew
 have HSA := hid (show ∀ w', Below W5.drew.heap.size W5.drew w' → ((w'.cell? ⟨y, 0, none⟩ = some (.string m.op) ∧ w'.cell? ⟨y, 1, none⟩ = some (.string m.name) ∧ w'.cell? ⟨y, 2, none⟩ = some (.int .i64 m.lit.kind) ∧ w'.cell? ⟨y, 3, none⟩ = some (.bool m.lit.tr) ∧ w'.cell? ⟨y, 4, none⟩ = some (.int .i64 m.lit.num) ∧ w'.cell? ⟨y, 5, none⟩ = some (.string m.lit.str) ∧ w'.cell? ⟨y, 6, none⟩ = some (.slice aA m.lit.items.length a1) ∧ w'.cell? ⟨y, 7, none⟩ = some (.slice aB m.lit.keys.length a2) ∧ w'.cell? ⟨y, 8, none⟩ = some (.slice aC m.args.length a3)) ∧ w'.cell? ⟨w4.heap.size, 0, none⟩ = some (.int .i64 63) ∧ w'.cell? ⟨w4.heap.size, 1, none⟩ = some (.slice none 0 0) ∧ w'.cell? ⟨w4.heap.size, 2, none⟩ = some (.slice none 0 0)) from fun w' hb => by
  have k := (HT5.out.onto hD).onto hb
  have j := (HE5.out.onto hD).onto hb
  exact ⟨⟨k.cell 0, k.cell 1, k.cell 2, k.cell 3, k.cell 4, k.cell 5, k.cell 6, k.cell 7, k.cell 8⟩, j.cell 0, j.cell 1, j.cell 2⟩)
 have HD := hid hD
 clear hD
 refine wp_region_held_drew (S := fun w' => ((w'.cell? ⟨y, 0, none⟩ = some (.string m.op) ∧ w'.cell? ⟨y, 1, none⟩ = some (.string m.name) ∧ w'.cell? ⟨y, 2, none⟩ = some (.int .i64 m.lit.kind) ∧ w'.cell? ⟨y, 3, none⟩ = some (.bool m.lit.tr) ∧ w'.cell? ⟨y, 4, none⟩ = some (.int .i64 m.lit.num) ∧ w'.cell? ⟨y, 5, none⟩ = some (.string m.lit.str) ∧ w'.cell? ⟨y, 6, none⟩ = some (.slice aA m.lit.items.length a1) ∧ w'.cell? ⟨y, 7, none⟩ = some (.slice aB m.lit.keys.length a2) ∧ w'.cell? ⟨y, 8, none⟩ = some (.slice aC m.args.length a3)) ∧ w'.cell? ⟨w4.heap.size, 0, none⟩ = some (.int .i64 63) ∧ w'.cell? ⟨w4.heap.size, 1, none⟩ = some (.slice none 0 0) ∧ w'.cell? ⟨w4.heap.size, 2, none⟩ = some (.slice none 0 0))) (by kernel_rfl) ?_ (fun hHeld => ?_)
 · exact HSA.out _ (Below.refl _ _)
 refine wpAnyH_take (i := 0) (v := ?_) rfl (by kernel_rfl) (by kernel_rfl) (by kernel_rfl) (fun _ _ _ h => h) (Or.inl ⟨by rfl, ?_⟩) (by assumption) ?_
 rotate_left
 ·
  intro wq hSw
  try dsimp only at hSw
  go_simp
  try (with_reducible rfl)
 try simp only [Act.put, List.getElem_toArray, List.getElem_cons_zero, List.setIfInBounds_toArray, List.set_cons_zero, List.set_cons_succ]
 refine wpAnyH_take (i := 2) (v := ?_) rfl (by kernel_rfl) (by kernel_rfl) (by kernel_rfl) (fun _ _ _ h => h) (Or.inl ⟨by rfl, ?_⟩) (by assumption) ?_
 rotate_left
 ·
  intro wq hSw
  try dsimp only at hSw
  go_simp
  try (with_reducible rfl)
 try simp only [Act.put, sqa, sqb, sqc, sqd, sqe, sqf]
 refine wpAnyH_ready (rs := [1]) (by kernel_rfl) (by simp) ?_
 refine AllReadyH.cons rfl (fun K0 hK => ?_) AllReadyH.nil
 go_simp
 refine (l8real_lit (by omega) HLM.out aA a1 aB a2 aC a3 W5.drew (HEV5.out.on HD.out)).mono ?_
 rintro en wb ⟨K9, k9, P9, p9, rfl, hev, hb⟩
 have HX := hid hb
 have HCK := hid (HK1.out _ _ _ none none _ _ _ 0 0 _ hev ⟨SReads.none_ _ _ _, fun h => absurd rfl h⟩)
 clear hb hev
 go_wp2_with fail
 refine hK.out _ _ ?_ (fun hHeld => ?_)
 · exact HSA.out _ HX.out
 clear hK K0
 try simp only [Act.put, sqa, sqb, sqc, sqd, sqe, sqf]
 refine wpAnyH_ready (rs := [3]) (by kernel_rfl) (by simp) ?_
 refine AllReadyH.cons rfl (fun K0 hK => ?_) AllReadyH.nil
 go_simp
 refine HCK.out.mono ?_
 rintro en W6 ⟨rfl, hb⟩
 have HY := hid (HX.out.trans (hb.mono HX.out.size))
 clear hb
 go_wp2_with fail
 refine hK.out _ _ ?_ (fun hHeld => ?_)
 · exact HSA.out _ HY.out
 clear hK K0
 try simp only [Act.put, sqa, sqb, sqc, sqd, sqe, sqf]
 refine wpAnyH_take (i := 4) (v := ?_) rfl (by kernel_rfl) (by kernel_rfl) (by kernel_rfl) (fun _ _ _ h => h) (Or.inl ⟨by rfl, ?_⟩) (by assumption) ?_
 rotate_left
 ·
  intro wq hSw
  try dsimp only at hSw
  go_simp
  try (with_reducible rfl)
 try simp only [Act.put, sqa, sqb, sqc, sqd, sqe, sqf]
 refine wpAnyH_take (i := 5) (v := ?_) rfl (by kernel_rfl) (by kernel_rfl) (by kernel_rfl) (fun _ _ _ h => h) (Or.inl ⟨by rfl, ?_⟩) (by assumption) ?_
 rotate_left
 ·
  intro wq hSw
  try dsimp only at hSw
  go_simp
  try (with_reducible rfl)
 try simp only [Act.put, sqa, sqb, sqc, sqd, sqe, sqf]
 refine wpAnyH_take (i := 6) (v := ?_) rfl (by kernel_rfl) (by kernel_rfl) (by kernel_rfl) (fun _ _ _ h => h) (Or.inl ⟨by rfl, ?_⟩) (by assumption) ?_
 rotate_left
 ·
  intro wq hSw
  try dsimp only at hSw
  go_simp
  try (with_reducible rfl)
 try simp only [Act.put, sqa, sqb, sqc, sqd, sqe, sqf]
 refine wpAnyH_take (i := 7) (v := ?_) rfl (by kernel_rfl) (by kernel_rfl) (by kernel_rfl) (fun _ _ _ h => h) (Or.inl ⟨by rfl, ?_⟩) (by assumption) ?_
 rotate_left
 ·
  intro wq hSw
  try dsimp only at hSw
  go_simp
  try (with_reducible rfl)
 try simp only [Act.put, sqa, sqb, sqc, sqd, sqe, sqf]
 refine wpAnyH_take (i := 8) (v := ?_) rfl (by kernel_rfl) (by kernel_rfl) (by kernel_rfl) (fun _ _ _ h => h) (Or.inl ⟨by rfl, ?_⟩) (by assumption) ?_
 rotate_left
 ·
  intro wq hSw
  try dsimp only at hSw
  go_simp
  try (with_reducible rfl)
 try simp only [Act.put, sqa, sqb, sqc, sqd, sqe, sqf]
 refine wpAnyH_done (by kernel_rfl) ?_ _
 have hb6 := HD.out.trans (HY.out.mono HD.out.size)
 have HE6 := hid (HE5.out.onto hb6)
 go_upto_region 9 with fail
 go_cut [46] from 40 to 46 (fun z wx => z = .bool false ∧ wx = W6)
 case first =>
  by_cases h0 : l.length = 0
  ·
   have q1 : ((l.length : Int) == 0) = true := by rw [h0]; rfl
   have q2 : (l.length == 0) = true := by rw [h0]; rfl
   have q3 : (C1 == 13) = false := beq_eq_false_iff_ne.2 (HPL.out.1 h0)
   go_wp2_with fail
   go_meet
   exact ⟨rfl, rfl⟩
  ·
   have q1 : ((l.length : Int) == 0) = false := beq_eq_false_iff_ne.2 (by omega)
   have q2 : (l.length == 0) = false := beq_eq_false_iff_ne.2 h0
   go_wp2_with fail
   go_meet
   exact ⟨rfl, rfl⟩
 case rest =>
 obtain ⟨rfl, hwc⟩ := hcut
 replace hwc := hwc.symm
 subst hwc
 go_wp2_with fail
 have HB0 := hid (HB5.out.trans (hb6.mono HB5.out.size))
 obtain ⟨B0, hB0⟩ : ∃ B, B = W6.heap.size := ⟨_, rfl⟩
 have hEB : w4.heap.size < B0 := by rw [hB0]; exact HE6.out.lt
 go_loopw [49] (fun z wr => ∃ (k : Nat) (vN vS : Value), k ≤ l.length ∧ z = .int .i64 k ∧ Below w4.heap.size w4 wr ∧ Blk wr w4.heap.size 36 #[.int .i64 63, vN, vS] ∧ RowS wr B0 vN (l.take k) ∧ RowI wr B0 vS (List.replicate k 63) ∧ B0 ≤ wr.heap.size) (fun z _ => l.length - (intOf z).toNat)
 case atStart => exact ⟨0, .slice none 0 0, .slice none 0 0, Nat.zero_le _, rfl, HB0.out, HE6.out, ⟨rfl, .inl ⟨rfl, rfl⟩⟩, ⟨rfl, .inl ⟨rfl, rfl⟩⟩, by rw [hB0]; exact Nat.le_refl _⟩
 case round =>
  obtain ⟨k, vN, vS, hk, rfl, hbe, hke, hrn, hri, hb0⟩ := hrel
  have HBE := hid hbe
  have KW := hid hke
  have HRN := hid hrn
  have HRI := hid hri
  have HLr := hid (HL4.out.on hbe)
  clear hbe hke hrn hri
  by_cases hlt : k < l.length
  ·
   have v1 : decide (k < l.length) = true := decide_eq_true hlt
   have v2 : decide ((k : Int) < (l.length : Int)) = true := decide_eq_true (by omega)
   have i1 : (k : Int) < (l.length : Int) := by omega
   have i2 : (0 : Int) ≤ (k : Int) := by omega
   obtain ⟨b, o, hA, hb, hcs⟩ := HLr.out (by intro h; rw [h] at hlt; simp at hlt)
   obtain ⟨x, hx⟩ : ∃ x, l[k]? = some x := ⟨_, List.getElem?_eq_getElem hlt⟩
   have c0 := hcs k x hx
   have HTK := hid (show l.take (k + 1) = l.take k ++ [x] by rw [List.take_add_one, hx]; rfl)
   clear hcs hx hb
   subst hA
   go_wp2_with fail
   clear c0
   obtain ⟨AN, cN, hvn, -, -, -⟩ := HRN.out.reads
   rw [show (l.take k).length = k by rw [List.length_take]; omega] at hvn
   subst hvn
   obtain ⟨AS, cS, hvs, -⟩ := HRI.out.reads
   rw [List.length_replicate] at hvs
   subst hvs
   have ST := hid (show St wr wr B0 _ _ _ _ from ⟨Below.refl _ _, HRN.out, HRI.out, hb0⟩)
   have ST := hid ST.out.drew
   clear HRN HRI
   refine wp_region_z 10 (fun w' => w'.cell? ⟨w4.heap.size, 1, none⟩ = some (.slice AN k cN) ∧ w'.cell? ⟨w4.heap.size, 2, none⟩ = some (.slice AS k cS)) (by kernel_rfl) ?_ (fun hHeld => ?_)
   · have h := KW.out.on ST.out.bel hEB; exact ⟨h.cell 1, h.cell 2⟩
   refine wpZ_take (i := 0) (v := ?_) rfl rfl (by kernel_rfl) (by decide) (by kernel_rfl) (by kernel_rfl) (by kernel_rfl) (by kernel_rfl) (fun _ _ _ h => h) (Or.inl ⟨by rfl, ?_⟩) (by assumption) ?_
   rotate_left
   ·
    intro wq hSw
    try dsimp only at hSw
    go_simp
    try (with_reducible rfl)
   try simp only [Act.put, List.getElem_toArray, List.getElem_cons_zero, List.setIfInBounds_toArray, List.set_cons_zero, List.set_cons_succ]
   refine wpZ_take (i := 1) (v := ?_) rfl rfl (by kernel_rfl) (by decide) (by kernel_rfl) (by kernel_rfl) (by kernel_rfl) (by kernel_rfl) (fun _ _ _ h => h) (Or.inl ⟨by rfl, ?_⟩) (by assumption) ?_
   rotate_left
   ·
    intro wq hSw
    try dsimp only at hSw
    go_simp
    try (with_reducible rfl)
   try simp only [Act.put, sqa, sqb, sqc, sqd, sqe, sqf]
   refine wpZ_take (i := 2) (v := ?_) rfl rfl (by kernel_rfl) (by decide) (by kernel_rfl) (by kernel_rfl) (by kernel_rfl) (by kernel_rfl) (fun _ _ _ h => h) (Or.inl ⟨by rfl, ?_⟩) (by assumption) ?_
   rotate_left
   ·
    intro wq hSw
    try dsimp only at hSw
    go_simp
    try (with_reducible rfl)
   try simp only [Act.put, sqa, sqb, sqc, sqd, sqe, sqf]
   refine wpZ_take (i := 5) (v := ?_) rfl rfl (by kernel_rfl) (by decide) (by kernel_rfl) (by kernel_rfl) (by kernel_rfl) (by kernel_rfl) (fun _ _ _ h => h) (Or.inl ⟨by rfl, ?_⟩) (by assumption) ?_
   rotate_left
   ·
    intro wq hSw
    try dsimp only at hSw
    go_simp
    try (with_reducible rfl)
   try simp only [Act.put, sqa, sqb, sqc, sqd, sqe, sqf]
   refine wpZ_take (i := 6) (v := ?_) rfl rfl (by kernel_rfl) (by decide) (by kernel_rfl) (by kernel_rfl) (by kernel_rfl) (by kernel_rfl) (fun _ _ _ h => h) (Or.inl ⟨by rfl, ?_⟩) (by assumption) ?_
   rotate_left
   ·
    intro wq hSw
    try dsimp only at hSw
    go_simp
    try (with_reducible rfl)
   try simp only [Act.put, sqa, sqb, sqc, sqd, sqe, sqf]
   generalize wr.drew = X at *
   iterate 3
    all_goals first
     | (refine wpZ_ready (rs := [3, 7]) (by decide +kernel) (by simp) ?_; refine AllZ.cons rfl (fun K0 hK => ?_) (AllZ.cons rfl (fun K0 hK => ?_) AllZ.nil))
     | (refine wpZ_ready (rs := [4, 7]) (by decide +kernel) (by simp) ?_; refine AllZ.cons rfl (fun K0 hK => ?_) (AllZ.cons rfl (fun K0 hK => ?_) AllZ.nil))
     | (refine wpZ_ready (rs := [3]) (by decide +kernel) (by simp) ?_; refine AllZ.cons rfl (fun K0 hK => ?_) AllZ.nil)
     | (refine wpZ_ready (rs := [4]) (by decide +kernel) (by simp) ?_; refine AllZ.cons rfl (fun K0 hK => ?_) AllZ.nil)
     | (refine wpZ_ready (rs := [7]) (by decide +kernel) (by simp) ?_; refine AllZ.cons rfl (fun K0 hK => ?_) AllZ.nil)
    all_goals first
     | (
      refine ST.out.apN KQ.out (by simp; omega) rfl (.tmp 54) (.tmp 56) rfl rfl rfl ?_
      intro vN X hst hgo
      have ST := hid hst
      try have KP := hid (hgo _ _ _ (by decide) KP.out)
      clear hst hgo
      refine hK.out _ _ (fun _ => ?_) (fun h0 => ?_)
      · have h := KW.out.on ST.out.bel hEB; exact ⟨h.cell 1, h.cell 2⟩
      have hHeld := h0 (by kernel_rfl)
      clear hK K0 h0
      try simp only [Act.put, sqa, sqb, sqc, sqd, sqe, sqf]
      refine wpZ_take (i := 9) (v := ?_) rfl rfl (by kernel_rfl) (by decide) (by kernel_rfl) (by kernel_rfl) (by kernel_rfl) (by kernel_rfl) (fun _ _ _ h => h) (Or.inl ⟨by rfl, ?_⟩) (by assumption) ?_
      rotate_left
      ·
       intro wq hSw
       try dsimp only at hSw
       go_simp
       try (with_reducible rfl)
      try simp only [Act.put, sqa, sqb, sqc, sqd, sqe, sqf])
     | (
      go_simp
      obtain ⟨g9, hg9⟩ : ∃ g, g = X.heap.size := ⟨_, rfl⟩
      have ST := hid (ST.out.alloc (.cells #[.string x] 9))
      try have KP := hid (KP.out.alloc (.cells #[.string x] 9))
      have KQ := hid (show Blk (X.alloc (.cells #[.string x] 9)) g9 9 #[.string x] from by rw [hg9]; exact Blk.new X _ _)
      refine hK.out _ _ (fun _ => ?_) (fun h0 => ?_)
      · have h := KW.out.on ST.out.bel hEB; exact ⟨h.cell 1, h.cell 2⟩
      have hHeld := h0 (by kernel_rfl)
      clear hK K0 h0
      rw [← hg9]
      generalize X.alloc (.cells #[.string x] 9) = X at *
      clear hg9
      try simp only [Act.put, sqa, sqb, sqc, sqd, sqe, sqf])
     | (
      go_simp
      obtain ⟨g9, hg9⟩ : ∃ g, g = X.heap.size := ⟨_, rfl⟩
      have ST := hid (ST.out.alloc (.cells #[.int .i64 63] 33))
      try have KQ := hid (KQ.out.alloc (.cells #[.int .i64 63] 33))
      have KP := hid (show Blk (X.alloc (.cells #[.int .i64 63] 33)) g9 33 #[.int .i64 63] from by rw [hg9]; exact Blk.new X _ _)
      refine hK.out _ _ (fun _ => ?_) (fun h0 => ?_)
      · have h := KW.out.on ST.out.bel hEB; exact ⟨h.cell 1, h.cell 2⟩
      have hHeld := h0 (by kernel_rfl)
      clear hK K0 h0
      rw [← hg9]
      generalize X.alloc (.cells #[.int .i64 63] 33) = X at *
      clear hg9
      try simp only [Act.put, sqa, sqb, sqc, sqd, sqe, sqf])
   all_goals
    refine wpZ_ready (rs := [8]) (by kernel_rfl) (by simp) ?_; refine AllZ.cons rfl (fun K0 hK => ?_) AllZ.nil
    refine ST.out.apI KP.out (by simp; omega) rfl (.tmp 59) (.tmp 60) rfl rfl rfl ?_
    intro vS X hst hgo
    have ST := hid hst
    clear hst hgo
    refine hK.out _ _ (fun _ => ?_) (fun h0 => ?_)
    · have h := KW.out.on ST.out.bel hEB; exact ⟨h.cell 1, h.cell 2⟩
    have hHeld := h0 (by kernel_rfl)
    clear hK K0 h0
    try simp only [Act.put, sqa, sqb, sqc, sqd, sqe, sqf]
   all_goals
    obtain ⟨A1, d1, hv1, -, -, -⟩ := ST.out.rn.reads
    obtain ⟨A2, d2, hv2, -⟩ := ST.out.rs.reads
    generalize (l.take k ++ [x]).length = z1 at hv1
    generalize (List.replicate k 63 ++ [63]).length = z2 at hv2
    subst hv1 hv2
    have he := KW.out.on ST.out.bel hEB
    have e1 := he.cell 1
    have e2 := he.cell 2
    have g1 := he.free 1
    have g2 := he.free 2
    have KE := hid (show Blk ((X.setCell ⟨w4.heap.size, 1, none⟩ (.slice A1 z1 d1)).setCell ⟨w4.heap.size, 2, none⟩ (.slice A2 z2 d2)) w4.heap.size 36 #[.int .i64 63, (.slice A1 z1 d1), (.slice A2 z2 d2)] from (he.set_ 1 (.slice A1 z1 d1)).set_ 2 (.slice A2 z2 d2))
    have HRN := hid (row_set (row_set ST.out.rn he (by decide) 1 (.slice A1 z1 d1)) (he.set_ 1 (.slice A1 z1 d1)) (by decide) 2 (.slice A2 z2 d2))
    have HRI := hid (row_set (row_set ST.out.rs he (by decide) 1 (.slice A1 z1 d1)) (he.set_ 1 (.slice A1 z1 d1)) (by decide) 2 (.slice A2 z2 d2))
    have HBX := hid (((HBE.out.trans (ST.out.bel.mono (Nat.le_of_lt hEB))).setCell (p := ⟨w4.heap.size, 1, none⟩) (Nat.le_refl _) (.slice A1 z1 d1)).setCell (p := ⟨w4.heap.size, 2, none⟩) (Nat.le_refl _) (.slice A2 z2 d2))
    clear he
    refine wpZ_ready (rs := [10]) (by kernel_rfl) (by simp) ?_
    refine AllZ.cons rfl (fun K0 hK => ?_) AllZ.nil
    go_simp
    refine hK.out _ _ (fun h => nomatch (show true = false from h)) (fun _ => ?_)
    clear hK K0
    try simp only [Act.put, sqa, sqb, sqc, sqd, sqe, sqf]
    refine wpZ_ready (rs := [11]) (by kernel_rfl) (by simp) ?_
    refine AllZ.cons rfl (fun K0 hK => ?_) AllZ.nil
    go_simp
    refine hK.out _ _ (fun h => nomatch (show true = false from h)) (fun _ => ?_)
    clear hK K0
    try simp only [Act.put, sqa, sqb, sqc, sqd, sqe, sqf]
    refine wpZ_ready (rs := [12]) (by kernel_rfl) (by simp) ?_
    refine AllZ.cons rfl (fun K0 hK => ?_) AllZ.nil
    go_simp
    refine hK.out _ _ (fun h => nomatch (show true = false from h)) (fun _ => ?_)
    clear hK K0
    try simp only [Act.put, sqa, sqb, sqc, sqd, sqe, sqf]
    refine wpZ_done (by kernel_rfl) ?_ _
    have hsx : X.heap.size ≤ ((X.setCell ⟨w4.heap.size, 1, none⟩ (.slice A1 z1 d1)).setCell ⟨w4.heap.size, 2, none⟩ (.slice A2 z2 d2)).heap.size := by simp [World.setCell]
    have hbx := Nat.le_trans ST.out.le hsx
    generalize (X.setCell ⟨w4.heap.size, 1, none⟩ (.slice A1 z1 d1)).setCell ⟨w4.heap.size, 2, none⟩ (.slice A2 z2 d2) = Y at *
    clear e1 e2 g1 g2 hsx
    go_wp2_with fail
    go_roundw
    case rel => exact ⟨k + 1, _, _, hlt, by go_num, HBX.out, KE.out, by rw [HTK.out]; exact HRN.out, by rw [List.replicate_succ']; exact HRI.out, hbx⟩
    case measure => simp [intOf]; omega
  ·
   obtain rfl : k = l.length := by omega
   have v1 : decide (l.length < l.length) = false := decide_eq_false (by omega)
   have v2 : decide ((l.length : Int) < (l.length : Int)) = false := decide_eq_false (by omega)
   rw [List.take_length] at *
   obtain ⟨AN, cN, AS, cS, rfl, rfl, hen⟩ := env_last HRN.out HRI.out
   have HEN := hid hen
   have hyE := HT4.out.lt
   have HT7 := hid (HT4.out.on HBE.out hyE)
   have HE7 := hid KW.out
   have HEV7 := hid (HEV4.out.on HBE.out)
   have H7 := hid (H4.out.trans (HBE.out.mono H4.out.size))
   clear hen HRN HRI KW HLr
   go_wp2_with fail
   rename World => W7
   have hD : Below W7.heap.size W7 W7.drew := (Below.refl _ _).drew
   have HSA := hid (show ∀ w', Below W7.drew.heap.size W7.drew w' → ((w'.cell? ⟨y, 0, none⟩ = some (.string m.op) ∧ w'.cell? ⟨y, 1, none⟩ = some (.string m.name) ∧ w'.cell? ⟨y, 2, none⟩ = some (.int .i64 m.lit.kind) ∧ w'.cell? ⟨y, 3, none⟩ = some (.bool m.lit.tr) ∧ w'.cell? ⟨y, 4, none⟩ = some (.int .i64 m.lit.num) ∧ w'.cell? ⟨y, 5, none⟩ = some (.string m.lit.str) ∧ w'.cell? ⟨y, 6, none⟩ = some (.slice aA m.lit.items.length a1) ∧ w'.cell? ⟨y, 7, none⟩ = some (.slice aB m.lit.keys.length a2) ∧ w'.cell? ⟨y, 8, none⟩ = some (.slice aC m.args.length a3)) ∧ w'.cell? ⟨w4.heap.size, 0, none⟩ = some (.int .i64 63) ∧ w'.cell? ⟨w4.heap.size, 1, none⟩ = some (.slice AN l.length cN) ∧ w'.cell? ⟨w4.heap.size, 2, none⟩ = some (.slice AS l.length cS)) from fun w' hb => by
    have k := (HT7.out.onto hD).onto hb
    have j := (HE7.out.onto hD).onto hb
    exact ⟨⟨k.cell 0, k.cell 1, k.cell 2, k.cell 3, k.cell 4, k.cell 5, k.cell 6, k.cell 7, k.cell 8⟩, j.cell 0, j.cell 1, j.cell 2⟩)
   have HD := hid hD
   clear hD
   refine wp_region_held_drew (S := fun w' => ((w'.cell? ⟨y, 0, none⟩ = some (.string m.op) ∧ w'.cell? ⟨y, 1, none⟩ = some (.string m.name) ∧ w'.cell? ⟨y, 2, none⟩ = some (.int .i64 m.lit.kind) ∧ w'.cell? ⟨y, 3, none⟩ = some (.bool m.lit.tr) ∧ w'.cell? ⟨y, 4, none⟩ = some (.int .i64 m.lit.num) ∧ w'.cell? ⟨y, 5, none⟩ = some (.string m.lit.str) ∧ w'.cell? ⟨y, 6, none⟩ = some (.slice aA m.lit.items.length a1) ∧ w'.cell? ⟨y, 7, none⟩ = some (.slice aB m.lit.keys.length a2) ∧ w'.cell? ⟨y, 8, none⟩ = some (.slice aC m.args.length a3)) ∧ w'.cell? ⟨w4.heap.size, 0, none⟩ = some (.int .i64 63) ∧ w'.cell? ⟨w4.heap.size, 1, none⟩ = some (.slice AN l.length cN) ∧ w'.cell? ⟨w4.heap.size, 2, none⟩ = some (.slice AS l.length cS))) (by kernel_rfl) ?_ (fun hHeld => ?_)
   · exact HSA.out _ (Below.refl _ _)
   refine wpAnyH_take (i := 0) (v := ?_) rfl (by kernel_rfl) (by kernel_rfl) (by kernel_rfl) (fun _ _ _ h => h) (Or.inl ⟨by rfl, ?_⟩) (by assumption) ?_
   rotate_left
   ·
    intro wq hSw
    try dsimp only at hSw
    go_simp
    try (with_reducible rfl)
   try simp only [Act.put, List.getElem_toArray, List.getElem_cons_zero, List.setIfInBounds_toArray, List.set_cons_zero, List.set_cons_succ]
   refine wpAnyH_take (i := 2) (v := ?_) rfl (by kernel_rfl) (by kernel_rfl) (by kernel_rfl) (fun _ _ _ h => h) (Or.inl ⟨by rfl, ?_⟩) (by assumption) ?_
   rotate_left
   ·
    intro wq hSw
    try dsimp only at hSw
    go_simp
    try (with_reducible rfl)
   try simp only [Act.put, sqa, sqb, sqc, sqd, sqe, sqf]
   refine wpAnyH_ready (rs := [1]) (by kernel_rfl) (by simp) ?_
   refine AllReadyH.cons rfl (fun K0 hK => ?_) AllReadyH.nil
   go_simp
   refine (l8real_lit (by omega) HLM.out aA a1 aB a2 aC a3 W7.drew (HEV7.out.on HD.out)).mono ?_
   rintro en wb ⟨K9, k9, P9, p9, rfl, hev, hb⟩
   have HX := hid hb
   have HCK := hid (HK2.out _ _ _ AN AS _ _ _ cN cS _ hev ((HEN.out.on HD.out).on hb))
   clear hb hev
   go_wp2_with fail
   refine hK.out _ _ ?_ (fun hHeld => ?_)
   · exact HSA.out _ HX.out
   clear hK K0
   try simp only [Act.put, sqa, sqb, sqc, sqd, sqe, sqf]
   refine wpAnyH_ready (rs := [3]) (by kernel_rfl) (by simp) ?_
   refine AllReadyH.cons rfl (fun K0 hK => ?_) AllReadyH.nil
   go_simp
   refine HCK.out.mono ?_
   rintro en W8 ⟨rfl, hb⟩
   have HY := hid (HX.out.trans (hb.mono HX.out.size))
   clear hb
   go_wp2_with fail
   refine hK.out _ _ ?_ (fun hHeld => ?_)
   · exact HSA.out _ HY.out
   clear hK K0
   try simp only [Act.put, sqa, sqb, sqc, sqd, sqe, sqf]
   refine wpAnyH_take (i := 4) (v := ?_) rfl (by kernel_rfl) (by kernel_rfl) (by kernel_rfl) (fun _ _ _ h => h) (Or.inl ⟨by rfl, ?_⟩) (by assumption) ?_
   rotate_left
   ·
    intro wq hSw
    try dsimp only at hSw
    go_simp
    try (with_reducible rfl)
   try simp only [Act.put, sqa, sqb, sqc, sqd, sqe, sqf]
   refine wpAnyH_take (i := 5) (v := ?_) rfl (by kernel_rfl) (by kernel_rfl) (by kernel_rfl) (fun _ _ _ h => h) (Or.inl ⟨by rfl, ?_⟩) (by assumption) ?_
   rotate_left
   ·
    intro wq hSw
    try dsimp only at hSw
    go_simp
    try (with_reducible rfl)
   try simp only [Act.put, sqa, sqb, sqc, sqd, sqe, sqf]
   refine wpAnyH_take (i := 6) (v := ?_) rfl (by kernel_rfl) (by kernel_rfl) (by kernel_rfl) (fun _ _ _ h => h) (Or.inl ⟨by rfl, ?_⟩) (by assumption) ?_
   rotate_left
   ·
    intro wq hSw
    try dsimp only at hSw
    go_simp
    try (with_reducible rfl)
   try simp only [Act.put, sqa, sqb, sqc, sqd, sqe, sqf]
   refine wpAnyH_take (i := 7) (v := ?_) rfl (by kernel_rfl) (by kernel_rfl) (by kernel_rfl) (fun _ _ _ h => h) (Or.inl ⟨by rfl, ?_⟩) (by assumption) ?_
   rotate_left
   ·
    intro wq hSw
    try dsimp only at hSw
    go_simp
    try (with_reducible rfl)
   try simp only [Act.put, sqa, sqb, sqc, sqd, sqe, sqf]
   refine wpAnyH_take (i := 8) (v := ?_) rfl (by kernel_rfl) (by kernel_rfl) (by kernel_rfl) (fun _ _ _ h => h) (Or.inl ⟨by rfl, ?_⟩) (by assumption) ?_
   rotate_left
   ·
    intro wq hSw
    try dsimp only at hSw
    go_simp
    try (with_reducible rfl)
   try simp only [Act.put, sqa, sqb, sqc, sqd, sqe, sqf]
   refine wpAnyH_done (by kernel_rfl) ?_ _
   have hb8 := HD.out.trans (HY.out.mono HD.out.size)
   have H8 := hid (H7.out.trans (hb8.mono H7.out.size))
   clear hb8
   have q1 : (C2 == 13) = false := beq_eq_false_iff_ne.2 HPL.out.2.1
   have q2 : (C2 != 13) = true := by simpa using HPL.out.2.1
   by_cases hc : C1 = 0
   ·
    obtain ⟨h0, hc2⟩ := HPL.out.2.2 hc
    have q3 : ((l.length : Int) == 0) = true := by rw [h0]; rfl
    have q4 : (l.length == 0) = true := by rw [h0]; rfl
    subst hc hc2
    go_wp2_with fail
    go_ret
    exact ⟨rfl, H8.out⟩
   ·
    have q3 : (C1 == 0) = false := beq_eq_false_iff_ne.2 hc
    have q4 : (C1 != 0) = true := by simpa using hc
    go_wp2_with fail
    go_ret
    exact ⟨rfl, H8.out⟩
theorem walk (s : ByteArray) (w : World) (hzs : s.size ≤ maxLen) (hr : RangeErr w) :
 Calls Tryz.prog 4 #[.string s] w fun en w' => en = .returned (.bool true) ∧ Below w.heap.size w w' := by
 by_cases hl : 600 < s.size
 · exact walkL s w hl hr
 ·
  have hs : s.size ≤ 600 := by omega
  by_cases hP : ∃ m p, parse s = .ok m p
  ·
   obtain ⟨m, p, hps⟩ := hP
   have hp0 := parse_p0 hps
   subst hp0
   have hla : Lf m := by have := @parse_lf s; rw [hps] at this; exact this m 0 rfl
   have hza := parse_sz hps
   exact walkG s w m hs (fun w1 => (rtold hps (by omega) w1).mono fun e w' h => h.1) hla (by omega) hr
  · exact walkE s w _ _ _ _ hs (fun w1 => rtold rfl (by omega) w1) hP hr
theorem lifted (os : Os) (started : os.Started) (H : Type) (enc : TypeId × Value → H) :
 ReturnsInHanded {} Tryz.checked os 4 .any (fun w args => (Rows.sortsNamesSpec.pre enc Tryz.prog Tryz.f4 [] false w args ∧ laidMetH Tryz.prog Rows.sortsNamesRow.laid w) ∧ sizedMet enc Tryz.prog Tryz.f4 (OpenSpec.ofChange Rows.sortsNamesSpec) false w args)
  (Rows.sortsNamesSpec.post enc Tryz.prog Tryz.f4 false true false false) := by
 refine returnsInHanded_of_change_and (C := Tryz.checked) (X := fun w _ => laidMetH Tryz.prog Rows.sortsNamesRow.laid w) (fun _ _ _ hh h => h.of_heap hh) own started (by kernel_rfl) Tryz.func4
  (ChangeSpec.witness_shaped (enc := enc) (C := Tryz.checked) (os := os) (X := fun w _ => laidMetH Tryz.prog Rows.sortsNamesRow.laid w) false (World.laidAll Tryz.prog os Rows.sortsNamesRow.laid) #[.string ByteArray.empty] 8 (World.laidAll_os _ _ _) (World.shaped_of_ZipB (by kernel_rfl) (by kernel_rfl)) (by kernel_rfl) (by kernel_rfl) (by kernel_rfl) (by rw [MakeChecks.laidMetH_plain _ _ _ (by kernel_rfl)]; exact laidMet_laidAll _ (by kernel_rfl) (by kernel_rfl))) ?_
 intro W base args ds gs before hval0 hW _ _ hL _
 have hval : ∀ (j : Nat) t v, Tryz.f4.params[j]? = some t → args[j]? = some v → Value.okWide Tryz.prog W .any base t v := hval0
 have hW' := hW
 obtain ⟨p, q, hA0, hV, rfl, hfz, hnd⟩ := hW
 have hA : DataW.TrodAll enc Tryz.prog W 0 (fun _ => true) true Tryz.f4.params.toList args.toList ds p := hA0
 rw [Tryz.params4] at hA hval
 obtain ⟨v0, vs0, d0, ds0, p0, q0, hargs, rfl, rfl, h0, r0⟩ := trodAll_cons hA
 obtain ⟨rfl, rfl, rfl⟩ := trodAll_nil r0
 obtain rfl : args = #[v0] := by cases args; simp_all
 obtain ⟨rfl, rfl⟩ := trodVars_none hV
 obtain ⟨s0, rfl, rfl, rfl, w0⟩ := open_string Tryz.underlying9 (hval 0 9 v0 rfl rfl) h0
 clear hA0 hval0
 refine (walk s0 W w0 (errs hL)).mono fun e W' ⟨he, bel⟩ => ?_
 subst he
 exact ⟨_, rfl, _, _, _, [], _, [], hW', trodAll_mk1 (shut_bool Tryz.underlying4 _), (trodAll_cons_mk (shut_string Tryz.underlying9 w0) trodAll_mk0), rfl, bel.frame _, fun h => by cases h⟩
theorem said : Rows.SortsNamesSaid :=
 OpenClaim.holds_of_wide 4 Tryz.f4 rfl rfl rfl rfl rfl rfl rfl ⟨rfl, rfl, rfl, rfl, rfl⟩ rfl rfl rfl rfl rfl (by kernel_rfl) Tryz.func4 (by kernel_rfl)
  (of_decide_eq_true (by kernel_rfl)) (by unfold Func.isWrapper; first | (rw [if_pos (by decide +kernel)]; kernel_rfl) | (rw [if_neg (by decide +kernel)]; exact ⟨rfl, rfl⟩))
  (fun os started H enc _ => lifted os started H enc)
theorem plain (f : FuncId) (fn : Func) (hf : Tryz.pinned.checked.prog.funcNamed "cheval/chevallaw09.SortsNames" = some f) (hfn : Tryz.pinned.checked.prog.funcs[f]? = some fn) :
 true = Tryz.pinned.checked.prog.looks [] ∧ ∀ (j : Nat) t, fn.params[j]? = some t → Tryz.pinned.checked.prog.wantsStandIn t = false := by
 obtain rfl : f = 4 := Option.some.inj ((show Tryz.prog.funcNamed "cheval/chevallaw09.SortsNames" = some 4 by kernel_rfl).symm.trans hf) |>.symm
 obtain rfl : fn = Tryz.f4 := (Option.some.inj (Tryz.func4.symm.trans hfn)).symm
 refine ⟨by kernel_rfl, fun j t ht => ?_⟩
 rw [Tryz.params4] at ht
 have hm := Array.mem_of_getElem? ht
 simp only [List.mem_toArray, List.mem_cons, List.not_mem_nil, or_false] at hm
 subst hm
 exact (show Tryz.prog.wantsStandIn 9 = false by kernel_rfl)
theorem card : Rows.SortsNamesCardSaid :=
 Claim7.holds_tied_plain_at .later [] _ _ _ _ said (fun _ h => by cases h) (by kernel_rfl) (fun _ h => by cases h) sortsNames_row_tie rfl ⟨rfl, rfl⟩ (by kernel_rfl) rfl plain (by kernel_rfl)
end Go.Proofs.YtfbipnflgjhaiaaGreatDoor.sortsNames
