/- Any bytes have the document's tree, or are wrong as it says, and where (for bytes of at most 2500; tied to the library's listed variables). -/
import Derived.Test.YtbampaiabciheaaGreatDoorCards
import Derived.Test.YtbampaiabciheaaGreatDoorTie
import Derived.WalkKit
import Derived.ProofKit
import Derived.OpenShut
import Derived.ChangeOld
import Derived.ShutString
import Derived.Below
import Derived.LaidMore
import Derived.Lib.LaidTab
import Derived.Stop.Joined
import Derived.Stop.LaidErr
import Derived.SevenTiedAt
import Derived.Lay
import Derived.Test.YtbampaiabciheaaGreatDoorES
import Derived.Test.YtbampaiabciheaaGreatDoorYG
import Derived.Test.YtbampaiabciheaaGreatDoorRyZ
import Derived.Test.YtbampaiabciheaaGreatDoorMB
set_option linter.unusedVariables false
set_option maxRecDepth 100000
set_option maxHeartbeats 8000000
open Go.Lib (hid)
namespace Go.Proofs.YtbampaiabciheaaGreatDoor.exprParses
open Go.ChangeShapes Go.WideShapes Go.ChangeAt Go.RowKit
open Go.ChangeMaps (open_string shut_string)
open Tk Pl
theorem own : ownKnob Tryz.prog.godebug = none := by kernel_rfl
theorem laidOut : laidOutB Tryz.prog = true := by kernel_rfl
theorem gRange : Tryz.prog.globalNamed "strconv.ErrRange" = some 7 := by kernel_rfl
theorem star : "*" ++ "errors.errorString" = "*errors.errorString" := by decide
theorem rowPtr (u : TypeId) (h : Tryz.prog.typeName? 3 u = some "*errors.errorString") : u = 229 :=
 typeName_ptr_named (nm := "errors.errorString") (by rw [star]; kernel_rfl) (by kernel_rfl) (by decide) u (by rw [star]; exact h)
theorem errs {W : World} (h : laidMetH Tryz.prog Rows.exprParsesRow.laid W) : RangeErr W := by
 have h' : laidMet Tryz.prog Rows.exprParsesRow.laid W := h
 obtain ⟨a, s, hv, _⟩ := laid_sentinel h'.tail.tail.tail.tail gRange (by kernel_rfl) Tryz.underlying81 rowPtr Tryz.underlying229 Tryz.underlying231 rfl rfl Tryz.underlying9 (by kernel_rfl) (by kernel_rfl)
 exact ⟨_, _, hv⟩
theorem gPow5 : Tryz.prog.globalNamed "internal/strconv.uint64pow10" = some 3 := by kernel_rfl
theorem table {W : World} (h : laidMetH Tryz.prog Rows.exprParsesRow.laid W) : Lib.TabIs Tryz.prog W "internal/strconv.uint64pow10" .u64 Lib.pow10Tab := by
 have h' : laidMet Tryz.prog Rows.exprParsesRow.laid W := h
 exact Lib.tabIs_of_head (rest := _) gPow5 (by kernel_rfl) Tryz.underlying180 Tryz.underlying173 (by kernel_rfl) (by kernel_rfl) h'.tail.tail
open Ex
theorem parse_ends (s : ByteArray) : parse s ≠ .out := by
 unfold parse
 split
 · intro h; cases h
 ·
  have h0 := top_out (s := s) (Nat.zero_le s.size)
  cases hx : top s 0 with
  | ok e p =>
   dsimp only
   split
   · intro h; cases h
   ·
    split
    · intro h; cases h
    · intro h; cases h
  | err p c => intro h; cases h
  | out => exact absurd hx h0
theorem parse_lf {s : ByteArray} : LfR (parse s) := by
 have h : LfR (top s 0) := (lf_all s (many s)).1 0 0
 unfold parse
 split
 · exact lf_err
 ·
  cases hx : top s 0 with
  | ok e p =>
   dsimp only
   split
   · exact lf_err
   ·
    split
    · exact lf_err
    · exact lf_ok (h e p hx)
  | err p c => exact lf_err
  | out => exact lf_out
theorem parse_sz {s : ByteArray} {e : E} {p : Nat} (h : parse s = .ok e p) : e.size ≤ s.size := by
 unfold parse at h
 split at h
 · cases h
 ·
  cases hx : top s 0 with
  | ok e' p' =>
   rw [hx] at h
   dsimp only at h
   split at h
   · cases h
   ·
    split at h
    · cases h
    ·
     injection h with h1 h2
     subst h1
     have h3 := lev_sz (by decide) (Nat.zero_le _) hx
     have h4 := top_le (Nat.zero_le _) hx
     omega
  | err p' c => rw [hx] at h; cases h
  | out => rw [hx] at h; cases h
theorem walkR (s : ByteArray) (w : World) (R : Res) (hs : s.size ≤ 2500) (hP : ∀ w1, RangeErr w1 → Calls Tryz.prog 5 #[.string s] w1 (ReadP R w1)) (hQ : ∀ w1, Calls Tryz.prog 6 #[.string s] w1 (ReadT R w1))
 (hO : R ≠ .out) (hL : LfR R) (hZ : ∀ x p, R = .ok x p → x.size ≤ 3000) (hr : RangeErr w) (htb : Lib.TabIs Tryz.prog w "internal/strconv.uint64pow10" .u64 Lib.pow10Tab) :
 Calls Tryz.prog 3 #[.string s] w fun e w' => e = .returned (.bool true) ∧ Below w.heap.size w w' := by
 have HR := hid hr
 have HT := hid (tab_of8 htb)
 have HPP := hid (fun w1 h1 => (hP w1 h1).mono (fun e w' h => h.any hO))
 unfold ReadT at hQ
 have HQQ := hid hQ
 have HL := hid (lf_res hL)
 have hsz := sz_res (by decide) hZ
 clear hr htb hP hQ hO hL hZ
 generalize resE R = x at *
 generalize resP R = p at *
 generalize resC R = c at *
 have u1 : decide ((s.size : Int) > 2500) = false := decide_eq_false (by omega)
 have u2 : decide ((2500 : Int) < (s.size : Int)) = false := decide_eq_false (by omega)
 have u3 : decide (2500 < s.size) = false := decide_eq_false (by omega)
 go_enter Tryz.func3, Tryz.ntmps3
 go_wp2_with fail
 refine (awake8_any _ HR.out HT.out.2).mono ?_
 rintro e w1 ⟨rfl, hb1⟩
 have H1 := hid hb1
 clear hb1
 have HPW := hid (HPP.out w1 (HR.out.on H1.out))
 go_wp2_with fail
 refine HPW.out.mono ?_
 rintro e w2 ⟨⟨hA, ha, hB, hb, hC, hc⟩, rfl, hev, hb2⟩
 have H2 := hid (H1.out.trans (hb2.mono H1.out.size))
 have HE2 := hid hev
 clear hb2 hev
 unfold ecs
 dsimp only
 go_upto_region 4 with fail
 refine alloc_gn (fun W hW kB => ?_)
 have HW := hid (H2.out.trans (hW.mono H2.out.size))
 have HEW := hid (HE2.out.on hW)
 have HBE := hid kB
 clear hW kB
 generalize w2.heap.size = g at *
 go_wp2_with fail
 refine (HQQ.out _).mono ?_
 rintro e w3 ⟨⟨kA, ka, kB, kb, kC, kc⟩, rfl, hev3, hb3⟩
 have H3 := hid (HW.out.trans (hb3.mono HW.out.size))
 have HB3 := hid (HBE.out.onto hb3)
 have HE3 := hid (HEW.out.on hb3)
 have HK3 := hid hev3
 clear hb3 hev3
 unfold ecs
 dsimp only
 go_upto_region 5 with fail
 refine alloc_gn (fun W4 hW jB => ?_)
 have kD := HB3.out.onto hW
 have HW4 := hid (H3.out.trans (hW.mono H3.out.size))
 have HE4 := hid (HE3.out.on hW)
 have HK4 := hid (HK3.out.on hW)
 generalize w3.heap.size = f at *
 have e1 : (c == c) = true := by simp
 have e2 : ((p : Int) == (p : Int)) = true := by simp
 have HSA := hid (show ∀ w', Below W4.heap.size W4 w' → ((w'.cell? ⟨f, 0, none⟩ = some (.string x.op) ∧ w'.cell? ⟨f, 1, none⟩ = some (.string x.name) ∧ w'.cell? ⟨f, 2, none⟩ = some (.int .i64 x.lit.kind) ∧ w'.cell? ⟨f, 3, none⟩ = some (.bool x.lit.tr) ∧ w'.cell? ⟨f, 4, none⟩ = some (.int .i64 x.lit.num) ∧ w'.cell? ⟨f, 5, none⟩ = some (.string x.lit.str) ∧ w'.cell? ⟨f, 6, none⟩ = some (.slice kA x.lit.items.length ka) ∧ w'.cell? ⟨f, 7, none⟩ = some (.slice kB x.lit.keys.length kb) ∧ w'.cell? ⟨f, 8, none⟩ = some (.slice kC x.args.length kc)) ∧ (w'.cell? ⟨g, 0, none⟩ = some (.string x.op) ∧ w'.cell? ⟨g, 1, none⟩ = some (.string x.name) ∧ w'.cell? ⟨g, 2, none⟩ = some (.int .i64 x.lit.kind) ∧ w'.cell? ⟨g, 3, none⟩ = some (.bool x.lit.tr) ∧ w'.cell? ⟨g, 4, none⟩ = some (.int .i64 x.lit.num) ∧ w'.cell? ⟨g, 5, none⟩ = some (.string x.lit.str) ∧ w'.cell? ⟨g, 6, none⟩ = some (.slice hA x.lit.items.length ha) ∧ w'.cell? ⟨g, 7, none⟩ = some (.slice hB x.lit.keys.length hb) ∧ w'.cell? ⟨g, 8, none⟩ = some (.slice hC x.args.length hc))) from fun w' hb => by
  have k := jB.onto hb
  have j := kD.onto hb
  exact ⟨⟨k.cell 0, k.cell 1, k.cell 2, k.cell 3, k.cell 4, k.cell 5, k.cell 6, k.cell 7, k.cell 8⟩, ⟨j.cell 0, j.cell 1, j.cell 2, j.cell 3, j.cell 4, j.cell 5, j.cell 6, j.cell 7, j.cell 8⟩⟩)
 clear hW jB kD
 refine wp_region_held_drew (S := fun w' => ((w'.cell? ⟨f, 0, none⟩ = some (.string x.op) ∧ w'.cell? ⟨f, 1, none⟩ = some (.string x.name) ∧ w'.cell? ⟨f, 2, none⟩ = some (.int .i64 x.lit.kind) ∧ w'.cell? ⟨f, 3, none⟩ = some (.bool x.lit.tr) ∧ w'.cell? ⟨f, 4, none⟩ = some (.int .i64 x.lit.num) ∧ w'.cell? ⟨f, 5, none⟩ = some (.string x.lit.str) ∧ w'.cell? ⟨f, 6, none⟩ = some (.slice kA x.lit.items.length ka) ∧ w'.cell? ⟨f, 7, none⟩ = some (.slice kB x.lit.keys.length kb) ∧ w'.cell? ⟨f, 8, none⟩ = some (.slice kC x.args.length kc)) ∧ (w'.cell? ⟨g, 0, none⟩ = some (.string x.op) ∧ w'.cell? ⟨g, 1, none⟩ = some (.string x.name) ∧ w'.cell? ⟨g, 2, none⟩ = some (.int .i64 x.lit.kind) ∧ w'.cell? ⟨g, 3, none⟩ = some (.bool x.lit.tr) ∧ w'.cell? ⟨g, 4, none⟩ = some (.int .i64 x.lit.num) ∧ w'.cell? ⟨g, 5, none⟩ = some (.string x.lit.str) ∧ w'.cell? ⟨g, 6, none⟩ = some (.slice hA x.lit.items.length ha) ∧ w'.cell? ⟨g, 7, none⟩ = some (.slice hB x.lit.keys.length hb) ∧ w'.cell? ⟨g, 8, none⟩ = some (.slice hC x.args.length hc)))) (by kernel_rfl) ?_ (fun hHeld => ?_)
 · exact HSA.out _ (Below.refl _ _).drew
 refine wpAnyH_take (i := 0) (v := ?_) rfl (by kernel_rfl) (by kernel_rfl) (by kernel_rfl) (fun _ _ _ h => h) (Or.inl ⟨by rfl, ?_⟩) (by assumption) ?_
 rotate_left
 ·
  intro wq hSw
  try dsimp only at hSw
  go_simp
  try (with_reducible rfl)
 try simp only [Act.put, List.getElem_toArray, List.getElem_cons_zero, List.setIfInBounds_toArray, List.set_cons_zero, List.set_cons_succ]
 refine wpAnyH_take (i := 1) (v := ?_) rfl (by kernel_rfl) (by kernel_rfl) (by kernel_rfl) (fun _ _ _ h => h) (Or.inl ⟨by rfl, ?_⟩) (by assumption) ?_
 rotate_left
 ·
  intro wq hSw
  try dsimp only at hSw
  go_simp
  try (with_reducible rfl)
 try simp only [Act.put, sqa, sqb, sqc, sqd, sqe, sqf]
 refine wpAnyH_take (i := 2) (v := ?_) rfl (by kernel_rfl) (by kernel_rfl) (by kernel_rfl) (fun _ _ _ h => h) (Or.inl ⟨by rfl, ?_⟩) (by assumption) ?_
 rotate_left
 ·
  intro wq hSw
  try dsimp only at hSw
  go_simp
  try (with_reducible rfl)
 try simp only [Act.put, sqa, sqb, sqc, sqd, sqe, sqf]
 refine wpAnyH_take (i := 3) (v := ?_) rfl (by kernel_rfl) (by kernel_rfl) (by kernel_rfl) (fun _ _ _ h => h) (Or.inl ⟨by rfl, ?_⟩) (by assumption) ?_
 rotate_left
 ·
  intro wq hSw
  try dsimp only at hSw
  go_simp
  try (with_reducible rfl)
 try simp only [Act.put, sqa, sqb, sqc, sqd, sqe, sqf]
 refine wpAnyH_take (i := 4) (v := ?_) rfl (by kernel_rfl) (by kernel_rfl) (by kernel_rfl) (fun _ _ _ h => h) (Or.inl ⟨by rfl, ?_⟩) (by assumption) ?_
 rotate_left
 ·
  intro wq hSw
  try dsimp only at hSw
  go_simp
  try (with_reducible rfl)
 try simp only [Act.put, sqa, sqb, sqc, sqd, sqe, sqf]
 refine wpAnyH_take (i := 5) (v := ?_) rfl (by kernel_rfl) (by kernel_rfl) (by kernel_rfl) (fun _ _ _ h => h) (Or.inl ⟨by rfl, ?_⟩) (by assumption) ?_
 rotate_left
 ·
  intro wq hSw
  try dsimp only at hSw
  go_simp
  try (with_reducible rfl)
 try simp only [Act.put, sqa, sqb, sqc, sqd, sqe, sqf]
 refine wpAnyH_take (i := 6) (v := ?_) rfl (by kernel_rfl) (by kernel_rfl) (by kernel_rfl) (fun _ _ _ h => h) (Or.inl ⟨by rfl, ?_⟩) (by assumption) ?_
 rotate_left
 ·
  intro wq hSw
  try dsimp only at hSw
  go_simp
  try (with_reducible rfl)
 try simp only [Act.put, sqa, sqb, sqc, sqd, sqe, sqf]
 refine wpAnyH_take (i := 7) (v := ?_) rfl (by kernel_rfl) (by kernel_rfl) (by kernel_rfl) (fun _ _ _ h => h) (Or.inl ⟨by rfl, ?_⟩) (by assumption) ?_
 rotate_left
 ·
  intro wq hSw
  try dsimp only at hSw
  go_simp
  try (with_reducible rfl)
 try simp only [Act.put, sqa, sqb, sqc, sqd, sqe, sqf]
 refine wpAnyH_take (i := 8) (v := ?_) rfl (by kernel_rfl) (by kernel_rfl) (by kernel_rfl) (fun _ _ _ h => h) (Or.inl ⟨by rfl, ?_⟩) (by assumption) ?_
 rotate_left
 ·
  intro wq hSw
  try dsimp only at hSw
  go_simp
  try (with_reducible rfl)
 try simp only [Act.put, sqa, sqb, sqc, sqd, sqe, sqf]
 refine wpAnyH_take (i := 9) (v := ?_) rfl (by kernel_rfl) (by kernel_rfl) (by kernel_rfl) (fun _ _ _ h => h) (Or.inl ⟨by rfl, ?_⟩) (by assumption) ?_
 rotate_left
 ·
  intro wq hSw
  try dsimp only at hSw
  go_simp
  try (with_reducible rfl)
 try simp only [Act.put, sqa, sqb, sqc, sqd, sqe, sqf]
 refine wpAnyH_take (i := 11) (v := ?_) rfl (by kernel_rfl) (by kernel_rfl) (by kernel_rfl) (fun _ _ _ h => h) (Or.inl ⟨by rfl, ?_⟩) (by assumption) ?_
 rotate_left
 ·
  intro wq hSw
  try dsimp only at hSw
  go_simp
  try (with_reducible rfl)
 try simp only [Act.put, sqa, sqb, sqc, sqd, sqe, sqf]
 have hD : Below W4.heap.size W4 W4.drew := (Below.refl _ _).drew
 have HD := hid hD
 have HED := hid (HE4.out.on hD)
 have HKD := hid (HK4.out.on hD)
 generalize W4.drew = W5 at *
 clear hD
 refine wpAnyH_ready (rs := [10]) (by kernel_rfl) (by simp) ?_
 refine AllReadyH.cons rfl (fun K0 hK => ?_) AllReadyH.nil
 go_simp
 refine (l8ref_lit (by omega) HL.out hA ha hB hb hC hc W5 HED.out).mono ?_
 rintro e w5 ⟨P2, p2, rfl, hev5, hb5⟩
 have H5 := hid (HD.out.trans (hb5.mono HD.out.size))
 have HSM := hid (r8same_lit (by omega) HL.out none 0 hB hb P2 p2 kA ka kB kb kC kc w5 hev5 (HKD.out.on hb5))
 clear hb5 hev5
 go_wp2_with fail
 refine hK.out _ _ ?_ (fun hHeld => ?_)
 · exact HSA.out _ H5.out
 clear hK K0
 try simp only [Act.put, sqa, sqb, sqc, sqd, sqe, sqf]
 refine wpAnyH_ready (rs := [12]) (by kernel_rfl) (by simp) ?_
 refine AllReadyH.cons rfl (fun K0 hK => ?_) AllReadyH.nil
 go_simp
 refine HSM.out.mono ?_
 rintro e w6 ⟨rfl, hb6⟩
 have H6 := hid (H5.out.trans (hb6.mono H5.out.size))
 clear hb6
 go_wp2_with fail
 refine hK.out _ _ ?_ (fun hHeld => ?_)
 · exact HSA.out _ H6.out
 clear hK K0
 try simp only [Act.put, sqa, sqb, sqc, sqd, sqe, sqf]
 refine wpAnyH_take (i := 13) (v := ?_) rfl (by kernel_rfl) (by kernel_rfl) (by kernel_rfl) (fun _ _ _ h => h) (Or.inl ⟨by rfl, ?_⟩) (by assumption) ?_
 rotate_left
 ·
  intro wq hSw
  try dsimp only at hSw
  go_simp
  try (with_reducible rfl)
 try simp only [Act.put, sqa, sqb, sqc, sqd, sqe, sqf]
 refine wpAnyH_take (i := 14) (v := ?_) rfl (by kernel_rfl) (by kernel_rfl) (by kernel_rfl) (fun _ _ _ h => h) (Or.inl ⟨by rfl, ?_⟩) (by assumption) ?_
 rotate_left
 ·
  intro wq hSw
  try dsimp only at hSw
  go_simp
  try (with_reducible rfl)
 try simp only [Act.put, sqa, sqb, sqc, sqd, sqe, sqf]
 refine wpAnyH_done (by kernel_rfl) ?_ _
 go_wp2_with fail
 go_ret
 exact ⟨rfl, HW4.out.trans (H6.out.mono HW4.out.size)⟩
theorem walk (s : ByteArray) (w : World) (hz : s.size ≤ maxLen) (hr : RangeErr w) (htb : Lib.TabIs Tryz.prog w "internal/strconv.uint64pow10" .u64 Lib.pow10Tab) :
 Calls Tryz.prog 3 #[.string s] w fun e w' => e = .returned (.bool true) ∧ Below w.heap.size w w' := by
 by_cases h100 : 2500 < s.size
 ·
  have HR := hid hr
  have HT := hid (tab_of8 htb)
  clear hr htb
  have u1 : decide ((s.size : Int) > 2500) = true := decide_eq_true (by omega)
  have u2 : decide ((2500 : Int) < (s.size : Int)) = true := decide_eq_true (by omega)
  have u3 : decide (2500 < s.size) = true := decide_eq_true (by omega)
  go_enter Tryz.func3, Tryz.ntmps3
  go_wp2_with fail
  refine (awake8_any _ HR.out HT.out.2).mono ?_
  rintro e w1 ⟨rfl, hb1⟩
  have H1 := hid hb1
  clear hb1
  go_wp2_with fail
  refine (awake8_any _ (HR.out.on H1.out) (HT.out.on H1.out).2).mono ?_
  rintro e w2 ⟨rfl, hb2⟩
  have H2 := hid (H1.out.trans (hb2.mono H1.out.size))
  clear hb2
  go_wp2_with fail
  go_ret
  exact ⟨rfl, H2.out⟩
 ·
  have hs : s.size ≤ 2500 := by omega
  by_cases hin : s.size ≤ 2048
  · exact walkR s w (parse s) hs (fun w1 h1 => xparse_short s w1 hin h1 _ rfl) (fun w1 => r8parse_short s w1 hin) (parse_ends s) parse_lf (fun x p h => by have := parse_sz h; omega) hr htb
  · exact walkR s w (.err 0 7) hs (fun w1 _ => xparse_long s w1 (by omega) (by omega)) (fun w1 => r8parse_long s w1 (by omega) (by omega)) (by intro h; cases h) lf_err (fun x p h => by cases h) hr htb
theorem lifted (os : Os) (started : os.Started) (H : Type) (enc : TypeId × Value → H) :
 ReturnsInHanded {} Tryz.checked os 3 .any (fun w args => (Rows.exprParsesSpec.pre enc Tryz.prog Tryz.f3 [] false w args ∧ laidMetH Tryz.prog Rows.exprParsesRow.laid w) ∧ sizedMet enc Tryz.prog Tryz.f3 (OpenSpec.ofChange Rows.exprParsesSpec) false w args)
  (Rows.exprParsesSpec.post enc Tryz.prog Tryz.f3 false true false false) := by
 refine returnsInHanded_of_change_and (C := Tryz.checked) (X := fun w _ => laidMetH Tryz.prog Rows.exprParsesRow.laid w) (fun _ _ _ hh h => h.of_heap hh) own started (by kernel_rfl) Tryz.func3
  (ChangeSpec.witness_shaped (enc := enc) (C := Tryz.checked) (os := os) (X := fun w _ => laidMetH Tryz.prog Rows.exprParsesRow.laid w) false (World.laidAll Tryz.prog os Rows.exprParsesRow.laid) #[.string ByteArray.empty] 8 (World.laidAll_os _ _ _) (World.shaped_of_ZipB (by kernel_rfl) (by kernel_rfl)) (by kernel_rfl) (by kernel_rfl) (by kernel_rfl) (by rw [MakeChecks.laidMetH_plain _ _ _ (by kernel_rfl)]; exact laidMet_laidAll _ (by kernel_rfl) (by kernel_rfl))) ?_
 intro W base args ds gs before hval0 hW _ _ hL _
 have hval : ∀ (j : Nat) t v, Tryz.f3.params[j]? = some t → args[j]? = some v → Value.okWide Tryz.prog W .any base t v := hval0
 have hW' := hW
 obtain ⟨p, q, hA0, hV, rfl, hfz, hnd⟩ := hW
 have hA : DataW.TrodAll enc Tryz.prog W 0 (fun _ => true) true Tryz.f3.params.toList args.toList ds p := hA0
 rw [Tryz.params3] at hA hval
 obtain ⟨v0, vs0, d0, ds0, p0, q0, hargs, rfl, rfl, h0, r0⟩ := trodAll_cons hA
 obtain ⟨rfl, rfl, rfl⟩ := trodAll_nil r0
 obtain rfl : args = #[v0] := by cases args; simp_all
 obtain ⟨rfl, rfl⟩ := trodVars_none hV
 obtain ⟨s0, rfl, rfl, rfl, w0⟩ := open_string Tryz.underlying9 (hval 0 9 v0 rfl rfl) h0
 clear hA0 hval0
 refine (walk s0 W w0 (errs hL) (table hL)).mono fun e W' ⟨he, bel⟩ => ?_
 subst he
 exact ⟨_, rfl, _, _, _, [], _, [], hW', trodAll_mk1 (shut_bool Tryz.underlying4 _), (trodAll_cons_mk (shut_string Tryz.underlying9 w0) trodAll_mk0), rfl, bel.frame _, fun h => by cases h⟩
theorem said : Rows.ExprParsesSaid :=
 OpenClaim.holds_of_wide 3 Tryz.f3 rfl rfl rfl rfl rfl rfl rfl ⟨rfl, rfl, rfl, rfl, rfl⟩ rfl rfl rfl rfl rfl (by kernel_rfl) Tryz.func3 (by kernel_rfl)
  (of_decide_eq_true (by kernel_rfl)) (by unfold Func.isWrapper; first | (rw [if_pos (by decide +kernel)]; kernel_rfl) | (rw [if_neg (by decide +kernel)]; exact ⟨rfl, rfl⟩))
  (fun os started H enc _ => lifted os started H enc)
theorem plain (f : FuncId) (fn : Func) (hf : Tryz.pinned.checked.prog.funcNamed "cheval/chevallaw08.ExprParses" = some f) (hfn : Tryz.pinned.checked.prog.funcs[f]? = some fn) :
 true = Tryz.pinned.checked.prog.looks [] ∧ ∀ (j : Nat) t, fn.params[j]? = some t → Tryz.pinned.checked.prog.wantsStandIn t = false := by
 obtain rfl : f = 3 := Option.some.inj ((show Tryz.prog.funcNamed "cheval/chevallaw08.ExprParses" = some 3 by kernel_rfl).symm.trans hf) |>.symm
 obtain rfl : fn = Tryz.f3 := (Option.some.inj (Tryz.func3.symm.trans hfn)).symm
 refine ⟨by kernel_rfl, fun j t ht => ?_⟩
 rw [Tryz.params3] at ht
 have hm := Array.mem_of_getElem? ht
 simp only [List.mem_toArray, List.mem_cons, List.not_mem_nil, or_false] at hm
 subst hm
 exact (show Tryz.prog.wantsStandIn 9 = false by kernel_rfl)
theorem card : Rows.ExprParsesCardSaid :=
 Claim7.holds_tied_plain_at .later [] _ _ _ _ said (fun _ h => by cases h) (by kernel_rfl) (fun _ h => by cases h) exprParses_row_tie rfl ⟨rfl, rfl⟩ (by kernel_rfl) rfl plain (by kernel_rfl)
end Go.Proofs.YtbampaiabciheaaGreatDoor.exprParses
