/- A key that stands twice in an object is told where it stands again, however it is written: for every text and two bytes, over the library's variables as they are laid. -/
import Derived.Test.YthfhlblpjjniiaaGreatDoorCards
import Derived.Test.YthfhlblpjjniiaaGreatDoorTie
import Derived.WalkKit
import Derived.ProofKit
import Derived.OpenShut
import Derived.ChangeOld
import Derived.ShutString
import Derived.Below
import Derived.LaidMore
import Derived.Lib.LaidTab
import Derived.Stop.Joined
import Derived.Stop.LaidErr
import Derived.SevenTiedAt
import Derived.Lay
import Derived.Test.YthfhlblpjjniiaaGreatDoorMS
import Derived.Test.YthfhlblpjjniiaaGreatDoorMV
import Derived.Test.YthfhlblpjjniiaaGreatDoorMU
namespace Go.Proofs.YthfhlblpjjniiaaGreatDoor.readerTwice
open Go.ChangeShapes Go.WideShapes Go.ChangeAt Go.RowKit
open Go.ChangeMaps (open_string shut_string)
open Tk Pl
set_option linter.unusedVariables false

theorem own : ownKnob Tryz.prog.godebug = none := by kernel_rfl
theorem laidOut : laidOutB Tryz.prog = true := by kernel_rfl
theorem gRange : Tryz.prog.globalNamed "strconv.ErrRange" = some 7 := by kernel_rfl
theorem star : "*" ++ "errors.errorString" = "*errors.errorString" := by decide
theorem rowPtr (u : TypeId) (h : Tryz.prog.typeName? 3 u = some "*errors.errorString") : u = 269 :=
  typeName_ptr_named (nm := "errors.errorString") (by rw [star]; kernel_rfl) (by kernel_rfl) (by decide) u (by rw [star]; exact h)
/-- what the row's list gives -/
theorem errs {W : World} (h : laidMetH Tryz.prog Rows.readerTwiceRow.laid W) : RangeErr W := by
  have h' : laidMet Tryz.prog Rows.readerTwiceRow.laid W := h
  obtain ⟨a, s, hv, _⟩ := laid_sentinel h'.tail.tail.tail.tail gRange (by kernel_rfl) Tryz.underlying140 rowPtr Tryz.underlying269 Tryz.underlying271 rfl rfl Tryz.underlying9 (by kernel_rfl) (by kernel_rfl)
  exact ⟨_, _, hv⟩

theorem tw_same (s : ByteArray) : (s.toList == s.toList) = true := beq_self_eq_true _
def tw (q : ByteArray) : T := .mk 5 false 0 nix [.mk 5 false 0 nix [Rd.numT 2] [q]] [q]
theorem rise_one (q : ByteArray) : Rising [q] := by
  first
    | exact rising_one q
    | simp [Rising]
theorem tw_num : Rd.Written (Rd.numT 2) [50] := by
  have h : Rd.Leads (Rd.said (Rd.numT 2)) [50] := by
    have h0 := Rd.leads_num (n := 2) (by unfold In64; decide)
    rw [show Lib.itoa 2 = [50] by decide +kernel] at h0
    rw [show Rd.said (Rd.numT 2) = [⟨3, nix, 2⟩] by unfold Rd.said Rd.numT; rfl]
    exact h0
  have := Rd.written_leaf (v := Rd.numT 2) (L := [50]) (B := []) (C := []) ⟨by decide, by decide⟩ rfl rfl h (fun _ h => by cases h) (fun _ h => by cases h)
  simpa using this
theorem tw_obj {q : ByteArray} {K L : List UInt8} {v : T} (hK : Rd.StrL q K) (k : Rd.Written v L) : Rd.Written (.mk 5 false 0 nix [v] [q]) ([123] ++ (K ++ [58] ++ L) ++ [125]) := by
  have h1 := Rd.wrO_snoc (B := []) (G := []) Rd.wrO_nil (fun _ h => by cases h) (fun _ h => by cases h) hK k
  have h2 := Rd.wrO_end (vs := [v]) (ks := [q]) (B := []) (G := []) (C := []) h1 (List.Perm.refl _) rfl (rise_one q) (fun _ h => by cases h) (fun _ h => by cases h) (fun _ h => by cases h)
  simpa using h2
theorem tw_doc {q : ByteArray} {A B : List UInt8} (hA : Rd.StrL q A) (hB : Rd.StrL q B) {s : ByteArray} (hs : s.data.toList = [123] ++ A ++ [58, 123] ++ B ++ [58, 50, 125, 125]) : Rd.whole Rd.Ob s 5 = .val (tw q) 0 := by
  have h := tw_obj hA (tw_obj hB tw_num)
  refine (Rd.whole_written h (s := s) (by rw [hs]; simp) 5).1 ?_
  show T.depth _ ≤ 5
  simp [T.depth, T.depths, Rd.numT]
theorem tw_whole {s : ByteArray} (hs : s.size ≤ 16384) : Rd.parseR s 5 = Rd.whole Rd.Ob s 5 := by
  unfold Rd.parseR
  rw [if_neg (by omega), if_neg (by omega)]
  rfl
set_option maxRecDepth 100000 in
set_option maxHeartbeats 8000000 in
theorem walk (q : ByteArray) (n m : Int) (w : World) (hz : q.size ≤ maxLen) (hn0 : 0 ≤ n) (hn1 : n ≤ 255) (hm0 : 0 ≤ m) (hm1 : m ≤ 255) (hr : RangeErr w) :
    Calls Tryz.prog 7 #[.string q, .int .u8 n, .int .u8 m] w fun e w' => e = .returned (.bool true) ∧ Below w.heap.size w w' := by
  have HR := Lib.hid hr
  clear hr
  by_cases h60 : q.size ≤ 60
  · have u0 : decide ((q.size : Int) > 60) = false := decide_eq_false (by omega)
    have u0' : decide ((60 : Int) < (q.size : Int)) = false := decide_eq_false (by omega)
    have u0n : decide (60 < q.size) = false := decide_eq_false (by omega)
    by_cases hok : okText q
    · have HOK := Lib.hid hok
      clear hok
      go_enter Tryz.func7, Tryz.ntmps7
      go_wp2_with fail
      refine (awake6_any _ HR.out).mono ?_
      rintro e w1 ⟨rfl, hb1⟩
      have H1 := Lib.hid hb1
      clear hb1
      go_wp2_with fail
      refine (rval_yes q w1 HOK.out (by omega)).mono ?_
      rintro e w2 ⟨rfl, hb2⟩
      have H2 := Lib.hid (H1.out.trans (hb2.mono H1.out.size))
      clear hb2
      go_wp2_with fail
      refine (l6text_any q n w2 HOK.out h60 hn0 hn1).mono ?_
      rintro e w3 ⟨a, rfl, ha, hsa, hb3⟩
      have HA := Lib.hid ha
      have H3 := Lib.hid (H2.out.trans (hb3.mono H2.out.size))
      clear hb3 ha
      go_wp2_with fail
      refine (l6text_any q m w3 HOK.out h60 hm0 hm1).mono ?_
      rintro e w4 ⟨b, rfl, hb, hsb, hb4⟩
      have HB := Lib.hid hb
      have H4 := Lib.hid (H3.out.trans (hb4.mono H3.out.size))
      clear hb4 hb
      have hsa' : a.size ≤ 722 := by omega
      have hsb' : b.size ≤ 722 := by omega
      have hsai : (a.size : Int) ≤ 722 := by omega
      have hsbi : (b.size : Int) ≤ 722 := by omega
      have ew : IntKind.i64.wrap ((a.size : Int) + 4) = (a.size : Int) + 4 := IntWalk.i64_in _ (by omega)
      have ew2 : wrap64 ((a.size : Int) + 4) = (a.size : Int) + 4 := IntWalk.wrap64_in _ (by omega)
      obtain ⟨p, hp⟩ : ∃ p : Nat, p = a.size + 4 := ⟨_, rfl⟩
      have up : ((p : Int) == (a.size : Int) + 4) = true := by rw [beq_iff_eq]; omega
      have HP := Lib.hid (parse_any6 (⟨#[123]⟩ ++ a ++ ⟨#[58, 49, 44]⟩ ++ b ++ ⟨#[58, 50, 125]⟩) 5 w4 (HR.out.on H4.out))
      rw [tw_whole (by simp only [ByteArray.size_append]; show 1 + a.size + 3 + b.size + 3 ≤ 16384; omega), Rd.key_twice HA.out HB.out (by simp only [ByteArray.data_append, Array.toList_append]) 5 (by decide), show a.data.toList.length + 4 = p from by rw [hp, size_toList]] at HP
      clear hp
      go_wp2_with fail
      refine HP.out.mono ?_
      rintro e w5 ⟨rfl, hb5⟩
      have H5 := Lib.hid ((H4.out.trans (hb5.mono H4.out.size)).alloc (Nat.le_trans H4.out.size hb5.size) (.cells #[.int .i64 0, .bool false, .int .i64 0, .string ⟨#[]⟩, .slice none 0 0, .slice none 0 0] 26))
      clear hb5
      have HQ := Lib.hid (parse_any6 (⟨#[123]⟩ ++ a ++ ⟨#[58, 123]⟩ ++ b ++ ⟨#[58, 50, 125, 125]⟩) 5 (w5.alloc (.cells #[.int .i64 0, .bool false, .int .i64 0, .string ⟨#[]⟩, .slice none 0 0, .slice none 0 0] 26)) (HR.out.on H5.out))
      rw [tw_whole (by simp only [ByteArray.size_append]; show 1 + a.size + 2 + b.size + 4 ≤ 16384; omega), tw_doc HA.out HB.out (by simp only [ByteArray.data_append, Array.toList_append])] at HQ
      unfold T.agg
      go_wp2_with fail
      change Calls _ _ _ (w5.alloc (.cells #[.int .i64 0, .bool false, .int .i64 0, .string ⟨#[]⟩, .slice none 0 0, .slice none 0 0] 26)) _
      generalize (w5.alloc (.cells #[.int .i64 0, .bool false, .int .i64 0, .string ⟨#[]⟩, .slice none 0 0, .slice none 0 0] 26)) = W5 at *
      refine HQ.out.mono ?_
      have HV := Lib.hid (show (tw q).keys = [q] from rfl)
      generalize tw q = v at *
      rintro e w6 ⟨C, c, C', c', rfl, hT, hb6⟩
      obtain ⟨o, i, rfl, ho, hc⟩ := hT.keys (by rw [HV.out]; simp)
      have hc0 := hc 0 q (by rw [HV.out]; rfl)
      have hol : o < w6.heap.size := ho.2
      have hba : Below w6.heap.size w6 (w6.alloc (.cells #[.int .i64 v.kind, .bool v.tr, .int .i64 v.num, .string v.str, .slice C v.items.length c, .slice (some ⟨o, i, none⟩) v.keys.length c'] 26)) := (Below.refl _ _).alloc (Nat.le_refl _) _
      have H6 := Lib.hid ((H5.out.trans (hb6.mono H5.out.size)).trans (hba.mono (Nat.le_trans H5.out.size hb6.size)))
      have a5 : (w6.alloc (.cells #[.int .i64 v.kind, .bool v.tr, .int .i64 v.num, .string v.str, .slice C v.items.length c, .slice (some ⟨o, i, none⟩) v.keys.length c'] 26)).cell? ⟨w6.heap.size, 5, none⟩ = some (.slice (some ⟨o, i, none⟩) 1 c') := by
        refine ((Blk.new w6 26 #[.int .i64 v.kind, .bool v.tr, .int .i64 v.num, .string v.str, .slice C v.items.length c, .slice (some ⟨o, i, none⟩) v.keys.length c']).cell 5).trans ?_
        show some (Value.slice (some ⟨o, i, none⟩) v.keys.length c') = _
        rw [HV.out]
        rfl
      have b0 : (w6.alloc (.cells #[.int .i64 v.kind, .bool v.tr, .int .i64 v.num, .string v.str, .slice C v.items.length c, .slice (some ⟨o, i, none⟩) v.keys.length c'] 26)).cell? ⟨o, i, none⟩ = some (.string q) := (hba.cell (p := ⟨o, i, none⟩) hol).trans hc0
      have us := tw_same q
      clear hb6 hba hT hc hc0 ho
      unfold T.agg
      go_upto_region 6 with fail
      change Code.wp _ _ _ _ (w6.alloc (.cells #[.int .i64 v.kind, .bool v.tr, .int .i64 v.num, .string v.str, .slice C v.items.length c, .slice (some ⟨o, i, none⟩) v.keys.length c'] 26))
      generalize (w6.alloc (.cells #[.int .i64 v.kind, .bool v.tr, .int .i64 v.num, .string v.str, .slice C v.items.length c, .slice (some ⟨o, i, none⟩) v.keys.length c'] 26)) = W6 at *
      go_wp2_with fail
      go_ret
      exact ⟨by simp, H6.out⟩
    · have HOK := Lib.hid hok
      clear hok
      go_enter Tryz.func7, Tryz.ntmps7
      go_wp2_with fail
      refine (awake6_any _ HR.out).mono ?_
      rintro e w1 ⟨rfl, hb1⟩
      have H1 := Lib.hid hb1
      clear hb1
      go_wp2_with fail
      refine (rval_no q w1 HOK.out (by omega)).mono ?_
      rintro e w2 ⟨rfl, hb2⟩
      have H2 := Lib.hid (H1.out.trans (hb2.mono H1.out.size))
      clear hb2
      go_wp2_with fail
      refine (awake6_any _ (HR.out.on H2.out)).mono ?_
      rintro e w3 ⟨rfl, hb3⟩
      have H3 := Lib.hid (H2.out.trans (hb3.mono H2.out.size))
      clear hb3
      go_wp2_with fail
      go_ret
      exact ⟨rfl, H3.out⟩
  · have u0 : decide ((q.size : Int) > 60) = true := decide_eq_true (by omega)
    have u0' : decide ((60 : Int) < (q.size : Int)) = true := decide_eq_true (by omega)
    have u0n : decide (60 < q.size) = true := decide_eq_true (by omega)
    go_enter Tryz.func7, Tryz.ntmps7
    go_wp2_with fail
    refine (awake6_any _ HR.out).mono ?_
    rintro e w1 ⟨rfl, hb1⟩
    have H1 := Lib.hid hb1
    clear hb1
    go_wp2_with fail
    refine (awake6_any _ (HR.out.on H1.out)).mono ?_
    rintro e w2 ⟨rfl, hb2⟩
    have H2 := Lib.hid (H1.out.trans (hb2.mono H1.out.size))
    clear hb2
    go_wp2_with fail
    go_ret
    exact ⟨rfl, H2.out⟩

set_option maxRecDepth 100000 in
theorem lifted (os : Os) (started : os.Started) (H : Type) (enc : TypeId × Value → H) :
    ReturnsInHanded {} Tryz.checked os 7 .any (fun w args => (Rows.readerTwiceSpec.pre enc Tryz.prog Tryz.f7 [] false w args ∧ laidMetH Tryz.prog Rows.readerTwiceRow.laid w) ∧ sizedMet enc Tryz.prog Tryz.f7 (OpenSpec.ofChange Rows.readerTwiceSpec) false w args)
      (Rows.readerTwiceSpec.post enc Tryz.prog Tryz.f7 false true false false) := by
  refine returnsInHanded_of_change_and (C := Tryz.checked) (X := fun w _ => laidMetH Tryz.prog Rows.readerTwiceRow.laid w) (fun _ _ _ hh h => h.of_heap hh) own started (by kernel_rfl) Tryz.func7
    (ChangeSpec.witness_shaped (enc := enc) (C := Tryz.checked) (os := os) (X := fun w _ => laidMetH Tryz.prog Rows.readerTwiceRow.laid w) false (World.laidAll Tryz.prog os Rows.readerTwiceRow.laid) #[.string ByteArray.empty, .int .u8 0, .int .u8 0] 8 (World.laidAll_os _ _ _) (World.shaped_of_ZipB (by kernel_rfl) (by kernel_rfl)) (by kernel_rfl) (by kernel_rfl) (by kernel_rfl) (by rw [MakeChecks.laidMetH_plain _ _ _ (by kernel_rfl)]; exact laidMet_laidAll _ (by kernel_rfl) (by kernel_rfl))) ?_
  intro W base args ds gs before hval0 hW _ _ hL _
  have hval : ∀ (j : Nat) t v, Tryz.f7.params[j]? = some t → args[j]? = some v → Value.okWide Tryz.prog W .any base t v := hval0
  have hW' := hW
  obtain ⟨p, q, hA0, hV, rfl, hfz, hnd⟩ := hW
  have hA : DataW.TrodAll enc Tryz.prog W 0 (fun _ => true) true Tryz.f7.params.toList args.toList ds p := hA0
  rw [Tryz.params7] at hA hval
  obtain ⟨v0, vs0, d0, ds0, p0, q0, hargs, rfl, rfl, h0, r0⟩ := trodAll_cons hA
  obtain ⟨v1, vs1, d1, ds1, p1, q1, rfl, rfl, rfl, h1, r1⟩ := trodAll_cons r0
  obtain ⟨v2, vs2, d2, ds2, p2, q2, rfl, rfl, rfl, h2, r2⟩ := trodAll_cons r1
  obtain ⟨rfl, rfl, rfl⟩ := trodAll_nil r2
  obtain rfl : args = #[v0, v1, v2] := by cases args; simp_all
  obtain ⟨rfl, rfl⟩ := trodVars_none hV
  obtain ⟨s0, rfl, rfl, rfl, w0⟩ := open_string Tryz.underlying9 (hval 0 9 v0 rfl rfl) h0
  obtain ⟨x1, rfl, rfl, rfl, w1⟩ := open_int Tryz.underlying5 (hval 1 5 v1 rfl rfl) h1
  have b1 := w1
  simp only [Lit.wf, decide_eq_true_eq, Bool.and_eq_true] at b1
  have eu8a : IntKind.u8.min = 0 := rfl
  have eu8b : IntKind.u8.max = 255 := rfl
  have ei64a : IntKind.i64.min = -9223372036854775808 := rfl
  have ei64b : IntKind.i64.max = 9223372036854775807 := rfl
  have eu32a : IntKind.u32.min = 0 := rfl
  have eu32b : IntKind.u32.max = 4294967295 := rfl
  obtain ⟨x2, rfl, rfl, rfl, w2⟩ := open_int Tryz.underlying5 (hval 2 5 v2 rfl rfl) h2
  have b2 := w2
  simp only [Lit.wf, decide_eq_true_eq, Bool.and_eq_true] at b2
  have eu8a : IntKind.u8.min = 0 := rfl
  have eu8b : IntKind.u8.max = 255 := rfl
  have ei64a : IntKind.i64.min = -9223372036854775808 := rfl
  have ei64b : IntKind.i64.max = 9223372036854775807 := rfl
  have eu32a : IntKind.u32.min = 0 := rfl
  have eu32b : IntKind.u32.max = 4294967295 := rfl
  clear hA0 hval0
  refine (walk s0 x1 x2 W w0 (by omega) (by omega) (by omega) (by omega) (errs hL)).mono fun e W' ⟨he, bel⟩ => ?_
  subst he
  exact ⟨_, rfl, _, _, _, [], _, [], hW', trodAll_mk1 (shut_bool Tryz.underlying4 _), (trodAll_cons_mk (shut_string Tryz.underlying9 w0) (trodAll_cons_mk (shut_int Tryz.underlying5 w1) (trodAll_cons_mk (shut_int Tryz.underlying5 w2) trodAll_mk0))), rfl, bel.frame _, fun h => by cases h⟩

theorem said : Rows.ReaderTwiceSaid :=
  OpenClaim.holds_of_wide 7 Tryz.f7 rfl rfl rfl rfl rfl rfl rfl ⟨rfl, rfl, rfl, rfl, rfl⟩ rfl rfl rfl rfl rfl (by kernel_rfl) Tryz.func7 (by kernel_rfl)
    (of_decide_eq_true (by kernel_rfl)) (by unfold Func.isWrapper; first | (rw [if_pos (by decide +kernel)]; kernel_rfl) | (rw [if_neg (by decide +kernel)]; exact ⟨rfl, rfl⟩))
    (fun os started H enc _ => lifted os started H enc)

/-- no parameter wants a stand-in -/
theorem plain (f : FuncId) (fn : Func) (hf : Tryz.pinned.checked.prog.funcNamed "cheval/chevallaw06.ReaderTwice" = some f) (hfn : Tryz.pinned.checked.prog.funcs[f]? = some fn) :
    true = Tryz.pinned.checked.prog.looks [] ∧ ∀ (j : Nat) t, fn.params[j]? = some t → Tryz.pinned.checked.prog.wantsStandIn t = false := by
  obtain rfl : f = 7 := Option.some.inj ((show Tryz.prog.funcNamed "cheval/chevallaw06.ReaderTwice" = some 7 by kernel_rfl).symm.trans hf) |>.symm
  obtain rfl : fn = Tryz.f7 := (Option.some.inj (Tryz.func7.symm.trans hfn)).symm
  refine ⟨by kernel_rfl, fun j t ht => ?_⟩
  rw [Tryz.params7] at ht
  have hm := Array.mem_of_getElem? ht
  simp only [List.mem_toArray, List.mem_cons, List.not_mem_nil, or_false] at hm
  rcases hm with rfl | rfl | rfl
  · exact (show Tryz.prog.wantsStandIn 9 = false by kernel_rfl)
  · exact (show Tryz.prog.wantsStandIn 5 = false by kernel_rfl)
  · exact (show Tryz.prog.wantsStandIn 5 = false by kernel_rfl)

/-- The statement: the tied card. -/
theorem card : Rows.ReaderTwiceCardSaid :=
  Claim7.holds_tied_plain_at .later [] _ _ _ _ said (fun _ h => by cases h) (by kernel_rfl) (fun _ h => by cases h) readerTwice_row_tie rfl ⟨rfl, rfl⟩ (by kernel_rfl) rfl plain (by kernel_rfl)
end Go.Proofs.YthfhlblpjjniiaaGreatDoor.readerTwice
