/- As many arrays as may be stand in one another, and not one more: for every two bytes, over the library's variables as they are laid. -/
import Derived.Test.YthfhlblpjjniiaaGreatDoorCards
import Derived.Test.YthfhlblpjjniiaaGreatDoorTie
import Derived.WalkKit
import Derived.ProofKit
import Derived.OpenShut
import Derived.ChangeOld
import Derived.ShutString
import Derived.Below
import Derived.LaidMore
import Derived.Lib.LaidTab
import Derived.Stop.Joined
import Derived.Stop.LaidErr
import Derived.SevenTiedAt
import Derived.Lay
import Derived.Test.YthfhlblpjjniiaaGreatDoorMS
import Derived.Test.YthfhlblpjjniiaaGreatDoorMT
namespace Go.Proofs.YthfhlblpjjniiaaGreatDoor.readerNests
open Go.ChangeShapes Go.WideShapes Go.ChangeAt Go.RowKit
open Go.ChangeMaps (open_string shut_string)
open Tk Pl
set_option linter.unusedVariables false

theorem own : ownKnob Tryz.prog.godebug = none := by kernel_rfl
theorem laidOut : laidOutB Tryz.prog = true := by kernel_rfl
theorem gRange : Tryz.prog.globalNamed "strconv.ErrRange" = some 7 := by kernel_rfl
theorem star : "*" ++ "errors.errorString" = "*errors.errorString" := by decide
theorem rowPtr (u : TypeId) (h : Tryz.prog.typeName? 3 u = some "*errors.errorString") : u = 269 :=
  typeName_ptr_named (nm := "errors.errorString") (by rw [star]; kernel_rfl) (by kernel_rfl) (by decide) u (by rw [star]; exact h)
/-- what the row's list gives -/
theorem errs {W : World} (h : laidMetH Tryz.prog Rows.readerNestsRow.laid W) : RangeErr W := by
  have h' : laidMet Tryz.prog Rows.readerNestsRow.laid W := h
  obtain ⟨a, s, hv, _⟩ := laid_sentinel h'.tail.tail.tail.tail gRange (by kernel_rfl) Tryz.underlying140 rowPtr Tryz.underlying269 Tryz.underlying271 rfl rfl Tryz.underlying9 (by kernel_rfl) (by kernel_rfl)
  exact ⟨_, _, hv⟩

theorem ref_c (B0 : Nat) (t : T) (A : Option Addr) (c : Nat) (A' : Option Addr) (c' : Nat) (w : World) (ht : t.size ≤ 100000) (hB : B0 ≤ w.heap.size) (hv : TV w (· < B0) t A c A' c') :
    Calls Tryz.prog 17 #[.agg #[.int .i64 t.kind, .bool t.tr, .int .i64 t.num, .string t.str, .slice A t.items.length c, .slice A' t.keys.length c']] w (GivesR B0 t w) := ref_any B0 t A c A' c' w ht hB hv
theorem rdepth_c (t : T) (A : Option Addr) (c : Nat) (A' : Option Addr) (c' : Nat) (w : World) (ht : t.size ≤ 100000) (hk : t.Kinds) (hv : TV w (· < w.heap.size) t A c A' c') :
    Calls Tryz.prog 22 #[.agg #[.int .i64 t.kind, .bool t.tr, .int .i64 t.num, .string t.str, .slice A t.items.length c, .slice A' t.keys.length c']] w fun e w' => e = .returned (.int .i64 t.depth) ∧ Below w.heap.size w w' := rdepth_any 100000 t A c A' c' w ht (Nat.le_refl _) hk hv
theorem rep_next {k : Nat} {c : UInt8} {L : List UInt8} {A x : ByteArray} (hA : A.data.toList = L ++ List.replicate k c) (h : x.data.toList = [c]) : (A ++ x).data.toList = L ++ List.replicate (k + 1) c := by
  rw [ByteArray.data_append, Array.toList_append, h, hA, List.replicate_succ', List.append_assoc]
theorem dat_size {A : ByteArray} {L : List UInt8} (h : A.data.toList = L) : A.size = L.length := by
  rw [← h]; simp
theorem nest_size : ∀ n, (Rd.nestT n).size = n + 1
  | 0 => by unfold Rd.nestT; rfl
  | n + 1 => by
    unfold Rd.nestT
    rw [T.size_eq]
    show 1 + T.sizes [Rd.nestT n] = _
    simp only [T.sizes, nest_size n]; omega
theorem nest_g : ∀ n, Rd.G (Rd.nestT n)
  | 0 => by unfold Rd.nestT; exact Rd.g_arr (fun x hx => by cases hx)
  | n + 1 => by unfold Rd.nestT; exact Rd.g_arr (fun x hx => by rw [List.mem_singleton.1 hx]; exact nest_g n)
theorem empty_whole (O : List (ByteArray × T) → T) (room : Nat) : Rd.whole O ⟨#[]⟩ room = .err 0 1 := by kernel_rfl
theorem parse_whole {s : ByteArray} {d : Nat} (hd : d ≤ 64) (hs : s.size ≤ 16384) : Rd.parseR s d = Rd.whole Rd.Ob s d := by
  unfold Rd.parseR
  rw [if_neg (by omega), if_neg (by omega)]
  rfl
theorem bt_rep {s : ByteArray} {m : Nat} {L : List UInt8} (h : s.data.toList = List.replicate m 91 ++ L) : ∀ i, i < m → bt s i = 91 := fun i hi => by
  have h1 : s.data.toList[i]? = some 91 := by rw [h, List.getElem?_append_left (by simpa using hi), List.getElem?_replicate, if_pos hi]
  unfold bt
  rw [List.getD_eq_getElem?_getD, h1]
  rfl
set_option maxRecDepth 100000 in
set_option maxHeartbeats 8000000 in
theorem walk (n x : Int) (w : World) (hn0 : 0 ≤ n) (hn1 : n ≤ 255) (hx0 : 0 ≤ x) (hx1 : x ≤ 255) (hr : RangeErr w) :
    Calls Tryz.prog 6 #[.int .u8 n, .int .u8 x] w fun e w' => e = .returned (.bool true) ∧ Below w.heap.size w w' := by
  have HR := Lib.hid hr
  clear hr
  obtain ⟨m, hm, hm7⟩ : ∃ m : Nat, n % 80 = (m : Int) ∧ m < 80 := ⟨(n % 80).toNat, by omega, by omega⟩
  obtain ⟨d, hd, hd7⟩ : ∃ d : Nat, x % 65 = (d : Int) ∧ d < 65 := ⟨(x % 65).toNat, by omega, by omega⟩
  have hmt : n.tmod 80 = (m : Int) := by rw [Int.tmod_eq_emod_of_nonneg hn0]; exact hm
  have hdt : x.tmod 65 = (d : Int) := by rw [Int.tmod_eq_emod_of_nonneg hx0]; exact hd
  go_enter Tryz.func6, Tryz.ntmps6
  go_wp2_with fail
  refine (awake6_any _ HR.out).mono ?_
  rintro e w1 ⟨rfl, hb1⟩
  have H1 := Lib.hid hb1
  clear hb1
  go_wp2_with fail
  go_loop [7, 24] (fun a y => ∃ (k : Nat) (A : ByteArray), k ≤ m ∧ A.data.toList = [] ++ List.replicate k 91 ∧ a = .string A ∧ y = .int .i64 k) (fun _ y => m - (intOf y).toNat)
  case atStart => exact ⟨0, ⟨#[]⟩, Nat.zero_le _, rfl, rfl, rfl⟩
  case round =>
    obtain ⟨k, A, hk, hA, rfl, rfl⟩ := hrel
    have HA := Lib.hid hA
    have hAs : A.size ≤ 80 := by rw [dat_size hA]; simp; omega
    clear hA
    by_cases hlt : k < m
    · have u1 : decide (k < m) = true := decide_eq_true hlt
      have u2 : decide ((k : Int) < (m : Int)) = true := decide_eq_true (by omega)
      go_wp2_with fail
      go_round
      case rel => exact ⟨k + 1, _, hlt, rep_next HA.out rfl, rfl, by go_num⟩
      case measure => simp [intOf]; omega
    · obtain rfl : k = m := by omega
      have u1 : decide (k < k) = false := decide_eq_false (by omega)
      have u2 : decide ((k : Int) < (k : Int)) = false := decide_eq_false (by omega)
      go_wp2_with fail
      go_loop [7, 31] (fun a y => ∃ (j : Nat) (B : ByteArray), j ≤ k ∧ B.data.toList = List.replicate k 91 ++ List.replicate j 93 ∧ a = .string B ∧ y = .int .i64 j) (fun _ y => k - (intOf y).toNat)
      case atStart => exact ⟨0, A, Nat.zero_le _, by rw [HA.out]; simp, rfl, rfl⟩
      case round =>
        obtain ⟨j, B, hj, hB, rfl, rfl⟩ := hrel
        have HB := Lib.hid hB
        have hBs : B.size ≤ 160 := by rw [dat_size hB]; simp; omega
        clear hB
        by_cases hlt2 : j < k
        · have u3 : decide (j < k) = true := decide_eq_true hlt2
          have u4 : decide ((j : Int) < (k : Int)) = true := decide_eq_true (by omega)
          go_wp2_with fail
          go_round
          case rel => exact ⟨j + 1, _, hlt2, rep_next HB.out rfl, rfl, by go_num⟩
          case measure => simp [intOf]; omega
        · have hjk : j = k := by omega
          subst hjk
          have u3 : decide (j < j) = false := decide_eq_false (by omega)
          have u4 : decide ((j : Int) < (j : Int)) = false := decide_eq_false (by omega)
          have HP := Lib.hid (parse_any6 B (d : Int) w1 (HR.out.on H1.out))
          rw [parse_whole (by omega) (by omega)] at HP
          by_cases hz : j = 0
          · have uz : ((j : Int) == 0) = true := by rw [hz]; rfl
            have hB0 : B = ⟨#[]⟩ := by
              have h0 := HB.out
              rw [hz] at h0
              exact ByteArray.ext (Array.ext' h0)
            have hw : Rd.whole Rd.Ob B d = .err 0 1 := by rw [hB0]; exact empty_whole _ _
            rw [hw] at HP
            clear hw hB0 hz
            go_wp2_with fail
            refine HP.out.mono ?_
            rintro e w2 ⟨rfl, hb2⟩
            have H2 := Lib.hid ((H1.out.trans (hb2.mono H1.out.size)).alloc (Nat.le_trans H1.out.size hb2.size) (.cells #[.int .i64 0, .bool false, .int .i64 0, .string ⟨#[]⟩, .slice none 0 0, .slice none 0 0] 26))
            clear hb2
            unfold T.agg
            go_wp2_with fail
            go_ret
            exact ⟨by simp, H2.out⟩
          · have uz : ((j : Int) == 0) = false := by rw [beq_eq_false_iff_ne]; omega
            by_cases hd2 : d < j
            · have ud : decide ((j : Int) > (d : Int)) = true := decide_eq_true (by omega)
              have ud2 : decide ((d : Int) < (j : Int)) = true := decide_eq_true (by omega)
              have ud3 : decide (d < j) = true := decide_eq_true hd2
              have hw : Rd.whole Rd.Ob B d = .err d 6 := Rd.whole_deep _ (bt_rep HB.out) hd2
              rw [hw] at HP
              clear hw
              go_wp2_with fail
              refine HP.out.mono ?_
              rintro e w2 ⟨rfl, hb2⟩
              have H2 := Lib.hid ((H1.out.trans (hb2.mono H1.out.size)).alloc (Nat.le_trans H1.out.size hb2.size) (.cells #[.int .i64 0, .bool false, .int .i64 0, .string ⟨#[]⟩, .slice none 0 0, .slice none 0 0] 26))
              clear hb2
              unfold T.agg
              go_wp2_with fail
              go_ret
              exact ⟨by simp, H2.out⟩
            · have ud : decide ((j : Int) > (d : Int)) = false := decide_eq_false (by omega)
              have ud2 : decide ((d : Int) < (j : Int)) = false := decide_eq_false (by omega)
              have ud3 : decide (d < j) = false := decide_eq_false hd2
              obtain ⟨j, rfl⟩ : ∃ i, j = i + 1 := ⟨j - 1, by omega⟩
              have uz' : ((j : Int) + 1 == 0) = false := by rw [beq_eq_false_iff_ne]; omega
              have ue : decide ((j : Int) + 1 > (d : Int)) = false := decide_eq_false (by omega)
              have ue2 : decide ((d : Int) < (j : Int) + 1) = false := decide_eq_false (by omega)
              have ue3 : decide (d < j + 1) = false := decide_eq_false (by omega)
              have hg := nest_g j
              have hw : Rd.whole Rd.Ob B d = .val (Rd.nestT j) 0 := (Rd.whole_txt Rd.Ob_good hg.1 hg.2 (by rw [HB.out, Rd.nest_txt]) d).1 (by rw [Rd.nest_depth]; omega)
              rw [hw] at HP
              have hw2 : Rd.whole Rd.Ob A d = .err A.size 1 := Rd.whole_open _ (fun i hi => bt_rep (s := A) (m := j + 1) (L := []) (by rw [HA.out]; simp) i (by rw [dat_size HA.out] at hi; simpa using hi)) (by rw [dat_size HA.out]; simp) (by rw [dat_size HA.out]; simp; omega)
              have hAz : A.size = j + 1 := by rw [dat_size HA.out]; simp
              have va : ((A.size : Int) == (j : Int) + 1) = true := by rw [hAz, beq_iff_eq]; omega
              have vd : (((j + 1 : Nat) : Int) == (j : Int) + 1) = true := by rw [beq_iff_eq]; omega
              have HAZ := Lib.hid hAz
              have hAs2 : A.size ≤ 80 := hAs
              have HSZ := Lib.hid (show (Rd.nestT j).size ≤ 100000 by rw [nest_size]; omega)
              have HKI := Lib.hid (T.Good.kinds hg.1)
              have HDE := Lib.hid (Rd.nest_depth j)
              generalize Rd.nestT j = v at *
              clear hw hg hd2 hAz
              go_wp2_with fail
              refine HP.out.mono ?_
              rintro e w2 ⟨C, c, C', c', rfl, hT, hb2⟩
              have hb2a : Below w2.heap.size w2 (w2.alloc (.cells #[.int .i64 v.kind, .bool v.tr, .int .i64 v.num, .string v.str, .slice C v.items.length c, .slice C' v.keys.length c'] 26)) := (Below.refl _ _).alloc (Nat.le_refl _) _
              have HV := Lib.hid (Blk.new w2 26 #[.int .i64 v.kind, .bool v.tr, .int .i64 v.num, .string v.str, .slice C v.items.length c, .slice C' v.keys.length c'])
              have H2 := Lib.hid (H1.out.trans (hb2.mono H1.out.size))
              have H3 := Lib.hid (H2.out.trans (hb2a.mono H2.out.size))
              have HT := Lib.hid (show TV (w2.alloc (.cells #[.int .i64 v.kind, .bool v.tr, .int .i64 v.num, .string v.str, .slice C v.items.length c, .slice C' v.keys.length c'] 26)) (· < w2.heap.size) v C c C' c' from (hT.keep fun i hi => hb2a.block i hi.2).wide fun i hi => hi.2)
              have HQ := Lib.hid (parse_any6 A (d : Int) (w2.alloc (.cells #[.int .i64 v.kind, .bool v.tr, .int .i64 v.num, .string v.str, .slice C v.items.length c, .slice C' v.keys.length c'] 26)) (HR.out.on H3.out))
              rw [parse_whole (by omega) (by omega), hw2] at HQ
              have hwl : w2.heap.size < (w2.alloc (.cells #[.int .i64 v.kind, .bool v.tr, .int .i64 v.num, .string v.str, .slice C v.items.length c, .slice C' v.keys.length c'] 26)).heap.size := by simp
              clear hb2 hb2a hT hw2
              unfold T.agg
              go_wp2_with fail
              change Calls _ _ _ (w2.alloc (.cells #[.int .i64 v.kind, .bool v.tr, .int .i64 v.num, .string v.str, .slice C v.items.length c, .slice C' v.keys.length c'] 26)) _
              generalize (w2.alloc (.cells #[.int .i64 v.kind, .bool v.tr, .int .i64 v.num, .string v.str, .slice C v.items.length c, .slice C' v.keys.length c'] 26)) = W3 at *
              refine HQ.out.mono ?_
              rintro e w4 ⟨rfl, hb4⟩
              have hb45 : Below w4.heap.size w4 (w4.alloc (.cells #[.int .i64 0, .bool false, .int .i64 0, .string ⟨#[]⟩, .slice none 0 0, .slice none 0 0] 26)) := (Below.refl _ _).alloc (Nat.le_refl _) _
              have hb35 : Below W3.heap.size W3 (w4.alloc (.cells #[.int .i64 0, .bool false, .int .i64 0, .string ⟨#[]⟩, .slice none 0 0, .slice none 0 0] 26)) := hb4.trans (hb45.mono hb4.size)
              have hV5 := HV.out.onto hb35
              have H5 := Lib.hid (H3.out.trans (hb35.mono H3.out.size))
              have HT5 := Lib.hid (show TV (w4.alloc (.cells #[.int .i64 0, .bool false, .int .i64 0, .string ⟨#[]⟩, .slice none 0 0, .slice none 0 0] 26)) (· < W3.heap.size) v C c C' c' from (HT.out.keep fun i hi => hb35.block i (by have : i < w2.heap.size := hi; omega)).wide fun i hi => by have : i < w2.heap.size := hi; show i < W3.heap.size; omega)
              have hs5 := hb35.size
              obtain ⟨a0, a1, a2, a3, a4, a5⟩ : (w4.alloc (.cells #[.int .i64 0, .bool false, .int .i64 0, .string ⟨#[]⟩, .slice none 0 0, .slice none 0 0] 26)).cell? ⟨w2.heap.size, 0, none⟩ = some (.int .i64 v.kind) ∧ (w4.alloc (.cells #[.int .i64 0, .bool false, .int .i64 0, .string ⟨#[]⟩, .slice none 0 0, .slice none 0 0] 26)).cell? ⟨w2.heap.size, 1, none⟩ = some (.bool v.tr) ∧ (w4.alloc (.cells #[.int .i64 0, .bool false, .int .i64 0, .string ⟨#[]⟩, .slice none 0 0, .slice none 0 0] 26)).cell? ⟨w2.heap.size, 2, none⟩ = some (.int .i64 v.num) ∧ (w4.alloc (.cells #[.int .i64 0, .bool false, .int .i64 0, .string ⟨#[]⟩, .slice none 0 0, .slice none 0 0] 26)).cell? ⟨w2.heap.size, 3, none⟩ = some (.string v.str) ∧ (w4.alloc (.cells #[.int .i64 0, .bool false, .int .i64 0, .string ⟨#[]⟩, .slice none 0 0, .slice none 0 0] 26)).cell? ⟨w2.heap.size, 4, none⟩ = some (.slice C v.items.length c) ∧ (w4.alloc (.cells #[.int .i64 0, .bool false, .int .i64 0, .string ⟨#[]⟩, .slice none 0 0, .slice none 0 0] 26)).cell? ⟨w2.heap.size, 5, none⟩ = some (.slice C' v.keys.length c') := ⟨hV5.cell 0, hV5.cell 1, hV5.cell 2, hV5.cell 3, hV5.cell 4, hV5.cell 5⟩
              unfold T.agg
              clear hb4 hb45 hb35 hV5
              go_upto_region 20 with fail
              change Code.wp _ _ _ _ (w4.alloc (.cells #[.int .i64 0, .bool false, .int .i64 0, .string ⟨#[]⟩, .slice none 0 0, .slice none 0 0] 26))
              generalize (w4.alloc (.cells #[.int .i64 0, .bool false, .int .i64 0, .string ⟨#[]⟩, .slice none 0 0, .slice none 0 0] 26)) = W5 at *
              go_wp2_with fail
              refine (ref_c W3.heap.size v C c C' c' W5 HSZ.out hs5 HT5.out).mono ?_
              rintro e w6 ⟨D, g, D', g', rfl, hT6, hb6⟩
              have H6 := Lib.hid (H5.out.trans (hb6.mono H5.out.size))
              have HT6 := Lib.hid (show TV w6 (· < w6.heap.size) v D g D' g' from hT6.wide fun i hi => by
                have := hb6.size
                rcases hi with hi | hi
                · show i < w6.heap.size; omega
                · exact hi.2)
              clear hb6 hT6 a0 a1 a2 a3 a4 a5
              unfold T.agg
              go_wp2_with fail
              refine (rdepth_c v D g D' g' w6 HSZ.out HKI.out HT6.out).mono ?_
              rintro e w7 ⟨rfl, hb7⟩
              rw [HDE.out]
              have H7 := Lib.hid (H6.out.trans (hb7.mono H6.out.size))
              go_wp2_with fail
              go_ret
              exact ⟨by simp, H7.out⟩

set_option maxRecDepth 100000 in
theorem lifted (os : Os) (started : os.Started) (H : Type) (enc : TypeId × Value → H) :
    ReturnsInHanded {} Tryz.checked os 6 .any (fun w args => (Rows.readerNestsSpec.pre enc Tryz.prog Tryz.f6 [] false w args ∧ laidMetH Tryz.prog Rows.readerNestsRow.laid w) ∧ sizedMet enc Tryz.prog Tryz.f6 (OpenSpec.ofChange Rows.readerNestsSpec) false w args)
      (Rows.readerNestsSpec.post enc Tryz.prog Tryz.f6 false true false false) := by
  refine returnsInHanded_of_change_and (C := Tryz.checked) (X := fun w _ => laidMetH Tryz.prog Rows.readerNestsRow.laid w) (fun _ _ _ hh h => h.of_heap hh) own started (by kernel_rfl) Tryz.func6
    (ChangeSpec.witness_shaped (enc := enc) (C := Tryz.checked) (os := os) (X := fun w _ => laidMetH Tryz.prog Rows.readerNestsRow.laid w) false (World.laidAll Tryz.prog os Rows.readerNestsRow.laid) #[.int .u8 0, .int .u8 0] 8 (World.laidAll_os _ _ _) (World.shaped_of_ZipB (by kernel_rfl) (by kernel_rfl)) (by kernel_rfl) (by kernel_rfl) (by kernel_rfl) (by rw [MakeChecks.laidMetH_plain _ _ _ (by kernel_rfl)]; exact laidMet_laidAll _ (by kernel_rfl) (by kernel_rfl))) ?_
  intro W base args ds gs before hval0 hW _ _ hL _
  have hval : ∀ (j : Nat) t v, Tryz.f6.params[j]? = some t → args[j]? = some v → Value.okWide Tryz.prog W .any base t v := hval0
  have hW' := hW
  obtain ⟨p, q, hA0, hV, rfl, hfz, hnd⟩ := hW
  have hA : DataW.TrodAll enc Tryz.prog W 0 (fun _ => true) true Tryz.f6.params.toList args.toList ds p := hA0
  rw [Tryz.params6] at hA hval
  obtain ⟨v0, vs0, d0, ds0, p0, q0, hargs, rfl, rfl, h0, r0⟩ := trodAll_cons hA
  obtain ⟨v1, vs1, d1, ds1, p1, q1, rfl, rfl, rfl, h1, r1⟩ := trodAll_cons r0
  obtain ⟨rfl, rfl, rfl⟩ := trodAll_nil r1
  obtain rfl : args = #[v0, v1] := by cases args; simp_all
  obtain ⟨rfl, rfl⟩ := trodVars_none hV
  obtain ⟨x0, rfl, rfl, rfl, w0⟩ := open_int Tryz.underlying5 (hval 0 5 v0 rfl rfl) h0
  have b0 := w0
  simp only [Lit.wf, decide_eq_true_eq, Bool.and_eq_true] at b0
  have eu8a : IntKind.u8.min = 0 := rfl
  have eu8b : IntKind.u8.max = 255 := rfl
  have ei64a : IntKind.i64.min = -9223372036854775808 := rfl
  have ei64b : IntKind.i64.max = 9223372036854775807 := rfl
  have eu32a : IntKind.u32.min = 0 := rfl
  have eu32b : IntKind.u32.max = 4294967295 := rfl
  obtain ⟨x1, rfl, rfl, rfl, w1⟩ := open_int Tryz.underlying5 (hval 1 5 v1 rfl rfl) h1
  have b1 := w1
  simp only [Lit.wf, decide_eq_true_eq, Bool.and_eq_true] at b1
  have eu8a : IntKind.u8.min = 0 := rfl
  have eu8b : IntKind.u8.max = 255 := rfl
  have ei64a : IntKind.i64.min = -9223372036854775808 := rfl
  have ei64b : IntKind.i64.max = 9223372036854775807 := rfl
  have eu32a : IntKind.u32.min = 0 := rfl
  have eu32b : IntKind.u32.max = 4294967295 := rfl
  clear hA0 hval0
  refine (walk x0 x1 W (by omega) (by omega) (by omega) (by omega) (errs hL)).mono fun e W' ⟨he, bel⟩ => ?_
  subst he
  exact ⟨_, rfl, _, _, _, [], _, [], hW', trodAll_mk1 (shut_bool Tryz.underlying4 _), (trodAll_cons_mk (shut_int Tryz.underlying5 w0) (trodAll_cons_mk (shut_int Tryz.underlying5 w1) trodAll_mk0)), rfl, bel.frame _, fun h => by cases h⟩

theorem said : Rows.ReaderNestsSaid :=
  OpenClaim.holds_of_wide 6 Tryz.f6 rfl rfl rfl rfl rfl rfl rfl ⟨rfl, rfl, rfl, rfl, rfl⟩ rfl rfl rfl rfl rfl (by kernel_rfl) Tryz.func6 (by kernel_rfl)
    (of_decide_eq_true (by kernel_rfl)) (by unfold Func.isWrapper; first | (rw [if_pos (by decide +kernel)]; kernel_rfl) | (rw [if_neg (by decide +kernel)]; exact ⟨rfl, rfl⟩))
    (fun os started H enc _ => lifted os started H enc)

/-- no parameter wants a stand-in -/
theorem plain (f : FuncId) (fn : Func) (hf : Tryz.pinned.checked.prog.funcNamed "cheval/chevallaw06.ReaderNests" = some f) (hfn : Tryz.pinned.checked.prog.funcs[f]? = some fn) :
    true = Tryz.pinned.checked.prog.looks [] ∧ ∀ (j : Nat) t, fn.params[j]? = some t → Tryz.pinned.checked.prog.wantsStandIn t = false := by
  obtain rfl : f = 6 := Option.some.inj ((show Tryz.prog.funcNamed "cheval/chevallaw06.ReaderNests" = some 6 by kernel_rfl).symm.trans hf) |>.symm
  obtain rfl : fn = Tryz.f6 := (Option.some.inj (Tryz.func6.symm.trans hfn)).symm
  refine ⟨by kernel_rfl, fun j t ht => ?_⟩
  rw [Tryz.params6] at ht
  have hm := Array.mem_of_getElem? ht
  simp only [List.mem_toArray, List.mem_cons, List.not_mem_nil, or_false] at hm
  rcases hm with rfl | rfl
  · exact (show Tryz.prog.wantsStandIn 5 = false by kernel_rfl)
  · exact (show Tryz.prog.wantsStandIn 5 = false by kernel_rfl)

/-- The statement: the tied card. -/
theorem card : Rows.ReaderNestsCardSaid :=
  Claim7.holds_tied_plain_at .later [] _ _ _ _ said (fun _ h => by cases h) (by kernel_rfl) (fun _ h => by cases h) readerNests_row_tie rfl ⟨rfl, rfl⟩ (by kernel_rfl) rfl plain (by kernel_rfl)
end Go.Proofs.YthfhlblpjjniiaaGreatDoor.readerNests
