/- Isos: what is an iso: the program's Good, the reference's Uses and Good. Isos: the reference's Good; an iso by a number. Isos: an iso by a number. Arguments of layer 11's laws, opened: an iso by a number; what looks like one. -/
import Derived.Test.YtfiahpeajccinaaGreatDoorPI
import Derived.Test.YtfiahpeajccinaaGreatDoorPE
import Derived.Deep.Slices
import Derived.Deep.Fields
import Derived.ChangeSame
import Derived.ChangeSlices
import Derived.WideShapes
import Derived.ChangeShapes
import Derived.Test.YtfiahpeajccinaaGreatDoorPB
namespace Go.Proofs.YtfiahpeajccinaaGreatDoor
open Go.RowKit
open Tk Ex Pl
set_option linter.unusedVariables false
set_option linter.unusedSimpArgs false

open Classical in
/-- is it a text? -/
noncomputable def txtB (s : ByteArray) : Bool := decide (∃ l, Split s.data.toList l [])
theorem txtB_cases (s : ByteArray) : (txtB s = true ∧ ∃ l, Split s.data.toList l []) ∨ (txtB s = false ∧ ∃ l R, Split s.data.toList l R ∧ R ≠ []) := by
  unfold txtB
  by_cases h : ∃ l, Split s.data.toList l []
  · exact .inl ⟨@decide_eq_true _ (Classical.propDecidable _) h, h⟩
  · refine .inr ⟨@decide_eq_false _ (Classical.propDecidable _) h, ?_⟩
    obtain ⟨l, R, hs⟩ := split_ex _ s.data.toList (Nat.le_refl _)
    exact ⟨l, R, hs, fun e => h ⟨l, e ▸ hs⟩⟩
theorem gvalid_iz (s : ByteArray) : ∃ p : Int, ∀ w, Calls Tryz.prog 24 #[.string s] w fun e w' => e = .returned (.tuple #[.int .i64 p, .bool (txtB s)]) ∧ Below w.heap.size w w' := by
  rcases txtB_cases s with ⟨h, l, hs⟩ | ⟨h, l, R, hs, hR⟩
  · exact ⟨_, fun w => by rw [h]; exact valid_any s l [] hs w⟩
  · refine ⟨stopAt l R, fun w => ?_⟩
    rw [h, ← isFull_not hR]
    exact valid_any s l R hs w
theorem rvalid_iz (s : ByteArray) (hs : s.size ≤ 100000) (w : World) : Calls Tryz.prog 22 #[.string s] w fun e w' => e = .returned (.bool (txtB s)) ∧ Below w.heap.size w w' := by
  rcases txtB_cases s with ⟨h, l, hl⟩ | ⟨h, l, R, hl, hR⟩
  · rw [h]; exact rvalid_yes s l hl hs w
  · rw [h]; exact rvalid_no s l R hl hR hs w
theorem txtB_nil : txtB nix = true := by
  unfold txtB
  exact @decide_eq_true _ (Classical.propDecidable _) ⟨[], rfl, rfl, fun x hx => by cases hx⟩
/-- what the reference says that a name uses -/
def usesI : Nat → Int
  | 1 => 0
  | 2 => 1
  | 3 => 1
  | 4 => 2
  | _ => -1
theorem any_hit11 {l : List ByteArray} {s t : ByteArray} (ht : t ∈ l) (h : eqb s t = true) : l.any (eqb s) = true := List.any_eq_true.2 ⟨t, ht, h⟩
set_option maxRecDepth 100000 in
set_option maxHeartbeats 4000000 in
theorem ruses_any (s : ByteArray) (w : World) : Calls Tryz.prog 21 #[.string s] w fun e w' => e = .returned (.int .i64 (usesI (Iz.use s))) ∧ w = w' := by
  obtain ⟨b1, h1⟩ : ∃ b, eqb s (⟨#[112, 108, 117, 115]⟩ : ByteArray) = b := ⟨_, rfl⟩
  obtain ⟨b2, h2⟩ : ∃ b, eqb s (⟨#[116, 105, 109, 101, 115]⟩ : ByteArray) = b := ⟨_, rfl⟩
  obtain ⟨b3, h3⟩ : ∃ b, eqb s (⟨#[116, 97, 103]⟩ : ByteArray) = b := ⟨_, rfl⟩
  have f1 : (s.toList == [112, 108, 117, 115]) = b1 := tl_lit2 rfl h1
  have g1 : (s.toList == (⟨#[112, 108, 117, 115]⟩ : ByteArray).toList) = b1 := by rw [tl_eqb]; exact h1
  have f2 : (s.toList == [116, 105, 109, 101, 115]) = b2 := tl_lit2 rfl h2
  have g2 : (s.toList == (⟨#[116, 105, 109, 101, 115]⟩ : ByteArray).toList) = b2 := by rw [tl_eqb]; exact h2
  have f3 : (s.toList == [116, 97, 103]) = b3 := tl_lit2 rfl h3
  have g3 : (s.toList == (⟨#[116, 97, 103]⟩ : ByteArray).toList) = b3 := by rw [tl_eqb]; exact h3
  have HU1 := Lib.hid (show Iz.zeroW.any (eqb s) = true → Iz.use s = 1 from fun h => by unfold Iz.use; rw [if_pos h])
  have HU0 := Lib.hid (show Iz.zeroW.any (eqb s) = false → Iz.use s = if b1 = true then 2 else if b2 = true then 3 else if b3 = true then 4 else 0 from fun h => by
    unfold Iz.use Iz.plusW Iz.timesW Iz.tagW
    rw [if_neg (by rw [h]; decide)]
    simp only [h1, h2, h3])
  clear h1 h2 h3
  generalize Iz.use s = U at *
  go_enter Tryz.func21, Tryz.ntmps21
  go_wp2_with fail
  go_loop [6] (fun i => ∃ k : Nat, k ≤ 8 ∧ i = .int .i64 k ∧ (Iz.zeroW.take k).any (eqb s) = false) (fun i => 8 - (intOf i).toNat)
  case atStart => exact ⟨0, Nat.zero_le _, rfl, rfl⟩
  case round =>
    obtain ⟨k, hk, rfl, hany⟩ := hrel
    have HANY := Lib.hid hany
    clear hany
    by_cases hkn : k < 8
    · obtain ⟨t, ht⟩ : ∃ t, Iz.zeroW[k]? = some t := ⟨_, List.getElem?_eq_getElem (show k < Iz.zeroW.length from hkn)⟩
      have ix : ∀ w1 : World, (Instr.index 91 (.agg #[.string (⟨#[110, 101, 103]⟩ : ByteArray), .string (⟨#[102, 108, 105, 112]⟩ : ByteArray), .string (⟨#[114, 101, 118]⟩ : ByteArray), .string (⟨#[115, 119, 97, 112]⟩ : ByteArray), .string (⟨#[98, 111, 120]⟩ : ByteArray), .string (⟨#[115, 104, 111, 119]⟩ : ByteArray), .string (⟨#[99, 104, 97, 114, 115]⟩ : ByteArray), .string (⟨#[112, 97, 105, 114, 115]⟩ : ByteArray)]) (.int .i64 (k : Int))).run Tryz.prog w1 = .ok (.string t) w1 := by
        intro w1
        rcases (by omega : k = 0 ∨ k = 1 ∨ k = 2 ∨ k = 3 ∨ k = 4 ∨ k = 5 ∨ k = 6 ∨ k = 7) with rfl | rfl | rfl | rfl | rfl | rfl | rfl | rfl
        all_goals
          have e := Option.some.inj ht
          subst e
          first
            | kernel_rfl
            | rfl
      have HTK := Lib.hid (show Iz.zeroW.take (k + 1) = Iz.zeroW.take k ++ [t] by rw [List.take_add_one, ht]; rfl)
      have HM := Lib.hid (List.mem_of_getElem? ht)
      have i1 : (k : Int) < 8 := by omega
      have i2 : (0 : Int) ≤ (k : Int) := by omega
      have u1 : decide ((k : Int) < 8) = true := decide_eq_true i1
      clear ht f1 f2 f3 g1 g2 g3
      by_cases h : eqb s t = true
      · have f2 : (t.toList == s.toList) = true := by rw [BEq.comm, tl_eqb]; exact h
        have HH := Lib.hid h
        clear h
        go_wp2_with fail
        go_ret
        exact ⟨by rw [HU1.out (any_hit11 HM.out HH.out)] <;> rfl, rfl⟩
      · have h' : eqb s t = false := Bool.eq_false_iff.2 h
        have f2 : (t.toList == s.toList) = false := by rw [BEq.comm, tl_eqb]; exact h'
        have HH := Lib.hid h'
        clear h h'
        go_wp2_with fail
        go_round
        case rel =>
          refine ⟨k + 1, by omega, by go_num, ?_⟩
          rw [HTK.out, List.any_append, HANY.out]
          simp only [List.any_cons, List.any_nil, HH.out, Bool.or_false]
        case measure => simp [intOf]; omega
    · obtain rfl : k = 8 := by omega
      have hall : Iz.zeroW.any (eqb s) = false := HANY.out
      have HR := Lib.hid (HU0.out hall)
      clear hall HANY hkn HU0 HU1
      cases b1
      cases b2
      cases b3
      all_goals
        go_wp2_with fail
        go_ret
        exact ⟨by rw [HR.out] <;> rfl, rfl⟩
/-- is it an iso? -/
noncomputable def goodI (s : ByteArray) (N : Int) (k : ByteArray) : Bool := match Iz.use s with
  | 1 => N == 0 && k.toList.isEmpty
  | 2 => k.toList.isEmpty
  | 3 => N != 0 && k.toList.isEmpty
  | 4 => txtB k && N == 0
  | _ => false
set_option maxRecDepth 100000 in
set_option maxHeartbeats 4000000 in
theorem good_iz (s : ByteArray) (N : Int) (k : ByteArray) (w : World) : Calls Tryz.prog 8 #[.agg #[.string s, .int .i64 N, .string k]] w fun e w' => e = .returned (.bool (goodI s N k)) ∧ Below w.heap.size w w' := by
  obtain ⟨p, hv⟩ := gvalid_iz k
  have HV := Lib.hid hv
  obtain ⟨bk, hbk⟩ : ∃ b, k.toList.isEmpty = b := ⟨_, rfl⟩
  obtain ⟨bn, hbn⟩ : ∃ b, (N == 0) = b := ⟨_, rfl⟩
  have k1 : (k.toList == []) = bk := by rw [← hbk]; cases k.toList <;> rfl
  have k2 : (k.toList == (⟨#[]⟩ : ByteArray).toList) = bk := by
    rw [show (⟨#[]⟩ : ByteArray).toList = [] from by decide +kernel]; exact k1
  have n1 : (N != 0) = !bn := by rw [bne, hbn]
  obtain ⟨A, B, hk⟩ : ∃ A B, kindV (kindN s) = .agg #[.int .i64 (Iz.use s : Nat), A, B] := ⟨_, _, by rw [use_kind]; rfl⟩
  have HKI := Lib.hid (fun w1 => kind_any s w1)
  rw [hk] at HKI
  have HG := Lib.hid (show goodI s N k = match Iz.use s with
    | 1 => bn && bk
    | 2 => bk
    | 3 => !bn && bk
    | 4 => txtB k && bn
    | _ => false from by unfold goodI; rw [hbk, hbn, n1])
  have hu := Iz.use_le s
  have hfld : ∀ (v : Value) (w1 : World), (Instr.field 62 (.agg #[v, A, B]) 0).run Tryz.prog w1 = .ok v w1 := fun v w1 => by kernel_rfl
  clear hk hv
  generalize goodI s N k = res at *
  generalize txtB k = tb at *
  generalize Iz.use s = u at *
  rcases (by omega : u = 0 ∨ u = 1 ∨ u = 2 ∨ u = 3 ∨ u = 4) with h | h | h | h | h <;> subst h
  all_goals
    go_enter Tryz.func8, Tryz.ntmps8
    go_upto_region 1 with fail
    refine alloc_gz (fun W hW hB => ?_)
    have HW := Lib.hid hW
    have c0 := hB.cell 0
    have c1 := hB.cell 1
    have c2 := hB.cell 2
    clear hW
    have HB := Lib.hid hB
    clear hB
    go_wp2_with fail
    refine (HKI.out _).mono ?_
    rintro e w2 ⟨rfl, hb⟩
    have HW2 := Lib.hid (HW.out.trans (hb.mono HW.out.size))
    have HB2 := Lib.hid (HB.out.onto hb)
    clear hb c0 c1 c2
    have c0 := HB2.out.cell 0
    have c1 := HB2.out.cell 1
    have c2 := HB2.out.cell 2
  · go_wp2_with fail
    go_ret
    exact ⟨by rw [HG.out] <;> rfl, HW2.out⟩
  · cases bn
    all_goals
      go_wp2_with fail
      go_ret
      exact ⟨by rw [HG.out] <;> rfl, HW2.out⟩
  · go_wp2_with fail
    go_ret
    exact ⟨by rw [HG.out] <;> rfl, HW2.out⟩
  · cases bn
    all_goals
      go_wp2_with fail
      go_ret
      exact ⟨by rw [HG.out] <;> rfl, HW2.out⟩
  · go_wp2_with fail
    refine (HV.out _).mono ?_
    rintro e w3 ⟨rfl, hb⟩
    have HW3 := Lib.hid (HW2.out.trans (hb.mono HW2.out.size))
    have HB3 := Lib.hid (HB2.out.onto hb)
    clear hb c0 c1 c2
    have c0 := HB3.out.cell 0
    have c1 := HB3.out.cell 1
    have c2 := HB3.out.cell 2
    cases tb
    all_goals
      go_wp2_with fail
      go_ret
      exact ⟨by rw [HG.out] <;> rfl, HW3.out⟩
end Go.Proofs.YtfiahpeajccinaaGreatDoor
namespace Go.Proofs.YtfiahpeajccinaaGreatDoor
open Go.RowKit
open Tk Ex Pl
set_option linter.unusedVariables false
set_option linter.unusedSimpArgs false

theorem use_times (s : ByteArray) : eqb s Iz.timesW = decide (Iz.use s = 3) := by
  cases h : eqb s Iz.timesW with
  | true => rw [(lit_kind s _ h).1]; exact (decide_eq_true (by decide +kernel)).symm
  | false =>
    refine (decide_eq_false ?_).symm
    unfold Iz.use
    split
    · omega
    · split
      · omega
      · rename_i h1 h2
        rw [if_neg (by rw [h]; decide)]
        split <;> omega
set_option maxRecDepth 100000 in
set_option maxHeartbeats 8000000 in
theorem rgood_iz (s : ByteArray) (N : Int) (k : ByteArray) (w : World) (hk : k.size ≤ 100000) : Calls Tryz.prog 9 #[.agg #[.string s, .int .i64 N, .string k]] w fun e w' => e = .returned (.bool (goodI s N k)) ∧ Below w.heap.size w w' := by
  have HV := Lib.hid (fun w1 => rvalid_iz k hk w1)
  have HRU := Lib.hid (fun w1 => ruses_any s w1)
  obtain ⟨bk, hbk⟩ : ∃ b, k.toList.isEmpty = b := ⟨_, rfl⟩
  obtain ⟨bn, hbn⟩ : ∃ b, (N == 0) = b := ⟨_, rfl⟩
  have HTB := Lib.hid (show bk = true → txtB k = true from fun h => by
    rw [← hbk] at h
    have h1 : k.data.toList = [] := by rw [← ByteArray.toList_eq]; exact List.isEmpty_iff.1 h
    have h2 : txtB k = txtB nix := by unfold txtB; rw [h1]; rfl
    rw [h2]; exact txtB_nil)
  have k1 : (k.toList == []) = bk := by rw [← hbk]; cases k.toList <;> rfl
  have k2 : (k.toList == (⟨#[]⟩ : ByteArray).toList) = bk := by
    rw [show (⟨#[]⟩ : ByteArray).toList = [] from by decide +kernel]; exact k1
  have k3 : (k.toList != []) = !bk := by rw [bne, k1]
  have k4 : (k.toList != (⟨#[]⟩ : ByteArray).toList) = !bk := by rw [bne, k2]
  have n1 : (N != 0) = !bn := by rw [bne, hbn]
  have hut := use_times s
  unfold Iz.timesW at hut
  have HG := Lib.hid (show goodI s N k = match Iz.use s with
    | 1 => bn && bk
    | 2 => bk
    | 3 => !bn && bk
    | 4 => txtB k && bn
    | _ => false from by unfold goodI; rw [hbk, hbn, n1] <;> rfl)
  have hu := Iz.use_le s
  clear hk
  generalize goodI s N k = res at *
  generalize txtB k = tb at *
  generalize Iz.use s = u at *
  rcases (by omega : u = 0 ∨ u = 1 ∨ u = 2 ∨ u = 3 ∨ u = 4) with h | h | h | h | h <;> subst h
  all_goals
    obtain ⟨bt, hbt⟩ : ∃ b, b = eqb s ⟨#[116, 105, 109, 101, 115]⟩ := ⟨_, rfl⟩
    have hbt2 := hbt.trans hut
    first
      | rw [show decide ((3 : Nat) = 3) = true from rfl] at hbt2
      | rw [show decide (_ = 3) = false from rfl] at hbt2
    subst hbt2
    have f2 := tl_lit2 (l := [116, 105, 109, 101, 115]) rfl hbt.symm
    have g2 := (tl_eqb s ⟨#[116, 105, 109, 101, 115]⟩).trans hbt.symm
    have f3 : (s.toList != [116, 105, 109, 101, 115]) = !(s.toList == [116, 105, 109, 101, 115]) := rfl
    have g3 : (s.toList != (⟨#[116, 105, 109, 101, 115]⟩ : ByteArray).toList) = !(s.toList == (⟨#[116, 105, 109, 101, 115]⟩ : ByteArray).toList) := rfl
    rw [f2] at f3
    rw [g2] at g3
    clear hut hbt hu
    cases bn
  all_goals cases bk
  all_goals
    go_enter Tryz.func9, Tryz.ntmps9
    go_upto_region 1 with fail
    refine alloc_gz (fun W hW hB => ?_)
    have HW := Lib.hid hW
    have c0 := hB.cell 0
    have c1 := hB.cell 1
    have c2 := hB.cell 2
    clear hW hB
    go_wp2_with fail
    refine (HRU.out _).mono ?_
    rintro e w2 ⟨rfl, rfl⟩
    unfold usesI
    dsimp only
    go_wp2_with fail
    first
      | (go_ret
         exact ⟨by rw [HG.out]; first | rfl | (cases tb <;> rfl), HW.out⟩)
      | (refine (HV.out _).mono ?_
         rintro e w3 ⟨rfl, hb⟩
         have HW3 := Lib.hid (HW.out.trans (hb.mono HW.out.size))
         clear hb
         go_wp2_with fail
         go_ret
         exact ⟨by first | (rw [HG.out, HTB.out (by trivial)]; rfl) | (rw [HG.out]; first | rfl | (cases tb <;> rfl)), HW3.out⟩)
end Go.Proofs.YtfiahpeajccinaaGreatDoor
namespace Go.Proofs.YtfiahpeajccinaaGreatDoor
open Go.RowKit
open Tk Ex Pl
set_option linter.unusedVariables false
set_option linter.unusedSimpArgs false

def ofName : List ByteArray := [Iz.negW, Iz.flipW, Iz.revW, Iz.swapW, Iz.boxW, Iz.showW, Iz.charsW, Iz.pairsW, Iz.plusW, Iz.timesW, Iz.tagW]
def kW : ByteArray := ⟨#[107]⟩
/-- the iso of a number, an integer and a text -/
noncomputable def ofI (s : ByteArray) (n : Int) (k : ByteArray) : Iz.Iso := match Iz.use s with
  | 2 => ⟨s, n, nix⟩
  | 3 => ⟨s, if (n == 0) = true then 3 else n, nix⟩
  | 4 => ⟨s, 0, if (decide (k.size < 60) && txtB k) = true then k else kW⟩
  | _ => ⟨s, 0, nix⟩
theorem txtB_k : txtB kW = true := by
  unfold txtB
  exact @decide_eq_true _ (Classical.propDecidable _) ⟨[107], by decide +kernel, by decide +kernel, by decide +kernel⟩
theorem ofI_name (s : ByteArray) (n : Int) (k : ByteArray) : (ofI s n k).name = s := by
  unfold ofI
  split <;> rfl
theorem ofI_small (s : ByteArray) (n : Int) (k : ByteArray) : (ofI s n k).key.size ≤ 100 := by
  unfold ofI
  split
  · show (0 : Nat) ≤ 100; omega
  · show (0 : Nat) ≤ 100; omega
  · split
    · rename_i h
      simp only [Bool.and_eq_true, decide_eq_true_eq] at h
      show k.size ≤ 100
      omega
    · show (1 : Nat) ≤ 100; omega
  · show (0 : Nat) ≤ 100; omega
theorem ofI_good {s : ByteArray} (n : Int) (k : ByteArray) (hs : Iz.use s ≠ 0) : goodI s (ofI s n k).n (ofI s n k).key = true := by
  have hu := Iz.use_le s
  have hn : nix.toList.isEmpty = true := by decide +kernel
  unfold goodI ofI
  generalize Iz.use s = u at *
  rcases (by omega : u = 1 ∨ u = 2 ∨ u = 3 ∨ u = 4) with h | h | h | h <;> subst h
  · simp [hn]
  · simp [hn]
  · show ((if (n == 0) = true then 3 else n) != 0 && nix.toList.isEmpty) = true
    rw [hn]
    by_cases h : (n == 0) = true
    · rw [if_pos h]; rfl
    · rw [if_neg h]
      simp at h
      simp [h]
  · show (txtB (if (decide (k.size < 60) && txtB k) = true then k else kW) && (0 : Int) == 0) = true
    by_cases h : (decide (k.size < 60) && txtB k) = true
    · rw [if_pos h]
      simp only [Bool.and_eq_true] at h
      simp [h.2]
    · rw [if_neg h]
      simp [txtB_k]
theorem ofName_use : ∀ (j : Nat) (t : ByteArray), ofName[j]? = some t → Iz.use t ≠ 0 := by
  intro j t h
  have key : ∀ x ∈ ofName, Iz.use x ≠ 0 := by decide +kernel
  exact key t (List.mem_of_getElem? h)
set_option maxRecDepth 100000 in
set_option maxHeartbeats 8000000 in
theorem of_iz (a : Nat) (n : Int) (k : ByteArray) (w : World) (ha : a ≤ 255) : ∃ s, ofName[a % 11]? = some s ∧
    Calls Tryz.prog 7 #[.agg #[.int .u8 (a : Nat), .int .i64 n, .string k]] w fun e w' => e = .returned (.agg #[.string s, .int .i64 (ofI s n k).n, .string (ofI s n k).key]) ∧ Below w.heap.size w w' := by
  have hlt : a % 11 < 11 := Nat.mod_lt _ (by omega)
  obtain ⟨s, hs⟩ : ∃ s, ofName[a % 11]? = some s := ⟨_, List.getElem?_eq_getElem (show a % 11 < ofName.length from hlt)⟩
  refine ⟨s, hs, ?_⟩
  have hrem : (a : Int).tmod 11 = ((a % 11 : Nat) : Int) := by rw [Int.tmod_eq_emod_of_nonneg (by omega)] <;> first | rfl | omega
  have hu0 := ofName_use _ _ hs
  have ix : ∀ w1 : World, (Instr.index 57 (.agg #[.string (⟨#[110, 101, 103]⟩ : ByteArray), .string (⟨#[102, 108, 105, 112]⟩ : ByteArray), .string (⟨#[114, 101, 118]⟩ : ByteArray), .string (⟨#[115, 119, 97, 112]⟩ : ByteArray), .string (⟨#[98, 111, 120]⟩ : ByteArray), .string (⟨#[115, 104, 111, 119]⟩ : ByteArray), .string (⟨#[99, 104, 97, 114, 115]⟩ : ByteArray), .string (⟨#[112, 97, 105, 114, 115]⟩ : ByteArray), .string (⟨#[112, 108, 117, 115]⟩ : ByteArray), .string (⟨#[116, 105, 109, 101, 115]⟩ : ByteArray), .string (⟨#[116, 97, 103]⟩ : ByteArray)]) (.int .u8 ((a % 11 : Nat) : Int))).run Tryz.prog w1 = .ok (.string s) w1 := by
    intro w1
    generalize a % 11 = j at *
    rcases (by omega : j = 0 ∨ j = 1 ∨ j = 2 ∨ j = 3 ∨ j = 4 ∨ j = 5 ∨ j = 6 ∨ j = 7 ∨ j = 8 ∨ j = 9 ∨ j = 10) with rfl | rfl | rfl | rfl | rfl | rfl | rfl | rfl | rfl | rfl | rfl
    all_goals
      have e := Option.some.inj hs
      subst e
      first
        | kernel_rfl
        | rfl
  generalize a % 11 = j at *
  have i1 : (j : Int) < 11 := by omega
  have i2 : (0 : Int) ≤ (j : Int) := by omega
  have i3 : (0 : Int) ≤ (a : Int) := by omega
  have i4 : (a : Int) ≤ 255 := by omega
  have HRU := Lib.hid (fun w1 => ruses_any s w1)
  have HV := Lib.hid (fun w1 (h : (decide (k.size < 60)) = true) => rvalid_iz k (by have := of_decide_eq_true h; omega) w1)
  obtain ⟨bn, hbn⟩ : ∃ b, (n == 0) = b := ⟨_, rfl⟩
  obtain ⟨bz, hbz⟩ : ∃ b, decide (k.size < 60) = b := ⟨_, rfl⟩
  have z2 : decide ((k.size : Int) < 60) = bz := by rw [← hbz]; exact decide_eq_decide.2 (by omega)
  have hut := use_times s
  unfold Iz.timesW at hut
  have hu := Iz.use_le s
  have HO := Lib.hid (show ofI s n k = match Iz.use s with
    | 2 => ⟨s, n, nix⟩
    | 3 => ⟨s, if bn = true then 3 else n, nix⟩
    | 4 => ⟨s, 0, if (bz && txtB k) = true then k else kW⟩
    | _ => ⟨s, 0, nix⟩ from by unfold ofI; rw [hbn, hbz] <;> rfl)
  rw [hbz] at HV
  clear hs hlt ha
  generalize ofI s n k = res at *
  generalize txtB k = tb at *
  generalize Iz.use s = u at *
  rcases (by omega : u = 1 ∨ u = 2 ∨ u = 3 ∨ u = 4) with h | h | h | h <;> subst h
  all_goals
    obtain ⟨bt, hbt⟩ : ∃ b, b = eqb s ⟨#[116, 105, 109, 101, 115]⟩ := ⟨_, rfl⟩
    have hbt2 := hbt.trans hut
    first
      | rw [show decide ((3 : Nat) = 3) = true from rfl] at hbt2
      | rw [show decide (_ = 3) = false from rfl] at hbt2
    subst hbt2
    have f2 := tl_lit2 (l := [116, 105, 109, 101, 115]) rfl hbt.symm
    have g2 := (tl_eqb s ⟨#[116, 105, 109, 101, 115]⟩).trans hbt.symm
    clear hut hbt hu hu0
    go_enter Tryz.func7, Tryz.ntmps7
    go_upto_region 1 with fail
    refine alloc2_gz (fun W hW hB0 hB1 _ => ?_)
    have HW := Lib.hid hW
    have HR := Lib.hid hB1
    have HP := Lib.hid hB0
    have c0 := hB0.cell 0
    have c1 := hB0.cell 1
    have c2 := hB0.cell 2
    clear hW hB0 hB1
    go_upto_region 2 with fail
    refine alloc_gz (fun W2 hW2 hX => ?_)
    have HW2 := Lib.hid (HW.out.trans (hW2.mono HW.out.size))
    have HR2 := Lib.hid (HR.out.onto hW2)
    have HP2 := Lib.hid (HP.out.onto hW2)
    have hlX : w.heap.size + 1 < W.heap.size := HR.out.lt
    obtain ⟨X, hXe⟩ : ∃ X, W.heap.size = X := ⟨_, rfl⟩
    rw [hXe] at hX hlX ⊢
    have HX := Lib.hid hX
    clear c0 c1 c2 hW2 hX hXe
    have x0 := HX.out.cell 0
    have x1 := HX.out.cell 1
    have x2 := HX.out.cell 2
    have y0 := HX.out.free 0
    have y1 := HX.out.free 1
    have y2 := HX.out.free 2
    have p0 := HP2.out.cell 0
    have p1 := HP2.out.cell 1
    have p2 := HP2.out.cell 2
    have r0 := HR2.out.cell 0
    have r1 := HR2.out.cell 1
    have r2 := HR2.out.cell 2
    have q0 := HR2.out.free 0
    have q1 := HR2.out.free 1
    have q2 := HR2.out.free 2
    go_wp2_with fail
    refine (HRU.out _).mono ?_
    rintro e w3 ⟨rfl, rfl⟩
    unfold usesI
    dsimp only
  · go_wp2_with fail
    refine bodyPost_ret (v := .agg #[.string s, .int .i64 0, .string ⟨#[]⟩]) (by simp [results, Tryz.results7, go_sem, r0, r1, r2]) rfl ⟨by rw [HO.out] <;> rfl, ?_⟩
    exact below_put3 (HW2.out) (Nat.le_succ _) _ _ _
  · go_wp2_with fail
    refine bodyPost_ret (v := .agg #[.string s, .int .i64 n, .string ⟨#[]⟩]) (by simp [results, Tryz.results7, go_sem, r0, r1, r2]) rfl ⟨by rw [HO.out] <;> rfl, ?_⟩
    exact below_put3 (HW2.out.setCell (p := ⟨X, 1, none⟩) (show w.heap.size ≤ X by omega) _) (Nat.le_succ _) _ _ _
  · cases bn
    · go_wp2_with fail
      refine bodyPost_ret (v := .agg #[.string s, .int .i64 n, .string ⟨#[]⟩]) (by simp [results, Tryz.results7, go_sem, r0, r1, r2]) rfl ⟨by rw [HO.out] <;> rfl, ?_⟩
      exact below_put3 (HW2.out.setCell (p := ⟨X, 1, none⟩) (show w.heap.size ≤ X by omega) _) (Nat.le_succ _) _ _ _
    · go_wp2_with fail
      refine bodyPost_ret (v := .agg #[.string s, .int .i64 3, .string ⟨#[]⟩]) (by simp [results, Tryz.results7, go_sem, r0, r1, r2]) rfl ⟨by rw [HO.out] <;> rfl, ?_⟩
      exact below_put3 ((HW2.out.setCell (p := ⟨X, 1, none⟩) (show w.heap.size ≤ X by omega) _).setCell (p := ⟨X, 1, none⟩) (show w.heap.size ≤ X by omega) _) (Nat.le_succ _) _ _ _
  · cases bz
    · go_wp2_with fail
      refine bodyPost_ret (v := .agg #[.string s, .int .i64 0, .string ⟨#[107]⟩]) (by simp [results, Tryz.results7, go_sem, r0, r1, r2]) rfl ⟨by rw [HO.out] <;> rfl, ?_⟩
      exact below_put3 (HW2.out.setCell (p := ⟨X, 2, none⟩) (show w.heap.size ≤ X by omega) _) (Nat.le_succ _) _ _ _
    · have HX3 := Lib.hid (show Blk (W2.setCell ⟨X, 2, none⟩ (.string ⟨#[107]⟩)) X _ #[.string s, .int .i64 0, .string ⟨#[107]⟩] from HX.out.set_ 2 _)
      have HR3 := Lib.hid (HR2.out.far (p := ⟨X, 2, none⟩) (show ¬ w.heap.size + 1 = X by omega) (.string ⟨#[107]⟩))
      have HP3 := Lib.hid (HP2.out.far (p := ⟨X, 2, none⟩) (show ¬ w.heap.size = X by omega) (.string ⟨#[107]⟩))
      have HW3 := Lib.hid (HW2.out.setCell (p := ⟨X, 2, none⟩) (show w.heap.size ≤ X by omega) (.string ⟨#[107]⟩))
      go_wp2_with fail
      refine (HV.out _ (by trivial)).mono ?_
      rintro e w4 ⟨rfl, hb⟩
      have HX4 := Lib.hid (HX3.out.onto hb)
      have HR4 := Lib.hid (HR3.out.onto hb)
      have HP4 := Lib.hid (HP3.out.onto hb)
      have HW4 := Lib.hid (HW3.out.trans (hb.mono HW3.out.size))
      clear hb x0 x1 x2 y0 y1 y2 p0 p1 p2 r0 r1 r2 q0 q1 q2
      have x0 := HX4.out.cell 0
      have x1 := HX4.out.cell 1
      have x2 := HX4.out.cell 2
      have y0 := HX4.out.free 0
      have y1 := HX4.out.free 1
      have y2 := HX4.out.free 2
      have p0 := HP4.out.cell 0
      have p1 := HP4.out.cell 1
      have p2 := HP4.out.cell 2
      have r0 := HR4.out.cell 0
      have r1 := HR4.out.cell 1
      have r2 := HR4.out.cell 2
      have q0 := HR4.out.free 0
      have q1 := HR4.out.free 1
      have q2 := HR4.out.free 2
      cases tb
      · go_wp2_with fail
        refine bodyPost_ret (v := .agg #[.string s, .int .i64 0, .string ⟨#[107]⟩]) (by simp [results, Tryz.results7, go_sem, r0, r1, r2]) rfl ⟨by rw [HO.out] <;> rfl, ?_⟩
        exact below_put3 (HW4.out) (Nat.le_succ _) _ _ _
      · go_wp2_with fail
        refine bodyPost_ret (v := .agg #[.string s, .int .i64 0, .string k]) (by simp [results, Tryz.results7, go_sem, r0, r1, r2]) rfl ⟨by rw [HO.out] <;> rfl, ?_⟩
        exact below_put3 (HW4.out.setCell (p := ⟨X, 2, none⟩) (show w.heap.size ≤ X by omega) _) (Nat.le_succ _) _ _ _
end Go.Proofs.YtfiahpeajccinaaGreatDoor
namespace Go.Proofs.YtfiahpeajccinaaGreatDoor
open Go.RowKit Go.ChangeShapes Go.WideShapes Go.Deep
set_option linter.constructorNameAsVariable false
set_option linter.unusedVariables false

theorem in64_iz {z : Int} (h : (Lit.int .i64 z).wf = true) : -9223372036854775808 ≤ z ∧ z ≤ 9223372036854775807 := by
  have q2 : IntKind.i64.min = -9223372036854775808 := rfl
  have q3 : IntKind.i64.max = 9223372036854775807 := rfl
  simp only [Lit.wf, decide_eq_true_eq, Bool.and_eq_true] at h
  omega
theorem in8_iz {z : Int} (h : (Lit.int .u8 z).wf = true) : 0 ≤ z ∧ z ≤ 255 := by
  have q2 : IntKind.u8.min = 0 := rfl
  have q3 : IntKind.u8.max = 255 := rfl
  simp only [Lit.wf, decide_eq_true_eq, Bool.and_eq_true] at h
  omega
section
variable {H : Type} {enc : TypeId × Value → H} {w : World} {spare : Nat → Bool} {held : Bool}
set_option maxRecDepth 100000 in
theorem pick_open {r : Reach} {b0 : Nat} {v : Value} {d : DataW H} {p : List MemPlace} (hv : Value.okWide Tryz.prog w r b0 23 v) (h : DataW.Trod enc Tryz.prog w 0 spare held 23 v d p) :
    ∃ (x0 : Nat) (x1 : Int) (x2 : ByteArray), v = .agg #[.int .u8 (x0 : Nat), .int .i64 x1, .string x2] ∧ x0 ≤ 255 ∧ (-9223372036854775808 ≤ x1 ∧ x1 ≤ 9223372036854775807) ∧ x2.size ≤ maxLen := by
  have hC : Tryz.prog.cellsOf 23 = 3 := by kernel_rfl
  obtain ⟨cs, rfl, hsz⟩ := okWide_struct Tryz.underlying23 hv
  obtain ⟨l⟩ := cs
  match l, hsz.trans hC with
  | [c0, c1, c2], _ =>
    obtain ⟨fuel, hf⟩ := h
    obtain ⟨xs, m, _, _, _, hlen, hg⟩ := DataW.trod_struct Tryz.underlying23 hf
    have g0 := hg 0 _ rfl
    have g1 := hg 1 _ rfl
    have g2 := hg 2 _ rfl
    match xs, hlen with
    | [y0, y1, y2], _ =>
      have s0 : Tryz.prog.cellsOf 5 = 1 := by kernel_rfl
      have s1 : Tryz.prog.cellsOf 2 = 1 := by kernel_rfl
      have s2 : Tryz.prog.cellsOf 9 = 1 := by kernel_rfl
      have g0 : DataW.trod enc Tryz.prog w 0 spare held m 5 (([c0, c1, c2].drop 0).take (Tryz.prog.cellsOf 5)) = some y0 := g0
      rw [s0] at g0
      have g1 : DataW.trod enc Tryz.prog w 0 spare held m 2 (([c0, c1, c2].drop 1).take (Tryz.prog.cellsOf 2)) = some y1 := g1
      rw [s1] at g1
      have g2 : DataW.trod enc Tryz.prog w 0 spare held m 9 (([c0, c1, c2].drop 2).take (Tryz.prog.cellsOf 9)) = some y2 := g2
      rw [s2] at g2
      obtain ⟨k0, e0, _, w0⟩ := DataW.trod_int Tryz.underlying5 (show DataW.trod enc Tryz.prog w 0 spare held m 5 [c0] = some y0 from g0)
      obtain ⟨k1, e1, _, w1⟩ := DataW.trod_int Tryz.underlying2 (show DataW.trod enc Tryz.prog w 0 spare held m 2 [c1] = some y1 from g1)
      obtain ⟨k2, e2, _, w2⟩ := DataW.trod_string Tryz.underlying9 (show DataW.trod enc Tryz.prog w 0 spare held m 9 [c2] = some y2 from g2)
      injection e0 with e0 _
      injection e1 with e1 _
      injection e2 with e2 _
      subst e0 e1 e2
      obtain ⟨q1, q2⟩ := in8_iz w0
      obtain ⟨a0, rfl⟩ : ∃ a : Nat, k0 = a := ⟨k0.toNat, by omega⟩
      exact ⟨a0, k1, k2, rfl, by omega, in64_iz w1, w2⟩
set_option maxRecDepth 100000 in
theorem odd_open {r : Reach} {b0 : Nat} {v : Value} {d : DataW H} {p : List MemPlace} (hv : Value.okWide Tryz.prog w r b0 25 v) (h : DataW.Trod enc Tryz.prog w 0 spare held 25 v d p) :
    ∃ (x0 : ByteArray) (x1 : Int) (x2 : ByteArray), v = .agg #[.string x0, .int .i64 x1, .string x2] ∧ x0.size ≤ maxLen ∧ (-9223372036854775808 ≤ x1 ∧ x1 ≤ 9223372036854775807) ∧ x2.size ≤ maxLen := by
  have hC : Tryz.prog.cellsOf 25 = 3 := by kernel_rfl
  obtain ⟨cs, rfl, hsz⟩ := okWide_struct Tryz.underlying25 hv
  obtain ⟨l⟩ := cs
  match l, hsz.trans hC with
  | [c0, c1, c2], _ =>
    obtain ⟨fuel, hf⟩ := h
    obtain ⟨xs, m, _, _, _, hlen, hg⟩ := DataW.trod_struct Tryz.underlying25 hf
    have g0 := hg 0 _ rfl
    have g1 := hg 1 _ rfl
    have g2 := hg 2 _ rfl
    match xs, hlen with
    | [y0, y1, y2], _ =>
      have s0 : Tryz.prog.cellsOf 9 = 1 := by kernel_rfl
      have s1 : Tryz.prog.cellsOf 2 = 1 := by kernel_rfl
      have s2 : Tryz.prog.cellsOf 9 = 1 := by kernel_rfl
      have g0 : DataW.trod enc Tryz.prog w 0 spare held m 9 (([c0, c1, c2].drop 0).take (Tryz.prog.cellsOf 9)) = some y0 := g0
      rw [s0] at g0
      have g1 : DataW.trod enc Tryz.prog w 0 spare held m 2 (([c0, c1, c2].drop 1).take (Tryz.prog.cellsOf 2)) = some y1 := g1
      rw [s1] at g1
      have g2 : DataW.trod enc Tryz.prog w 0 spare held m 9 (([c0, c1, c2].drop 2).take (Tryz.prog.cellsOf 9)) = some y2 := g2
      rw [s2] at g2
      obtain ⟨k0, e0, _, w0⟩ := DataW.trod_string Tryz.underlying9 (show DataW.trod enc Tryz.prog w 0 spare held m 9 [c0] = some y0 from g0)
      obtain ⟨k1, e1, _, w1⟩ := DataW.trod_int Tryz.underlying2 (show DataW.trod enc Tryz.prog w 0 spare held m 2 [c1] = some y1 from g1)
      obtain ⟨k2, e2, _, w2⟩ := DataW.trod_string Tryz.underlying9 (show DataW.trod enc Tryz.prog w 0 spare held m 9 [c2] = some y2 from g2)
      injection e0 with e0 _
      injection e1 with e1 _
      injection e2 with e2 _
      subst e0 e1 e2
      exact ⟨k0, k1, k2, rfl, w0, in64_iz w1, w2⟩
end
end Go.Proofs.YtfiahpeajccinaaGreatDoor
