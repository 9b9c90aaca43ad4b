/- P11.1: whether anything is an iso is the document's. -/
import Derived.Test.YtfiahpeajccinaaGreatDoorCards
import Derived.Test.YtfiahpeajccinaaGreatDoorTie
import Derived.WalkKit
import Derived.ProofKit
import Derived.OpenShut
import Derived.ChangeOld
import Derived.ShutString
import Derived.Below
import Derived.LaidMore
import Derived.Lib.LaidTab
import Derived.Stop.Joined
import Derived.Stop.LaidErr
import Derived.SevenTiedAt
import Derived.Lay
import Derived.Test.YtfiahpeajccinaaGreatDoorPJ
namespace Go.Proofs.YtfiahpeajccinaaGreatDoor.isoGoods
open Go.ChangeShapes Go.WideShapes Go.ChangeAt Go.RowKit
open Go.ChangeMaps (open_string shut_string)
open Tk Pl
set_option linter.unusedVariables false

theorem own : ownKnob Tryz.prog.godebug = none := by kernel_rfl
theorem laidOut : laidOutB Tryz.prog = true := by kernel_rfl
theorem gRange : Tryz.prog.globalNamed "strconv.ErrRange" = some 2 := by kernel_rfl
theorem star : "*" ++ "errors.errorString" = "*errors.errorString" := by decide
theorem rowPtr (u : TypeId) (h : Tryz.prog.typeName? 3 u = some "*errors.errorString") : u = 230 :=
  typeName_ptr_named (nm := "errors.errorString") (by rw [star]; kernel_rfl) (by kernel_rfl) (by decide) u (by rw [star]; exact h)
/-- what the row's list gives -/
theorem errs {W : World} (h : laidMetH Tryz.prog Rows.isoGoodsRow.laid W) : RangeErr W := by
  have h' : laidMet Tryz.prog Rows.isoGoodsRow.laid W := h
  obtain ⟨a, s, hv, _⟩ := laid_sentinel h'.tail.tail.tail.tail gRange (by kernel_rfl) Tryz.underlying76 rowPtr Tryz.underlying230 Tryz.underlying232 rfl rfl Tryz.underlying9 (by kernel_rfl) (by kernel_rfl)
  exact ⟨_, _, hv⟩
theorem gPow5 : Tryz.prog.globalNamed "internal/strconv.uint64pow10" = some 0 := by kernel_rfl
/-- and its table -/
theorem table {W : World} (h : laidMetH Tryz.prog Rows.isoGoodsRow.laid W) : Lib.TabIs Tryz.prog W "internal/strconv.uint64pow10" .u64 Lib.pow10Tab := by
  have h' : laidMet Tryz.prog Rows.isoGoodsRow.laid W := h
  exact Lib.tabIs_of_head (rest := _) gPow5 (by kernel_rfl) Tryz.underlying203 Tryz.underlying179 (by kernel_rfl) (by kernel_rfl) h'.tail.tail

set_option maxRecDepth 100000 in
set_option maxHeartbeats 8000000 in
theorem walk (a : Nat) (n : Int) (k on : ByteArray) (oN : Int) (ok : ByteArray) (w : World) (ha : a ≤ 255) (hE : RangeErr w) (htb : Lib.TabIs Tryz.prog w "internal/strconv.uint64pow10" .u64 Lib.pow10Tab) :
    Calls Tryz.prog 3 #[.agg #[.int .u8 (a : Nat), .int .i64 n, .string k], .agg #[.string on, .int .i64 oN, .string ok]] w fun e w' => e = .returned (.bool true) ∧ Below w.heap.size w w' := by
  have HAW := Lib.hid (fun w1 (hb : Below w.heap.size w w1) => awake11_any w1 (hE.on hb) ((tab_of11 htb).on hb).2)
  clear hE htb
  obtain ⟨s, hs, hof⟩ : ∃ s, ofName[a % 11]? = some s ∧ ∀ w1, Calls Tryz.prog 7 #[.agg #[.int .u8 (a : Nat), .int .i64 n, .string k]] w1 fun e w' => e = .returned (.agg #[.string s, .int .i64 (ofI s n k).n, .string (ofI s n k).key]) ∧ Below w1.heap.size w1 w' := by
    obtain ⟨s, hs, _⟩ := of_iz a n k w ha
    refine ⟨s, hs, fun w1 => ?_⟩
    obtain ⟨s1, hs1, h⟩ := of_iz a n k w1 ha
    rw [hs] at hs1
    cases hs1
    exact h
  have HOF := Lib.hid hof
  have HGD := Lib.hid (ofI_good n k (ofName_use _ _ hs))
  have HSM := Lib.hid (ofI_small s n k)
  clear hof hs
  generalize (ofI s n k).n = xN at *
  generalize (ofI s n k).key = xk at *
  obtain ⟨o1, ho1⟩ : ∃ b, decide (on.size > 50) = b := ⟨_, rfl⟩
  obtain ⟨o2, ho2⟩ : ∃ b, decide (ok.size > 50) = b := ⟨_, rfl⟩
  have z1 : decide ((on.size : Int) > 50) = o1 := by rw [← ho1]; exact decide_eq_decide.2 (by omega)
  have z2 : decide ((ok.size : Int) > 50) = o2 := by rw [← ho2]; exact decide_eq_decide.2 (by omega)
  have y1 : decide ((50 : Int) < (on.size : Int)) = o1 := z1
  have y2 : decide ((50 : Int) < (ok.size : Int)) = o2 := z2
  have hok : o2 = false → ok.size ≤ 50 := fun h => by rw [h] at ho2; have := of_decide_eq_false ho2; omega
  have HOK := Lib.hid hok
  clear hok ho1 ho2
  go_enter Tryz.func3, Tryz.ntmps3
  go_upto_region 1 with fail
  refine alloc2_gz (fun W hW hB0 hB1 hsz => ?_)
  have HW := Lib.hid hW
  have HP := Lib.hid hB0
  have HO := Lib.hid hB1
  clear hW hB0 hB1
  go_wp2_with fail
  refine (HAW.out _ HW.out).mono ?_
  rintro e w1 ⟨rfl, hb⟩
  have HW1 := Lib.hid (HW.out.trans (hb.mono HW.out.size))
  have HP1 := Lib.hid (HP.out.onto hb)
  have HO1 := Lib.hid (HO.out.onto hb)
  clear hb
  have c0 := HO1.out.cell 0
  have c1 := HO1.out.cell 1
  have c2 := HO1.out.cell 2
  cases o1
  cases o2
  rotate_left
  all_goals first
    | (go_wp2_with fail
       refine (HAW.out _ HW1.out).mono ?_
       rintro e w2 ⟨rfl, hb⟩
       have HW2 := Lib.hid (HW1.out.trans (hb.mono HW1.out.size))
       go_wp2_with fail
       go_ret
       exact ⟨rfl, HW2.out⟩)
    | skip
  have hk50 := HOK.out (by trivial)
  clear c0 c1 c2
  have c0 := HO1.out.cell 0
  have c1 := HO1.out.cell 1
  have c2 := HO1.out.cell 2
  go_upto_region 3 with fail
  obtain ⟨W, hWe⟩ : ∃ W, w1 = W := ⟨_, rfl⟩
  rw [hWe]
  rw [hWe] at HW1 HP1 HO1 c0 c1 c2
  clear hWe hsz HW HP HO
  go_cut [5, 6] (fun s5 s6 wx => ∃ ga gb, s5 = .pointer (some ⟨ga, 0, none⟩) ∧ s6 = .pointer (some ⟨gb, 0, none⟩) ∧ Blk wx ga 27 #[.string s, .int .i64 xN, .string xk] ∧ Blk wx gb 27 #[.string s, .int .i64 xN, .string xk] ∧ ¬ ga = gb ∧ W.heap.size ≤ gb ∧ Below W.heap.size W wx)
  case first =>
    have HSS := Lib.hid (show ∀ w', Below W.heap.size W w' → w'.cell? ⟨w.heap.size, 0, none⟩ = some (.int .u8 (a : Nat)) ∧ w'.cell? ⟨w.heap.size, 1, none⟩ = some (.int .i64 n) ∧ w'.cell? ⟨w.heap.size, 2, none⟩ = some (.string k) from fun w' h => by
      have a := HP1.out.onto h
      exact ⟨a.cell 0, a.cell 1, a.cell 2⟩)
    refine wp_region_held_drew (S := fun w' => w'.cell? ⟨w.heap.size, 0, none⟩ = some (.int .u8 (a : Nat)) ∧ w'.cell? ⟨w.heap.size, 1, none⟩ = some (.int .i64 n) ∧ w'.cell? ⟨w.heap.size, 2, none⟩ = some (.string k)) (by kernel_rfl) ?_ (fun hHeld => ?_)
    · exact HSS.out _ (Below.refl _ _).drew
    refine wpAnyH_take (i := 0) (v := ?_) rfl (by kernel_rfl) (by kernel_rfl) (by kernel_rfl) (fun _ _ _ h => h) (Or.inl ⟨by rfl, ?_⟩) (by assumption) ?_
    rotate_left
    · intro wq hSw
      try dsimp only at hSw
      go_simp
      try (with_reducible rfl)
    try simp only [Act.put, List.getElem_toArray, List.getElem_cons_zero, List.setIfInBounds_toArray, List.set_cons_zero, List.set_cons_succ]
    refine wpAnyH_take (i := 2) (v := ?_) rfl (by kernel_rfl) (by kernel_rfl) (by kernel_rfl) (fun _ _ _ h => h) (Or.inl ⟨by rfl, ?_⟩) (by assumption) ?_
    rotate_left
    · intro wq hSw
      try dsimp only at hSw
      go_simp
      try (with_reducible rfl)
    try simp only [Act.put, List.getElem_toArray, List.getElem_cons_succ, List.getElem_cons_zero, List.setIfInBounds_toArray, List.set_cons_zero, List.set_cons_succ]
    have R0 := Lib.hid (show Below W.heap.size W W.drew from (Below.refl _ _).drew)
    generalize hwd : W.drew = w0 at *
    clear hwd
    refine wpAnyH_ready (rs := [1, 4, 5]) (by kernel_rfl) (by simp) ?_
    refine AllReadyH.cons rfl (fun K0 hK => ?_) (AllReadyH.cons rfl (fun K0 hK => ?_) (AllReadyH.cons rfl (fun K0 hK => ?_) AllReadyH.nil))
    · go_simp
      refine (HOF.out _).mono ?_
      rintro e w1a ⟨rfl, hb⟩
      have R1a := Lib.hid (R0.out.trans (hb.mono R0.out.size))
      clear hb
      go_wp2_with fail
      refine hK.out _ _ ?_ (fun hHeld => ?_)
      · exact HSS.out _ R1a.out
      clear hK K0
      try simp only [Act.put, List.getElem_toArray, List.getElem_cons_succ, List.getElem_cons_zero, List.setIfInBounds_toArray, List.set_cons_zero, List.set_cons_succ]
      refine wpAnyH_ready (rs := [3, 4, 5]) (by kernel_rfl) (by simp) ?_
      refine AllReadyH.cons rfl (fun K0 hK => ?_) (AllReadyH.cons rfl (fun K0 hK => ?_) (AllReadyH.cons rfl (fun K0 hK => ?_) AllReadyH.nil))
      · go_simp
        refine (HOF.out _).mono ?_
        rintro e w2a ⟨rfl, hb⟩
        have R2a := Lib.hid (R1a.out.trans (hb.mono R1a.out.size))
        clear hb
        go_wp2_with fail
        refine hK.out _ _ ?_ (fun hHeld => ?_)
        · exact HSS.out _ R2a.out
        clear hK K0
        try simp only [Act.put, List.getElem_toArray, List.getElem_cons_succ, List.getElem_cons_zero, List.setIfInBounds_toArray, List.set_cons_zero, List.set_cons_succ]
        refine wpAnyH_ready (rs := [4, 5]) (by kernel_rfl) (by simp) ?_
        refine AllReadyH.cons rfl (fun K0 hK => ?_) (AllReadyH.cons rfl (fun K0 hK => ?_) AllReadyH.nil)
        · go_simp
          have R3a := Lib.hid (R2a.out.alloc R2a.out.size (.cells #[.string ⟨#[]⟩, .int .i64 0, .string ⟨#[]⟩] 27))
          have KA := Lib.hid (Blk.new w2a 27 #[.string ⟨#[]⟩, .int .i64 0, .string ⟨#[]⟩])
          have KAW := Lib.hid (show W.heap.size ≤ w2a.heap.size from R2a.out.size)
          refine hK.out _ _ ?_ (fun hHeld => ?_)
          · exact HSS.out _ R3a.out
          clear hK K0
          try simp only [Act.put, List.getElem_toArray, List.getElem_cons_succ, List.getElem_cons_zero, List.setIfInBounds_toArray, List.set_cons_zero, List.set_cons_succ]
          generalize (w2a.alloc (.cells #[.string ⟨#[]⟩, .int .i64 0, .string ⟨#[]⟩] 27)) = w3a at *
          generalize w2a.heap.size = ga at *
          refine wpAnyH_ready (rs := [5]) (by kernel_rfl) (by simp) ?_
          refine AllReadyH.cons rfl (fun K0 hK => ?_) AllReadyH.nil
          go_simp
          have R4a := Lib.hid (R3a.out.alloc R3a.out.size (.cells #[.string ⟨#[]⟩, .int .i64 0, .string ⟨#[]⟩] 27))
          have HNE := Lib.hid (show ¬ ga = w3a.heap.size from fun e => by have := KA.out.lt; omega)
          have KA := Lib.hid (KA.out.alloc (.cells #[.string ⟨#[]⟩, .int .i64 0, .string ⟨#[]⟩] 27))
          have KB := Lib.hid (Blk.new w3a 27 #[.string ⟨#[]⟩, .int .i64 0, .string ⟨#[]⟩])
          have KBW := Lib.hid (show W.heap.size ≤ w3a.heap.size from R3a.out.size)
          refine hK.out _ _ ?_ (fun hHeld => ?_)
          · exact HSS.out _ R4a.out
          clear hK K0
          try simp only [Act.put, List.getElem_toArray, List.getElem_cons_succ, List.getElem_cons_zero, List.setIfInBounds_toArray, List.set_cons_zero, List.set_cons_succ]
          generalize (w3a.alloc (.cells #[.string ⟨#[]⟩, .int .i64 0, .string ⟨#[]⟩] 27)) = w4a at *
          generalize w3a.heap.size = gb at *
          have HAB := Lib.hid (show ¬ ga = gb from (fun e => HNE.out e))
          refine wpAnyH_ready (rs := [6]) (by kernel_rfl) (by simp) ?_
          refine AllReadyH.cons rfl (fun K0 hK => ?_) AllReadyH.nil
          have m0 := KA.out.cell 0
          have m1 := KA.out.cell 1
          have m2 := KA.out.cell 2
          have n0 := KA.out.free 0
          have n1 := KA.out.free 1
          have n2 := KA.out.free 2
          go_simp
          have R8 := Lib.hid (below_put3 R4a.out KAW.out (.string s) (.int .i64 xN) (.string xk))
          have KA := Lib.hid (show Blk _ ga _ #[.string s, .int .i64 xN, .string xk] from ((KA.out.set_ 0 (.string s)).set_ 1 (.int .i64 xN)).set_ 2 (.string xk))
          have KB := Lib.hid (blk_far3 KB.out (show ¬ gb = ga from fun e => HAB.out e.symm) (.string s) (.int .i64 xN) (.string xk))
          clear m0 m1 m2 n0 n1 n2
          refine hK.out _ _ ?_ (fun hHeld => ?_)
          · exact HSS.out _ R8.out
          clear hK K0
          try simp only [Act.put, List.getElem_toArray, List.getElem_cons_succ, List.getElem_cons_zero, List.setIfInBounds_toArray, List.set_cons_zero, List.set_cons_succ]
          generalize (((w4a.setCell ⟨ga, 0, none⟩ (.string s)).setCell ⟨ga, 1, none⟩ (.int .i64 xN)).setCell ⟨ga, 2, none⟩ (.string xk)) = w8 at *
          refine wpAnyH_ready (rs := [7]) (by kernel_rfl) (by simp) ?_
          refine AllReadyH.cons rfl (fun K0 hK => ?_) AllReadyH.nil
          have m0 := KB.out.cell 0
          have m1 := KB.out.cell 1
          have m2 := KB.out.cell 2
          have n0 := KB.out.free 0
          have n1 := KB.out.free 1
          have n2 := KB.out.free 2
          go_simp
          have R9 := Lib.hid (below_put3 R8.out KBW.out (.string s) (.int .i64 xN) (.string xk))
          have KB := Lib.hid (show Blk _ gb _ #[.string s, .int .i64 xN, .string xk] from ((KB.out.set_ 0 (.string s)).set_ 1 (.int .i64 xN)).set_ 2 (.string xk))
          have KA := Lib.hid (blk_far3 KA.out HAB.out (.string s) (.int .i64 xN) (.string xk))
          clear m0 m1 m2 n0 n1 n2
          refine hK.out _ _ ?_ (fun hHeld => ?_)
          · exact HSS.out _ R9.out
          clear hK K0
          try simp only [Act.put, List.getElem_toArray, List.getElem_cons_succ, List.getElem_cons_zero, List.setIfInBounds_toArray, List.set_cons_zero, List.set_cons_succ]
          refine wpAnyH_done (by kernel_rfl) ?_ _
          go_wp2_with fail
          go_meet
          exact ⟨ga, gb, rfl, rfl, KA.out, KB.out, HAB.out, KBW.out, R9.out⟩
        · go_simp
          have R5a := Lib.hid (R2a.out.alloc R2a.out.size (.cells #[.string ⟨#[]⟩, .int .i64 0, .string ⟨#[]⟩] 27))
          have KB := Lib.hid (Blk.new w2a 27 #[.string ⟨#[]⟩, .int .i64 0, .string ⟨#[]⟩])
          have KBW := Lib.hid (show W.heap.size ≤ w2a.heap.size from R2a.out.size)
          refine hK.out _ _ ?_ (fun hHeld => ?_)
          · exact HSS.out _ R5a.out
          clear hK K0
          try simp only [Act.put, List.getElem_toArray, List.getElem_cons_succ, List.getElem_cons_zero, List.setIfInBounds_toArray, List.set_cons_zero, List.set_cons_succ]
          generalize (w2a.alloc (.cells #[.string ⟨#[]⟩, .int .i64 0, .string ⟨#[]⟩] 27)) = w5a at *
          generalize w2a.heap.size = gb at *
          refine wpAnyH_ready (rs := [4]) (by kernel_rfl) (by simp) ?_
          refine AllReadyH.cons rfl (fun K0 hK => ?_) AllReadyH.nil
          go_simp
          have R6a := Lib.hid (R5a.out.alloc R5a.out.size (.cells #[.string ⟨#[]⟩, .int .i64 0, .string ⟨#[]⟩] 27))
          have HNE := Lib.hid (show ¬ gb = w5a.heap.size from fun e => by have := KB.out.lt; omega)
          have KB := Lib.hid (KB.out.alloc (.cells #[.string ⟨#[]⟩, .int .i64 0, .string ⟨#[]⟩] 27))
          have KA := Lib.hid (Blk.new w5a 27 #[.string ⟨#[]⟩, .int .i64 0, .string ⟨#[]⟩])
          have KAW := Lib.hid (show W.heap.size ≤ w5a.heap.size from R5a.out.size)
          refine hK.out _ _ ?_ (fun hHeld => ?_)
          · exact HSS.out _ R6a.out
          clear hK K0
          try simp only [Act.put, List.getElem_toArray, List.getElem_cons_succ, List.getElem_cons_zero, List.setIfInBounds_toArray, List.set_cons_zero, List.set_cons_succ]
          generalize (w5a.alloc (.cells #[.string ⟨#[]⟩, .int .i64 0, .string ⟨#[]⟩] 27)) = w6a at *
          generalize w5a.heap.size = ga at *
          have HAB := Lib.hid (show ¬ ga = gb from (fun e => HNE.out e.symm))
          refine wpAnyH_ready (rs := [6]) (by kernel_rfl) (by simp) ?_
          refine AllReadyH.cons rfl (fun K0 hK => ?_) AllReadyH.nil
          have m0 := KA.out.cell 0
          have m1 := KA.out.cell 1
          have m2 := KA.out.cell 2
          have n0 := KA.out.free 0
          have n1 := KA.out.free 1
          have n2 := KA.out.free 2
          go_simp
          have R8 := Lib.hid (below_put3 R6a.out KAW.out (.string s) (.int .i64 xN) (.string xk))
          have KA := Lib.hid (show Blk _ ga _ #[.string s, .int .i64 xN, .string xk] from ((KA.out.set_ 0 (.string s)).set_ 1 (.int .i64 xN)).set_ 2 (.string xk))
          have KB := Lib.hid (blk_far3 KB.out (show ¬ gb = ga from fun e => HAB.out e.symm) (.string s) (.int .i64 xN) (.string xk))
          clear m0 m1 m2 n0 n1 n2
          refine hK.out _ _ ?_ (fun hHeld => ?_)
          · exact HSS.out _ R8.out
          clear hK K0
          try simp only [Act.put, List.getElem_toArray, List.getElem_cons_succ, List.getElem_cons_zero, List.setIfInBounds_toArray, List.set_cons_zero, List.set_cons_succ]
          generalize (((w6a.setCell ⟨ga, 0, none⟩ (.string s)).setCell ⟨ga, 1, none⟩ (.int .i64 xN)).setCell ⟨ga, 2, none⟩ (.string xk)) = w8 at *
          refine wpAnyH_ready (rs := [7]) (by kernel_rfl) (by simp) ?_
          refine AllReadyH.cons rfl (fun K0 hK => ?_) AllReadyH.nil
          have m0 := KB.out.cell 0
          have m1 := KB.out.cell 1
          have m2 := KB.out.cell 2
          have n0 := KB.out.free 0
          have n1 := KB.out.free 1
          have n2 := KB.out.free 2
          go_simp
          have R9 := Lib.hid (below_put3 R8.out KBW.out (.string s) (.int .i64 xN) (.string xk))
          have KB := Lib.hid (show Blk _ gb _ #[.string s, .int .i64 xN, .string xk] from ((KB.out.set_ 0 (.string s)).set_ 1 (.int .i64 xN)).set_ 2 (.string xk))
          have KA := Lib.hid (blk_far3 KA.out HAB.out (.string s) (.int .i64 xN) (.string xk))
          clear m0 m1 m2 n0 n1 n2
          refine hK.out _ _ ?_ (fun hHeld => ?_)
          · exact HSS.out _ R9.out
          clear hK K0
          try simp only [Act.put, List.getElem_toArray, List.getElem_cons_succ, List.getElem_cons_zero, List.setIfInBounds_toArray, List.set_cons_zero, List.set_cons_succ]
          refine wpAnyH_done (by kernel_rfl) ?_ _
          go_wp2_with fail
          go_meet
          exact ⟨ga, gb, rfl, rfl, KA.out, KB.out, HAB.out, KBW.out, R9.out⟩
      · go_simp
        have R7a := Lib.hid (R1a.out.alloc R1a.out.size (.cells #[.string ⟨#[]⟩, .int .i64 0, .string ⟨#[]⟩] 27))
        have KA := Lib.hid (Blk.new w1a 27 #[.string ⟨#[]⟩, .int .i64 0, .string ⟨#[]⟩])
        have KAW := Lib.hid (show W.heap.size ≤ w1a.heap.size from R1a.out.size)
        refine hK.out _ _ ?_ (fun hHeld => ?_)
        · exact HSS.out _ R7a.out
        clear hK K0
        try simp only [Act.put, List.getElem_toArray, List.getElem_cons_succ, List.getElem_cons_zero, List.setIfInBounds_toArray, List.set_cons_zero, List.set_cons_succ]
        generalize (w1a.alloc (.cells #[.string ⟨#[]⟩, .int .i64 0, .string ⟨#[]⟩] 27)) = w7a at *
        generalize w1a.heap.size = ga at *
        refine wpAnyH_ready (rs := [3, 5]) (by kernel_rfl) (by simp) ?_
        refine AllReadyH.cons rfl (fun K0 hK => ?_) (AllReadyH.cons rfl (fun K0 hK => ?_) AllReadyH.nil)
        · go_simp
          refine (HOF.out _).mono ?_
          rintro e w8a ⟨rfl, hb⟩
          have R8a := Lib.hid (R7a.out.trans (hb.mono R7a.out.size))
          have KA := Lib.hid (KA.out.onto hb)
          clear hb
          go_wp2_with fail
          refine hK.out _ _ ?_ (fun hHeld => ?_)
          · exact HSS.out _ R8a.out
          clear hK K0
          try simp only [Act.put, List.getElem_toArray, List.getElem_cons_succ, List.getElem_cons_zero, List.setIfInBounds_toArray, List.set_cons_zero, List.set_cons_succ]
          refine wpAnyH_ready (rs := [5]) (by kernel_rfl) (by simp) ?_
          refine AllReadyH.cons rfl (fun K0 hK => ?_) AllReadyH.nil
          go_simp
          have R9a := Lib.hid (R8a.out.alloc R8a.out.size (.cells #[.string ⟨#[]⟩, .int .i64 0, .string ⟨#[]⟩] 27))
          have HNE := Lib.hid (show ¬ ga = w8a.heap.size from fun e => by have := KA.out.lt; omega)
          have KA := Lib.hid (KA.out.alloc (.cells #[.string ⟨#[]⟩, .int .i64 0, .string ⟨#[]⟩] 27))
          have KB := Lib.hid (Blk.new w8a 27 #[.string ⟨#[]⟩, .int .i64 0, .string ⟨#[]⟩])
          have KBW := Lib.hid (show W.heap.size ≤ w8a.heap.size from R8a.out.size)
          refine hK.out _ _ ?_ (fun hHeld => ?_)
          · exact HSS.out _ R9a.out
          clear hK K0
          try simp only [Act.put, List.getElem_toArray, List.getElem_cons_succ, List.getElem_cons_zero, List.setIfInBounds_toArray, List.set_cons_zero, List.set_cons_succ]
          generalize (w8a.alloc (.cells #[.string ⟨#[]⟩, .int .i64 0, .string ⟨#[]⟩] 27)) = w9a at *
          generalize w8a.heap.size = gb at *
          have HAB := Lib.hid (show ¬ ga = gb from (fun e => HNE.out e))
          refine wpAnyH_ready (rs := [6]) (by kernel_rfl) (by simp) ?_
          refine AllReadyH.cons rfl (fun K0 hK => ?_) AllReadyH.nil
          have m0 := KA.out.cell 0
          have m1 := KA.out.cell 1
          have m2 := KA.out.cell 2
          have n0 := KA.out.free 0
          have n1 := KA.out.free 1
          have n2 := KA.out.free 2
          go_simp
          have R8 := Lib.hid (below_put3 R9a.out KAW.out (.string s) (.int .i64 xN) (.string xk))
          have KA := Lib.hid (show Blk _ ga _ #[.string s, .int .i64 xN, .string xk] from ((KA.out.set_ 0 (.string s)).set_ 1 (.int .i64 xN)).set_ 2 (.string xk))
          have KB := Lib.hid (blk_far3 KB.out (show ¬ gb = ga from fun e => HAB.out e.symm) (.string s) (.int .i64 xN) (.string xk))
          clear m0 m1 m2 n0 n1 n2
          refine hK.out _ _ ?_ (fun hHeld => ?_)
          · exact HSS.out _ R8.out
          clear hK K0
          try simp only [Act.put, List.getElem_toArray, List.getElem_cons_succ, List.getElem_cons_zero, List.setIfInBounds_toArray, List.set_cons_zero, List.set_cons_succ]
          generalize (((w9a.setCell ⟨ga, 0, none⟩ (.string s)).setCell ⟨ga, 1, none⟩ (.int .i64 xN)).setCell ⟨ga, 2, none⟩ (.string xk)) = w8 at *
          refine wpAnyH_ready (rs := [7]) (by kernel_rfl) (by simp) ?_
          refine AllReadyH.cons rfl (fun K0 hK => ?_) AllReadyH.nil
          have m0 := KB.out.cell 0
          have m1 := KB.out.cell 1
          have m2 := KB.out.cell 2
          have n0 := KB.out.free 0
          have n1 := KB.out.free 1
          have n2 := KB.out.free 2
          go_simp
          have R9 := Lib.hid (below_put3 R8.out KBW.out (.string s) (.int .i64 xN) (.string xk))
          have KB := Lib.hid (show Blk _ gb _ #[.string s, .int .i64 xN, .string xk] from ((KB.out.set_ 0 (.string s)).set_ 1 (.int .i64 xN)).set_ 2 (.string xk))
          have KA := Lib.hid (blk_far3 KA.out HAB.out (.string s) (.int .i64 xN) (.string xk))
          clear m0 m1 m2 n0 n1 n2
          refine hK.out _ _ ?_ (fun hHeld => ?_)
          · exact HSS.out _ R9.out
          clear hK K0
          try simp only [Act.put, List.getElem_toArray, List.getElem_cons_succ, List.getElem_cons_zero, List.setIfInBounds_toArray, List.set_cons_zero, List.set_cons_succ]
          refine wpAnyH_done (by kernel_rfl) ?_ _
          go_wp2_with fail
          go_meet
          exact ⟨ga, gb, rfl, rfl, KA.out, KB.out, HAB.out, KBW.out, R9.out⟩
        · go_simp
          have R10a := Lib.hid (R7a.out.alloc R7a.out.size (.cells #[.string ⟨#[]⟩, .int .i64 0, .string ⟨#[]⟩] 27))
          have HNE := Lib.hid (show ¬ ga = w7a.heap.size from fun e => by have := KA.out.lt; omega)
          have KA := Lib.hid (KA.out.alloc (.cells #[.string ⟨#[]⟩, .int .i64 0, .string ⟨#[]⟩] 27))
          have KB := Lib.hid (Blk.new w7a 27 #[.string ⟨#[]⟩, .int .i64 0, .string ⟨#[]⟩])
          have KBW := Lib.hid (show W.heap.size ≤ w7a.heap.size from R7a.out.size)
          refine hK.out _ _ ?_ (fun hHeld => ?_)
          · exact HSS.out _ R10a.out
          clear hK K0
          try simp only [Act.put, List.getElem_toArray, List.getElem_cons_succ, List.getElem_cons_zero, List.setIfInBounds_toArray, List.set_cons_zero, List.set_cons_succ]
          generalize (w7a.alloc (.cells #[.string ⟨#[]⟩, .int .i64 0, .string ⟨#[]⟩] 27)) = w10a at *
          generalize w7a.heap.size = gb at *
          refine wpAnyH_ready (rs := [3]) (by kernel_rfl) (by simp) ?_
          refine AllReadyH.cons rfl (fun K0 hK => ?_) AllReadyH.nil
          go_simp
          refine (HOF.out _).mono ?_
          rintro e w11a ⟨rfl, hb⟩
          have R11a := Lib.hid (R10a.out.trans (hb.mono R10a.out.size))
          have KA := Lib.hid (KA.out.onto hb)
          have KB := Lib.hid (KB.out.onto hb)
          clear hb
          go_wp2_with fail
          refine hK.out _ _ ?_ (fun hHeld => ?_)
          · exact HSS.out _ R11a.out
          clear hK K0
          try simp only [Act.put, List.getElem_toArray, List.getElem_cons_succ, List.getElem_cons_zero, List.setIfInBounds_toArray, List.set_cons_zero, List.set_cons_succ]
          have HAB := Lib.hid (show ¬ ga = gb from (fun e => HNE.out e))
          refine wpAnyH_ready (rs := [6]) (by kernel_rfl) (by simp) ?_
          refine AllReadyH.cons rfl (fun K0 hK => ?_) AllReadyH.nil
          have m0 := KA.out.cell 0
          have m1 := KA.out.cell 1
          have m2 := KA.out.cell 2
          have n0 := KA.out.free 0
          have n1 := KA.out.free 1
          have n2 := KA.out.free 2
          go_simp
          have R8 := Lib.hid (below_put3 R11a.out KAW.out (.string s) (.int .i64 xN) (.string xk))
          have KA := Lib.hid (show Blk _ ga _ #[.string s, .int .i64 xN, .string xk] from ((KA.out.set_ 0 (.string s)).set_ 1 (.int .i64 xN)).set_ 2 (.string xk))
          have KB := Lib.hid (blk_far3 KB.out (show ¬ gb = ga from fun e => HAB.out e.symm) (.string s) (.int .i64 xN) (.string xk))
          clear m0 m1 m2 n0 n1 n2
          refine hK.out _ _ ?_ (fun hHeld => ?_)
          · exact HSS.out _ R8.out
          clear hK K0
          try simp only [Act.put, List.getElem_toArray, List.getElem_cons_succ, List.getElem_cons_zero, List.setIfInBounds_toArray, List.set_cons_zero, List.set_cons_succ]
          generalize (((w11a.setCell ⟨ga, 0, none⟩ (.string s)).setCell ⟨ga, 1, none⟩ (.int .i64 xN)).setCell ⟨ga, 2, none⟩ (.string xk)) = w8 at *
          refine wpAnyH_ready (rs := [7]) (by kernel_rfl) (by simp) ?_
          refine AllReadyH.cons rfl (fun K0 hK => ?_) AllReadyH.nil
          have m0 := KB.out.cell 0
          have m1 := KB.out.cell 1
          have m2 := KB.out.cell 2
          have n0 := KB.out.free 0
          have n1 := KB.out.free 1
          have n2 := KB.out.free 2
          go_simp
          have R9 := Lib.hid (below_put3 R8.out KBW.out (.string s) (.int .i64 xN) (.string xk))
          have KB := Lib.hid (show Blk _ gb _ #[.string s, .int .i64 xN, .string xk] from ((KB.out.set_ 0 (.string s)).set_ 1 (.int .i64 xN)).set_ 2 (.string xk))
          have KA := Lib.hid (blk_far3 KA.out HAB.out (.string s) (.int .i64 xN) (.string xk))
          clear m0 m1 m2 n0 n1 n2
          refine hK.out _ _ ?_ (fun hHeld => ?_)
          · exact HSS.out _ R9.out
          clear hK K0
          try simp only [Act.put, List.getElem_toArray, List.getElem_cons_succ, List.getElem_cons_zero, List.setIfInBounds_toArray, List.set_cons_zero, List.set_cons_succ]
          refine wpAnyH_done (by kernel_rfl) ?_ _
          go_wp2_with fail
          go_meet
          exact ⟨ga, gb, rfl, rfl, KA.out, KB.out, HAB.out, KBW.out, R9.out⟩
      · go_simp
        have R12a := Lib.hid (R1a.out.alloc R1a.out.size (.cells #[.string ⟨#[]⟩, .int .i64 0, .string ⟨#[]⟩] 27))
        have KB := Lib.hid (Blk.new w1a 27 #[.string ⟨#[]⟩, .int .i64 0, .string ⟨#[]⟩])
        have KBW := Lib.hid (show W.heap.size ≤ w1a.heap.size from R1a.out.size)
        refine hK.out _ _ ?_ (fun hHeld => ?_)
        · exact HSS.out _ R12a.out
        clear hK K0
        try simp only [Act.put, List.getElem_toArray, List.getElem_cons_succ, List.getElem_cons_zero, List.setIfInBounds_toArray, List.set_cons_zero, List.set_cons_succ]
        generalize (w1a.alloc (.cells #[.string ⟨#[]⟩, .int .i64 0, .string ⟨#[]⟩] 27)) = w12a at *
        generalize w1a.heap.size = gb at *
        refine wpAnyH_ready (rs := [3, 4]) (by kernel_rfl) (by simp) ?_
        refine AllReadyH.cons rfl (fun K0 hK => ?_) (AllReadyH.cons rfl (fun K0 hK => ?_) AllReadyH.nil)
        · go_simp
          refine (HOF.out _).mono ?_
          rintro e w13a ⟨rfl, hb⟩
          have R13a := Lib.hid (R12a.out.trans (hb.mono R12a.out.size))
          have KB := Lib.hid (KB.out.onto hb)
          clear hb
          go_wp2_with fail
          refine hK.out _ _ ?_ (fun hHeld => ?_)
          · exact HSS.out _ R13a.out
          clear hK K0
          try simp only [Act.put, List.getElem_toArray, List.getElem_cons_succ, List.getElem_cons_zero, List.setIfInBounds_toArray, List.set_cons_zero, List.set_cons_succ]
          refine wpAnyH_ready (rs := [4]) (by kernel_rfl) (by simp) ?_
          refine AllReadyH.cons rfl (fun K0 hK => ?_) AllReadyH.nil
          go_simp
          have R14a := Lib.hid (R13a.out.alloc R13a.out.size (.cells #[.string ⟨#[]⟩, .int .i64 0, .string ⟨#[]⟩] 27))
          have HNE := Lib.hid (show ¬ gb = w13a.heap.size from fun e => by have := KB.out.lt; omega)
          have KB := Lib.hid (KB.out.alloc (.cells #[.string ⟨#[]⟩, .int .i64 0, .string ⟨#[]⟩] 27))
          have KA := Lib.hid (Blk.new w13a 27 #[.string ⟨#[]⟩, .int .i64 0, .string ⟨#[]⟩])
          have KAW := Lib.hid (show W.heap.size ≤ w13a.heap.size from R13a.out.size)
          refine hK.out _ _ ?_ (fun hHeld => ?_)
          · exact HSS.out _ R14a.out
          clear hK K0
          try simp only [Act.put, List.getElem_toArray, List.getElem_cons_succ, List.getElem_cons_zero, List.setIfInBounds_toArray, List.set_cons_zero, List.set_cons_succ]
          generalize (w13a.alloc (.cells #[.string ⟨#[]⟩, .int .i64 0, .string ⟨#[]⟩] 27)) = w14a at *
          generalize w13a.heap.size = ga at *
          have HAB := Lib.hid (show ¬ ga = gb from (fun e => HNE.out e.symm))
          refine wpAnyH_ready (rs := [6]) (by kernel_rfl) (by simp) ?_
          refine AllReadyH.cons rfl (fun K0 hK => ?_) AllReadyH.nil
          have m0 := KA.out.cell 0
          have m1 := KA.out.cell 1
          have m2 := KA.out.cell 2
          have n0 := KA.out.free 0
          have n1 := KA.out.free 1
          have n2 := KA.out.free 2
          go_simp
          have R8 := Lib.hid (below_put3 R14a.out KAW.out (.string s) (.int .i64 xN) (.string xk))
          have KA := Lib.hid (show Blk _ ga _ #[.string s, .int .i64 xN, .string xk] from ((KA.out.set_ 0 (.string s)).set_ 1 (.int .i64 xN)).set_ 2 (.string xk))
          have KB := Lib.hid (blk_far3 KB.out (show ¬ gb = ga from fun e => HAB.out e.symm) (.string s) (.int .i64 xN) (.string xk))
          clear m0 m1 m2 n0 n1 n2
          refine hK.out _ _ ?_ (fun hHeld => ?_)
          · exact HSS.out _ R8.out
          clear hK K0
          try simp only [Act.put, List.getElem_toArray, List.getElem_cons_succ, List.getElem_cons_zero, List.setIfInBounds_toArray, List.set_cons_zero, List.set_cons_succ]
          generalize (((w14a.setCell ⟨ga, 0, none⟩ (.string s)).setCell ⟨ga, 1, none⟩ (.int .i64 xN)).setCell ⟨ga, 2, none⟩ (.string xk)) = w8 at *
          refine wpAnyH_ready (rs := [7]) (by kernel_rfl) (by simp) ?_
          refine AllReadyH.cons rfl (fun K0 hK => ?_) AllReadyH.nil
          have m0 := KB.out.cell 0
          have m1 := KB.out.cell 1
          have m2 := KB.out.cell 2
          have n0 := KB.out.free 0
          have n1 := KB.out.free 1
          have n2 := KB.out.free 2
          go_simp
          have R9 := Lib.hid (below_put3 R8.out KBW.out (.string s) (.int .i64 xN) (.string xk))
          have KB := Lib.hid (show Blk _ gb _ #[.string s, .int .i64 xN, .string xk] from ((KB.out.set_ 0 (.string s)).set_ 1 (.int .i64 xN)).set_ 2 (.string xk))
          have KA := Lib.hid (blk_far3 KA.out HAB.out (.string s) (.int .i64 xN) (.string xk))
          clear m0 m1 m2 n0 n1 n2
          refine hK.out _ _ ?_ (fun hHeld => ?_)
          · exact HSS.out _ R9.out
          clear hK K0
          try simp only [Act.put, List.getElem_toArray, List.getElem_cons_succ, List.getElem_cons_zero, List.setIfInBounds_toArray, List.set_cons_zero, List.set_cons_succ]
          refine wpAnyH_done (by kernel_rfl) ?_ _
          go_wp2_with fail
          go_meet
          exact ⟨ga, gb, rfl, rfl, KA.out, KB.out, HAB.out, KBW.out, R9.out⟩
        · go_simp
          have R15a := Lib.hid (R12a.out.alloc R12a.out.size (.cells #[.string ⟨#[]⟩, .int .i64 0, .string ⟨#[]⟩] 27))
          have HNE := Lib.hid (show ¬ gb = w12a.heap.size from fun e => by have := KB.out.lt; omega)
          have KB := Lib.hid (KB.out.alloc (.cells #[.string ⟨#[]⟩, .int .i64 0, .string ⟨#[]⟩] 27))
          have KA := Lib.hid (Blk.new w12a 27 #[.string ⟨#[]⟩, .int .i64 0, .string ⟨#[]⟩])
          have KAW := Lib.hid (show W.heap.size ≤ w12a.heap.size from R12a.out.size)
          refine hK.out _ _ ?_ (fun hHeld => ?_)
          · exact HSS.out _ R15a.out
          clear hK K0
          try simp only [Act.put, List.getElem_toArray, List.getElem_cons_succ, List.getElem_cons_zero, List.setIfInBounds_toArray, List.set_cons_zero, List.set_cons_succ]
          generalize (w12a.alloc (.cells #[.string ⟨#[]⟩, .int .i64 0, .string ⟨#[]⟩] 27)) = w15a at *
          generalize w12a.heap.size = ga at *
          refine wpAnyH_ready (rs := [3]) (by kernel_rfl) (by simp) ?_
          refine AllReadyH.cons rfl (fun K0 hK => ?_) AllReadyH.nil
          go_simp
          refine (HOF.out _).mono ?_
          rintro e w16a ⟨rfl, hb⟩
          have R16a := Lib.hid (R15a.out.trans (hb.mono R15a.out.size))
          have KA := Lib.hid (KA.out.onto hb)
          have KB := Lib.hid (KB.out.onto hb)
          clear hb
          go_wp2_with fail
          refine hK.out _ _ ?_ (fun hHeld => ?_)
          · exact HSS.out _ R16a.out
          clear hK K0
          try simp only [Act.put, List.getElem_toArray, List.getElem_cons_succ, List.getElem_cons_zero, List.setIfInBounds_toArray, List.set_cons_zero, List.set_cons_succ]
          have HAB := Lib.hid (show ¬ ga = gb from (fun e => HNE.out e.symm))
          refine wpAnyH_ready (rs := [6]) (by kernel_rfl) (by simp) ?_
          refine AllReadyH.cons rfl (fun K0 hK => ?_) AllReadyH.nil
          have m0 := KA.out.cell 0
          have m1 := KA.out.cell 1
          have m2 := KA.out.cell 2
          have n0 := KA.out.free 0
          have n1 := KA.out.free 1
          have n2 := KA.out.free 2
          go_simp
          have R8 := Lib.hid (below_put3 R16a.out KAW.out (.string s) (.int .i64 xN) (.string xk))
          have KA := Lib.hid (show Blk _ ga _ #[.string s, .int .i64 xN, .string xk] from ((KA.out.set_ 0 (.string s)).set_ 1 (.int .i64 xN)).set_ 2 (.string xk))
          have KB := Lib.hid (blk_far3 KB.out (show ¬ gb = ga from fun e => HAB.out e.symm) (.string s) (.int .i64 xN) (.string xk))
          clear m0 m1 m2 n0 n1 n2
          refine hK.out _ _ ?_ (fun hHeld => ?_)
          · exact HSS.out _ R8.out
          clear hK K0
          try simp only [Act.put, List.getElem_toArray, List.getElem_cons_succ, List.getElem_cons_zero, List.setIfInBounds_toArray, List.set_cons_zero, List.set_cons_succ]
          generalize (((w16a.setCell ⟨ga, 0, none⟩ (.string s)).setCell ⟨ga, 1, none⟩ (.int .i64 xN)).setCell ⟨ga, 2, none⟩ (.string xk)) = w8 at *
          refine wpAnyH_ready (rs := [7]) (by kernel_rfl) (by simp) ?_
          refine AllReadyH.cons rfl (fun K0 hK => ?_) AllReadyH.nil
          have m0 := KB.out.cell 0
          have m1 := KB.out.cell 1
          have m2 := KB.out.cell 2
          have n0 := KB.out.free 0
          have n1 := KB.out.free 1
          have n2 := KB.out.free 2
          go_simp
          have R9 := Lib.hid (below_put3 R8.out KBW.out (.string s) (.int .i64 xN) (.string xk))
          have KB := Lib.hid (show Blk _ gb _ #[.string s, .int .i64 xN, .string xk] from ((KB.out.set_ 0 (.string s)).set_ 1 (.int .i64 xN)).set_ 2 (.string xk))
          have KA := Lib.hid (blk_far3 KA.out HAB.out (.string s) (.int .i64 xN) (.string xk))
          clear m0 m1 m2 n0 n1 n2
          refine hK.out _ _ ?_ (fun hHeld => ?_)
          · exact HSS.out _ R9.out
          clear hK K0
          try simp only [Act.put, List.getElem_toArray, List.getElem_cons_succ, List.getElem_cons_zero, List.setIfInBounds_toArray, List.set_cons_zero, List.set_cons_succ]
          refine wpAnyH_done (by kernel_rfl) ?_ _
          go_wp2_with fail
          go_meet
          exact ⟨ga, gb, rfl, rfl, KA.out, KB.out, HAB.out, KBW.out, R9.out⟩
    · go_simp
      have R17a := Lib.hid (R0.out.alloc R0.out.size (.cells #[.string ⟨#[]⟩, .int .i64 0, .string ⟨#[]⟩] 27))
      have KA := Lib.hid (Blk.new w0 27 #[.string ⟨#[]⟩, .int .i64 0, .string ⟨#[]⟩])
      have KAW := Lib.hid (show W.heap.size ≤ w0.heap.size from R0.out.size)
      refine hK.out _ _ ?_ (fun hHeld => ?_)
      · exact HSS.out _ R17a.out
      clear hK K0
      try simp only [Act.put, List.getElem_toArray, List.getElem_cons_succ, List.getElem_cons_zero, List.setIfInBounds_toArray, List.set_cons_zero, List.set_cons_succ]
      generalize (w0.alloc (.cells #[.string ⟨#[]⟩, .int .i64 0, .string ⟨#[]⟩] 27)) = w17a at *
      generalize w0.heap.size = ga at *
      refine wpAnyH_ready (rs := [1, 5]) (by kernel_rfl) (by simp) ?_
      refine AllReadyH.cons rfl (fun K0 hK => ?_) (AllReadyH.cons rfl (fun K0 hK => ?_) AllReadyH.nil)
      · go_simp
        refine (HOF.out _).mono ?_
        rintro e w18a ⟨rfl, hb⟩
        have R18a := Lib.hid (R17a.out.trans (hb.mono R17a.out.size))
        have KA := Lib.hid (KA.out.onto hb)
        clear hb
        go_wp2_with fail
        refine hK.out _ _ ?_ (fun hHeld => ?_)
        · exact HSS.out _ R18a.out
        clear hK K0
        try simp only [Act.put, List.getElem_toArray, List.getElem_cons_succ, List.getElem_cons_zero, List.setIfInBounds_toArray, List.set_cons_zero, List.set_cons_succ]
        refine wpAnyH_ready (rs := [3, 5]) (by kernel_rfl) (by simp) ?_
        refine AllReadyH.cons rfl (fun K0 hK => ?_) (AllReadyH.cons rfl (fun K0 hK => ?_) AllReadyH.nil)
        · go_simp
          refine (HOF.out _).mono ?_
          rintro e w19a ⟨rfl, hb⟩
          have R19a := Lib.hid (R18a.out.trans (hb.mono R18a.out.size))
          have KA := Lib.hid (KA.out.onto hb)
          clear hb
          go_wp2_with fail
          refine hK.out _ _ ?_ (fun hHeld => ?_)
          · exact HSS.out _ R19a.out
          clear hK K0
          try simp only [Act.put, List.getElem_toArray, List.getElem_cons_succ, List.getElem_cons_zero, List.setIfInBounds_toArray, List.set_cons_zero, List.set_cons_succ]
          refine wpAnyH_ready (rs := [5]) (by kernel_rfl) (by simp) ?_
          refine AllReadyH.cons rfl (fun K0 hK => ?_) AllReadyH.nil
          go_simp
          have R20a := Lib.hid (R19a.out.alloc R19a.out.size (.cells #[.string ⟨#[]⟩, .int .i64 0, .string ⟨#[]⟩] 27))
          have HNE := Lib.hid (show ¬ ga = w19a.heap.size from fun e => by have := KA.out.lt; omega)
          have KA := Lib.hid (KA.out.alloc (.cells #[.string ⟨#[]⟩, .int .i64 0, .string ⟨#[]⟩] 27))
          have KB := Lib.hid (Blk.new w19a 27 #[.string ⟨#[]⟩, .int .i64 0, .string ⟨#[]⟩])
          have KBW := Lib.hid (show W.heap.size ≤ w19a.heap.size from R19a.out.size)
          refine hK.out _ _ ?_ (fun hHeld => ?_)
          · exact HSS.out _ R20a.out
          clear hK K0
          try simp only [Act.put, List.getElem_toArray, List.getElem_cons_succ, List.getElem_cons_zero, List.setIfInBounds_toArray, List.set_cons_zero, List.set_cons_succ]
          generalize (w19a.alloc (.cells #[.string ⟨#[]⟩, .int .i64 0, .string ⟨#[]⟩] 27)) = w20a at *
          generalize w19a.heap.size = gb at *
          have HAB := Lib.hid (show ¬ ga = gb from (fun e => HNE.out e))
          refine wpAnyH_ready (rs := [6]) (by kernel_rfl) (by simp) ?_
          refine AllReadyH.cons rfl (fun K0 hK => ?_) AllReadyH.nil
          have m0 := KA.out.cell 0
          have m1 := KA.out.cell 1
          have m2 := KA.out.cell 2
          have n0 := KA.out.free 0
          have n1 := KA.out.free 1
          have n2 := KA.out.free 2
          go_simp
          have R8 := Lib.hid (below_put3 R20a.out KAW.out (.string s) (.int .i64 xN) (.string xk))
          have KA := Lib.hid (show Blk _ ga _ #[.string s, .int .i64 xN, .string xk] from ((KA.out.set_ 0 (.string s)).set_ 1 (.int .i64 xN)).set_ 2 (.string xk))
          have KB := Lib.hid (blk_far3 KB.out (show ¬ gb = ga from fun e => HAB.out e.symm) (.string s) (.int .i64 xN) (.string xk))
          clear m0 m1 m2 n0 n1 n2
          refine hK.out _ _ ?_ (fun hHeld => ?_)
          · exact HSS.out _ R8.out
          clear hK K0
          try simp only [Act.put, List.getElem_toArray, List.getElem_cons_succ, List.getElem_cons_zero, List.setIfInBounds_toArray, List.set_cons_zero, List.set_cons_succ]
          generalize (((w20a.setCell ⟨ga, 0, none⟩ (.string s)).setCell ⟨ga, 1, none⟩ (.int .i64 xN)).setCell ⟨ga, 2, none⟩ (.string xk)) = w8 at *
          refine wpAnyH_ready (rs := [7]) (by kernel_rfl) (by simp) ?_
          refine AllReadyH.cons rfl (fun K0 hK => ?_) AllReadyH.nil
          have m0 := KB.out.cell 0
          have m1 := KB.out.cell 1
          have m2 := KB.out.cell 2
          have n0 := KB.out.free 0
          have n1 := KB.out.free 1
          have n2 := KB.out.free 2
          go_simp
          have R9 := Lib.hid (below_put3 R8.out KBW.out (.string s) (.int .i64 xN) (.string xk))
          have KB := Lib.hid (show Blk _ gb _ #[.string s, .int .i64 xN, .string xk] from ((KB.out.set_ 0 (.string s)).set_ 1 (.int .i64 xN)).set_ 2 (.string xk))
          have KA := Lib.hid (blk_far3 KA.out HAB.out (.string s) (.int .i64 xN) (.string xk))
          clear m0 m1 m2 n0 n1 n2
          refine hK.out _ _ ?_ (fun hHeld => ?_)
          · exact HSS.out _ R9.out
          clear hK K0
          try simp only [Act.put, List.getElem_toArray, List.getElem_cons_succ, List.getElem_cons_zero, List.setIfInBounds_toArray, List.set_cons_zero, List.set_cons_succ]
          refine wpAnyH_done (by kernel_rfl) ?_ _
          go_wp2_with fail
          go_meet
          exact ⟨ga, gb, rfl, rfl, KA.out, KB.out, HAB.out, KBW.out, R9.out⟩
        · go_simp
          have R21a := Lib.hid (R18a.out.alloc R18a.out.size (.cells #[.string ⟨#[]⟩, .int .i64 0, .string ⟨#[]⟩] 27))
          have HNE := Lib.hid (show ¬ ga = w18a.heap.size from fun e => by have := KA.out.lt; omega)
          have KA := Lib.hid (KA.out.alloc (.cells #[.string ⟨#[]⟩, .int .i64 0, .string ⟨#[]⟩] 27))
          have KB := Lib.hid (Blk.new w18a 27 #[.string ⟨#[]⟩, .int .i64 0, .string ⟨#[]⟩])
          have KBW := Lib.hid (show W.heap.size ≤ w18a.heap.size from R18a.out.size)
          refine hK.out _ _ ?_ (fun hHeld => ?_)
          · exact HSS.out _ R21a.out
          clear hK K0
          try simp only [Act.put, List.getElem_toArray, List.getElem_cons_succ, List.getElem_cons_zero, List.setIfInBounds_toArray, List.set_cons_zero, List.set_cons_succ]
          generalize (w18a.alloc (.cells #[.string ⟨#[]⟩, .int .i64 0, .string ⟨#[]⟩] 27)) = w21a at *
          generalize w18a.heap.size = gb at *
          refine wpAnyH_ready (rs := [3]) (by kernel_rfl) (by simp) ?_
          refine AllReadyH.cons rfl (fun K0 hK => ?_) AllReadyH.nil
          go_simp
          refine (HOF.out _).mono ?_
          rintro e w22a ⟨rfl, hb⟩
          have R22a := Lib.hid (R21a.out.trans (hb.mono R21a.out.size))
          have KA := Lib.hid (KA.out.onto hb)
          have KB := Lib.hid (KB.out.onto hb)
          clear hb
          go_wp2_with fail
          refine hK.out _ _ ?_ (fun hHeld => ?_)
          · exact HSS.out _ R22a.out
          clear hK K0
          try simp only [Act.put, List.getElem_toArray, List.getElem_cons_succ, List.getElem_cons_zero, List.setIfInBounds_toArray, List.set_cons_zero, List.set_cons_succ]
          have HAB := Lib.hid (show ¬ ga = gb from (fun e => HNE.out e))
          refine wpAnyH_ready (rs := [6]) (by kernel_rfl) (by simp) ?_
          refine AllReadyH.cons rfl (fun K0 hK => ?_) AllReadyH.nil
          have m0 := KA.out.cell 0
          have m1 := KA.out.cell 1
          have m2 := KA.out.cell 2
          have n0 := KA.out.free 0
          have n1 := KA.out.free 1
          have n2 := KA.out.free 2
          go_simp
          have R8 := Lib.hid (below_put3 R22a.out KAW.out (.string s) (.int .i64 xN) (.string xk))
          have KA := Lib.hid (show Blk _ ga _ #[.string s, .int .i64 xN, .string xk] from ((KA.out.set_ 0 (.string s)).set_ 1 (.int .i64 xN)).set_ 2 (.string xk))
          have KB := Lib.hid (blk_far3 KB.out (show ¬ gb = ga from fun e => HAB.out e.symm) (.string s) (.int .i64 xN) (.string xk))
          clear m0 m1 m2 n0 n1 n2
          refine hK.out _ _ ?_ (fun hHeld => ?_)
          · exact HSS.out _ R8.out
          clear hK K0
          try simp only [Act.put, List.getElem_toArray, List.getElem_cons_succ, List.getElem_cons_zero, List.setIfInBounds_toArray, List.set_cons_zero, List.set_cons_succ]
          generalize (((w22a.setCell ⟨ga, 0, none⟩ (.string s)).setCell ⟨ga, 1, none⟩ (.int .i64 xN)).setCell ⟨ga, 2, none⟩ (.string xk)) = w8 at *
          refine wpAnyH_ready (rs := [7]) (by kernel_rfl) (by simp) ?_
          refine AllReadyH.cons rfl (fun K0 hK => ?_) AllReadyH.nil
          have m0 := KB.out.cell 0
          have m1 := KB.out.cell 1
          have m2 := KB.out.cell 2
          have n0 := KB.out.free 0
          have n1 := KB.out.free 1
          have n2 := KB.out.free 2
          go_simp
          have R9 := Lib.hid (below_put3 R8.out KBW.out (.string s) (.int .i64 xN) (.string xk))
          have KB := Lib.hid (show Blk _ gb _ #[.string s, .int .i64 xN, .string xk] from ((KB.out.set_ 0 (.string s)).set_ 1 (.int .i64 xN)).set_ 2 (.string xk))
          have KA := Lib.hid (blk_far3 KA.out HAB.out (.string s) (.int .i64 xN) (.string xk))
          clear m0 m1 m2 n0 n1 n2
          refine hK.out _ _ ?_ (fun hHeld => ?_)
          · exact HSS.out _ R9.out
          clear hK K0
          try simp only [Act.put, List.getElem_toArray, List.getElem_cons_succ, List.getElem_cons_zero, List.setIfInBounds_toArray, List.set_cons_zero, List.set_cons_succ]
          refine wpAnyH_done (by kernel_rfl) ?_ _
          go_wp2_with fail
          go_meet
          exact ⟨ga, gb, rfl, rfl, KA.out, KB.out, HAB.out, KBW.out, R9.out⟩
      · go_simp
        have R23a := Lib.hid (R17a.out.alloc R17a.out.size (.cells #[.string ⟨#[]⟩, .int .i64 0, .string ⟨#[]⟩] 27))
        have HNE := Lib.hid (show ¬ ga = w17a.heap.size from fun e => by have := KA.out.lt; omega)
        have KA := Lib.hid (KA.out.alloc (.cells #[.string ⟨#[]⟩, .int .i64 0, .string ⟨#[]⟩] 27))
        have KB := Lib.hid (Blk.new w17a 27 #[.string ⟨#[]⟩, .int .i64 0, .string ⟨#[]⟩])
        have KBW := Lib.hid (show W.heap.size ≤ w17a.heap.size from R17a.out.size)
        refine hK.out _ _ ?_ (fun hHeld => ?_)
        · exact HSS.out _ R23a.out
        clear hK K0
        try simp only [Act.put, List.getElem_toArray, List.getElem_cons_succ, List.getElem_cons_zero, List.setIfInBounds_toArray, List.set_cons_zero, List.set_cons_succ]
        generalize (w17a.alloc (.cells #[.string ⟨#[]⟩, .int .i64 0, .string ⟨#[]⟩] 27)) = w23a at *
        generalize w17a.heap.size = gb at *
        refine wpAnyH_ready (rs := [1]) (by kernel_rfl) (by simp) ?_
        refine AllReadyH.cons rfl (fun K0 hK => ?_) AllReadyH.nil
        go_simp
        refine (HOF.out _).mono ?_
        rintro e w24a ⟨rfl, hb⟩
        have R24a := Lib.hid (R23a.out.trans (hb.mono R23a.out.size))
        have KA := Lib.hid (KA.out.onto hb)
        have KB := Lib.hid (KB.out.onto hb)
        clear hb
        go_wp2_with fail
        refine hK.out _ _ ?_ (fun hHeld => ?_)
        · exact HSS.out _ R24a.out
        clear hK K0
        try simp only [Act.put, List.getElem_toArray, List.getElem_cons_succ, List.getElem_cons_zero, List.setIfInBounds_toArray, List.set_cons_zero, List.set_cons_succ]
        refine wpAnyH_ready (rs := [3]) (by kernel_rfl) (by simp) ?_
        refine AllReadyH.cons rfl (fun K0 hK => ?_) AllReadyH.nil
        go_simp
        refine (HOF.out _).mono ?_
        rintro e w25a ⟨rfl, hb⟩
        have R25a := Lib.hid (R24a.out.trans (hb.mono R24a.out.size))
        have KA := Lib.hid (KA.out.onto hb)
        have KB := Lib.hid (KB.out.onto hb)
        clear hb
        go_wp2_with fail
        refine hK.out _ _ ?_ (fun hHeld => ?_)
        · exact HSS.out _ R25a.out
        clear hK K0
        try simp only [Act.put, List.getElem_toArray, List.getElem_cons_succ, List.getElem_cons_zero, List.setIfInBounds_toArray, List.set_cons_zero, List.set_cons_succ]
        have HAB := Lib.hid (show ¬ ga = gb from (fun e => HNE.out e))
        refine wpAnyH_ready (rs := [6]) (by kernel_rfl) (by simp) ?_
        refine AllReadyH.cons rfl (fun K0 hK => ?_) AllReadyH.nil
        have m0 := KA.out.cell 0
        have m1 := KA.out.cell 1
        have m2 := KA.out.cell 2
        have n0 := KA.out.free 0
        have n1 := KA.out.free 1
        have n2 := KA.out.free 2
        go_simp
        have R8 := Lib.hid (below_put3 R25a.out KAW.out (.string s) (.int .i64 xN) (.string xk))
        have KA := Lib.hid (show Blk _ ga _ #[.string s, .int .i64 xN, .string xk] from ((KA.out.set_ 0 (.string s)).set_ 1 (.int .i64 xN)).set_ 2 (.string xk))
        have KB := Lib.hid (blk_far3 KB.out (show ¬ gb = ga from fun e => HAB.out e.symm) (.string s) (.int .i64 xN) (.string xk))
        clear m0 m1 m2 n0 n1 n2
        refine hK.out _ _ ?_ (fun hHeld => ?_)
        · exact HSS.out _ R8.out
        clear hK K0
        try simp only [Act.put, List.getElem_toArray, List.getElem_cons_succ, List.getElem_cons_zero, List.setIfInBounds_toArray, List.set_cons_zero, List.set_cons_succ]
        generalize (((w25a.setCell ⟨ga, 0, none⟩ (.string s)).setCell ⟨ga, 1, none⟩ (.int .i64 xN)).setCell ⟨ga, 2, none⟩ (.string xk)) = w8 at *
        refine wpAnyH_ready (rs := [7]) (by kernel_rfl) (by simp) ?_
        refine AllReadyH.cons rfl (fun K0 hK => ?_) AllReadyH.nil
        have m0 := KB.out.cell 0
        have m1 := KB.out.cell 1
        have m2 := KB.out.cell 2
        have n0 := KB.out.free 0
        have n1 := KB.out.free 1
        have n2 := KB.out.free 2
        go_simp
        have R9 := Lib.hid (below_put3 R8.out KBW.out (.string s) (.int .i64 xN) (.string xk))
        have KB := Lib.hid (show Blk _ gb _ #[.string s, .int .i64 xN, .string xk] from ((KB.out.set_ 0 (.string s)).set_ 1 (.int .i64 xN)).set_ 2 (.string xk))
        have KA := Lib.hid (blk_far3 KA.out HAB.out (.string s) (.int .i64 xN) (.string xk))
        clear m0 m1 m2 n0 n1 n2
        refine hK.out _ _ ?_ (fun hHeld => ?_)
        · exact HSS.out _ R9.out
        clear hK K0
        try simp only [Act.put, List.getElem_toArray, List.getElem_cons_succ, List.getElem_cons_zero, List.setIfInBounds_toArray, List.set_cons_zero, List.set_cons_succ]
        refine wpAnyH_done (by kernel_rfl) ?_ _
        go_wp2_with fail
        go_meet
        exact ⟨ga, gb, rfl, rfl, KA.out, KB.out, HAB.out, KBW.out, R9.out⟩
    · go_simp
      have R26a := Lib.hid (R0.out.alloc R0.out.size (.cells #[.string ⟨#[]⟩, .int .i64 0, .string ⟨#[]⟩] 27))
      have KB := Lib.hid (Blk.new w0 27 #[.string ⟨#[]⟩, .int .i64 0, .string ⟨#[]⟩])
      have KBW := Lib.hid (show W.heap.size ≤ w0.heap.size from R0.out.size)
      refine hK.out _ _ ?_ (fun hHeld => ?_)
      · exact HSS.out _ R26a.out
      clear hK K0
      try simp only [Act.put, List.getElem_toArray, List.getElem_cons_succ, List.getElem_cons_zero, List.setIfInBounds_toArray, List.set_cons_zero, List.set_cons_succ]
      generalize (w0.alloc (.cells #[.string ⟨#[]⟩, .int .i64 0, .string ⟨#[]⟩] 27)) = w26a at *
      generalize w0.heap.size = gb at *
      refine wpAnyH_ready (rs := [1, 4]) (by kernel_rfl) (by simp) ?_
      refine AllReadyH.cons rfl (fun K0 hK => ?_) (AllReadyH.cons rfl (fun K0 hK => ?_) AllReadyH.nil)
      · go_simp
        refine (HOF.out _).mono ?_
        rintro e w27a ⟨rfl, hb⟩
        have R27a := Lib.hid (R26a.out.trans (hb.mono R26a.out.size))
        have KB := Lib.hid (KB.out.onto hb)
        clear hb
        go_wp2_with fail
        refine hK.out _ _ ?_ (fun hHeld => ?_)
        · exact HSS.out _ R27a.out
        clear hK K0
        try simp only [Act.put, List.getElem_toArray, List.getElem_cons_succ, List.getElem_cons_zero, List.setIfInBounds_toArray, List.set_cons_zero, List.set_cons_succ]
        refine wpAnyH_ready (rs := [3, 4]) (by kernel_rfl) (by simp) ?_
        refine AllReadyH.cons rfl (fun K0 hK => ?_) (AllReadyH.cons rfl (fun K0 hK => ?_) AllReadyH.nil)
        · go_simp
          refine (HOF.out _).mono ?_
          rintro e w28a ⟨rfl, hb⟩
          have R28a := Lib.hid (R27a.out.trans (hb.mono R27a.out.size))
          have KB := Lib.hid (KB.out.onto hb)
          clear hb
          go_wp2_with fail
          refine hK.out _ _ ?_ (fun hHeld => ?_)
          · exact HSS.out _ R28a.out
          clear hK K0
          try simp only [Act.put, List.getElem_toArray, List.getElem_cons_succ, List.getElem_cons_zero, List.setIfInBounds_toArray, List.set_cons_zero, List.set_cons_succ]
          refine wpAnyH_ready (rs := [4]) (by kernel_rfl) (by simp) ?_
          refine AllReadyH.cons rfl (fun K0 hK => ?_) AllReadyH.nil
          go_simp
          have R29a := Lib.hid (R28a.out.alloc R28a.out.size (.cells #[.string ⟨#[]⟩, .int .i64 0, .string ⟨#[]⟩] 27))
          have HNE := Lib.hid (show ¬ gb = w28a.heap.size from fun e => by have := KB.out.lt; omega)
          have KB := Lib.hid (KB.out.alloc (.cells #[.string ⟨#[]⟩, .int .i64 0, .string ⟨#[]⟩] 27))
          have KA := Lib.hid (Blk.new w28a 27 #[.string ⟨#[]⟩, .int .i64 0, .string ⟨#[]⟩])
          have KAW := Lib.hid (show W.heap.size ≤ w28a.heap.size from R28a.out.size)
          refine hK.out _ _ ?_ (fun hHeld => ?_)
          · exact HSS.out _ R29a.out
          clear hK K0
          try simp only [Act.put, List.getElem_toArray, List.getElem_cons_succ, List.getElem_cons_zero, List.setIfInBounds_toArray, List.set_cons_zero, List.set_cons_succ]
          generalize (w28a.alloc (.cells #[.string ⟨#[]⟩, .int .i64 0, .string ⟨#[]⟩] 27)) = w29a at *
          generalize w28a.heap.size = ga at *
          have HAB := Lib.hid (show ¬ ga = gb from (fun e => HNE.out e.symm))
          refine wpAnyH_ready (rs := [6]) (by kernel_rfl) (by simp) ?_
          refine AllReadyH.cons rfl (fun K0 hK => ?_) AllReadyH.nil
          have m0 := KA.out.cell 0
          have m1 := KA.out.cell 1
          have m2 := KA.out.cell 2
          have n0 := KA.out.free 0
          have n1 := KA.out.free 1
          have n2 := KA.out.free 2
          go_simp
          have R8 := Lib.hid (below_put3 R29a.out KAW.out (.string s) (.int .i64 xN) (.string xk))
          have KA := Lib.hid (show Blk _ ga _ #[.string s, .int .i64 xN, .string xk] from ((KA.out.set_ 0 (.string s)).set_ 1 (.int .i64 xN)).set_ 2 (.string xk))
          have KB := Lib.hid (blk_far3 KB.out (show ¬ gb = ga from fun e => HAB.out e.symm) (.string s) (.int .i64 xN) (.string xk))
          clear m0 m1 m2 n0 n1 n2
          refine hK.out _ _ ?_ (fun hHeld => ?_)
          · exact HSS.out _ R8.out
          clear hK K0
          try simp only [Act.put, List.getElem_toArray, List.getElem_cons_succ, List.getElem_cons_zero, List.setIfInBounds_toArray, List.set_cons_zero, List.set_cons_succ]
          generalize (((w29a.setCell ⟨ga, 0, none⟩ (.string s)).setCell ⟨ga, 1, none⟩ (.int .i64 xN)).setCell ⟨ga, 2, none⟩ (.string xk)) = w8 at *
          refine wpAnyH_ready (rs := [7]) (by kernel_rfl) (by simp) ?_
          refine AllReadyH.cons rfl (fun K0 hK => ?_) AllReadyH.nil
          have m0 := KB.out.cell 0
          have m1 := KB.out.cell 1
          have m2 := KB.out.cell 2
          have n0 := KB.out.free 0
          have n1 := KB.out.free 1
          have n2 := KB.out.free 2
          go_simp
          have R9 := Lib.hid (below_put3 R8.out KBW.out (.string s) (.int .i64 xN) (.string xk))
          have KB := Lib.hid (show Blk _ gb _ #[.string s, .int .i64 xN, .string xk] from ((KB.out.set_ 0 (.string s)).set_ 1 (.int .i64 xN)).set_ 2 (.string xk))
          have KA := Lib.hid (blk_far3 KA.out HAB.out (.string s) (.int .i64 xN) (.string xk))
          clear m0 m1 m2 n0 n1 n2
          refine hK.out _ _ ?_ (fun hHeld => ?_)
          · exact HSS.out _ R9.out
          clear hK K0
          try simp only [Act.put, List.getElem_toArray, List.getElem_cons_succ, List.getElem_cons_zero, List.setIfInBounds_toArray, List.set_cons_zero, List.set_cons_succ]
          refine wpAnyH_done (by kernel_rfl) ?_ _
          go_wp2_with fail
          go_meet
          exact ⟨ga, gb, rfl, rfl, KA.out, KB.out, HAB.out, KBW.out, R9.out⟩
        · go_simp
          have R30a := Lib.hid (R27a.out.alloc R27a.out.size (.cells #[.string ⟨#[]⟩, .int .i64 0, .string ⟨#[]⟩] 27))
          have HNE := Lib.hid (show ¬ gb = w27a.heap.size from fun e => by have := KB.out.lt; omega)
          have KB := Lib.hid (KB.out.alloc (.cells #[.string ⟨#[]⟩, .int .i64 0, .string ⟨#[]⟩] 27))
          have KA := Lib.hid (Blk.new w27a 27 #[.string ⟨#[]⟩, .int .i64 0, .string ⟨#[]⟩])
          have KAW := Lib.hid (show W.heap.size ≤ w27a.heap.size from R27a.out.size)
          refine hK.out _ _ ?_ (fun hHeld => ?_)
          · exact HSS.out _ R30a.out
          clear hK K0
          try simp only [Act.put, List.getElem_toArray, List.getElem_cons_succ, List.getElem_cons_zero, List.setIfInBounds_toArray, List.set_cons_zero, List.set_cons_succ]
          generalize (w27a.alloc (.cells #[.string ⟨#[]⟩, .int .i64 0, .string ⟨#[]⟩] 27)) = w30a at *
          generalize w27a.heap.size = ga at *
          refine wpAnyH_ready (rs := [3]) (by kernel_rfl) (by simp) ?_
          refine AllReadyH.cons rfl (fun K0 hK => ?_) AllReadyH.nil
          go_simp
          refine (HOF.out _).mono ?_
          rintro e w31a ⟨rfl, hb⟩
          have R31a := Lib.hid (R30a.out.trans (hb.mono R30a.out.size))
          have KA := Lib.hid (KA.out.onto hb)
          have KB := Lib.hid (KB.out.onto hb)
          clear hb
          go_wp2_with fail
          refine hK.out _ _ ?_ (fun hHeld => ?_)
          · exact HSS.out _ R31a.out
          clear hK K0
          try simp only [Act.put, List.getElem_toArray, List.getElem_cons_succ, List.getElem_cons_zero, List.setIfInBounds_toArray, List.set_cons_zero, List.set_cons_succ]
          have HAB := Lib.hid (show ¬ ga = gb from (fun e => HNE.out e.symm))
          refine wpAnyH_ready (rs := [6]) (by kernel_rfl) (by simp) ?_
          refine AllReadyH.cons rfl (fun K0 hK => ?_) AllReadyH.nil
          have m0 := KA.out.cell 0
          have m1 := KA.out.cell 1
          have m2 := KA.out.cell 2
          have n0 := KA.out.free 0
          have n1 := KA.out.free 1
          have n2 := KA.out.free 2
          go_simp
          have R8 := Lib.hid (below_put3 R31a.out KAW.out (.string s) (.int .i64 xN) (.string xk))
          have KA := Lib.hid (show Blk _ ga _ #[.string s, .int .i64 xN, .string xk] from ((KA.out.set_ 0 (.string s)).set_ 1 (.int .i64 xN)).set_ 2 (.string xk))
          have KB := Lib.hid (blk_far3 KB.out (show ¬ gb = ga from fun e => HAB.out e.symm) (.string s) (.int .i64 xN) (.string xk))
          clear m0 m1 m2 n0 n1 n2
          refine hK.out _ _ ?_ (fun hHeld => ?_)
          · exact HSS.out _ R8.out
          clear hK K0
          try simp only [Act.put, List.getElem_toArray, List.getElem_cons_succ, List.getElem_cons_zero, List.setIfInBounds_toArray, List.set_cons_zero, List.set_cons_succ]
          generalize (((w31a.setCell ⟨ga, 0, none⟩ (.string s)).setCell ⟨ga, 1, none⟩ (.int .i64 xN)).setCell ⟨ga, 2, none⟩ (.string xk)) = w8 at *
          refine wpAnyH_ready (rs := [7]) (by kernel_rfl) (by simp) ?_
          refine AllReadyH.cons rfl (fun K0 hK => ?_) AllReadyH.nil
          have m0 := KB.out.cell 0
          have m1 := KB.out.cell 1
          have m2 := KB.out.cell 2
          have n0 := KB.out.free 0
          have n1 := KB.out.free 1
          have n2 := KB.out.free 2
          go_simp
          have R9 := Lib.hid (below_put3 R8.out KBW.out (.string s) (.int .i64 xN) (.string xk))
          have KB := Lib.hid (show Blk _ gb _ #[.string s, .int .i64 xN, .string xk] from ((KB.out.set_ 0 (.string s)).set_ 1 (.int .i64 xN)).set_ 2 (.string xk))
          have KA := Lib.hid (blk_far3 KA.out HAB.out (.string s) (.int .i64 xN) (.string xk))
          clear m0 m1 m2 n0 n1 n2
          refine hK.out _ _ ?_ (fun hHeld => ?_)
          · exact HSS.out _ R9.out
          clear hK K0
          try simp only [Act.put, List.getElem_toArray, List.getElem_cons_succ, List.getElem_cons_zero, List.setIfInBounds_toArray, List.set_cons_zero, List.set_cons_succ]
          refine wpAnyH_done (by kernel_rfl) ?_ _
          go_wp2_with fail
          go_meet
          exact ⟨ga, gb, rfl, rfl, KA.out, KB.out, HAB.out, KBW.out, R9.out⟩
      · go_simp
        have R32a := Lib.hid (R26a.out.alloc R26a.out.size (.cells #[.string ⟨#[]⟩, .int .i64 0, .string ⟨#[]⟩] 27))
        have HNE := Lib.hid (show ¬ gb = w26a.heap.size from fun e => by have := KB.out.lt; omega)
        have KB := Lib.hid (KB.out.alloc (.cells #[.string ⟨#[]⟩, .int .i64 0, .string ⟨#[]⟩] 27))
        have KA := Lib.hid (Blk.new w26a 27 #[.string ⟨#[]⟩, .int .i64 0, .string ⟨#[]⟩])
        have KAW := Lib.hid (show W.heap.size ≤ w26a.heap.size from R26a.out.size)
        refine hK.out _ _ ?_ (fun hHeld => ?_)
        · exact HSS.out _ R32a.out
        clear hK K0
        try simp only [Act.put, List.getElem_toArray, List.getElem_cons_succ, List.getElem_cons_zero, List.setIfInBounds_toArray, List.set_cons_zero, List.set_cons_succ]
        generalize (w26a.alloc (.cells #[.string ⟨#[]⟩, .int .i64 0, .string ⟨#[]⟩] 27)) = w32a at *
        generalize w26a.heap.size = ga at *
        refine wpAnyH_ready (rs := [1]) (by kernel_rfl) (by simp) ?_
        refine AllReadyH.cons rfl (fun K0 hK => ?_) AllReadyH.nil
        go_simp
        refine (HOF.out _).mono ?_
        rintro e w33a ⟨rfl, hb⟩
        have R33a := Lib.hid (R32a.out.trans (hb.mono R32a.out.size))
        have KA := Lib.hid (KA.out.onto hb)
        have KB := Lib.hid (KB.out.onto hb)
        clear hb
        go_wp2_with fail
        refine hK.out _ _ ?_ (fun hHeld => ?_)
        · exact HSS.out _ R33a.out
        clear hK K0
        try simp only [Act.put, List.getElem_toArray, List.getElem_cons_succ, List.getElem_cons_zero, List.setIfInBounds_toArray, List.set_cons_zero, List.set_cons_succ]
        refine wpAnyH_ready (rs := [3]) (by kernel_rfl) (by simp) ?_
        refine AllReadyH.cons rfl (fun K0 hK => ?_) AllReadyH.nil
        go_simp
        refine (HOF.out _).mono ?_
        rintro e w34a ⟨rfl, hb⟩
        have R34a := Lib.hid (R33a.out.trans (hb.mono R33a.out.size))
        have KA := Lib.hid (KA.out.onto hb)
        have KB := Lib.hid (KB.out.onto hb)
        clear hb
        go_wp2_with fail
        refine hK.out _ _ ?_ (fun hHeld => ?_)
        · exact HSS.out _ R34a.out
        clear hK K0
        try simp only [Act.put, List.getElem_toArray, List.getElem_cons_succ, List.getElem_cons_zero, List.setIfInBounds_toArray, List.set_cons_zero, List.set_cons_succ]
        have HAB := Lib.hid (show ¬ ga = gb from (fun e => HNE.out e.symm))
        refine wpAnyH_ready (rs := [6]) (by kernel_rfl) (by simp) ?_
        refine AllReadyH.cons rfl (fun K0 hK => ?_) AllReadyH.nil
        have m0 := KA.out.cell 0
        have m1 := KA.out.cell 1
        have m2 := KA.out.cell 2
        have n0 := KA.out.free 0
        have n1 := KA.out.free 1
        have n2 := KA.out.free 2
        go_simp
        have R8 := Lib.hid (below_put3 R34a.out KAW.out (.string s) (.int .i64 xN) (.string xk))
        have KA := Lib.hid (show Blk _ ga _ #[.string s, .int .i64 xN, .string xk] from ((KA.out.set_ 0 (.string s)).set_ 1 (.int .i64 xN)).set_ 2 (.string xk))
        have KB := Lib.hid (blk_far3 KB.out (show ¬ gb = ga from fun e => HAB.out e.symm) (.string s) (.int .i64 xN) (.string xk))
        clear m0 m1 m2 n0 n1 n2
        refine hK.out _ _ ?_ (fun hHeld => ?_)
        · exact HSS.out _ R8.out
        clear hK K0
        try simp only [Act.put, List.getElem_toArray, List.getElem_cons_succ, List.getElem_cons_zero, List.setIfInBounds_toArray, List.set_cons_zero, List.set_cons_succ]
        generalize (((w34a.setCell ⟨ga, 0, none⟩ (.string s)).setCell ⟨ga, 1, none⟩ (.int .i64 xN)).setCell ⟨ga, 2, none⟩ (.string xk)) = w8 at *
        refine wpAnyH_ready (rs := [7]) (by kernel_rfl) (by simp) ?_
        refine AllReadyH.cons rfl (fun K0 hK => ?_) AllReadyH.nil
        have m0 := KB.out.cell 0
        have m1 := KB.out.cell 1
        have m2 := KB.out.cell 2
        have n0 := KB.out.free 0
        have n1 := KB.out.free 1
        have n2 := KB.out.free 2
        go_simp
        have R9 := Lib.hid (below_put3 R8.out KBW.out (.string s) (.int .i64 xN) (.string xk))
        have KB := Lib.hid (show Blk _ gb _ #[.string s, .int .i64 xN, .string xk] from ((KB.out.set_ 0 (.string s)).set_ 1 (.int .i64 xN)).set_ 2 (.string xk))
        have KA := Lib.hid (blk_far3 KA.out HAB.out (.string s) (.int .i64 xN) (.string xk))
        clear m0 m1 m2 n0 n1 n2
        refine hK.out _ _ ?_ (fun hHeld => ?_)
        · exact HSS.out _ R9.out
        clear hK K0
        try simp only [Act.put, List.getElem_toArray, List.getElem_cons_succ, List.getElem_cons_zero, List.setIfInBounds_toArray, List.set_cons_zero, List.set_cons_succ]
        refine wpAnyH_done (by kernel_rfl) ?_ _
        go_wp2_with fail
        go_meet
        exact ⟨ga, gb, rfl, rfl, KA.out, KB.out, HAB.out, KBW.out, R9.out⟩
  case rest =>
    obtain ⟨ga, gb, rfl, rfl, hA, hB, hne, hgb, hR⟩ := hcut
    have HA := Lib.hid hA
    have HB := Lib.hid hB
    have HNE := Lib.hid hne
    have HGB := Lib.hid hgb
    have HR := Lib.hid hR
    have HO2 := Lib.hid (HO1.out.onto hR)
    have HW2 := Lib.hid (HW1.out.trans (hR.mono HW1.out.size))
    have HON := Lib.hid HO1.out.lt
    clear hA hB hne hgb hR c0 c1 c2
    go_upto_region 4 with fail
    have c0 := HO2.out.cell 0
    have c1 := HO2.out.cell 1
    have c2 := HO2.out.cell 2
    refine wp_region_held_drew (S := fun w' => w'.cell? ⟨w.heap.size + 1, 1, none⟩ = some (.int .i64 oN) ∧ w'.cell? ⟨w.heap.size + 1, 2, none⟩ = some (.string ok)) (by kernel_rfl) ?_ (fun hHeld => ?_)
    · exact ⟨c1, c2⟩
    clear c0 c1 c2
    refine wpAnyH_take (i := 0) (v := ?_) rfl (by kernel_rfl) (by kernel_rfl) (by kernel_rfl) (fun _ _ _ h => h) (Or.inl ⟨by rfl, ?_⟩) (by assumption) ?_
    rotate_left
    · intro wq hSw
      try dsimp only at hSw
      go_simp
      try (with_reducible rfl)
    try simp only [Act.put, List.getElem_toArray, List.getElem_cons_zero, List.setIfInBounds_toArray, List.set_cons_zero, List.set_cons_succ]
    refine wpAnyH_take (i := 1) (v := ?_) rfl (by kernel_rfl) (by kernel_rfl) (by kernel_rfl) (fun _ _ _ h => h) (Or.inl ⟨by rfl, ?_⟩) (by assumption) ?_
    rotate_left
    · intro wq hSw
      try dsimp only at hSw
      go_simp
      try (with_reducible rfl)
    try simp only [Act.put, List.getElem_toArray, List.getElem_cons_succ, List.getElem_cons_zero, List.setIfInBounds_toArray, List.set_cons_zero, List.set_cons_succ]
    refine wpAnyH_take (i := 2) (v := ?_) rfl (by kernel_rfl) (by kernel_rfl) (by kernel_rfl) (fun _ _ _ h => h) (Or.inl ⟨by rfl, ?_⟩) (by assumption) ?_
    rotate_left
    · intro wq hSw
      try dsimp only at hSw
      go_simp
      try (with_reducible rfl)
    try simp only [Act.put, List.getElem_toArray, List.getElem_cons_succ, List.getElem_cons_zero, List.setIfInBounds_toArray, List.set_cons_zero, List.set_cons_succ]
    refine wpAnyH_take (i := 3) (v := ?_) rfl (by kernel_rfl) (by kernel_rfl) (by kernel_rfl) (fun _ _ _ h => h) (Or.inl ⟨by rfl, ?_⟩) (by assumption) ?_
    rotate_left
    · intro wq hSw
      try dsimp only at hSw
      go_simp
      try (with_reducible rfl)
    try simp only [Act.put, List.getElem_toArray, List.getElem_cons_succ, List.getElem_cons_zero, List.setIfInBounds_toArray, List.set_cons_zero, List.set_cons_succ]
    refine wpAnyH_take (i := 4) (v := ?_) rfl (by kernel_rfl) (by kernel_rfl) (by kernel_rfl) (fun _ _ _ h => h) (Or.inl ⟨by rfl, ?_⟩) (by assumption) ?_
    rotate_left
    · intro wq hSw
      try dsimp only at hSw
      go_simp
      try (with_reducible rfl)
    try simp only [Act.put, List.getElem_toArray, List.getElem_cons_succ, List.getElem_cons_zero, List.setIfInBounds_toArray, List.set_cons_zero, List.set_cons_succ]
    have HA := Lib.hid (show Blk wc.drew _ _ _ from HA.out)
    have HB := Lib.hid (show Blk wc.drew _ _ _ from HB.out)
    have HO2 := Lib.hid (show Blk wc.drew _ _ _ from HO2.out)
    have HW2 := Lib.hid HW2.out.drew
    generalize wc.drew = wd at *
    refine wpAnyH_ready (rs := [5]) (by kernel_rfl) (by simp) ?_
    refine AllReadyH.cons rfl (fun K0 hK => ?_) AllReadyH.nil
    have m0 := HB.out.cell 0
    have m1 := HB.out.cell 1
    have m2 := HB.out.cell 2
    have n0 := HB.out.free 0
    have n1 := HB.out.free 1
    have n2 := HB.out.free 2
    go_simp
    have HA := Lib.hid (HA.out.far (p := ⟨gb, 1, none⟩) HNE.out (.int .i64 oN))
    have HO2 := Lib.hid (HO2.out.far (p := ⟨gb, 1, none⟩) (show ¬ w.heap.size + 1 = gb from fun e => by have := HON.out; have := HGB.out; omega) (.int .i64 oN))
    have HW2 := Lib.hid (HW2.out.setCell (p := ⟨gb, 1, none⟩) (show w.heap.size ≤ gb from by have := HON.out; have := HGB.out; omega) (.int .i64 oN))
    have HB := Lib.hid (show Blk (wd.setCell ⟨gb, 1, none⟩ (.int .i64 oN)) gb _ #[.string s, .int .i64 oN, .string xk] from HB.out.set_ 1 _)
    refine hK.out _ _ ⟨HO2.out.cell 1, HO2.out.cell 2⟩ (fun hHeld => ?_)
    clear hK K0 m0 m1 m2 n0 n1 n2
    try simp only [Act.put, List.getElem_toArray, List.getElem_cons_succ, List.getElem_cons_zero, List.setIfInBounds_toArray, List.set_cons_zero, List.set_cons_succ]
    generalize (wd.setCell ⟨gb, 1, none⟩ (.int .i64 oN)) = we at *
    refine wpAnyH_take (i := 6) (v := ?_) rfl (by kernel_rfl) (by kernel_rfl) (by kernel_rfl) (fun _ _ _ h => h) (Or.inl ⟨by rfl, ?_⟩) (by assumption) ?_
    rotate_left
    · intro wq hSw
      try dsimp only at hSw
      go_simp
      try (with_reducible rfl)
    try simp only [Act.put, List.getElem_toArray, List.getElem_cons_succ, List.getElem_cons_zero, List.setIfInBounds_toArray, List.set_cons_zero, List.set_cons_succ]
    refine wpAnyH_ready (rs := [7]) (by kernel_rfl) (by simp) ?_
    refine AllReadyH.cons rfl (fun K0 hK => ?_) AllReadyH.nil
    have m0 := HB.out.cell 0
    have m1 := HB.out.cell 1
    have m2 := HB.out.cell 2
    have n0 := HB.out.free 0
    have n1 := HB.out.free 1
    have n2 := HB.out.free 2
    go_simp
    have HA := Lib.hid (HA.out.far (p := ⟨gb, 2, none⟩) HNE.out (.string ok))
    have HO2 := Lib.hid (HO2.out.far (p := ⟨gb, 2, none⟩) (show ¬ w.heap.size + 1 = gb from fun e => by have := HON.out; have := HGB.out; omega) (.string ok))
    have HW2 := Lib.hid (HW2.out.setCell (p := ⟨gb, 2, none⟩) (show w.heap.size ≤ gb from by have := HON.out; have := HGB.out; omega) (.string ok))
    have HB := Lib.hid (show Blk (we.setCell ⟨gb, 2, none⟩ (.string ok)) gb _ #[.string s, .int .i64 oN, .string ok] from HB.out.set_ 2 _)
    refine hK.out _ _ ⟨HO2.out.cell 1, HO2.out.cell 2⟩ (fun hHeld => ?_)
    clear hK K0 m0 m1 m2 n0 n1 n2 hHeld
    try simp only [Act.put, List.getElem_toArray, List.getElem_cons_succ, List.getElem_cons_zero, List.setIfInBounds_toArray, List.set_cons_zero, List.set_cons_succ]
    generalize (we.setCell ⟨gb, 2, none⟩ (.string ok)) = wf at *
    refine wpAnyH_done (by kernel_rfl) ?_ _
    have x0 := HA.out.cell 0
    have x1 := HA.out.cell 1
    have x2 := HA.out.cell 2
    have y0 := HB.out.cell 0
    have y1 := HB.out.cell 1
    have y2 := HB.out.cell 2
    have c0 := HO2.out.cell 0
    have c1 := HO2.out.cell 1
    have c2 := HO2.out.cell 2
    go_wp2_with fail
    clear x0 x1 x2 y0 y1 y2 c0 c1 c2
    go_loopw [44] (fun i wr => ∃ j : Nat, j ≤ 3 ∧ i = .int .i64 j ∧ Blk wr ga 27 #[.string s, .int .i64 xN, .string xk] ∧ Below w.heap.size w wr) (fun i _ => 3 - (intOf i).toNat)
    case atStart => exact ⟨0, Nat.zero_le _, rfl, HA.out, HW2.out⟩
    case round =>
      clear HA HB HO2 HW2
      obtain ⟨j, hj, rfl, hA, hW⟩ := hrel
      have HA := Lib.hid hA
      have HW := Lib.hid hW
      clear hA hW
      by_cases hj3 : j < 3
      · obtain ⟨zn, zN, zk, hix, hzk⟩ : ∃ (zn : ByteArray) (zN : Int) (zk : ByteArray), (∀ w1, (Instr.index 29 (.agg #[.string s, .int .i64 xN, .string xk, .string s, .int .i64 oN, .string ok, .string on, .int .i64 oN, .string ok]) (.int .i64 (j : Nat))).run Tryz.prog w1 = .ok (.agg #[.string zn, .int .i64 zN, .string zk]) w1) ∧ zk.size ≤ 100 := by
          rcases (by omega : j = 0 ∨ j = 1 ∨ j = 2) with rfl | rfl | rfl
          · exact ⟨s, xN, xk, fun w1 => by kernel_rfl, HSM.out⟩
          · exact ⟨s, oN, ok, fun w1 => by kernel_rfl, by omega⟩
          · exact ⟨on, oN, ok, fun w1 => by kernel_rfl, by omega⟩
        have u1 : decide ((j : Int) < 3) = true := decide_eq_true (by omega)
        have i1 : (j : Int) < 3 := by omega
        have i2 : (0 : Int) ≤ (j : Int) := by omega
        have HZ := Lib.hid hzk
        clear hzk
        go_upto_region 8 with fail
        refine alloc_gz (fun wn hwn hG => ?_)
        obtain ⟨G, hGe⟩ : ∃ G, wr.heap.size = G := ⟨_, rfl⟩
        rw [hGe] at hG
        have HA := Lib.hid (HA.out.onto hwn)
        have HW := Lib.hid (HW.out.trans (hwn.mono HW.out.size))
        have HGB := Lib.hid hG
        have HSS := Lib.hid (show ∀ w', Below wn.heap.size wn w' → w'.cell? ⟨G, 0, none⟩ = some (.string zn) ∧ w'.cell? ⟨G, 1, none⟩ = some (.int .i64 zN) ∧ w'.cell? ⟨G, 2, none⟩ = some (.string zk) from fun w' h => by
          have a := HGB.out.onto h
          exact ⟨a.cell 0, a.cell 1, a.cell 2⟩)
        rw [hGe]
        clear hwn hG hGe hix
        obtain ⟨bg, hbg⟩ : ∃ b, goodI zn zN zk = b := ⟨_, rfl⟩
        have HG1 := Lib.hid (fun w1 => good_iz zn zN zk w1)
        have HG2 := Lib.hid (fun w1 => rgood_iz zn zN zk w1 (by have := HZ.out; omega))
        rw [hbg] at HG1 HG2
        clear hbg
        have hbb : (bg != bg) = false := by cases bg <;> rfl
        refine wp_region_held_drew (S := fun w' => w'.cell? ⟨G, 0, none⟩ = some (.string zn) ∧ w'.cell? ⟨G, 1, none⟩ = some (.int .i64 zN) ∧ w'.cell? ⟨G, 2, none⟩ = some (.string zk)) (by kernel_rfl) ?_ (fun hHeld => ?_)
        · exact HSS.out _ (Below.refl _ _).drew
        have HN := Lib.hid (show Below wn.heap.size wn wn.drew from (Below.refl _ _).drew)
        refine wpAnyH_take (i := 0) (v := ?_) rfl (by kernel_rfl) (by kernel_rfl) (by kernel_rfl) (fun _ _ _ h => h) (Or.inl ⟨by rfl, ?_⟩) (by assumption) ?_
        rotate_left
        · intro wq hSw
          try dsimp only at hSw
          go_simp
          try (with_reducible rfl)
        try simp only [Act.put, List.getElem_toArray, List.getElem_cons_zero, List.setIfInBounds_toArray, List.set_cons_zero, List.set_cons_succ]
        refine wpAnyH_take (i := 1) (v := ?_) rfl (by kernel_rfl) (by kernel_rfl) (by kernel_rfl) (fun _ _ _ h => h) (Or.inl ⟨by rfl, ?_⟩) (by assumption) ?_
        rotate_left
        · intro wq hSw
          try dsimp only at hSw
          go_simp
          try (with_reducible rfl)
        try simp only [Act.put, List.getElem_toArray, List.getElem_cons_succ, List.getElem_cons_zero, List.setIfInBounds_toArray, List.set_cons_zero, List.set_cons_succ]
        refine wpAnyH_take (i := 2) (v := ?_) rfl (by kernel_rfl) (by kernel_rfl) (by kernel_rfl) (fun _ _ _ h => h) (Or.inl ⟨by rfl, ?_⟩) (by assumption) ?_
        rotate_left
        · intro wq hSw
          try dsimp only at hSw
          go_simp
          try (with_reducible rfl)
        try simp only [Act.put, List.getElem_toArray, List.getElem_cons_succ, List.getElem_cons_zero, List.setIfInBounds_toArray, List.set_cons_zero, List.set_cons_succ]
        refine wpAnyH_take (i := 3) (v := ?_) rfl (by kernel_rfl) (by kernel_rfl) (by kernel_rfl) (fun _ _ _ h => h) (Or.inl ⟨by rfl, ?_⟩) (by assumption) ?_
        rotate_left
        · intro wq hSw
          try dsimp only at hSw
          go_simp
          try (with_reducible rfl)
        try simp only [Act.put, List.getElem_toArray, List.getElem_cons_succ, List.getElem_cons_zero, List.setIfInBounds_toArray, List.set_cons_zero, List.set_cons_succ]
        refine wpAnyH_take (i := 4) (v := ?_) rfl (by kernel_rfl) (by kernel_rfl) (by kernel_rfl) (fun _ _ _ h => h) (Or.inl ⟨by rfl, ?_⟩) (by assumption) ?_
        rotate_left
        · intro wq hSw
          try dsimp only at hSw
          go_simp
          try (with_reducible rfl)
        try simp only [Act.put, List.getElem_toArray, List.getElem_cons_succ, List.getElem_cons_zero, List.setIfInBounds_toArray, List.set_cons_zero, List.set_cons_succ]
        refine wpAnyH_take (i := 5) (v := ?_) rfl (by kernel_rfl) (by kernel_rfl) (by kernel_rfl) (fun _ _ _ h => h) (Or.inl ⟨by rfl, ?_⟩) (by assumption) ?_
        rotate_left
        · intro wq hSw
          try dsimp only at hSw
          go_simp
          try (with_reducible rfl)
        try simp only [Act.put, List.getElem_toArray, List.getElem_cons_succ, List.getElem_cons_zero, List.setIfInBounds_toArray, List.set_cons_zero, List.set_cons_succ]
        refine wpAnyH_take (i := 6) (v := ?_) rfl (by kernel_rfl) (by kernel_rfl) (by kernel_rfl) (fun _ _ _ h => h) (Or.inl ⟨by rfl, ?_⟩) (by assumption) ?_
        rotate_left
        · intro wq hSw
          try dsimp only at hSw
          go_simp
          try (with_reducible rfl)
        try simp only [Act.put, List.getElem_toArray, List.getElem_cons_succ, List.getElem_cons_zero, List.setIfInBounds_toArray, List.set_cons_zero, List.set_cons_succ]
        refine wpAnyH_take (i := 8) (v := ?_) rfl (by kernel_rfl) (by kernel_rfl) (by kernel_rfl) (fun _ _ _ h => h) (Or.inl ⟨by rfl, ?_⟩) (by assumption) ?_
        rotate_left
        · intro wq hSw
          try dsimp only at hSw
          go_simp
          try (with_reducible rfl)
        try simp only [Act.put, List.getElem_toArray, List.getElem_cons_succ, List.getElem_cons_zero, List.setIfInBounds_toArray, List.set_cons_zero, List.set_cons_succ]
        generalize hwz : wn.drew = wz at *
        clear hwz
        refine wpAnyH_ready (rs := [7]) (by kernel_rfl) (by simp) ?_
        refine AllReadyH.cons rfl (fun K0 hK => ?_) AllReadyH.nil
        go_simp
        refine (HG1.out _).mono ?_
        rintro e wn ⟨rfl, hb⟩
        have HN := Lib.hid (HN.out.trans (hb.mono HN.out.size))
        clear hb
        go_wp2_with fail
        refine hK.out _ _ (HSS.out _ HN.out) (fun hHeld => ?_)
        clear hK K0
        try simp only [Act.put, List.getElem_toArray, List.getElem_cons_succ, List.getElem_cons_zero, List.setIfInBounds_toArray, List.set_cons_zero, List.set_cons_succ]
        refine wpAnyH_ready (rs := [9]) (by kernel_rfl) (by simp) ?_
        refine AllReadyH.cons rfl (fun K0 hK => ?_) AllReadyH.nil
        go_simp
        refine (HG2.out _).mono ?_
        rintro e wn ⟨rfl, hb⟩
        have HN := Lib.hid (HN.out.trans (hb.mono HN.out.size))
        clear hb
        go_wp2_with fail
        refine hK.out _ _ (HSS.out _ HN.out) (fun hHeld => ?_)
        clear hK K0
        try simp only [Act.put, List.getElem_toArray, List.getElem_cons_succ, List.getElem_cons_zero, List.setIfInBounds_toArray, List.set_cons_zero, List.set_cons_succ]
        refine wpAnyH_take (i := 10) (v := ?_) rfl (by kernel_rfl) (by kernel_rfl) (by kernel_rfl) (fun _ _ _ h => h) (Or.inl ⟨by rfl, ?_⟩) (by assumption) ?_
        rotate_left
        · intro wq hSw
          try dsimp only at hSw
          go_simp
          try (with_reducible rfl)
        try simp only [Act.put, List.getElem_toArray, List.getElem_cons_succ, List.getElem_cons_zero, List.setIfInBounds_toArray, List.set_cons_zero, List.set_cons_succ]
        refine wpAnyH_done (by kernel_rfl) ?_ _
        have HA := Lib.hid (HA.out.onto HN.out)
        have HW := Lib.hid (HW.out.trans (HN.out.mono HW.out.size))
        clear HSS hHeld
        cases bg
        all_goals
          go_wp2_with fail
          go_roundw
          case rel => exact ⟨j + 1, by omega, by go_num, HA.out, HW.out⟩
          case measure => simp [intOf]; omega
      · obtain rfl : j = 3 := by omega
        have x0 := HA.out.cell 0
        have x1 := HA.out.cell 1
        have x2 := HA.out.cell 2
        go_wp2_with fail
        refine (rgood_iz s xN xk _ (by have := HSM.out; omega)).mono ?_
        rintro e w9 ⟨rfl, hb⟩
        rw [HGD.out]
        have HW9 := Lib.hid (HW.out.trans (hb.mono HW.out.size))
        clear hb
        go_wp2_with fail
        go_ret
        exact ⟨rfl, HW9.out⟩

set_option maxRecDepth 100000 in
theorem lifted (os : Os) (started : os.Started) (H : Type) (enc : TypeId × Value → H) :
    ReturnsInHanded {} Tryz.checked os 3 .any (fun w args => (Rows.isoGoodsSpec.pre enc Tryz.prog Tryz.f3 [] false w args ∧ laidMetH Tryz.prog Rows.isoGoodsRow.laid w) ∧ sizedMet enc Tryz.prog Tryz.f3 (OpenSpec.ofChange Rows.isoGoodsSpec) false w args)
      (Rows.isoGoodsSpec.post enc Tryz.prog Tryz.f3 false true false false) := by
  refine returnsInHanded_of_change_and (C := Tryz.checked) (X := fun w _ => laidMetH Tryz.prog Rows.isoGoodsRow.laid w) (fun _ _ _ hh h => h.of_heap hh) own started (by kernel_rfl) Tryz.func3
    (ChangeSpec.witness_shaped (enc := enc) (C := Tryz.checked) (os := os) (X := fun w _ => laidMetH Tryz.prog Rows.isoGoodsRow.laid w) false (World.laidAll Tryz.prog os Rows.isoGoodsRow.laid) #[.agg #[.int .u8 0, .int .i64 0, .string ByteArray.empty], .agg #[.string ByteArray.empty, .int .i64 0, .string ByteArray.empty]] 8 (World.laidAll_os _ _ _) (World.shaped_of_ZipB (by kernel_rfl) (by kernel_rfl)) (by kernel_rfl) (by kernel_rfl) (by kernel_rfl) (by rw [MakeChecks.laidMetH_plain _ _ _ (by kernel_rfl)]; exact laidMet_laidAll _ (by kernel_rfl) (by kernel_rfl))) ?_
  intro W base args ds gs before hval0 hW _ _ hL _
  have hval : ∀ (j : Nat) t v, Tryz.f3.params[j]? = some t → args[j]? = some v → Value.okWide Tryz.prog W .any base t v := hval0
  have hW' := hW
  obtain ⟨p, q, hA0, hV, rfl, hfz, hnd⟩ := hW
  have hA : DataW.TrodAll enc Tryz.prog W 0 (fun _ => true) true Tryz.f3.params.toList args.toList ds p := hA0
  rw [Tryz.params3] at hA hval
  obtain ⟨v0, vs0, d0, ds0, p0, q0, hargs, rfl, rfl, h0, r0⟩ := trodAll_cons hA
  obtain ⟨v1, vs1, d1, ds1, p1, q1, rfl, rfl, rfl, h1, r1⟩ := trodAll_cons r0
  obtain ⟨rfl, rfl, rfl⟩ := trodAll_nil r1
  obtain rfl : args = #[v0, v1] := by cases args; simp_all
  obtain ⟨rfl, rfl⟩ := trodVars_none hV
  have k0 := h0
  have lt0 : ∀ x ∈ p0, x.block < W.heap.size := by obtain ⟨m, hm⟩ := k0; exact DataW.trod_lt m _ _ _ hm
  obtain ⟨x0, y0, z0, rfl, hx0, hy0, hz0⟩ := pick_open (hval 0 23 v0 rfl rfl) h0
  have k1 := h1
  have lt1 : ∀ x ∈ p1, x.block < W.heap.size := by obtain ⟨m, hm⟩ := k1; exact DataW.trod_lt m _ _ _ hm
  obtain ⟨x1, y1, z1, rfl, hx1, hy1, hz1⟩ := odd_open (hval 1 25 v1 rfl rfl) h1
  clear hA0 hval0
  refine (walk x0 y0 z0 x1 y1 z1 W hx0 (errs hL) (table hL)).mono fun e W' ⟨he, bel⟩ => ?_
  subst he
  exact ⟨_, rfl, _, _, _, [], _, [], hW', trodAll_mk1 (shut_bool Tryz.underlying4 _), (trodAll_cons_mk (Below.trod laidOut (by kernel_rfl) (of_decide_eq_true (by kernel_rfl)) k0 bel lt0) (trodAll_cons_mk (Below.trod laidOut (by kernel_rfl) (of_decide_eq_true (by kernel_rfl)) k1 bel lt1) trodAll_mk0)), rfl, bel.frame _, fun h => by cases h⟩

theorem said : Rows.IsoGoodsSaid :=
  OpenClaim.holds_of_wide 3 Tryz.f3 rfl rfl rfl rfl rfl rfl rfl ⟨rfl, rfl, rfl, rfl, rfl⟩ rfl rfl rfl rfl rfl (by kernel_rfl) Tryz.func3 (by kernel_rfl)
    (of_decide_eq_true (by kernel_rfl)) (by unfold Func.isWrapper; first | (rw [if_pos (by decide +kernel)]; kernel_rfl) | (rw [if_neg (by decide +kernel)]; exact ⟨rfl, rfl⟩))
    (fun os started H enc _ => lifted os started H enc)

/-- no parameter wants a stand-in -/
theorem plain (f : FuncId) (fn : Func) (hf : Tryz.pinned.checked.prog.funcNamed "cheval/chevallaw11.IsoGoods" = some f) (hfn : Tryz.pinned.checked.prog.funcs[f]? = some fn) :
    true = Tryz.pinned.checked.prog.looks [] ∧ ∀ (j : Nat) t, fn.params[j]? = some t → Tryz.pinned.checked.prog.wantsStandIn t = false := by
  obtain rfl : f = 3 := Option.some.inj ((show Tryz.prog.funcNamed "cheval/chevallaw11.IsoGoods" = some 3 by kernel_rfl).symm.trans hf) |>.symm
  obtain rfl : fn = Tryz.f3 := (Option.some.inj (Tryz.func3.symm.trans hfn)).symm
  refine ⟨by kernel_rfl, fun j t ht => ?_⟩
  rw [Tryz.params3] at ht
  have hm := Array.mem_of_getElem? ht
  simp only [List.mem_toArray, List.mem_cons, List.not_mem_nil, or_false] at hm
  rcases hm with rfl | rfl
  · exact (show Tryz.prog.wantsStandIn 23 = false by kernel_rfl)
  · exact (show Tryz.prog.wantsStandIn 25 = false by kernel_rfl)

/-- The statement: the tied card. -/
theorem card : Rows.IsoGoodsCardSaid :=
  Claim7.holds_tied_plain_at .later [] _ _ _ _ said (fun _ h => by cases h) (by kernel_rfl) (fun _ h => by cases h) isoGoods_row_tie rfl ⟨rfl, rfl⟩ (by kernel_rfl) rfl plain (by kernel_rfl)
end Go.Proofs.YtfiahpeajccinaaGreatDoor.isoGoods
