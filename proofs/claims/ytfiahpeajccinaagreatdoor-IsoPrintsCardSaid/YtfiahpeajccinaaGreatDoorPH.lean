/- Isos: where they lead through leaves. -/
import Derived.Test.YtfiahpeajccinaaGreatDoorPG
import Derived.Test.YtfiahpeajccinaaGreatDoorPF
namespace Go.Proofs.YtfiahpeajccinaaGreatDoor
open Go.RowKit
open Tk Ex
set_option linter.unusedVariables false
set_option linter.unusedSimpArgs false

theorem blk_iz6 {w : World} {b : Nat} {t : TypeId} {a0 a1 a2 a3 a4 a5 : Value} (h : Blk w b t #[a0, a1, a2, a3, a4, a5]) (v0 v1 v2 v3 v4 v5 : Value) :
    Blk ((((((w.setCell ⟨b, 0, none⟩ v0).setCell ⟨b, 1, none⟩ v1).setCell ⟨b, 2, none⟩ v2).setCell ⟨b, 3, none⟩ v3).setCell ⟨b, 4, none⟩ v4).setCell ⟨b, 5, none⟩ v5) b t #[v0, v1, v2, v3, v4, v5] :=
  (((((h.set_ 0 v0).set_ 1 v1).set_ 2 v2).set_ 3 v3).set_ 4 v4).set_ 5 v5
theorem far_iz6 {w : World} {b g : Nat} {t : TypeId} {cs : Array Value} (h : Blk w g t cs) (hne : ¬ g = b) (v0 v1 v2 v3 v4 v5 : Value) :
    Blk ((((((w.setCell ⟨b, 0, none⟩ v0).setCell ⟨b, 1, none⟩ v1).setCell ⟨b, 2, none⟩ v2).setCell ⟨b, 3, none⟩ v3).setCell ⟨b, 4, none⟩ v4).setCell ⟨b, 5, none⟩ v5) g t cs :=
  (((((h.far (p := ⟨b, 0, none⟩) hne v0).far (p := ⟨b, 1, none⟩) hne v1).far (p := ⟨b, 2, none⟩) hne v2).far (p := ⟨b, 3, none⟩) hne v3).far (p := ⟨b, 4, none⟩) hne v4).far (p := ⟨b, 5, none⟩) hne v5
/-- a block of three that is made and at once filled -/
theorem made3 {w : World} {x0 x1 x2 a b c : Value} {t : TypeId} {P : World → Prop} (h : ∀ W, Below w.heap.size w W → Blk W w.heap.size t #[a, b, c] → P W) :
    P ((((w.alloc (.cells #[x0, x1, x2] t)).setCell ⟨w.heap.size, 0, none⟩ a).setCell ⟨w.heap.size, 1, none⟩ b).setCell ⟨w.heap.size, 2, none⟩ c) :=
  h _ (below_put3 ((Below.refl _ _).alloc (Nat.le_refl _) _) (Nat.le_refl _) _ _ _) ((((Blk.new w _ _).set_ 0 a).set_ 1 b).set_ 2 c)
/-- a value that has no parts -/
structure Lf where
  kind : Int
  tr : Bool
  num : Int
  str : ByteArray
def lfV (x : Lf) : Value := .agg #[.int .i64 x.kind, .bool x.tr, .int .i64 x.num, .string x.str, .slice none 0 0, .slice none 0 0]
def lfC (x : Lf) : Array Value := #[.int .i64 x.kind, .bool x.tr, .int .i64 x.num, .string x.str, .slice none 0 0, .slice none 0 0]
theorem RowZ.cells {w : World} {base : Nat} {v : Value} {l : List Iz.Iso} (h : RowZ w base v l) (hl : l ≠ []) :
    ∃ g c, v = .slice (some ⟨g, 0, none⟩) l.length c ∧ g < w.heap.size ∧ l.length ≤ c ∧ ∀ (k : Nat) (x : Iz.Iso), l[k]? = some x → w.cell? ⟨g, k * 3, none⟩ = some (.string x.name) ∧ w.cell? ⟨g, k * 3 + 1, none⟩ = some (.int .i64 x.n) ∧ w.cell? ⟨g, k * 3 + 2, none⟩ = some (.string x.key) := by
  have h' := h
  rcases h.2 with ⟨rfl, h0⟩ | ⟨g, cap, cur, rfl, hb, hh, hle, hm, hs, ht⟩
  · exact absurd (List.length_eq_zero_iff.1 h0) hl
  · refine ⟨g, cap, rfl, (World.ownsRow.lt h' g rfl).2, hle, fun k x hx => ?_⟩
    have key : ∀ j, j < 3 → w.cell? ⟨g, k * 3 + j, none⟩ = (e3 x)[j]? := fun j hj => by
      have h2 := flat3_get l k x j hx hj
      have h3 : ((⟨g, 0, none⟩ : Addr).add (k * 3 + j)) = ⟨g, k * 3 + j, none⟩ := by unfold Addr.add; split <;> simp_all
      obtain ⟨u, hu⟩ : ∃ u, (e3 x)[j]? = some u := ⟨_, List.getElem?_eq_getElem (show j < (e3 x).length by simpa [e3] using hj)⟩
      have h4 := World.ownsRow.cells h' rfl (k * 3 + j) u (h2.trans hu)
      rw [h3] at h4
      rw [h4, hu]
    exact ⟨key 0 (by omega), key 1 (by omega), key 2 (by omega)⟩
set_option maxRecDepth 100000 in
set_option maxHeartbeats 8000000 in
theorem through_lf (l : List Iz.Iso) (g o c : Nat) (vs : Nat → Lf) (w : World) (hg : g < w.heap.size) (hl : l.length ≤ 1000) (hlc : l.length ≤ c)
    (hc : ∀ (k : Nat) (x : Iz.Iso), l[k]? = some x → w.cell? ⟨g, o + k * 3, none⟩ = some (.string x.name) ∧ w.cell? ⟨g, o + k * 3 + 1, none⟩ = some (.int .i64 x.n) ∧ w.cell? ⟨g, o + k * 3 + 2, none⟩ = some (.string x.key))
    (hen : ∀ (k : Nat) (x : Iz.Iso), l[k]? = some x → ∀ args w1, (callFunc (thereN (kindN x.name)) args).run Tryz.prog w1 = .ok (.enter (thereN (kindN x.name)) args) w1)
    (hway : ∀ (k : Nat) (x : Iz.Iso), l[k]? = some x → ∀ w1, Below w.heap.size w w1 → Calls Tryz.prog (thereN (kindN x.name)) #[.agg #[.string x.name, .int .i64 x.n, .string x.key], lfV (vs k)] w1 fun e w' => e = .returned (.tuple #[lfV (vs (k + 1)), .int .i64 0]) ∧ Below w1.heap.size w1 w') :
    Calls Tryz.prog 17 #[.slice (some ⟨g, o, none⟩) l.length c, lfV (vs 0)] w fun e w' => e = .returned (.tuple #[lfV (vs l.length), .int .i64 0]) ∧ Below w.heap.size w w' := by
  have HC := Lib.hid hc
  have HEN := Lib.hid hen
  have HWY := Lib.hid hway
  clear hc hen hway
  have hv0 : lfV (vs 0) = .agg (lfC (vs 0)) := rfl
  have HV0 := Lib.hid (show ∃ y, vs 0 = y from ⟨_, rfl⟩)
  obtain ⟨⟨kd0, tr0, nu0, st0⟩, hv⟩ := HV0.out
  rw [hv]
  unfold lfV
  dsimp only
  go_enter Tryz.func17, Tryz.ntmps17
  go_upto_region 1 with fail
  refine alloc2_gz (fun W1 hW hB3 hR hs1 => ?_)
  have HW1 := Lib.hid hW
  have HR1 := Lib.hid hR
  have HB31 := Lib.hid hB3
  clear hW hB3 hR hs1
  go_wp2_with fail
  go_loopw [12] (fun i wr => ∃ k : Nat, k ≤ l.length ∧ i = .int .i64 k ∧ Blk wr w.heap.size 52 (lfC (vs k)) ∧ Blk wr (w.heap.size + 1) 52 #[.int .i64 0, .bool false, .int .i64 0, .string ⟨#[]⟩, .slice none 0 0, .slice none 0 0] ∧ Below w.heap.size w wr) (fun i _ => l.length - (intOf i).toNat)
  case atStart => exact ⟨0, Nat.zero_le _, rfl, by rw [hv]; exact HB31.out, HR1.out, HW1.out⟩
  case round =>
    clear HB31 HR1 HW1 HV0 hv0 hv
    obtain ⟨k, hk, rfl, hb3, hr, hw⟩ := hrel
    obtain ⟨⟨kd, tr, nu, st⟩, hvk⟩ : ∃ y, vs k = y := ⟨_, rfl⟩
    rw [hvk] at hb3
    unfold lfC at hb3
    have HB3 := Lib.hid hb3
    have HR := Lib.hid hr
    have HW := Lib.hid hw
    have hBs := hr.lt
    clear hb3 hr hw
    by_cases hkl : k < l.length
    · obtain ⟨x, hx⟩ : ∃ x, l[k]? = some x := ⟨_, List.getElem?_eq_getElem hkl⟩
      obtain ⟨⟨kd2, tr2, nu2, st2⟩, hv2⟩ : ∃ y, vs (k + 1) = y := ⟨_, rfl⟩
      have HX := Lib.hid (HC.out k x hx)
      have hen := HEN.out k x hx
      have HWAY := Lib.hid (HWY.out k x hx)
      rw [hvk, hv2] at HWAY
      have HV2 := Lib.hid hv2
      obtain ⟨nm, N, ky⟩ := x
      unfold lfV at HWAY
      dsimp only at HWAY hen HX
      obtain ⟨A, B, hkv⟩ : ∃ A B, kindV (kindN nm) = .agg #[A, wayV (thereN (kindN nm)), B] := ⟨_, _, rfl⟩
      unfold wayV at hkv
      generalize thereN (kindN nm) = F at *
      clear hx hvk hv2 HEN HWY HC
      have u1 : decide ((k : Int) < (l.length : Int)) = true := decide_eq_true (by omega)
      have i1 : (k : Int) < (l.length : Int) := by omega
      have i2 : (0 : Int) ≤ (k : Int) := by omega
      have x0 := (HW.out.cell (p := ⟨g, o + k * 3, none⟩) hg).trans HX.out.1
      have x1 := (HW.out.cell (p := ⟨g, o + k * 3 + 1, none⟩) hg).trans HX.out.2.1
      have x2 := (HW.out.cell (p := ⟨g, o + k * 3 + 2, none⟩) hg).trans HX.out.2.2
      go_upto_region 4 with fail
      refine alloc_gz (fun W hW hBG => ?_)
      obtain ⟨G, hG⟩ : ∃ G, wr.heap.size = G := ⟨_, rfl⟩
      rw [hG] at hBG hBs
      have HB := Lib.hid (HW.out.trans (hW.mono HW.out.size))
      have HB3W := Lib.hid (HB3.out.onto hW)
      have HRW := Lib.hid (HR.out.onto hW)
      have HBG := Lib.hid hBG
      have HSS := Lib.hid (show ∀ w', Below W.heap.size W w' → (w'.cell? ⟨G, 0, none⟩ = some (.string nm) ∧ w'.cell? ⟨G, 1, none⟩ = some (.int .i64 N) ∧ w'.cell? ⟨G, 2, none⟩ = some (.string ky)) ∧ w'.cell? ⟨w.heap.size, 0, none⟩ = some (.int .i64 kd) ∧ w'.cell? ⟨w.heap.size, 1, none⟩ = some (.bool tr) ∧ w'.cell? ⟨w.heap.size, 2, none⟩ = some (.int .i64 nu) ∧ w'.cell? ⟨w.heap.size, 3, none⟩ = some (.string st) ∧ w'.cell? ⟨w.heap.size, 4, none⟩ = some (.slice none 0 0) ∧ w'.cell? ⟨w.heap.size, 5, none⟩ = some (.slice none 0 0) from fun w' h => by
        have a := HBG.out.onto h
        have b := HB3W.out.onto h
        exact ⟨⟨a.cell 0, a.cell 1, a.cell 2⟩, b.cell 0, b.cell 1, b.cell 2, b.cell 3, b.cell 4, b.cell 5⟩)
      have hfld : ∀ w1, (Instr.field 62 (.agg #[A, .func (.func F) #[] #[], B]) 1).run Tryz.prog w1 = .ok (.func (.func F) #[] #[]) w1 := fun w1 => by kernel_rfl
      rw [hG]
      clear hW hBG x0 x1 x2 HX
      refine wp_region_held_drew (S := fun w' => (w'.cell? ⟨G, 0, none⟩ = some (.string nm) ∧ w'.cell? ⟨G, 1, none⟩ = some (.int .i64 N) ∧ w'.cell? ⟨G, 2, none⟩ = some (.string ky)) ∧ w'.cell? ⟨w.heap.size, 0, none⟩ = some (.int .i64 kd) ∧ w'.cell? ⟨w.heap.size, 1, none⟩ = some (.bool tr) ∧ w'.cell? ⟨w.heap.size, 2, none⟩ = some (.int .i64 nu) ∧ w'.cell? ⟨w.heap.size, 3, none⟩ = some (.string st) ∧ w'.cell? ⟨w.heap.size, 4, none⟩ = some (.slice none 0 0) ∧ w'.cell? ⟨w.heap.size, 5, none⟩ = some (.slice none 0 0)) (by kernel_rfl) ?_ (fun hHeld => ?_)
      · exact HSS.out _ (Below.refl _ _).drew
      refine wpAnyH_take (i := 0) (v := ?_) rfl (by kernel_rfl) (by kernel_rfl) (by kernel_rfl) (fun _ _ _ h => h) (Or.inl ⟨by rfl, ?_⟩) (by assumption) ?_
      rotate_left
      · intro wq hSw
        try dsimp only at hSw
        go_simp
        try (with_reducible rfl)
      try simp only [Act.put, List.getElem_toArray, List.getElem_cons_zero, List.setIfInBounds_toArray, List.set_cons_zero, List.set_cons_succ]
      refine wpAnyH_take (i := 1) (v := ?_) rfl (by kernel_rfl) (by kernel_rfl) (by kernel_rfl) (fun _ _ _ h => h) (Or.inl ⟨by rfl, ?_⟩) (by assumption) ?_
      rotate_left
      · intro wq hSw
        try dsimp only at hSw
        go_simp
        try (with_reducible rfl)
      try simp only [Act.put, List.getElem_toArray, List.getElem_cons_succ, List.getElem_cons_zero, List.setIfInBounds_toArray, List.set_cons_zero, List.set_cons_succ]
      refine wpAnyH_take (i := 4) (v := ?_) rfl (by kernel_rfl) (by kernel_rfl) (by kernel_rfl) (fun _ _ _ h => h) (Or.inl ⟨by rfl, ?_⟩) (by assumption) ?_
      rotate_left
      · intro wq hSw
        try dsimp only at hSw
        go_simp
        try (with_reducible rfl)
      try simp only [Act.put, List.getElem_toArray, List.getElem_cons_succ, List.getElem_cons_zero, List.setIfInBounds_toArray, List.set_cons_zero, List.set_cons_succ]
      refine wpAnyH_take (i := 5) (v := ?_) rfl (by kernel_rfl) (by kernel_rfl) (by kernel_rfl) (fun _ _ _ h => h) (Or.inl ⟨by rfl, ?_⟩) (by assumption) ?_
      rotate_left
      · intro wq hSw
        try dsimp only at hSw
        go_simp
        try (with_reducible rfl)
      try simp only [Act.put, List.getElem_toArray, List.getElem_cons_succ, List.getElem_cons_zero, List.setIfInBounds_toArray, List.set_cons_zero, List.set_cons_succ]
      have R0 := Lib.hid (show Below W.heap.size W W.drew from (Below.refl _ _).drew)
      generalize hwd : W.drew = wa at *
      clear hwd
      refine wpAnyH_ready (rs := [2, 10]) (by kernel_rfl) (by simp) ?_
      refine AllReadyH.cons rfl (fun K0 hK => ?_) (AllReadyH.cons rfl (fun K0 hK => ?_) AllReadyH.nil)
      go_simp
      refine (kind_any nm _).mono ?_
      rintro e wb ⟨rfl, hb⟩
      have R1 := Lib.hid (R0.out.trans (hb.mono R0.out.size))
      clear hb
      rw [hkv]
      go_wp2_with fail
      refine hK.out _ _ ?_ (fun hHeld => ?_)
      · exact HSS.out _ R1.out
      clear hK K0
      try simp only [Act.put, List.getElem_toArray, List.getElem_cons_succ, List.getElem_cons_zero, List.setIfInBounds_toArray, List.set_cons_zero, List.set_cons_succ]
      refine wpAnyH_take (i := 3) (v := ?_) rfl (by kernel_rfl) (by kernel_rfl) (by kernel_rfl) (fun _ _ _ h => h) (Or.inl ⟨by rfl, ?_⟩) (by assumption) ?_
      rotate_left
      · intro wq hSw
        try dsimp only at hSw
        go_simp
        try (with_reducible rfl)
      try simp only [Act.put, List.getElem_toArray, List.getElem_cons_succ, List.getElem_cons_zero, List.setIfInBounds_toArray, List.set_cons_zero, List.set_cons_succ]
      refine wpAnyH_ready (rs := [6, 10]) (by kernel_rfl) (by simp) ?_
      refine AllReadyH.cons rfl (fun K0 hK => ?_) (AllReadyH.cons rfl (fun K0 hK => ?_) AllReadyH.nil)
      go_simp
      refine (HWAY.out _ (HB.out.trans (R1.out.mono HB.out.size))).mono ?_
      rintro e wc ⟨rfl, hb⟩
      have R2 := Lib.hid (R1.out.trans (hb.mono R1.out.size))
      clear hb
      go_wp2_with fail
      refine hK.out _ _ ?_ (fun hHeld => ?_)
      · exact HSS.out _ R2.out
      clear hK K0
      try simp only [Act.put, List.getElem_toArray, List.getElem_cons_succ, List.getElem_cons_zero, List.setIfInBounds_toArray, List.set_cons_zero, List.set_cons_succ]
      refine wpAnyH_take (i := 7) (v := ?_) rfl (by kernel_rfl) (by kernel_rfl) (by kernel_rfl) (fun _ _ _ h => h) (Or.inl ⟨by rfl, ?_⟩) (by assumption) ?_
      rotate_left
      · intro wq hSw
        try dsimp only at hSw
        go_simp
        try (with_reducible rfl)
      try simp only [Act.put, List.getElem_toArray, List.getElem_cons_succ, List.getElem_cons_zero, List.setIfInBounds_toArray, List.set_cons_zero, List.set_cons_succ]
      refine wpAnyH_take (i := 8) (v := ?_) rfl (by kernel_rfl) (by kernel_rfl) (by kernel_rfl) (fun _ _ _ h => h) (Or.inl ⟨by rfl, ?_⟩) (by assumption) ?_
      rotate_left
      · intro wq hSw
        try dsimp only at hSw
        go_simp
        try (with_reducible rfl)
      try simp only [Act.put, List.getElem_toArray, List.getElem_cons_succ, List.getElem_cons_zero, List.setIfInBounds_toArray, List.set_cons_zero, List.set_cons_succ]
      refine wpAnyH_take (i := 9) (v := ?_) rfl (by kernel_rfl) (by kernel_rfl) (by kernel_rfl) (fun _ _ _ h => h) (Or.inl ⟨by rfl, ?_⟩) (by assumption) ?_
      rotate_left
      · intro wq hSw
        try dsimp only at hSw
        go_simp
        try (with_reducible rfl)
      try simp only [Act.put, List.getElem_toArray, List.getElem_cons_succ, List.getElem_cons_zero, List.setIfInBounds_toArray, List.set_cons_zero, List.set_cons_succ]
      refine wpAnyH_ready (rs := [10]) (by kernel_rfl) (by simp) ?_
      refine AllReadyH.cons rfl (fun K0 hK => ?_) AllReadyH.nil
      go_simp
      have R3 := Lib.hid (R2.out.alloc R2.out.size (.cells #[.int .i64 0, .bool false, .int .i64 0, .string ⟨#[]⟩, .slice none 0 0, .slice none 0 0] 52))
      have KBwd := Lib.hid (Blk.new wc 52 #[.int .i64 0, .bool false, .int .i64 0, .string ⟨#[]⟩, .slice none 0 0, .slice none 0 0])
      have HKW := Lib.hid (show W.heap.size ≤ wc.heap.size from R2.out.size)
      refine hK.out _ _ ?_ (fun hHeld => ?_)
      · exact HSS.out _ R3.out
      clear hK K0
      try simp only [Act.put, List.getElem_toArray, List.getElem_cons_succ, List.getElem_cons_zero, List.setIfInBounds_toArray, List.set_cons_zero, List.set_cons_succ]
      generalize (wc.alloc (.cells #[.int .i64 0, .bool false, .int .i64 0, .string ⟨#[]⟩, .slice none 0 0, .slice none 0 0] 52)) = wd at *
      generalize wc.heap.size = K at *
      refine wpAnyH_ready (rs := [11]) (by kernel_rfl) (by simp) ?_
      refine AllReadyH.cons rfl (fun K0 hK => ?_) AllReadyH.nil
      have m0 := KBwd.out.cell 0
      have m1 := KBwd.out.cell 1
      have m2 := KBwd.out.cell 2
      have m3 := KBwd.out.cell 3
      have m4 := KBwd.out.cell 4
      have m5 := KBwd.out.cell 5
      have n0 := KBwd.out.free 0
      have n1 := KBwd.out.free 1
      have n2 := KBwd.out.free 2
      have n3 := KBwd.out.free 3
      have n4 := KBwd.out.free 4
      have n5 := KBwd.out.free 5
      go_simp
      have R9 := Lib.hid (below_iz6 R3.out HKW.out (.int .i64 kd2) (.bool tr2) (.int .i64 nu2) (.string st2) (.slice none 0 0) (.slice none 0 0))
      have KB := Lib.hid (blk_iz6 KBwd.out (.int .i64 kd2) (.bool tr2) (.int .i64 nu2) (.string st2) (.slice none 0 0) (.slice none 0 0))
      clear m0 m1 m2 m3 m4 m5 n0 n1 n2 n3 n4 n5
      refine hK.out _ _ ?_ (fun hHeld => ?_)
      · exact HSS.out _ R9.out
      clear hK K0
      try simp only [Act.put, List.getElem_toArray, List.getElem_cons_succ, List.getElem_cons_zero, List.setIfInBounds_toArray, List.set_cons_zero, List.set_cons_succ]
      generalize ((((((wd.setCell ⟨K, 0, none⟩ (.int .i64 kd2)).setCell ⟨K, 1, none⟩ (.bool tr2)).setCell ⟨K, 2, none⟩ (.int .i64 nu2)).setCell ⟨K, 3, none⟩ (.string st2)).setCell ⟨K, 4, none⟩ (.slice none 0 0)).setCell ⟨K, 5, none⟩ (.slice none 0 0)) = wz at *
      rotate_left
      go_simp
      have R2 := Lib.hid (R1.out.alloc R1.out.size (.cells #[.int .i64 0, .bool false, .int .i64 0, .string ⟨#[]⟩, .slice none 0 0, .slice none 0 0] 52))
      have KBwc := Lib.hid (Blk.new wb 52 #[.int .i64 0, .bool false, .int .i64 0, .string ⟨#[]⟩, .slice none 0 0, .slice none 0 0])
      have HKW := Lib.hid (show W.heap.size ≤ wb.heap.size from R1.out.size)
      refine hK.out _ _ ?_ (fun hHeld => ?_)
      · exact HSS.out _ R2.out
      clear hK K0
      try simp only [Act.put, List.getElem_toArray, List.getElem_cons_succ, List.getElem_cons_zero, List.setIfInBounds_toArray, List.set_cons_zero, List.set_cons_succ]
      generalize (wb.alloc (.cells #[.int .i64 0, .bool false, .int .i64 0, .string ⟨#[]⟩, .slice none 0 0, .slice none 0 0] 52)) = wc at *
      generalize wb.heap.size = K at *
      refine wpAnyH_ready (rs := [6]) (by kernel_rfl) (by simp) ?_
      refine AllReadyH.cons rfl (fun K0 hK => ?_) AllReadyH.nil
      go_simp
      refine (HWAY.out _ (HB.out.trans (R2.out.mono HB.out.size))).mono ?_
      rintro e wd ⟨rfl, hb⟩
      have R3 := Lib.hid (R2.out.trans (hb.mono R2.out.size))
      have KBwd := Lib.hid (KBwc.out.onto hb)
      clear hb
      go_wp2_with fail
      refine hK.out _ _ ?_ (fun hHeld => ?_)
      · exact HSS.out _ R3.out
      clear hK K0
      try simp only [Act.put, List.getElem_toArray, List.getElem_cons_succ, List.getElem_cons_zero, List.setIfInBounds_toArray, List.set_cons_zero, List.set_cons_succ]
      refine wpAnyH_take (i := 7) (v := ?_) rfl (by kernel_rfl) (by kernel_rfl) (by kernel_rfl) (fun _ _ _ h => h) (Or.inl ⟨by rfl, ?_⟩) (by assumption) ?_
      rotate_left
      · intro wq hSw
        try dsimp only at hSw
        go_simp
        try (with_reducible rfl)
      try simp only [Act.put, List.getElem_toArray, List.getElem_cons_succ, List.getElem_cons_zero, List.setIfInBounds_toArray, List.set_cons_zero, List.set_cons_succ]
      refine wpAnyH_take (i := 8) (v := ?_) rfl (by kernel_rfl) (by kernel_rfl) (by kernel_rfl) (fun _ _ _ h => h) (Or.inl ⟨by rfl, ?_⟩) (by assumption) ?_
      rotate_left
      · intro wq hSw
        try dsimp only at hSw
        go_simp
        try (with_reducible rfl)
      try simp only [Act.put, List.getElem_toArray, List.getElem_cons_succ, List.getElem_cons_zero, List.setIfInBounds_toArray, List.set_cons_zero, List.set_cons_succ]
      refine wpAnyH_take (i := 9) (v := ?_) rfl (by kernel_rfl) (by kernel_rfl) (by kernel_rfl) (fun _ _ _ h => h) (Or.inl ⟨by rfl, ?_⟩) (by assumption) ?_
      rotate_left
      · intro wq hSw
        try dsimp only at hSw
        go_simp
        try (with_reducible rfl)
      try simp only [Act.put, List.getElem_toArray, List.getElem_cons_succ, List.getElem_cons_zero, List.setIfInBounds_toArray, List.set_cons_zero, List.set_cons_succ]
      refine wpAnyH_ready (rs := [11]) (by kernel_rfl) (by simp) ?_
      refine AllReadyH.cons rfl (fun K0 hK => ?_) AllReadyH.nil
      have m0 := KBwd.out.cell 0
      have m1 := KBwd.out.cell 1
      have m2 := KBwd.out.cell 2
      have m3 := KBwd.out.cell 3
      have m4 := KBwd.out.cell 4
      have m5 := KBwd.out.cell 5
      have n0 := KBwd.out.free 0
      have n1 := KBwd.out.free 1
      have n2 := KBwd.out.free 2
      have n3 := KBwd.out.free 3
      have n4 := KBwd.out.free 4
      have n5 := KBwd.out.free 5
      go_simp
      have R9 := Lib.hid (below_iz6 R3.out HKW.out (.int .i64 kd2) (.bool tr2) (.int .i64 nu2) (.string st2) (.slice none 0 0) (.slice none 0 0))
      have KB := Lib.hid (blk_iz6 KBwd.out (.int .i64 kd2) (.bool tr2) (.int .i64 nu2) (.string st2) (.slice none 0 0) (.slice none 0 0))
      clear m0 m1 m2 m3 m4 m5 n0 n1 n2 n3 n4 n5
      refine hK.out _ _ ?_ (fun hHeld => ?_)
      · exact HSS.out _ R9.out
      clear hK K0
      try simp only [Act.put, List.getElem_toArray, List.getElem_cons_succ, List.getElem_cons_zero, List.setIfInBounds_toArray, List.set_cons_zero, List.set_cons_succ]
      generalize ((((((wd.setCell ⟨K, 0, none⟩ (.int .i64 kd2)).setCell ⟨K, 1, none⟩ (.bool tr2)).setCell ⟨K, 2, none⟩ (.int .i64 nu2)).setCell ⟨K, 3, none⟩ (.string st2)).setCell ⟨K, 4, none⟩ (.slice none 0 0)).setCell ⟨K, 5, none⟩ (.slice none 0 0)) = wz at *
      rotate_left
      go_simp
      have R1 := Lib.hid (R0.out.alloc R0.out.size (.cells #[.int .i64 0, .bool false, .int .i64 0, .string ⟨#[]⟩, .slice none 0 0, .slice none 0 0] 52))
      have KBwb := Lib.hid (Blk.new wa 52 #[.int .i64 0, .bool false, .int .i64 0, .string ⟨#[]⟩, .slice none 0 0, .slice none 0 0])
      have HKW := Lib.hid (show W.heap.size ≤ wa.heap.size from R0.out.size)
      refine hK.out _ _ ?_ (fun hHeld => ?_)
      · exact HSS.out _ R1.out
      clear hK K0
      try simp only [Act.put, List.getElem_toArray, List.getElem_cons_succ, List.getElem_cons_zero, List.setIfInBounds_toArray, List.set_cons_zero, List.set_cons_succ]
      generalize (wa.alloc (.cells #[.int .i64 0, .bool false, .int .i64 0, .string ⟨#[]⟩, .slice none 0 0, .slice none 0 0] 52)) = wb at *
      generalize wa.heap.size = K at *
      refine wpAnyH_ready (rs := [2]) (by kernel_rfl) (by simp) ?_
      refine AllReadyH.cons rfl (fun K0 hK => ?_) AllReadyH.nil
      go_simp
      refine (kind_any nm _).mono ?_
      rintro e wc ⟨rfl, hb⟩
      have R2 := Lib.hid (R1.out.trans (hb.mono R1.out.size))
      have KBwc := Lib.hid (KBwb.out.onto hb)
      clear hb
      rw [hkv]
      go_wp2_with fail
      refine hK.out _ _ ?_ (fun hHeld => ?_)
      · exact HSS.out _ R2.out
      clear hK K0
      try simp only [Act.put, List.getElem_toArray, List.getElem_cons_succ, List.getElem_cons_zero, List.setIfInBounds_toArray, List.set_cons_zero, List.set_cons_succ]
      refine wpAnyH_take (i := 3) (v := ?_) rfl (by kernel_rfl) (by kernel_rfl) (by kernel_rfl) (fun _ _ _ h => h) (Or.inl ⟨by rfl, ?_⟩) (by assumption) ?_
      rotate_left
      · intro wq hSw
        try dsimp only at hSw
        go_simp
        try (with_reducible rfl)
      try simp only [Act.put, List.getElem_toArray, List.getElem_cons_succ, List.getElem_cons_zero, List.setIfInBounds_toArray, List.set_cons_zero, List.set_cons_succ]
      refine wpAnyH_ready (rs := [6]) (by kernel_rfl) (by simp) ?_
      refine AllReadyH.cons rfl (fun K0 hK => ?_) AllReadyH.nil
      go_simp
      refine (HWAY.out _ (HB.out.trans (R2.out.mono HB.out.size))).mono ?_
      rintro e wd ⟨rfl, hb⟩
      have R3 := Lib.hid (R2.out.trans (hb.mono R2.out.size))
      have KBwd := Lib.hid (KBwc.out.onto hb)
      clear hb
      go_wp2_with fail
      refine hK.out _ _ ?_ (fun hHeld => ?_)
      · exact HSS.out _ R3.out
      clear hK K0
      try simp only [Act.put, List.getElem_toArray, List.getElem_cons_succ, List.getElem_cons_zero, List.setIfInBounds_toArray, List.set_cons_zero, List.set_cons_succ]
      refine wpAnyH_take (i := 7) (v := ?_) rfl (by kernel_rfl) (by kernel_rfl) (by kernel_rfl) (fun _ _ _ h => h) (Or.inl ⟨by rfl, ?_⟩) (by assumption) ?_
      rotate_left
      · intro wq hSw
        try dsimp only at hSw
        go_simp
        try (with_reducible rfl)
      try simp only [Act.put, List.getElem_toArray, List.getElem_cons_succ, List.getElem_cons_zero, List.setIfInBounds_toArray, List.set_cons_zero, List.set_cons_succ]
      refine wpAnyH_take (i := 8) (v := ?_) rfl (by kernel_rfl) (by kernel_rfl) (by kernel_rfl) (fun _ _ _ h => h) (Or.inl ⟨by rfl, ?_⟩) (by assumption) ?_
      rotate_left
      · intro wq hSw
        try dsimp only at hSw
        go_simp
        try (with_reducible rfl)
      try simp only [Act.put, List.getElem_toArray, List.getElem_cons_succ, List.getElem_cons_zero, List.setIfInBounds_toArray, List.set_cons_zero, List.set_cons_succ]
      refine wpAnyH_take (i := 9) (v := ?_) rfl (by kernel_rfl) (by kernel_rfl) (by kernel_rfl) (fun _ _ _ h => h) (Or.inl ⟨by rfl, ?_⟩) (by assumption) ?_
      rotate_left
      · intro wq hSw
        try dsimp only at hSw
        go_simp
        try (with_reducible rfl)
      try simp only [Act.put, List.getElem_toArray, List.getElem_cons_succ, List.getElem_cons_zero, List.setIfInBounds_toArray, List.set_cons_zero, List.set_cons_succ]
      refine wpAnyH_ready (rs := [11]) (by kernel_rfl) (by simp) ?_
      refine AllReadyH.cons rfl (fun K0 hK => ?_) AllReadyH.nil
      have m0 := KBwd.out.cell 0
      have m1 := KBwd.out.cell 1
      have m2 := KBwd.out.cell 2
      have m3 := KBwd.out.cell 3
      have m4 := KBwd.out.cell 4
      have m5 := KBwd.out.cell 5
      have n0 := KBwd.out.free 0
      have n1 := KBwd.out.free 1
      have n2 := KBwd.out.free 2
      have n3 := KBwd.out.free 3
      have n4 := KBwd.out.free 4
      have n5 := KBwd.out.free 5
      go_simp
      have R9 := Lib.hid (below_iz6 R3.out HKW.out (.int .i64 kd2) (.bool tr2) (.int .i64 nu2) (.string st2) (.slice none 0 0) (.slice none 0 0))
      have KB := Lib.hid (blk_iz6 KBwd.out (.int .i64 kd2) (.bool tr2) (.int .i64 nu2) (.string st2) (.slice none 0 0) (.slice none 0 0))
      clear m0 m1 m2 m3 m4 m5 n0 n1 n2 n3 n4 n5
      refine hK.out _ _ ?_ (fun hHeld => ?_)
      · exact HSS.out _ R9.out
      clear hK K0
      try simp only [Act.put, List.getElem_toArray, List.getElem_cons_succ, List.getElem_cons_zero, List.setIfInBounds_toArray, List.set_cons_zero, List.set_cons_succ]
      generalize ((((((wd.setCell ⟨K, 0, none⟩ (.int .i64 kd2)).setCell ⟨K, 1, none⟩ (.bool tr2)).setCell ⟨K, 2, none⟩ (.int .i64 nu2)).setCell ⟨K, 3, none⟩ (.string st2)).setCell ⟨K, 4, none⟩ (.slice none 0 0)).setCell ⟨K, 5, none⟩ (.slice none 0 0)) = wz at *
      all_goals
        refine wpAnyH_take (i := 12) (v := ?_) rfl (by kernel_rfl) (by kernel_rfl) (by kernel_rfl) (fun _ _ _ h => h) (Or.inl ⟨by rfl, ?_⟩) (by assumption) ?_
        rotate_left
        · intro wq hSw
          try dsimp only at hSw
          go_simp
          try (with_reducible rfl)
        try simp only [Act.put, List.getElem_toArray, List.getElem_cons_succ, List.getElem_cons_zero, List.setIfInBounds_toArray, List.set_cons_zero, List.set_cons_succ]
        refine wpAnyH_done (by kernel_rfl) ?_ _
        have HZ := Lib.hid (HB.out.trans (R9.out.mono HB.out.size))
        have HB3Z := Lib.hid (HB3W.out.onto R9.out)
        have HRZ := Lib.hid (HRW.out.onto R9.out)
        have c0 := KB.out.cell 0
        have c1 := KB.out.cell 1
        have c2 := KB.out.cell 2
        have c3 := KB.out.cell 3
        have c4 := KB.out.cell 4
        have c5 := KB.out.cell 5
        have b0 := HB3Z.out.cell 0
        have b1 := HB3Z.out.cell 1
        have b2 := HB3Z.out.cell 2
        have b3 := HB3Z.out.cell 3
        have b4 := HB3Z.out.cell 4
        have b5 := HB3Z.out.cell 5
        have q0 := HB3Z.out.free 0
        have q1 := HB3Z.out.free 1
        have q2 := HB3Z.out.free 2
        have q3 := HB3Z.out.free 3
        have q4 := HB3Z.out.free 4
        have q5 := HB3Z.out.free 5
        clear HSS HWAY hHeld
        go_wp2_with fail
        go_roundw
        case rel => exact ⟨k + 1, by omega, by go_num, by rw [HV2.out]; exact blk_iz6 HB3Z.out _ _ _ _ _ _, far_iz6 HRZ.out (by omega) _ _ _ _ _ _, below_iz6 HZ.out (Nat.le_refl _) _ _ _ _ _ _⟩
        case measure => simp [intOf]; omega
    · obtain rfl : k = l.length := by omega
      have c0 := HB3.out.cell 0
      have c1 := HB3.out.cell 1
      have c2 := HB3.out.cell 2
      have c3 := HB3.out.cell 3
      have c4 := HB3.out.cell 4
      have c5 := HB3.out.cell 5
      go_wp2_with fail
      refine (copied_leaf kd tr nu st _).mono ?_
      rintro e w5 ⟨rfl, hb⟩
      have HW5 := Lib.hid (HW.out.trans (hb.mono HW.out.size))
      have HR5 := Lib.hid (HR.out.onto hb)
      clear hb c0 c1 c2 c3 c4 c5
      have c0 := HR5.out.cell 0
      have c1 := HR5.out.cell 1
      have c2 := HR5.out.cell 2
      have c3 := HR5.out.cell 3
      have c4 := HR5.out.cell 4
      have c5 := HR5.out.cell 5
      have f0 := HR5.out.free 0
      have f1 := HR5.out.free 1
      have f2 := HR5.out.free 2
      have f3 := HR5.out.free 3
      have f4 := HR5.out.free 4
      have f5 := HR5.out.free 5
      go_wp2_with fail
      refine bodyPost_ret (v := .tuple #[.agg #[.int .i64 kd, .bool tr, .int .i64 nu, .string st, .slice none 0 0, .slice none 0 0], .int .i64 0]) (by simp [results, Tryz.results17, go_sem, c0, c1, c2, c3, c4, c5]) rfl ⟨by rw [hvk], ?_⟩
      exact below_iz6 HW5.out (by omega) _ _ _ _ _ _
end Go.Proofs.YtfiahpeajccinaaGreatDoor
