/- A sign that stands there, or must: contracts of the program's parser. Trees put together: contracts of the program's parser. Trees put together: contract of the program's join. -/
import Derived.Test.YtfbipnflgjhaiaaGreatDoorEB
set_option linter.unusedVariables false
set_option maxRecDepth 100000
set_option maxHeartbeats 8000000
open Go.Lib (hid)
namespace Go.Proofs.YtfbipnflgjhaiaaGreatDoor
open Go.RowKit
open Tk Ex
theorem Aside.then {b : Nat} {a w w' : World} (h : Aside b a w) (k : Aside b w w') : Aside b a w' :=
 ⟨k.os.trans h.os, k.tape.trans h.tape, k.output.trans h.output, Nat.le_trans h.size k.size, fun j hj hn => (k.block j (Nat.lt_of_lt_of_le hj h.size) hn).trans (h.block j hj hn)⟩
def SignPost (b : Nat) (s : ByteArray) (i : Nat) (l : List ByteArray) (w : World) (e : Ending) (w' : World) : Prop := match l.find? (stands s i) with
 | some t => e = .returned (.string t) ∧ Aside b w w' ∧ Px w' b s (past s i t)
 | none => e = .returned (.string ⟨#[]⟩) ∧ Below w.heap.size w w'
theorem xsign_any (b : Nat) (s : ByteArray) (i : Nat) (l : List ByteArray) (A : Option Addr) (c : Nat) (w : World) (hs : s.size ≤ 1000000) (h : Px w b s i) (hi : i ≤ s.size) (hl : l.length ≤ 100) (ht : ∀ t ∈ l, t.size ≤ 100) (hA : SReads w (· < w.heap.size) A l) (hb : ∀ g o, A = some ⟨g, o, none⟩ → g ≠ b) : Calls Tryz.prog 45 #[.pointer (some ⟨b, 0, none⟩), .slice A l.length c] w (SignPost b s i l w) := by
 have HI := hid (xidx_any b s i l A c w hs h hi hl hA)
 have HP := hid h
 have HA := hid hA
 have HQ := hid hb
 have HT := hid ht
 have hbl := h.lt
 clear h hA hb ht
 go_enter Tryz.func45, Tryz.ntmps45
 go_wp2_with fail
 refine HI.out.mono ?_
 rintro e w2 ⟨r, rfl, hr, hb2⟩
 have H2 := hid hb2
 have HP2 := hid (HP.out.onto hb2)
 have HA2 := hid (HA.out.on hb2)
 clear hb2 HI
 rcases hr with ⟨rfl, hf⟩ | ⟨k, t, rfl, hk, hf⟩
 ·
  have HF := hid hf
  clear hf
  go_wp2_with fail
  go_ret
  show SignPost b s i l w _ _
  unfold SignPost
  rw [HF.out]
  exact ⟨rfl, H2.out⟩
 ·
  have HF := hid hf
  have hkl : k < l.length := by
   rcases Nat.lt_or_ge k l.length with h1 | h1
   · exact h1
   · rw [List.getElem?_eq_none h1] at hk; cases hk
  obtain ⟨g, o, rfl, hg, hcell⟩ := HA2.out (by intro h0; rw [h0] at hkl; simp at hkl)
  have k0 := hcell k t hk
  have hne := HQ.out g o rfl
  have hts := HT.out t (List.mem_of_getElem? hk)
  have hq := bl_le hi
  have HPA := hid (show past s i t = bl s i + t.size from rfl)
  have HN := hid (fun w1 (h1 : Px w1 b s i) => xnext_any b s i w1 hs h1.c0 h1.c1 hi)
  generalize bl s i = q at *
  obtain ⟨pa, hpa⟩ : ∃ pa, past s i t = pa := ⟨_, rfl⟩
  have HPE := hid hpa
  rw [hpa] at HPA
  clear hpa
  have u1 : decide ((k : Int) < 0) = false := decide_eq_false (by omega)
  have i1 : (k : Int) < (l.length : Int) := by omega
  have i2 : (0 : Int) ≤ (k : Int) := by omega
  have e1 : IntKind.i64.wrap ((q : Int) + (t.size : Int)) = (pa : Int) := by rw [HPA.out]; rw [IntWalk.i64_in _ (by omega)]; omega
  have HS := hid (show ∀ w', Below w2.heap.size w2 w' → w'.cell? ⟨g, o + k, none⟩ = some (.string t) from fun w' hb => (hb.cell (p := ⟨g, o + k, none⟩) hg).trans k0)
  have HBb := hid (show b < w2.heap.size from HP2.out.lt)
  clear hf hk hcell hts
  go_upto_region 4 with fail
  refine wp_region_held_drew (S := fun w' => w'.cell? ⟨g, o + k, none⟩ = some (.string t)) (by kernel_rfl) ?_ (fun hHeld => ?_)
  · exact HS.out _ (Below.refl w2.heap.size w2).drew
  refine wpAnyH_take (i := 0) (v := ?_) rfl (by kernel_rfl) (by kernel_rfl) (by kernel_rfl) (fun _ _ _ h => h) (Or.inl ⟨by rfl, ?_⟩) (by assumption) ?_
  rotate_left
  ·
   intro wq hSw
   try dsimp only at hSw
   go_simp
   try (with_reducible rfl)
  try simp only [Act.put, List.getElem_toArray, List.getElem_cons_zero, List.setIfInBounds_toArray, List.set_cons_zero, List.set_cons_succ]
  refine wpAnyH_take (i := 1) (v := ?_) rfl (by kernel_rfl) (by kernel_rfl) (by kernel_rfl) (fun _ _ _ h => h) (Or.inl ⟨by rfl, ?_⟩) (by assumption) ?_
  rotate_left
  ·
   intro wq hSw
   try dsimp only at hSw
   go_simp
   try (with_reducible rfl)
  try simp only [Act.put, sqa, sqb, sqc, sqd, sqe, sqf]
  refine wpAnyH_take (i := 3) (v := ?_) rfl (by kernel_rfl) (by kernel_rfl) (by kernel_rfl) (fun _ _ _ h => h) (Or.inl ⟨by rfl, ?_⟩) (by assumption) ?_
  rotate_left
  ·
   intro wq hSw
   try dsimp only at hSw
   go_simp
   try (with_reducible rfl)
  try simp only [Act.put, sqa, sqb, sqc, sqd, sqe, sqf]
  refine wpAnyH_take (i := 4) (v := ?_) rfl (by kernel_rfl) (by kernel_rfl) (by kernel_rfl) (fun _ _ _ h => h) (Or.inl ⟨by rfl, ?_⟩) (by assumption) ?_
  rotate_left
  ·
   intro wq hSw
   try dsimp only at hSw
   go_simp
   try (with_reducible rfl)
  try simp only [Act.put, sqa, sqb, sqc, sqd, sqe, sqf]
  refine wpAnyH_take (i := 5) (v := ?_) rfl (by kernel_rfl) (by kernel_rfl) (by kernel_rfl) (fun _ _ _ h => h) (Or.inl ⟨by rfl, ?_⟩) (by assumption) ?_
  rotate_left
  ·
   intro wq hSw
   try dsimp only at hSw
   go_simp
   try (with_reducible rfl)
  try simp only [Act.put, sqa, sqb, sqc, sqd, sqe, sqf]
  refine wpAnyH_take (i := 6) (v := ?_) rfl (by kernel_rfl) (by kernel_rfl) (by kernel_rfl) (fun _ _ _ h => h) (Or.inl ⟨by rfl, ?_⟩) (by assumption) ?_
  rotate_left
  ·
   intro wq hSw
   try dsimp only at hSw
   go_simp
   try (with_reducible rfl)
  try simp only [Act.put, sqa, sqb, sqc, sqd, sqe, sqf]
  refine wpAnyH_take (i := 7) (v := ?_) rfl (by kernel_rfl) (by kernel_rfl) (by kernel_rfl) (fun _ _ _ h => h) (Or.inl ⟨by rfl, ?_⟩) (by assumption) ?_
  rotate_left
  ·
   intro wq hSw
   try dsimp only at hSw
   go_simp
   try (with_reducible rfl)
  try simp only [Act.put, sqa, sqb, sqc, sqd, sqe, sqf]
  refine wpAnyH_ready (rs := [2]) (by kernel_rfl) (by simp) ?_
  refine AllReadyH.cons rfl (fun K0 hK => ?_) AllReadyH.nil
  go_simp
  refine (HN.out _ (HP2.out.onto (Below.refl w2.heap.size w2).drew)).mono ?_
  rintro e w3 ⟨rfl, hb3⟩
  have H3 := hid ((Below.refl w2.heap.size w2).drew.trans hb3)
  clear hb3
  refine hK.out _ _ ?_ (fun hHeld => ?_)
  · exact HS.out _ H3.out
  clear hK K0
  try simp only [Act.put, sqa, sqb, sqc, sqd, sqe, sqf]
  refine wpAnyH_take (i := 8) (v := ?_) rfl (by kernel_rfl) (by kernel_rfl) (by kernel_rfl) (fun _ _ _ h => h) (Or.inl ⟨by rfl, ?_⟩) (by assumption) ?_
  rotate_left
  ·
   intro wq hSw
   try dsimp only at hSw
   go_simp
   try (with_reducible rfl)
  try simp only [Act.put, sqa, sqb, sqc, sqd, sqe, sqf]
  refine wpAnyH_take (i := 9) (v := ?_) rfl (by kernel_rfl) (by kernel_rfl) (by kernel_rfl) (fun _ _ _ h => h) (Or.inl ⟨by rfl, ?_⟩) (by assumption) ?_
  rotate_left
  ·
   intro wq hSw
   try dsimp only at hSw
   go_simp
   try (with_reducible rfl)
  try simp only [Act.put, sqa, sqb, sqc, sqd, sqe, sqf]
  refine wpAnyH_take (i := 10) (v := ?_) rfl (by kernel_rfl) (by kernel_rfl) (by kernel_rfl) (fun _ _ _ h => h) (Or.inl ⟨by rfl, ?_⟩) (by assumption) ?_
  rotate_left
  ·
   intro wq hSw
   try dsimp only at hSw
   go_simp
   try (with_reducible rfl)
  try simp only [Act.put, sqa, sqb, sqc, sqd, sqe, sqf]
  have HP3 := hid (HP2.out.onto H3.out)
  have q1 := HP3.out.c1
  have x1 := HP3.out.f 1
  refine wpAnyH_ready (rs := [11]) (by kernel_rfl) (by simp) ?_
  refine AllReadyH.cons rfl (fun K0 hK => ?_) AllReadyH.nil
  go_simp
  refine hK.out _ _ ?_ (fun hHeld => ?_)
  · exact (World.cell?_of_block (Below.heap_setCell _ _ _ _ hne)).trans (HS.out _ H3.out)
  clear hK K0
  try simp only [Act.put, sqa, sqb, sqc, sqd, sqe, sqf]
  refine wpAnyH_done (by kernel_rfl) ?_ _
  have k1 : (w3.setCell ⟨b, 1, none⟩ (.int .i64 (pa : Int))).cell? ⟨g, o + k, none⟩ = some (.string t) := (World.cell?_of_block (Below.heap_setCell _ _ _ _ hne)).trans (HS.out _ H3.out)
  go_wp2_with fail
  go_ret
  show SignPost b s i l w _ _
  unfold SignPost
  rw [HF.out]
  exact ⟨rfl, (Aside.of (H2.out.trans (H3.out.mono H2.out.size))).set _, by rw [HPE.out]; exact HP3.out.move _⟩
theorem sread1 {w : World} {g : Nat} {ty : TypeId} {t : ByteArray} (h : Blk w g ty #[.string t]) : SReads w (· < w.heap.size) (some ⟨g, 0, none⟩) [t] := by
 intro _
 refine ⟨g, 0, rfl, h.lt, fun i x hx => ?_⟩
 cases i with
 | zero => injection hx with hx; subst hx; exact h.cell 0
 | succ i => cases hx
theorem find1 (s : ByteArray) (i : Nat) (t : ByteArray) : [t].find? (stands s i) = if stands s i t = true then some t else none := by
 cases h : stands s i t with
 | true => rw [List.find?_cons_of_pos h]; rfl
 | false => rw [List.find?_cons_of_neg (by rw [h]; decide)]; rfl
def MustPost (b : Nat) (s : ByteArray) (i : Nat) (t : ByteArray) (w : World) (e : Ending) (w' : World) : Prop :=
 if stands s i t = true then e = .returned (.bool true) ∧ Aside b w w' ∧ Px w' b s (past s i t)
 else e = .returned (.bool false) ∧ Aside b w w' ∧ Noted w' b s (bl s i) 1
theorem xmust_any (b : Nat) (s : ByteArray) (i : Nat) (t : ByteArray) (w : World) (hs : s.size ≤ 1000000) (h : Px w b s i) (hi : i ≤ s.size) (ht : t.size ≤ 100) (ht0 : t ≠ nix) : Calls Tryz.prog 119 #[.pointer (some ⟨b, 0, none⟩), .string t] w (MustPost b s i t w) := by
 have hbl := h.lt
 have hW : Below w.heap.size w (w.alloc (.cells #[.string t] 9)) := (Below.refl _ _).alloc (Nat.le_refl _) _
 have hB : Blk (w.alloc (.cells #[.string t] 9)) w.heap.size 9 #[.string t] := Blk.new w _ _
 have HSG := hid (xsign_any b s i [t] (some ⟨w.heap.size, 0, none⟩) 1 (w.alloc (.cells #[.string t] 9)) hs (h.onto hW) hi (by simp) (by simpa using ht) (sread1 hB) (by intro g o e; injection e with e; injection e with e; omega))
 have HW := hid hW
 have HP := hid (h.onto hW)
 clear hB hW h
 have u1 : t.toList.isEmpty = false := by
  rw [ByteArray.toList_eq, List.isEmpty_eq_false_iff]
  intro e
  exact ht0 (ba_ext (b := nix) e)
 have u2 : (t.toList == (⟨#[]⟩ : ByteArray).toList) = false := by rw [tl_eqb]; exact eqb_no ht0
 go_enter Tryz.func119, Tryz.ntmps119
 go_wp2_with fail
 change Calls _ _ _ (w.alloc (.cells #[.string t] 9)) _
 generalize (w.alloc (.cells #[.string t] 9)) = W at *
 refine HSG.out.mono ?_
 intro e w2 hp
 unfold SignPost at hp
 rw [find1] at hp
 clear HSG
 by_cases hst : stands s i t = true
 ·
  rw [if_pos hst] at hp
  obtain ⟨rfl, ha, hpx⟩ := hp
  have HA := hid ((Aside.of HW.out : Aside b w W).then ha)
  have HX := hid hpx
  have HM := hid (fun e w' (h : e = .returned (.bool true) ∧ Aside b w w' ∧ Px w' b s (past s i t)) => (show MustPost b s i t w e w' from by unfold MustPost; rw [if_pos hst]; exact h))
  clear ha hpx hst
  go_wp2_with fail
  go_ret
  exact HM.out _ _ ⟨rfl, HA.out, HX.out⟩
 ·
  rw [if_neg hst] at hp
  obtain ⟨rfl, hb2⟩ := hp
  have HP2 := hid (HP.out.onto hb2)
  have H2 := hid (HW.out.trans (hb2.mono HW.out.size))
  have HM := hid (fun e w' (h : e = .returned (.bool false) ∧ Aside b w w' ∧ Noted w' b s (bl s i) 1) => (show MustPost b s i t w e w' from by unfold MustPost; rw [if_neg hst]; exact h))
  clear hb2 hst
  have u3 : (⟨#[]⟩ : ByteArray).toList.isEmpty = true := by rw [ByteArray.toList_eq]; decide +kernel
  have u4 : ((⟨#[]⟩ : ByteArray).toList == (⟨#[]⟩ : ByteArray).toList) = true := beq_self_eq_true _
  have HN := hid (xnext_any b s i w2 hs HP2.out.c0 HP2.out.c1 hi)
  generalize bl s i = q at *
  go_wp2_with fail
  refine HN.out.mono ?_
  rintro e w3 ⟨rfl, hb3⟩
  have HP3 := hid (HP2.out.onto hb3)
  have H3 := hid (H2.out.trans (hb3.mono H2.out.size))
  clear hb3
  go_wp2_with fail
  refine (xfail_any b s i q 1 _ HP3.out).mono ?_
  rintro e w4 ⟨rfl, ha4, hn4⟩
  have HA4 := hid ((Aside.of H3.out : Aside b w w3).then ha4)
  have HN4 := hid hn4
  clear ha4 hn4
  go_wp2_with fail
  go_ret
  exact HM.out _ _ ⟨rfl, HA4.out, HN4.out⟩
open Go.RowKit
open Tk Ex
def VReads (w : World) (S : Nat → Prop) (A : Option Addr) (l : List Value) : Prop :=
 l ≠ [] → ∃ b o, A = some ⟨b, o, none⟩ ∧ S b ∧ ∀ i v, l[i]? = some v → w.cell? ⟨b, o + i, none⟩ = some v
theorem VReads.on {w w' : World} {A : Option Addr} {l : List Value} (h : VReads w (· < w.heap.size) A l) (hb : Below w.heap.size w w') : VReads w' (· < w'.heap.size) A l := by
 intro hn
 obtain ⟨b, o, e, hs, hc⟩ := h hn
 exact ⟨b, o, e, Nat.lt_of_lt_of_le hs hb.size, fun i v hi => (hb.cell (p := ⟨b, o + i, none⟩) hs).trans (hc i v hi)⟩
theorem VReads.at_ {w : World} {S : Nat → Prop} {A : Option Addr} {l : List Value} (h : VReads w S A l) {k : Nat} (hk : k < l.length) : ∃ b o, A = some ⟨b, o, none⟩ ∧ S b ∧ w.cell? ⟨b, o + k, none⟩ = some l[k] := by
 obtain ⟨b, o, e, hs, hc⟩ := h (by intro h0; rw [h0] at hk; simp at hk)
 exact ⟨b, o, e, hs, hc k _ (List.getElem?_eq_getElem hk)⟩
def padr : Option Nat → Option Addr
 | none => none
 | some g => some ⟨g, 0, none⟩
theorem run_nilL (x : Option Nat) (w : World) : (binOp BinOp.eql 74 (.pointer none) (.pointer (padr x))).run Tryz.prog w = .ok (.bool x.isNone) w := by
 cases x <;> kernel_rfl
theorem run_nilR (x : Option Nat) (w : World) : (binOp BinOp.eql 74 (.pointer (padr x)) (.pointer none)).run Tryz.prog w = .ok (.bool x.isNone) w := by
 cases x <;> kernel_rfl
theorem run_nilN (x : Option Nat) (w : World) : (binOp BinOp.neq 74 (.pointer (padr x)) (.pointer none)).run Tryz.prog w = .ok (.bool (!x.isNone)) w := by
 cases x <;> kernel_rfl
theorem xleaf_any (v0 v1 v2 v3 v4 v5 v6 v7 v8 : Value) (w : World) : Calls Tryz.prog 122 #[.agg #[v0, v1, v2, v3, v4, v5, v6, v7, v8]] w fun e w' => e = .returned (.pointer (padr (some (w.heap.size + 1)))) ∧ Blk w' (w.heap.size + 1) 93 #[v0, v1, v2, v3, v4, v5, v6, v7, v8, .int .i64 1] ∧ Below w.heap.size w w' := by
 go_enter Tryz.func122, Tryz.ntmps122
 have hB := Blk.new w 52 #[v0, v1, v2, v3, v4, v5, v6, v7, v8]
 have hW : Below w.heap.size w (w.alloc (.cells #[v0, v1, v2, v3, v4, v5, v6, v7, v8] 52)) := (Below.refl _ _).alloc (Nat.le_refl _) _
 have hs : (w.alloc (.cells #[v0, v1, v2, v3, v4, v5, v6, v7, v8] 52)).heap.size = w.heap.size + 1 := by simp
 go_upto_region 1 with fail
 change Code.wp _ _ _ _ (w.alloc (.cells #[v0, v1, v2, v3, v4, v5, v6, v7, v8] 52))
 generalize (w.alloc (.cells #[v0, v1, v2, v3, v4, v5, v6, v7, v8] 52)) = W at *
 have c0 := hB.cell 0
 have c1 := hB.cell 1
 have c2 := hB.cell 2
 have c3 := hB.cell 3
 have c4 := hB.cell 4
 have c5 := hB.cell 5
 have c6 := hB.cell 6
 have c7 := hB.cell 7
 have c8 := hB.cell 8
 have HW := hid hW
 have HS := hid hs
 clear hB hW hs
 go_wp2_with fail
 go_ret
 refine ⟨by rw [← HS.out] <;> rfl, ?_, HW.out.alloc HW.out.size _⟩
 rw [← HS.out]
 exact Blk.new W _ _
theorem xlit_any (v0 v1 v2 v3 v4 v5 : Value) (w : World) : Calls Tryz.prog 117 #[.agg #[v0, v1, v2, v3, v4, v5]] w fun e w' => ∃ g, e = .returned (.pointer (padr (some g))) ∧ w.heap.size ≤ g ∧ Blk w' g 93 #[.string litB, .string nix, v0, v1, v2, v3, v4, v5, .slice none 0 0, .int .i64 1] ∧ Below w.heap.size w w' := by
 go_enter Tryz.func117, Tryz.ntmps117
 have hB := Blk.new w 49 #[v0, v1, v2, v3, v4, v5]
 have hW : Below w.heap.size w (w.alloc (.cells #[v0, v1, v2, v3, v4, v5] 49)) := (Below.refl _ _).alloc (Nat.le_refl _) _
 have hs : (w.alloc (.cells #[v0, v1, v2, v3, v4, v5] 49)).heap.size = w.heap.size + 1 := by simp
 go_upto_region 1 with fail
 change Code.wp _ _ _ _ (w.alloc (.cells #[v0, v1, v2, v3, v4, v5] 49))
 generalize (w.alloc (.cells #[v0, v1, v2, v3, v4, v5] 49)) = W at *
 have c0 := hB.cell 0
 have c1 := hB.cell 1
 have c2 := hB.cell 2
 have c3 := hB.cell 3
 have c4 := hB.cell 4
 have c5 := hB.cell 5
 have HW := hid hW
 have HS := hid hs
 clear hB hW hs
 go_wp2_with fail
 refine (xleaf_any (.string litB) (.string nix) v0 v1 v2 v3 v4 v5 (.slice none 0 0) W).mono ?_
 rintro e w2 ⟨rfl, hb, hb2⟩
 have HB := hid hb
 have H2 := hid (HW.out.trans (hb2.mono HW.out.size))
 clear hb hb2
 have HL := hid (show w.heap.size ≤ W.heap.size + 1 from Nat.le_succ_of_le HW.out.size)
 generalize hq : W.heap.size + 1 = q at *
 clear hq
 go_wp2_with fail
 go_ret
 exact ⟨q, rfl, HL.out, HB.out, H2.out⟩
def anyNone (l : List (Option Nat)) : Bool := l.any Option.isNone
def ptrs (l : List (Option Nat)) : List Value := l.map fun x => .pointer (padr x)
theorem ptrs_at {l : List (Option Nat)} {k : Nat} {x : Option Nat} (h : l[k]? = some x) : (ptrs l)[k]? = some (.pointer (padr x)) := by simp [ptrs, h]
theorem xindex_any (l : List (Option Nat)) (A : Option Addr) (c : Nat) (w : World) (hl : l.length ≤ 100) (hA : VReads w (· < w.heap.size) A (ptrs l)) : Calls Tryz.prog 83 #[.slice A l.length c, .pointer none] w fun e w' => (∃ r : Int, e = .returned (.int .i64 r) ∧ decide (r ≥ 0) = anyNone l) ∧ w = w' := by
 have HA := hid hA
 have HY := hid (fun (k : Nat) (h1 : l[k]? = some none) => (show decide ((k : Int) ≥ 0) = anyNone l from by rw [decide_eq_true (by omega)]; exact (List.any_eq_true.2 ⟨none, List.mem_of_getElem? h1, rfl⟩).symm))
 have HN := hid (fun (h3 : ∀ (j : Nat) (x : Option Nat), l[j]? = some x → x ≠ none) => (show decide ((-1 : Int) ≥ 0) = anyNone l from by
  rw [decide_eq_false (by omega)]
  cases hh : anyNone l with
  | false => rfl
  | true =>
   obtain ⟨x, hx, hn⟩ := List.any_eq_true.1 hh
   obtain ⟨j, hj⟩ := List.getElem?_of_mem hx
   cases x with
   | none => exact absurd rfl (h3 j none hj)
   | some g => cases hn))
 clear hA
 go_enter Tryz.func83, Tryz.ntmps83
 go_wp2_with fail
 go_loop [8] (fun x => ∃ k : Nat, k ≤ l.length ∧ x = .int .i64 k ∧ (∀ (j : Nat) (x : Option Nat), j < k → l[j]? = some x → x ≠ none)) (fun x => l.length - (intOf x).toNat)
 case atStart => exact ⟨0, Nat.zero_le _, rfl, fun j x hj => absurd hj (by omega)⟩
 case round =>
  obtain ⟨k, hk, rfl, hno⟩ := hrel
  have HNO := hid hno
  clear hno
  by_cases hlt : k < l.length
  ·
   obtain ⟨x, hx⟩ : ∃ x, l[k]? = some x := ⟨_, List.getElem?_eq_getElem hlt⟩
   obtain ⟨g, o, rfl, hg, hcell⟩ := HA.out (by intro h0; have := congrArg List.length h0; simp [ptrs] at this; rw [this] at hlt; simp at hlt)
   have k0 := hcell k _ (ptrs_at hx)
   have HX := hid hx
   have u1 : decide (k < l.length) = true := decide_eq_true hlt
   have u2 : decide ((k : Int) < (l.length : Int)) = true := decide_eq_true (by omega)
   have i1 : (k : Int) < (l.length : Int) := by omega
   have i2 : (0 : Int) ≤ (k : Int) := by omega
   clear hx hcell
   cases x with
   | none =>
    have n1 := run_nilL none
    have n2 : (none : Option Nat).isNone = true := rfl
    go_wp2_with fail
    go_ret
    exact ⟨⟨k, rfl, HY.out k HX.out⟩, rfl⟩
   | some q =>
    have n1 := run_nilL (some q)
    have n2 : (some q).isNone = false := rfl
    go_wp2_with fail
    go_round
    case rel =>
     refine ⟨k + 1, hlt, by go_num, fun j x hj hx => ?_⟩
     rcases Nat.lt_or_ge j k with h1 | h1
     · exact HNO.out j x h1 hx
     ·
      obtain rfl : j = k := by omega
      rw [HX.out] at hx
      injection hx with hx; subst hx; intro h; cases h
    case measure => simp [intOf]; omega
  ·
   obtain rfl : k = l.length := by omega
   have u1 : decide (l.length < l.length) = false := decide_eq_false (by omega)
   have u2 : decide ((l.length : Int) < (l.length : Int)) = false := decide_eq_false (by omega)
   go_wp2_with fail
   go_ret
   exact ⟨⟨-1, rfl, HN.out fun j x hx => HNO.out j x (by
    rcases Nat.lt_or_ge j l.length with h1 | h1
    · exact h1
    · rw [List.getElem?_eq_none h1] at hx; cases hx) hx⟩, rfl⟩
theorem xcontains_any (l : List (Option Nat)) (A : Option Addr) (c : Nat) (w : World) (hl : l.length ≤ 100) (hA : VReads w (· < w.heap.size) A (ptrs l)) : Calls Tryz.prog 66 #[.slice A l.length c, .pointer none] w fun e w' => e = .returned (.bool (anyNone l)) ∧ w = w' := by
 have HI := hid (xindex_any l A c w hl hA)
 generalize anyNone l = z at *
 clear hA
 go_enter Tryz.func66, Tryz.ntmps66
 go_wp2_with fail
 refine HI.out.mono ?_
 rintro e w2 ⟨⟨r, rfl, hr⟩, rfl⟩
 have HR := hid hr
 clear hr
 by_cases h0 : r ≥ 0
 ·
  go_wp2_with fail
  go_ret
  exact ⟨by rw [← HR.out, decide_eq_true (by omega)] <;> rfl, rfl⟩
 ·
  go_wp2_with fail
  go_ret
  exact ⟨by rw [← HR.out, decide_eq_false (by omega)] <;> rfl, rfl⟩
open Go.RowKit
open Tk Ex
def PartAt (w : World) (S : Nat → Prop) (g : Nat) (e : E) : Prop :=
 S g ∧ ∃ h : Hd, (if e.depth ≤ 32 then EV w S e h ∧ Blk w g 93 #[.string e.op, .string e.name, .int .i64 e.lit.kind, .bool e.lit.tr, .int .i64 e.lit.num, .string e.lit.str, .slice h.L e.lit.items.length h.l, .slice h.L' e.lit.keys.length h.l', .slice h.A e.args.length h.c, .int .i64 e.depth]
  else Blk w g 93 #[.string ⟨#[]⟩, .string ⟨#[]⟩, .int .i64 0, .bool false, .int .i64 0, .string ⟨#[]⟩, .slice none 0 0, .slice none 0 0, .slice none 0 0, .int .i64 e.depth])
theorem PartAt.deep {w : World} {S : Nat → Prop} {g : Nat} {e : E} (h : PartAt w S g e) : w.cell? ⟨g, 9, none⟩ = some (.int .i64 e.depth) := by
 obtain ⟨_, h, k⟩ := h
 by_cases hd : e.depth ≤ 32
 · rw [if_pos hd] at k; exact k.2.cell 9
 · rw [if_neg hd] at k; exact k.cell 9
theorem PartAt.keep {w w' : World} {S : Nat → Prop} {g : Nat} {e : E} (h : PartAt w S g e) (hk : Keeps S w w') : PartAt w' S g e := by
 obtain ⟨hs, h, k⟩ := h
 refine ⟨hs, h, ?_⟩
 by_cases hd : e.depth ≤ 32
 · rw [if_pos hd] at k ⊢; exact ⟨k.1.keep hk, (hk g hs).trans k.2⟩
 · rw [if_neg hd] at k ⊢; exact (hk g hs).trans k
theorem PartAt.wide {w : World} {S S' : Nat → Prop} {g : Nat} {e : E} (h : PartAt w S g e) (hs : ∀ b, S b → S' b) : PartAt w S' g e := by
 obtain ⟨h0, h, k⟩ := h
 refine ⟨hs g h0, h, ?_⟩
 by_cases hd : e.depth ≤ 32
 · rw [if_pos hd] at k ⊢; exact ⟨k.1.wide hs, k.2⟩
 · rw [if_neg hd] at k ⊢; exact k
theorem PartAt.small {w : World} {S : Nat → Prop} {g : Nat} {e : E} (h : PartAt w S g e) (hd : e.depth ≤ 32) : ∃ q : Hd, EV w S e q ∧ Blk w g 93 #[.string e.op, .string e.name, .int .i64 e.lit.kind, .bool e.lit.tr, .int .i64 e.lit.num, .string e.lit.str, .slice q.L e.lit.items.length q.l, .slice q.L' e.lit.keys.length q.l', .slice q.A e.args.length q.c, .int .i64 e.depth] := by
 obtain ⟨_, q, k⟩ := h
 rw [if_pos hd] at k
 exact ⟨q, k⟩
theorem PartAt.of {w : World} {S : Nat → Prop} {g : Nat} {e : E} (hs : S g) (hd : e.depth ≤ 32) (q : Hd) (hv : EV w S e q) (hb : Blk w g 93 #[.string e.op, .string e.name, .int .i64 e.lit.kind, .bool e.lit.tr, .int .i64 e.lit.num, .string e.lit.str, .slice q.L e.lit.items.length q.l, .slice q.L' e.lit.keys.length q.l', .slice q.A e.args.length q.c, .int .i64 e.depth]) : PartAt w S g e :=
 ⟨hs, q, by rw [if_pos hd]; exact ⟨hv, hb⟩⟩
theorem PartAt.great {w : World} {S : Nat → Prop} {g : Nat} {e : E} (hs : S g) (hd : 32 < e.depth) (hb : Blk w g 93 #[.string ⟨#[]⟩, .string ⟨#[]⟩, .int .i64 0, .bool false, .int .i64 0, .string ⟨#[]⟩, .slice none 0 0, .slice none 0 0, .slice none 0 0, .int .i64 e.depth]) : PartAt w S g e :=
 ⟨hs, hd0, by rw [if_neg (by omega)]; exact hb⟩
theorem PartAt.leaf {w : World} {S : Nat → Prop} {g : Nat} {o n : ByteArray} {v : T} (hs : S g) (h1 : v.items = []) (h2 : v.keys = []) (hb : Blk w g 93 #[.string o, .string n, .int .i64 v.kind, .bool v.tr, .int .i64 v.num, .string v.str, .slice none 0 0, .slice none 0 0, .slice none 0 0, .int .i64 1]) : PartAt w S g (.mk o n v []) := by
 refine PartAt.of hs (by show 1 + 0 ≤ 32; omega) hd0 (EV.leaf h1 h2) ?_
 rw [show (E.mk o n v []).lit = v from rfl, h1, h2]
 exact hb
def PartsAt (w : World) (S : Nat → Prop) (l : List (Nat × E)) : Prop := ∀ (i : Nat) x, l[i]? = some x → PartAt w S x.1 x.2
def heads (l : List (Nat × E)) : List (Option Nat) := l.map fun x => some x.1
def trees (l : List (Nat × E)) : List E := l.map Prod.snd
theorem heads_at {l : List (Nat × E)} {k : Nat} {x : Nat × E} (h : l[k]? = some x) : (ptrs (heads l))[k]? = some (.pointer (padr (some x.1))) := by simp [ptrs, heads, h]
theorem heads_len (l : List (Nat × E)) : (heads l).length = l.length := by simp [heads]
theorem heads_none (l : List (Nat × E)) : anyNone (heads l) = false := by
 cases h : anyNone (heads l) with
 | false => rfl
 | true =>
  obtain ⟨x, hx, hn⟩ := List.any_eq_true.1 h
  obtain ⟨y, hy, rfl⟩ := List.mem_map.1 hx
  cases hn
theorem depths_at {l : List (Nat × E)} {k : Nat} {x : Nat × E} (h : l[k]? = some x) : E.depths (trees (l.take (k + 1))) = max (E.depths (trees (l.take k))) x.2.depth := by
 rw [List.take_add_one, h]
 simp only [trees, Option.toList_some, List.map_append, List.map_cons, List.map_nil, E.depths_append, E.depths]
 omega
theorem size_depth : ∀ e : E, e.depth ≤ e.size := by
 refine E.ind ?_
 intro t ih
 rw [E.depth_eq, E.size_eq]
 have : ∀ l : List E, (∀ x ∈ l, x.depth ≤ x.size) → E.depths l ≤ E.sizes l := by
  intro l
  induction l with
  | nil => intro _; simp [E.depths, E.sizes]
  | cons x r ih2 =>
   intro h
   have h1 := h x (by simp)
   have h2 := ih2 fun y hy => h y (by simp [hy])
   simp only [E.depths, E.sizes]; omega
 have := this t.args ih
 omega
theorem xdeepest_any (l : List (Nat × E)) (A : Option Addr) (c : Nat) (w : World) (hl : l.length ≤ 100) (hA : VReads w (· < w.heap.size) A (ptrs (heads l))) (S : Nat → Prop) (hP : PartsAt w S l) (hd : ∀ x ∈ l, x.2.depth ≤ 1000000) : Calls Tryz.prog 67 #[.slice A l.length c] w fun e w' => e = .returned (.int .i64 (E.depths (trees l) : Nat)) ∧ w = w' := by
 have HA := hid hA
 have HP := hid hP
 have HD := hid hd
 clear hA hP hd
 go_enter Tryz.func67, Tryz.ntmps67
 go_wp2_with fail
 go_loop [3, 8] (fun y x => ∃ k : Nat, k ≤ l.length ∧ x = .int .i64 k ∧ y = .int .i64 (E.depths (trees (l.take k)) : Nat) ∧ E.depths (trees (l.take k)) ≤ 1000000) (fun _ x => l.length - (intOf x).toNat)
 case atStart => exact ⟨0, Nat.zero_le _, rfl, by simp [trees, E.depths], by simp [trees, E.depths]⟩
 case round =>
  obtain ⟨k, hk, rfl, rfl, hdk⟩ := hrel
  by_cases hlt : k < l.length
  ·
   obtain ⟨x, hx⟩ : ∃ x, l[k]? = some x := ⟨_, List.getElem?_eq_getElem hlt⟩
   obtain ⟨g, o, rfl, hg, hcell⟩ := HA.out (by intro h0; have := congrArg List.length h0; simp [ptrs, heads] at this; rw [this] at hlt; simp at hlt)
   have k0 := hcell k _ (heads_at hx)
   have p9 := (HP.out k x hx).deep
   have HDA := hid (depths_at hx)
   have hxd := HD.out x (List.mem_of_getElem? hx)
   have hxp := x.2.depth_pos
   have u1 : decide (k < l.length) = true := decide_eq_true hlt
   have u2 : decide ((k : Int) < (l.length : Int)) = true := decide_eq_true (by omega)
   have i1 : (k : Int) < (l.length : Int) := by omega
   have i2 : (0 : Int) ≤ (k : Int) := by omega
   have HDK := hid (show E.depths (trees (l.take (k + 1))) ≤ 1000000 by rw [HDA.out]; omega)
   obtain ⟨g2, e2⟩ := x
   dsimp only at k0 p9 hxd hxp HDA
   unfold padr at k0
   obtain ⟨d2, hd2⟩ : ∃ d2, E.depths (trees (l.take (k + 1))) = d2 := ⟨_, rfl⟩
   rw [hd2] at HDA HDK
   have HD2 := hid hd2
   clear hd2
   generalize E.depths (trees (l.take k)) = d1 at *
   generalize e2.depth = d at *
   have e1 : max (d1 : Int) (d : Int) = (d2 : Int) := by rw [HDA.out]; omega
   clear hx hcell
   go_wp2_with fail
   go_round
   case rel => exact ⟨k + 1, hlt, by go_num, by rw [HD2.out] <;> (have := HDA.out; congr 1; split <;> omega), by rw [HD2.out]; exact HDK.out⟩
   case measure => simp [intOf]; omega
  ·
   obtain rfl : k = l.length := by omega
   have u1 : decide (l.length < l.length) = false := decide_eq_false (by omega)
   have u2 : decide ((l.length : Int) < (l.length : Int)) = false := decide_eq_false (by omega)
   rw [List.take_length] at *
   go_wp2_with fail
   go_ret
   exact ⟨rfl, rfl⟩
def JoinPost (S : Nat → Prop) (e : E) (w : World) (en : Ending) (w' : World) : Prop := ∃ g, en = .returned (.pointer (padr (some g))) ∧ PartAt w' (fun q => S q ∨ w.heap.size ≤ q ∧ q < w'.heap.size) g e ∧ Below w.heap.size w w'
theorem xjoin_none (o n : ByteArray) (l : List (Option Nat)) (A : Option Addr) (c : Nat) (w : World) (hl : l.length ≤ 100) (hn : anyNone l = true) (hA : VReads w (· < w.heap.size) A (ptrs l)) : Calls Tryz.prog 46 #[.string o, .string n, .slice A l.length c] w fun e w' => e = .returned (.pointer none) ∧ w = w' := by
 have HC := hid (xcontains_any l A c w hl hA)
 rw [hn] at HC
 clear hA hn
 go_enter Tryz.func46, Tryz.ntmps46
 go_wp2_with fail
 refine HC.out.mono ?_
 rintro e w2 ⟨rfl, rfl⟩
 go_wp2_with fail
 go_ret
 exact ⟨rfl, rfl⟩
theorem xjoin_deep (o n : ByteArray) (l : List (Nat × E)) (A : Option Addr) (c : Nat) (w : World) (hl : l.length ≤ 100) (hA : VReads w (· < w.heap.size) A (ptrs (heads l))) (S : Nat → Prop) (hP : PartsAt w S l) (hd : ∀ x ∈ l, x.2.depth ≤ 1000000) (hdp : 32 < (E.mk o n Rd.nulT (trees l)).depth) (hdm : E.depths (trees l) ≤ 1000000) : Calls Tryz.prog 46 #[.string o, .string n, .slice A l.length c] w (JoinPost S (.mk o n Rd.nulT (trees l)) w) := by
 have HC := hid (xcontains_any (heads l) A c w (by rw [heads_len]; exact hl) hA)
 rw [heads_none, heads_len] at HC
 have HD := hid (xdeepest_any l A c w hl hA S hP hd)
 have HX := hid (show 32 < (E.mk o n Rd.nulT (trees l)).depth ∧ (E.mk o n Rd.nulT (trees l)).depth = 1 + E.depths (trees l) from ⟨hdp, rfl⟩)
 generalize (E.mk o n Rd.nulT (trees l)) = X at *
 have h1 := HX.out.1
 have h2 := HX.out.2
 clear hA hP hd hdp
 generalize E.depths (trees l) = dd at *
 have e1 : IntKind.i64.wrap (1 + (dd : Int)) = (1 + (dd : Int)) := IntWalk.i64_in _ (by omega)
 have u1 : decide ((1 : Int) + (dd : Int) > 32) = true := decide_eq_true (by omega)
 have u2 : decide ((32 : Int) < 1 + (dd : Int)) = true := decide_eq_true (by omega)
 go_enter Tryz.func46, Tryz.ntmps46
 go_wp2_with fail
 refine HC.out.mono ?_
 rintro e w2 ⟨rfl, rfl⟩
 go_wp2_with fail
 refine HD.out.mono ?_
 rintro e w2 ⟨rfl, rfl⟩
 go_wp2_with fail
 go_ret
 refine ⟨w.heap.size, rfl, PartAt.great (.inr ⟨Nat.le_refl _, by simp⟩) h1 ?_, (Below.refl _ _).alloc (Nat.le_refl _) _⟩
 rw [h2]
 exact Blk.new w _ _
end Go.Proofs.YtfbipnflgjhaiaaGreatDoor
