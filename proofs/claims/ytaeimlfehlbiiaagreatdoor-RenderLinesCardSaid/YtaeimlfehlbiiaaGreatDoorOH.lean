/- The reference's text of a value in lines: contract. A value's text in lines, in the program and in the reference: contracts. -/
import Derived.Test.YtaeimlfehlbiiaaGreatDoorOK
import Derived.Test.YtaeimlfehlbiiaaGreatDoorOG
import Derived.Outline
import Derived.Test.YtaeimlfehlbiiaaGreatDoorOF
namespace Go.Proofs.YtaeimlfehlbiiaaGreatDoor
open Go.RowKit
set_option linter.unusedVariables false
def WriteAtL (bn n : Nat) : Prop := ∀ (t : T) (A : Option Addr) (c : Nat) (A' : Option Addr) (c' : Nat) (d : Int) (w : World), t.size ≤ n → t.Fine → 0 ≤ d → d + t.size ≤ 50 → TV w (· < w.heap.size) t A c A' c' →
 Calls Tryz.prog 29 #[.agg #[.int .i64 t.kind, .bool t.tr, .int .i64 t.num, .string t.str, .slice A t.items.length c, .slice A' t.keys.length c'], .int .i64 d, .int .i64 bn, .bool true] w fun e w' => e = .returned (.string (mkB (t.lns bn d.toNat))) ∧ Below w.heap.size w w'
set_option maxRecDepth 100000 in
set_option maxHeartbeats 16000000 in
theorem writeL_at (bn : Nat) (hbn : bn ≤ 8) (n : Nat) : WriteAtL bn n := by
 induction n with
 | zero => intro t A c A' c' d w h; have := t.size_pos; omega
 | succ n ih =>
  intro t A c A' c' d w hsz hn hd0 hd hv
  have hg := hn.good.here
  have hf := hn.fit.here
  have hi80 := hn.items80
  have hsizes := T.size_eq t
  have hB0 : Blk (w.alloc (.cells #[.int .i64 t.kind, .bool t.tr, .int .i64 t.num, .string t.str, .slice A t.items.length c, .slice A' t.keys.length c'] 27)) w.heap.size 27 #[.int .i64 t.kind, .bool t.tr, .int .i64 t.num, .string t.str, .slice A t.items.length c, .slice A' t.keys.length c'] := Blk.new w _ _
  have hbb : Below w.heap.size w (w.alloc (.cells #[.int .i64 t.kind, .bool t.tr, .int .i64 t.num, .string t.str, .slice A t.items.length c, .slice A' t.keys.length c'] 27)) := (Below.refl _ _).alloc (Nat.le_refl _) _
  have HN := Lib.hid hn
  have HV := Lib.hid hv
  have htx := T.lns_eq bn d.toNat t
  have hk0 := hg.k0
  have hk5 := hg.k5
  have hn0 := hf.n0
  have hn1 := hf.n1
  have hs60 := hf.str
  have hkeys := hf.keys
  clear hn hv hg hf
  rcases (by omega : t.kind = 0 ∨ t.kind = 1 ∨ t.kind = 2 ∨ t.kind = 3 ∨ t.kind = 4 ∨ t.kind = 5) with hk | hk | hk | hk | hk | hk
  ·
   have k0 : (t.kind == 0) = true := by rw [beq_iff_eq]; exact hk
   have k1 : (t.kind == 1) = false := by rw [beq_eq_false_iff_ne]; omega
   have k2 : (t.kind == 2) = false := by rw [beq_eq_false_iff_ne]; omega
   have k3 : (t.kind == 3) = false := by rw [beq_eq_false_iff_ne]; omega
   have k4 : (t.kind == 4) = false := by rw [beq_eq_false_iff_ne]; omega
   have k5 : (t.kind == 5) = false := by rw [beq_eq_false_iff_ne]; omega
   have htxt : t.lns bn d.toNat = [110, 117, 108, 108] := by rw [htx]; rw [if_neg (by omega)]; rw [if_neg (by omega)]; rw [if_neg (by omega)]; rw [if_neg (by omega)]; rw [if_neg (by omega)]
   have HX := Lib.hid htxt
   clear htxt
   clear hk htx
   go_enter Tryz.func29, Tryz.ntmps29
   go_upto_region 1 with fail
   change Code.wp _ _ _ _ (w.alloc (.cells #[.int .i64 t.kind, .bool t.tr, .int .i64 t.num, .string t.str, .slice A t.items.length c, .slice A' t.keys.length c'] 27))
   generalize (w.alloc (.cells #[.int .i64 t.kind, .bool t.tr, .int .i64 t.num, .string t.str, .slice A t.items.length c, .slice A' t.keys.length c'] 27)) = W at *
   have HB0 := Lib.hid hB0
   have HBB := Lib.hid hbb
   obtain ⟨a0, a1, a2, a3, a4, a5⟩ : W.cell? ⟨w.heap.size, 0, none⟩ = some (.int .i64 t.kind) ∧ W.cell? ⟨w.heap.size, 1, none⟩ = some (.bool t.tr) ∧ W.cell? ⟨w.heap.size, 2, none⟩ = some (.int .i64 t.num) ∧ W.cell? ⟨w.heap.size, 3, none⟩ = some (.string t.str) ∧ W.cell? ⟨w.heap.size, 4, none⟩ = some (.slice A t.items.length c) ∧ W.cell? ⟨w.heap.size, 5, none⟩ = some (.slice A' t.keys.length c') := ⟨HB0.out.cell 0, HB0.out.cell 1, HB0.out.cell 2, HB0.out.cell 3, HB0.out.cell 4, HB0.out.cell 5⟩
   clear hB0 hbb
   go_wp2_with fail
   go_ret
   exact ⟨by rw [HX.out]; rfl, HBB.out⟩
  ·
   have k0 : (t.kind == 0) = false := by rw [beq_eq_false_iff_ne]; omega
   have k1 : (t.kind == 1) = true := by rw [beq_iff_eq]; exact hk
   have k2 : (t.kind == 2) = false := by rw [beq_eq_false_iff_ne]; omega
   have k3 : (t.kind == 3) = false := by rw [beq_eq_false_iff_ne]; omega
   have k4 : (t.kind == 4) = false := by rw [beq_eq_false_iff_ne]; omega
   have k5 : (t.kind == 5) = false := by rw [beq_eq_false_iff_ne]; omega
   have htxt : t.lns bn d.toNat = if t.tr then [116, 114, 117, 101] else [102, 97, 108, 115, 101] := by rw [htx]; rw [if_pos hk]
   have HX := Lib.hid htxt
   clear htxt
   clear hk htx
   go_enter Tryz.func29, Tryz.ntmps29
   go_upto_region 1 with fail
   change Code.wp _ _ _ _ (w.alloc (.cells #[.int .i64 t.kind, .bool t.tr, .int .i64 t.num, .string t.str, .slice A t.items.length c, .slice A' t.keys.length c'] 27))
   generalize (w.alloc (.cells #[.int .i64 t.kind, .bool t.tr, .int .i64 t.num, .string t.str, .slice A t.items.length c, .slice A' t.keys.length c'] 27)) = W at *
   have HB0 := Lib.hid hB0
   have HBB := Lib.hid hbb
   obtain ⟨a0, a1, a2, a3, a4, a5⟩ : W.cell? ⟨w.heap.size, 0, none⟩ = some (.int .i64 t.kind) ∧ W.cell? ⟨w.heap.size, 1, none⟩ = some (.bool t.tr) ∧ W.cell? ⟨w.heap.size, 2, none⟩ = some (.int .i64 t.num) ∧ W.cell? ⟨w.heap.size, 3, none⟩ = some (.string t.str) ∧ W.cell? ⟨w.heap.size, 4, none⟩ = some (.slice A t.items.length c) ∧ W.cell? ⟨w.heap.size, 5, none⟩ = some (.slice A' t.keys.length c') := ⟨HB0.out.cell 0, HB0.out.cell 1, HB0.out.cell 2, HB0.out.cell 3, HB0.out.cell 4, HB0.out.cell 5⟩
   clear hB0 hbb
   cases htr : t.tr with
   | true =>
    rw [htr] at a1
    go_wp2_with fail
    go_ret
    exact ⟨by rw [HX.out, htr]; rfl, HBB.out⟩
   | false =>
    rw [htr] at a1
    go_wp2_with fail
    go_ret
    exact ⟨by rw [HX.out, htr]; rfl, HBB.out⟩
  ·
   have k0 : (t.kind == 0) = false := by rw [beq_eq_false_iff_ne]; omega
   have k1 : (t.kind == 1) = false := by rw [beq_eq_false_iff_ne]; omega
   have k2 : (t.kind == 2) = true := by rw [beq_iff_eq]; exact hk
   have k3 : (t.kind == 3) = false := by rw [beq_eq_false_iff_ne]; omega
   have k4 : (t.kind == 4) = false := by rw [beq_eq_false_iff_ne]; omega
   have k5 : (t.kind == 5) = false := by rw [beq_eq_false_iff_ne]; omega
   have htxt : t.lns bn d.toNat = Lib.itoa t.num := by rw [htx]; rw [if_neg (by omega)]; rw [if_pos hk]
   have HX := Lib.hid htxt
   clear htxt
   clear hk htx
   go_enter Tryz.func29, Tryz.ntmps29
   go_upto_region 1 with fail
   change Code.wp _ _ _ _ (w.alloc (.cells #[.int .i64 t.kind, .bool t.tr, .int .i64 t.num, .string t.str, .slice A t.items.length c, .slice A' t.keys.length c'] 27))
   generalize (w.alloc (.cells #[.int .i64 t.kind, .bool t.tr, .int .i64 t.num, .string t.str, .slice A t.items.length c, .slice A' t.keys.length c'] 27)) = W at *
   have HB0 := Lib.hid hB0
   have HBB := Lib.hid hbb
   obtain ⟨a0, a1, a2, a3, a4, a5⟩ : W.cell? ⟨w.heap.size, 0, none⟩ = some (.int .i64 t.kind) ∧ W.cell? ⟨w.heap.size, 1, none⟩ = some (.bool t.tr) ∧ W.cell? ⟨w.heap.size, 2, none⟩ = some (.int .i64 t.num) ∧ W.cell? ⟨w.heap.size, 3, none⟩ = some (.string t.str) ∧ W.cell? ⟨w.heap.size, 4, none⟩ = some (.slice A t.items.length c) ∧ W.cell? ⟨w.heap.size, 5, none⟩ = some (.slice A' t.keys.length c') := ⟨HB0.out.cell 0, HB0.out.cell 1, HB0.out.cell 2, HB0.out.cell 3, HB0.out.cell 4, HB0.out.cell 5⟩
   clear hB0 hbb
   go_wp2_with fail
   refine (W2.of_any t.num _ ⟨hn0, hn1⟩).mono ?_
   rintro e w2 ⟨v, rfl, hnz, hb2⟩
   have H2 := Lib.hid (HBB.out.trans (hb2.mono HBB.out.size))
   have HNZ := Lib.hid hnz
   clear hb2 hnz
   go_wp2_with fail
   refine (W2.rtext_any v t.num _ HNZ.out (sm_of hn0 hn1)).mono ?_
   rintro e w3 ⟨rfl, hb3⟩
   have H3 := Lib.hid (H2.out.trans (hb3.mono H2.out.size))
   clear hb3
   go_wp2_with fail
   go_ret
   exact ⟨by rw [HX.out]; rfl, H3.out⟩
  ·
   have k0 : (t.kind == 0) = false := by rw [beq_eq_false_iff_ne]; omega
   have k1 : (t.kind == 1) = false := by rw [beq_eq_false_iff_ne]; omega
   have k2 : (t.kind == 2) = false := by rw [beq_eq_false_iff_ne]; omega
   have k3 : (t.kind == 3) = true := by rw [beq_iff_eq]; exact hk
   have k4 : (t.kind == 4) = false := by rw [beq_eq_false_iff_ne]; omega
   have k5 : (t.kind == 5) = false := by rw [beq_eq_false_iff_ne]; omega
   have htxt : t.lns bn d.toNat = Q.quo t.str.data.toList := by rw [htx]; rw [if_neg (by omega)]; rw [if_neg (by omega)]; rw [if_pos hk, ByteArray.toList_eq]
   have HX := Lib.hid htxt
   clear htxt
   clear hk htx
   go_enter Tryz.func29, Tryz.ntmps29
   go_upto_region 1 with fail
   change Code.wp _ _ _ _ (w.alloc (.cells #[.int .i64 t.kind, .bool t.tr, .int .i64 t.num, .string t.str, .slice A t.items.length c, .slice A' t.keys.length c'] 27))
   generalize (w.alloc (.cells #[.int .i64 t.kind, .bool t.tr, .int .i64 t.num, .string t.str, .slice A t.items.length c, .slice A' t.keys.length c'] 27)) = W at *
   have HB0 := Lib.hid hB0
   have HBB := Lib.hid hbb
   obtain ⟨a0, a1, a2, a3, a4, a5⟩ : W.cell? ⟨w.heap.size, 0, none⟩ = some (.int .i64 t.kind) ∧ W.cell? ⟨w.heap.size, 1, none⟩ = some (.bool t.tr) ∧ W.cell? ⟨w.heap.size, 2, none⟩ = some (.int .i64 t.num) ∧ W.cell? ⟨w.heap.size, 3, none⟩ = some (.string t.str) ∧ W.cell? ⟨w.heap.size, 4, none⟩ = some (.slice A t.items.length c) ∧ W.cell? ⟨w.heap.size, 5, none⟩ = some (.slice A' t.keys.length c') := ⟨HB0.out.cell 0, HB0.out.cell 1, HB0.out.cell 2, HB0.out.cell 3, HB0.out.cell 4, HB0.out.cell 5⟩
   clear hB0 hbb
   go_wp2_with fail
   refine (rquote_any t.str _ (by omega)).mono ?_
   rintro e w2 ⟨rfl, hb2⟩
   have H2 := Lib.hid (HBB.out.trans (hb2.mono HBB.out.size))
   clear hb2
   go_wp2_with fail
   go_ret
   exact ⟨by rw [HX.out]; rfl, H2.out⟩
  ·
   have k0 : (t.kind == 0) = false := by rw [beq_eq_false_iff_ne]; omega
   have k1 : (t.kind == 1) = false := by rw [beq_eq_false_iff_ne]; omega
   have k2 : (t.kind == 2) = false := by rw [beq_eq_false_iff_ne]; omega
   have k3 : (t.kind == 3) = false := by rw [beq_eq_false_iff_ne]; omega
   have k4 : (t.kind == 4) = true := by rw [beq_iff_eq]; exact hk
   have k5 : (t.kind == 5) = false := by rw [beq_eq_false_iff_ne]; omega
   have hkz : t.keys = [] := HN.out.good.here.keys (by omega)
   have HK0 := Lib.hid hkz
   clear hkz
   have htxt : t.lns bn d.toNat = 91 :: (T.lnss bn t.keys t.items 0 (d.toNat + 1) ++ ((if t.items.length = 0 then [] else gapL bn d.toNat) ++ [93])) := by rw [htx]; rw [if_neg (by omega)]; rw [if_neg (by omega)]; rw [if_neg (by omega)]; rw [if_pos hk]
   have HX := Lib.hid htxt
   clear htxt
   clear hk htx
   go_enter Tryz.func29, Tryz.ntmps29
   go_upto_region 1 with fail
   change Code.wp _ _ _ _ (w.alloc (.cells #[.int .i64 t.kind, .bool t.tr, .int .i64 t.num, .string t.str, .slice A t.items.length c, .slice A' t.keys.length c'] 27))
   generalize (w.alloc (.cells #[.int .i64 t.kind, .bool t.tr, .int .i64 t.num, .string t.str, .slice A t.items.length c, .slice A' t.keys.length c'] 27)) = W at *
   have HB0 := Lib.hid hB0
   have HBB := Lib.hid hbb
   obtain ⟨a0, a1, a2, a3, a4, a5⟩ : W.cell? ⟨w.heap.size, 0, none⟩ = some (.int .i64 t.kind) ∧ W.cell? ⟨w.heap.size, 1, none⟩ = some (.bool t.tr) ∧ W.cell? ⟨w.heap.size, 2, none⟩ = some (.int .i64 t.num) ∧ W.cell? ⟨w.heap.size, 3, none⟩ = some (.string t.str) ∧ W.cell? ⟨w.heap.size, 4, none⟩ = some (.slice A t.items.length c) ∧ W.cell? ⟨w.heap.size, 5, none⟩ = some (.slice A' t.keys.length c') := ⟨HB0.out.cell 0, HB0.out.cell 1, HB0.out.cell 2, HB0.out.cell 3, HB0.out.cell 4, HB0.out.cell 5⟩
   clear hB0 hbb
   have hsW := HBB.out.size
   clear a0 a1 a2 a3 a4 a5
   obtain ⟨a0, a4⟩ : W.cell? ⟨w.heap.size, 0, none⟩ = some (.int .i64 t.kind) ∧ W.cell? ⟨w.heap.size, 4, none⟩ = some (.slice A t.items.length c) := ⟨HB0.out.cell 0, HB0.out.cell 4⟩
   go_wp2_with fail
   go_loopw [33, 9] (fun x y wr => ∃ (j : Nat) (S : ByteArray), j ≤ t.items.length ∧ x = .int .i64 j ∧ y = .string S ∧ S.data.toList = T.lnss bn t.keys (t.items.take j) 0 (d.toNat + 1) ∧ Below W.heap.size W wr) (fun x _ _ => t.items.length - (intOf x).toNat)
   case atStart => exact ⟨0, ⟨#[]⟩, Nat.zero_le _, rfl, rfl, by simp [T.lnss], Below.refl _ _⟩
   case round =>
    obtain ⟨j, S, hj, rfl, rfl, hS, hbel⟩ := hrel
    have hpre := lnss_len (d := d.toNat + 1) hkeys hbn (by omega) (t.items.take j) 0 (fun x hx => lns_len hbn x (HN.out.fit.mem (List.mem_of_mem_take hx)) (d.toNat + 1) (by have := T.mem_size (List.mem_of_mem_take hx); omega))
    have hst := T.sizes_take t.items j
    have hSz : S.size ≤ 240000 := by have h1 : S.size = S.data.toList.length := (by simp); have h2 := HN.out.size; rw [h1, hS]; omega
    have HS := Lib.hid hS
    have HBl := Lib.hid hbel
    have HWr := Lib.hid (show Below w.heap.size w wr from HBB.out.trans (hbel.mono hsW))
    have hBr := HB0.out.onto hbel
    have r0 : wr.cell? ⟨w.heap.size, 0, none⟩ = some (.int .i64 t.kind) := hBr.cell 0
    have r4 : wr.cell? ⟨w.heap.size, 4, none⟩ = some (.slice A t.items.length c) := hBr.cell 4
    have r5 : wr.cell? ⟨w.heap.size, 5, none⟩ = some (.slice A' t.keys.length c') := hBr.cell 5
    clear hS hbel hBr a0 a4
    by_cases hlt : j < t.items.length
    ·
     have u1 : decide (j < t.items.length) = true := decide_eq_true hlt
     have u2 : decide ((j : Int) < (t.items.length : Int)) = true := decide_eq_true (by omega)
     have i1 : (j : Int) < (t.items.length : Int) := by omega
     have i2 : (0 : Int) ≤ (j : Int) := by omega
     obtain ⟨bI, oI, x, D, f, D', f', rfl, hbI, hx, h6, hX⟩ := HV.out.at_ hlt
     have hxs := T.sizes_snoc hx
     have hst2 := T.sizes_take t.items (j + 1)
     have HI := Lib.hid (show ∀ w', Below w.heap.size w w' → w'.cell? ⟨bI, oI + j * 6, none⟩ = some (.int .i64 x.kind) ∧ w'.cell? ⟨bI, oI + j * 6 + 1, none⟩ = some (.bool x.tr) ∧ w'.cell? ⟨bI, oI + j * 6 + 2, none⟩ = some (.int .i64 x.num) ∧ w'.cell? ⟨bI, oI + j * 6 + 3, none⟩ = some (.string x.str) ∧ w'.cell? ⟨bI, oI + j * 6 + 4, none⟩ = some (.slice D x.items.length f) ∧ w'.cell? ⟨bI, oI + j * 6 + 5, none⟩ = some (.slice D' x.keys.length f') from fun w' h => h6.keep hbI (.of_below h))
     have HXV := Lib.hid hX
     have HX2 := Lib.hid hx
     clear hX h6 hx
     have HDN := Lib.hid (show (d + 1).toNat = d.toNat + 1 from by omega)
     obtain ⟨GG, hGG⟩ : ∃ GG, mkB (gapL bn (d.toNat + 1)) = GG := ⟨_, rfl⟩
     have hGs : GG.size ≤ 401 := by rw [← hGG]; show (gapL bn (d.toNat + 1)).toArray.size ≤ _; rw [List.size_toArray]; exact gapL_len hbn (by omega)
     have HGG := Lib.hid hGG
     clear hGG
     have wd : IntKind.i64.wrap (d + 1) = d + 1 := IntWalk.i64_in _ (by omega)
     have wd' : wrap64 (d + 1) = d + 1 := IntWalk.wrap64_in _ (by omega)
     have HKP := Lib.hid (show keyL t.keys j = [] from by unfold keyL; rw [HK0.out]; rfl)
     by_cases hj0 : j = 0
     ·
      have c0 : decide ((0 : Int) < (j : Int)) = false := decide_eq_false (by omega)
      have c1 : decide (0 < j) = false := decide_eq_false (by omega)
      have HCM := Lib.hid (show comma j = [] from by unfold comma; rw [if_pos hj0])
      clear hj0
      have hxs2 := T.at_size HX2.out
      have hzl := lns_len hbn x (HN.out.fit.at_ HX2.out) (d.toNat + 1) (by omega)
      have hxle := (HN.out.at_ HX2.out).size
      obtain ⟨Z, hZ⟩ : ∃ Z, mkB (x.lns bn (d.toNat + 1)) = Z := ⟨_, rfl⟩
      have hZs : Z.size ≤ 240000 := by rw [← hZ]; show (x.lns bn (d.toNat + 1)).toArray.size ≤ _; rw [List.size_toArray]; omega
      have HZ := Lib.hid hZ
      clear hZ
      have zs2a : ¬ ((9223372036854775807 : Int) < (S.size : Int) + (GG.size : Int)) := by omega
      have zs2b : ¬ (9223372036854775807 < S.size + GG.size) := by omega
      have zs2c : S.size + GG.size ≤ 9223372036854775807 := by omega
      have zs2d : (S.size : Int) + (GG.size : Int) ≤ (9223372036854775807 : Int) := by omega
      have zs3a : ¬ ((9223372036854775807 : Int) < (S.size : Int) + (GG.size : Int) + (Z.size : Int)) := by omega
      have zs3b : ¬ (9223372036854775807 < S.size + GG.size + Z.size) := by omega
      have zs3c : S.size + GG.size + Z.size ≤ 9223372036854775807 := by omega
      have zs3d : (S.size : Int) + (GG.size : Int) + (Z.size : Int) ≤ (9223372036854775807 : Int) := by omega
      go_wp2_with fail
      refine (gap_any bn (d + 1) hbn (by omega) (by omega) _).mono ?_
      rintro e w6 ⟨rfl, hb6⟩
      rw [HDN.out, HGG.out]
      have HW6 := Lib.hid (HWr.out.trans (hb6.mono HWr.out.size))
      have HB6 := Lib.hid (HBl.out.trans (hb6.mono HBl.out.size))
      have hB6 := HB0.out.onto HB6.out
      clear r0 r4 r5 hb6
      have r0 : w6.cell? ⟨w.heap.size, 0, none⟩ = some (.int .i64 t.kind) := hB6.cell 0
      have r4 : w6.cell? ⟨w.heap.size, 4, none⟩ = some (.slice (some ⟨bI, oI, none⟩) t.items.length c) := hB6.cell 4
      obtain ⟨e0, e1, e2, e3, e4, e5⟩ := HI.out w6 HW6.out
      clear hB6
      go_wp2_with fail
      refine (ih x D f D' f' (d + 1) _ (by omega) (HN.out.at_ HX2.out) (by omega) (by omega) ((HXV.out.under HW6.out).wide fun b hb => Nat.lt_of_lt_of_le hb HW6.out.size)).mono ?_
      rintro e w9 ⟨rfl, hb9⟩
      rw [HDN.out, HZ.out]
      have HB9 := Lib.hid (HB6.out.trans (hb9.mono HB6.out.size))
      clear hb9
      go_wp2_with fail
      go_roundw
      case rel => exact ⟨j + 1, _, hlt, by go_num, rfl, by rw [lnss_take HX2.out, HCM.out, HKP.out]; simp only [dl_app, HS.out, ← HZ.out, ← HGG.out]; simp [mkB], HB9.out⟩
      case measure => simp [intOf]; omega
     ·
      have c0 : decide ((0 : Int) < (j : Int)) = true := decide_eq_true (by omega)
      have c1 : decide (0 < j) = true := decide_eq_true (by omega)
      have HCM := Lib.hid (show comma j = [44] from by unfold comma; rw [if_neg hj0])
      clear hj0
      have hxs2 := T.at_size HX2.out
      have hzl := lns_len hbn x (HN.out.fit.at_ HX2.out) (d.toNat + 1) (by omega)
      have hxle := (HN.out.at_ HX2.out).size
      obtain ⟨Z, hZ⟩ : ∃ Z, mkB (x.lns bn (d.toNat + 1)) = Z := ⟨_, rfl⟩
      have hZs : Z.size ≤ 240000 := by rw [← hZ]; show (x.lns bn (d.toNat + 1)).toArray.size ≤ _; rw [List.size_toArray]; omega
      have HZ := Lib.hid hZ
      clear hZ
      have zs2a : ¬ ((9223372036854775807 : Int) < (S.size : Int) + 1) := by omega
      have zs2b : ¬ (9223372036854775807 < S.size + 1) := by omega
      have zs2c : S.size + 1 ≤ 9223372036854775807 := by omega
      have zs2d : (S.size : Int) + 1 ≤ (9223372036854775807 : Int) := by omega
      have zs3a : ¬ ((9223372036854775807 : Int) < (S.size : Int) + 1 + (GG.size : Int)) := by omega
      have zs3b : ¬ (9223372036854775807 < S.size + 1 + GG.size) := by omega
      have zs3c : S.size + 1 + GG.size ≤ 9223372036854775807 := by omega
      have zs3d : (S.size : Int) + 1 + (GG.size : Int) ≤ (9223372036854775807 : Int) := by omega
      have zs4a : ¬ ((9223372036854775807 : Int) < (S.size : Int) + 1 + (GG.size : Int) + (Z.size : Int)) := by omega
      have zs4b : ¬ (9223372036854775807 < S.size + 1 + GG.size + Z.size) := by omega
      have zs4c : S.size + 1 + GG.size + Z.size ≤ 9223372036854775807 := by omega
      have zs4d : (S.size : Int) + 1 + (GG.size : Int) + (Z.size : Int) ≤ (9223372036854775807 : Int) := by omega
      go_wp2_with fail
      refine (gap_any bn (d + 1) hbn (by omega) (by omega) _).mono ?_
      rintro e w6 ⟨rfl, hb6⟩
      rw [HDN.out, HGG.out]
      have HW6 := Lib.hid (HWr.out.trans (hb6.mono HWr.out.size))
      have HB6 := Lib.hid (HBl.out.trans (hb6.mono HBl.out.size))
      have hB6 := HB0.out.onto HB6.out
      clear r0 r4 r5 hb6
      have r0 : w6.cell? ⟨w.heap.size, 0, none⟩ = some (.int .i64 t.kind) := hB6.cell 0
      have r4 : w6.cell? ⟨w.heap.size, 4, none⟩ = some (.slice (some ⟨bI, oI, none⟩) t.items.length c) := hB6.cell 4
      obtain ⟨e0, e1, e2, e3, e4, e5⟩ := HI.out w6 HW6.out
      clear hB6
      go_wp2_with fail
      refine (ih x D f D' f' (d + 1) _ (by omega) (HN.out.at_ HX2.out) (by omega) (by omega) ((HXV.out.under HW6.out).wide fun b hb => Nat.lt_of_lt_of_le hb HW6.out.size)).mono ?_
      rintro e w9 ⟨rfl, hb9⟩
      rw [HDN.out, HZ.out]
      have HB9 := Lib.hid (HB6.out.trans (hb9.mono HB6.out.size))
      clear hb9
      go_wp2_with fail
      go_roundw
      case rel => exact ⟨j + 1, _, hlt, by go_num, rfl, by rw [lnss_take HX2.out, HCM.out, HKP.out]; simp only [dl_app, HS.out, ← HZ.out, ← HGG.out]; simp [mkB], HB9.out⟩
      case measure => simp [intOf]; omega
    ·
     have u1 : decide (j < t.items.length) = false := decide_eq_false hlt
     have u2 : decide ((j : Int) < (t.items.length : Int)) = false := decide_eq_false (by omega)
     have hfull : t.items.take j = t.items := List.take_of_length_le (by omega)
     have HSF := Lib.hid (show S.data.toList = T.lnss bn t.keys t.items 0 (d.toNat + 1) from hfull ▸ HS.out)
     clear hfull
     by_cases hz : 0 < t.items.length
     ·
      have v1 : decide (0 < t.items.length) = true := decide_eq_true hz
      have v2 : decide ((0 : Int) < (t.items.length : Int)) = true := decide_eq_true (by omega)
      have HIF := Lib.hid (show (if t.items.length = 0 then [] else gapL bn d.toNat) = gapL bn d.toNat from if_neg (by omega))
      obtain ⟨GG, hGG⟩ : ∃ GG, mkB (gapL bn d.toNat) = GG := ⟨_, rfl⟩
      have hGs : GG.size ≤ 401 := by rw [← hGG]; show (gapL bn d.toNat).toArray.size ≤ _; rw [List.size_toArray]; exact gapL_len hbn (by omega)
      have HGG := Lib.hid hGG
      clear hGG hz
      have zy2a : ¬ ((9223372036854775807 : Int) < (S.size : Int) + (GG.size : Int)) := by omega
      have zy2b : ¬ (9223372036854775807 < S.size + GG.size) := by omega
      have zy2c : S.size + GG.size ≤ 9223372036854775807 := by omega
      have zy2d : (S.size : Int) + (GG.size : Int) ≤ (9223372036854775807 : Int) := by omega
      have zz2a : ¬ ((9223372036854775807 : Int) < 1 + (S.size : Int)) := by omega
      have zz2b : ¬ (9223372036854775807 < 1 + S.size) := by omega
      have zz2c : 1 + S.size ≤ 9223372036854775807 := by omega
      have zz2d : 1 + (S.size : Int) ≤ (9223372036854775807 : Int) := by omega
      have zz3a : ¬ ((9223372036854775807 : Int) < 1 + (S.size : Int) + (GG.size : Int)) := by omega
      have zz3b : ¬ (9223372036854775807 < 1 + S.size + GG.size) := by omega
      have zz3c : 1 + S.size + GG.size ≤ 9223372036854775807 := by omega
      have zz3d : 1 + (S.size : Int) + (GG.size : Int) ≤ (9223372036854775807 : Int) := by omega
      have zz4a : ¬ ((9223372036854775807 : Int) < 1 + (S.size : Int) + (GG.size : Int) + 1) := by omega
      have zz4b : ¬ (9223372036854775807 < 1 + S.size + GG.size + 1) := by omega
      have zz4c : 1 + S.size + GG.size + 1 ≤ 9223372036854775807 := by omega
      have zz4d : 1 + (S.size : Int) + (GG.size : Int) + 1 ≤ (9223372036854775807 : Int) := by omega
      have zq1 : ¬ ((9223372036854775807 : Int) < 1 + ((S.size : Int) + (GG.size : Int))) := by omega
      have zq2 : ¬ (9223372036854775807 < 1 + (S.size + GG.size)) := by omega
      have zq3 : ¬ ((9223372036854775807 : Int) < 1 + ((S.size : Int) + (GG.size : Int)) + 1) := by omega
      have zq4 : ¬ (9223372036854775807 < 1 + (S.size + GG.size) + 1) := by omega
      go_wp2_with fail
      refine (gap_any bn d hbn hd0 (by omega) _).mono ?_
      rintro e w6 ⟨rfl, hb6⟩
      rw [HGG.out]
      have HW6 := Lib.hid (HWr.out.trans (hb6.mono HWr.out.size))
      have hB6 := HB0.out.onto (HBl.out.trans (hb6.mono HBl.out.size))
      clear r0 r4 r5 hb6
      have r0 : w6.cell? ⟨w.heap.size, 0, none⟩ = some (.int .i64 t.kind) := hB6.cell 0
      clear hB6
      go_wp2_with fail
      go_ret
      exact ⟨congrArg (fun q => Ending.returned (.string q)) (mk_of (by rw [HX.out, HIF.out, dl_app, dl_app, dl_app, HSF.out, ← HGG.out]; simp [mkB])), HW6.out⟩
     ·
      have v1 : decide (0 < t.items.length) = false := decide_eq_false hz
      have v2 : decide ((0 : Int) < (t.items.length : Int)) = false := decide_eq_false (by omega)
      have HIF := Lib.hid (show (if t.items.length = 0 then [] else gapL bn d.toNat) = [] from if_pos (by omega))
      clear hz
      have zz2a : ¬ ((9223372036854775807 : Int) < 1 + (S.size : Int)) := by omega
      have zz2b : ¬ (9223372036854775807 < 1 + S.size) := by omega
      have zz2c : 1 + S.size ≤ 9223372036854775807 := by omega
      have zz2d : 1 + (S.size : Int) ≤ (9223372036854775807 : Int) := by omega
      have zz3a : ¬ ((9223372036854775807 : Int) < 1 + (S.size : Int) + 1) := by omega
      have zz3b : ¬ (9223372036854775807 < 1 + S.size + 1) := by omega
      have zz3c : 1 + S.size + 1 ≤ 9223372036854775807 := by omega
      have zz3d : 1 + (S.size : Int) + 1 ≤ (9223372036854775807 : Int) := by omega
      go_wp2_with fail
      go_ret
      exact ⟨congrArg (fun q => Ending.returned (.string q)) (mk_of (by rw [HX.out, HIF.out, dl_app, dl_app, HSF.out]; simp)), HWr.out⟩
  ·
   have k0 : (t.kind == 0) = false := by rw [beq_eq_false_iff_ne]; omega
   have k1 : (t.kind == 1) = false := by rw [beq_eq_false_iff_ne]; omega
   have k2 : (t.kind == 2) = false := by rw [beq_eq_false_iff_ne]; omega
   have k3 : (t.kind == 3) = false := by rw [beq_eq_false_iff_ne]; omega
   have k4 : (t.kind == 4) = false := by rw [beq_eq_false_iff_ne]; omega
   have k5 : (t.kind == 5) = true := by rw [beq_iff_eq]; exact hk
   have hll : t.items.length ≤ t.keys.length := by have := HN.out.good.here.lens hk; omega
   have htxt : t.lns bn d.toNat = 123 :: (T.lnss bn t.keys t.items 0 (d.toNat + 1) ++ ((if t.items.length = 0 then [] else gapL bn d.toNat) ++ [125])) := by rw [htx]; rw [if_neg (by omega)]; rw [if_neg (by omega)]; rw [if_neg (by omega)]; rw [if_neg (by omega)]; rw [if_pos hk]
   have HX := Lib.hid htxt
   clear htxt
   clear hk htx
   go_enter Tryz.func29, Tryz.ntmps29
   go_upto_region 1 with fail
   change Code.wp _ _ _ _ (w.alloc (.cells #[.int .i64 t.kind, .bool t.tr, .int .i64 t.num, .string t.str, .slice A t.items.length c, .slice A' t.keys.length c'] 27))
   generalize (w.alloc (.cells #[.int .i64 t.kind, .bool t.tr, .int .i64 t.num, .string t.str, .slice A t.items.length c, .slice A' t.keys.length c'] 27)) = W at *
   have HB0 := Lib.hid hB0
   have HBB := Lib.hid hbb
   obtain ⟨a0, a1, a2, a3, a4, a5⟩ : W.cell? ⟨w.heap.size, 0, none⟩ = some (.int .i64 t.kind) ∧ W.cell? ⟨w.heap.size, 1, none⟩ = some (.bool t.tr) ∧ W.cell? ⟨w.heap.size, 2, none⟩ = some (.int .i64 t.num) ∧ W.cell? ⟨w.heap.size, 3, none⟩ = some (.string t.str) ∧ W.cell? ⟨w.heap.size, 4, none⟩ = some (.slice A t.items.length c) ∧ W.cell? ⟨w.heap.size, 5, none⟩ = some (.slice A' t.keys.length c') := ⟨HB0.out.cell 0, HB0.out.cell 1, HB0.out.cell 2, HB0.out.cell 3, HB0.out.cell 4, HB0.out.cell 5⟩
   clear hB0 hbb
   have hsW := HBB.out.size
   clear a0 a1 a2 a3 a4 a5
   obtain ⟨a0, a4⟩ : W.cell? ⟨w.heap.size, 0, none⟩ = some (.int .i64 t.kind) ∧ W.cell? ⟨w.heap.size, 4, none⟩ = some (.slice A t.items.length c) := ⟨HB0.out.cell 0, HB0.out.cell 4⟩
   go_wp2_with fail
   go_loopw [33, 9] (fun x y wr => ∃ (j : Nat) (S : ByteArray), j ≤ t.items.length ∧ x = .int .i64 j ∧ y = .string S ∧ S.data.toList = T.lnss bn t.keys (t.items.take j) 0 (d.toNat + 1) ∧ Below W.heap.size W wr) (fun x _ _ => t.items.length - (intOf x).toNat)
   case atStart => exact ⟨0, ⟨#[]⟩, Nat.zero_le _, rfl, rfl, by simp [T.lnss], Below.refl _ _⟩
   case round =>
    obtain ⟨j, S, hj, rfl, rfl, hS, hbel⟩ := hrel
    have hpre := lnss_len (d := d.toNat + 1) hkeys hbn (by omega) (t.items.take j) 0 (fun x hx => lns_len hbn x (HN.out.fit.mem (List.mem_of_mem_take hx)) (d.toNat + 1) (by have := T.mem_size (List.mem_of_mem_take hx); omega))
    have hst := T.sizes_take t.items j
    have hSz : S.size ≤ 240000 := by have h1 : S.size = S.data.toList.length := (by simp); have h2 := HN.out.size; rw [h1, hS]; omega
    have HS := Lib.hid hS
    have HBl := Lib.hid hbel
    have HWr := Lib.hid (show Below w.heap.size w wr from HBB.out.trans (hbel.mono hsW))
    have hBr := HB0.out.onto hbel
    have r0 : wr.cell? ⟨w.heap.size, 0, none⟩ = some (.int .i64 t.kind) := hBr.cell 0
    have r4 : wr.cell? ⟨w.heap.size, 4, none⟩ = some (.slice A t.items.length c) := hBr.cell 4
    have r5 : wr.cell? ⟨w.heap.size, 5, none⟩ = some (.slice A' t.keys.length c') := hBr.cell 5
    clear hS hbel hBr a0 a4
    by_cases hlt : j < t.items.length
    ·
     have u1 : decide (j < t.items.length) = true := decide_eq_true hlt
     have u2 : decide ((j : Int) < (t.items.length : Int)) = true := decide_eq_true (by omega)
     have i1 : (j : Int) < (t.items.length : Int) := by omega
     have i2 : (0 : Int) ≤ (j : Int) := by omega
     obtain ⟨bI, oI, x, D, f, D', f', rfl, hbI, hx, h6, hX⟩ := HV.out.at_ hlt
     have hxs := T.sizes_snoc hx
     have hst2 := T.sizes_take t.items (j + 1)
     have HI := Lib.hid (show ∀ w', Below w.heap.size w w' → w'.cell? ⟨bI, oI + j * 6, none⟩ = some (.int .i64 x.kind) ∧ w'.cell? ⟨bI, oI + j * 6 + 1, none⟩ = some (.bool x.tr) ∧ w'.cell? ⟨bI, oI + j * 6 + 2, none⟩ = some (.int .i64 x.num) ∧ w'.cell? ⟨bI, oI + j * 6 + 3, none⟩ = some (.string x.str) ∧ w'.cell? ⟨bI, oI + j * 6 + 4, none⟩ = some (.slice D x.items.length f) ∧ w'.cell? ⟨bI, oI + j * 6 + 5, none⟩ = some (.slice D' x.keys.length f') from fun w' h => h6.keep hbI (.of_below h))
     have HXV := Lib.hid hX
     have HX2 := Lib.hid hx
     clear hX h6 hx
     have HDN := Lib.hid (show (d + 1).toNat = d.toNat + 1 from by omega)
     obtain ⟨GG, hGG⟩ : ∃ GG, mkB (gapL bn (d.toNat + 1)) = GG := ⟨_, rfl⟩
     have hGs : GG.size ≤ 401 := by rw [← hGG]; show (gapL bn (d.toNat + 1)).toArray.size ≤ _; rw [List.size_toArray]; exact gapL_len hbn (by omega)
     have HGG := Lib.hid hGG
     clear hGG
     have wd : IntKind.i64.wrap (d + 1) = d + 1 := IntWalk.i64_in _ (by omega)
     have wd' : wrap64 (d + 1) = d + 1 := IntWalk.wrap64_in _ (by omega)
     obtain ⟨q, hq⟩ : ∃ q, t.keys[j]? = some q := ⟨_, List.getElem?_eq_getElem (by omega)⟩
     have hq60 := hkeys q (List.mem_of_getElem? hq)
     have HKP := Lib.hid (show keyL t.keys j = Q.quo q.data.toList ++ [58, 32] from by unfold keyL; rw [hq]; show Q.quo q.toList ++ [58, 32] = _; rw [ByteArray.toList_eq])
     obtain ⟨bK, oK, rfl, hbK, hcK⟩ := HV.out.keys (by intro e; rw [e] at hq; simp at hq)
     have HCK := Lib.hid (hcK j q hq)
     have v3 : (j : Int) < (t.keys.length : Int) := by omega
     have hql := Q.quo_len q.data.toList
     have hqs : q.data.toList.length = q.size := by simp
     clear hq hcK
     by_cases hj0 : j = 0
     ·
      have c0 : decide ((0 : Int) < (j : Int)) = false := decide_eq_false (by omega)
      have c1 : decide (0 < j) = false := decide_eq_false (by omega)
      have HCM := Lib.hid (show comma j = [] from by unfold comma; rw [if_pos hj0])
      clear hj0
      have hxs2 := T.at_size HX2.out
      have hzl := lns_len hbn x (HN.out.fit.at_ HX2.out) (d.toNat + 1) (by omega)
      have hxle := (HN.out.at_ HX2.out).size
      obtain ⟨Z, hZ⟩ : ∃ Z, mkB (x.lns bn (d.toNat + 1)) = Z := ⟨_, rfl⟩
      have hZs : Z.size ≤ 240000 := by rw [← hZ]; show (x.lns bn (d.toNat + 1)).toArray.size ≤ _; rw [List.size_toArray]; omega
      have HZ := Lib.hid hZ
      clear hZ
      obtain ⟨KQ, hKQ⟩ : ∃ KQ, mkB (Q.quo q.data.toList) = KQ := ⟨_, rfl⟩
      have hKs : KQ.size ≤ 400 := by rw [← hKQ]; show (Q.quo q.data.toList).toArray.size ≤ _; simp; omega
      have HKQ := Lib.hid hKQ
      clear hKQ
      have zs2a : ¬ ((9223372036854775807 : Int) < (S.size : Int) + (GG.size : Int)) := by omega
      have zs2b : ¬ (9223372036854775807 < S.size + GG.size) := by omega
      have zs2c : S.size + GG.size ≤ 9223372036854775807 := by omega
      have zs2d : (S.size : Int) + (GG.size : Int) ≤ (9223372036854775807 : Int) := by omega
      have zs3a : ¬ ((9223372036854775807 : Int) < (S.size : Int) + (GG.size : Int) + (KQ.size : Int)) := by omega
      have zs3b : ¬ (9223372036854775807 < S.size + GG.size + KQ.size) := by omega
      have zs3c : S.size + GG.size + KQ.size ≤ 9223372036854775807 := by omega
      have zs3d : (S.size : Int) + (GG.size : Int) + (KQ.size : Int) ≤ (9223372036854775807 : Int) := by omega
      have zs4a : ¬ ((9223372036854775807 : Int) < (S.size : Int) + (GG.size : Int) + (KQ.size : Int) + 1) := by omega
      have zs4b : ¬ (9223372036854775807 < S.size + GG.size + KQ.size + 1) := by omega
      have zs4c : S.size + GG.size + KQ.size + 1 ≤ 9223372036854775807 := by omega
      have zs4d : (S.size : Int) + (GG.size : Int) + (KQ.size : Int) + 1 ≤ (9223372036854775807 : Int) := by omega
      have zs5a : ¬ ((9223372036854775807 : Int) < (S.size : Int) + (GG.size : Int) + (KQ.size : Int) + 1 + 1) := by omega
      have zs5b : ¬ (9223372036854775807 < S.size + GG.size + KQ.size + 1 + 1) := by omega
      have zs5c : S.size + GG.size + KQ.size + 1 + 1 ≤ 9223372036854775807 := by omega
      have zs5d : (S.size : Int) + (GG.size : Int) + (KQ.size : Int) + 1 + 1 ≤ (9223372036854775807 : Int) := by omega
      have zs6a : ¬ ((9223372036854775807 : Int) < (S.size : Int) + (GG.size : Int) + (KQ.size : Int) + 1 + 1 + (Z.size : Int)) := by omega
      have zs6b : ¬ (9223372036854775807 < S.size + GG.size + KQ.size + 1 + 1 + Z.size) := by omega
      have zs6c : S.size + GG.size + KQ.size + 1 + 1 + Z.size ≤ 9223372036854775807 := by omega
      have zs6d : (S.size : Int) + (GG.size : Int) + (KQ.size : Int) + 1 + 1 + (Z.size : Int) ≤ (9223372036854775807 : Int) := by omega
      go_wp2_with fail
      refine (gap_any bn (d + 1) hbn (by omega) (by omega) _).mono ?_
      rintro e w6 ⟨rfl, hb6⟩
      rw [HDN.out, HGG.out]
      have HW6 := Lib.hid (HWr.out.trans (hb6.mono HWr.out.size))
      have HB6 := Lib.hid (HBl.out.trans (hb6.mono HBl.out.size))
      have hB6 := HB0.out.onto HB6.out
      clear r0 r4 r5 hb6
      have r0 : w6.cell? ⟨w.heap.size, 0, none⟩ = some (.int .i64 t.kind) := hB6.cell 0
      have r4 : w6.cell? ⟨w.heap.size, 4, none⟩ = some (.slice (some ⟨bI, oI, none⟩) t.items.length c) := hB6.cell 4
      have r5 : w6.cell? ⟨w.heap.size, 5, none⟩ = some (.slice (some ⟨bK, oK, none⟩) t.keys.length c') := hB6.cell 5
      have ek : w6.cell? ⟨bK, oK + j, none⟩ = some (.string q) := (HW6.out.cell (p := ⟨bK, oK + j, none⟩) hbK).trans HCK.out
      clear hB6
      go_wp2_with fail
      refine (rquote_any q _ (by omega)).mono ?_
      rintro e w7 ⟨rfl, hb7⟩
      rw [HKQ.out]
      have HW7 := Lib.hid (HW6.out.trans (hb7.mono HW6.out.size))
      have HB7 := Lib.hid (HB6.out.trans (hb7.mono HB6.out.size))
      have hB7 := HB0.out.onto HB7.out
      have s4 : w7.cell? ⟨w.heap.size, 4, none⟩ = some (.slice (some ⟨bI, oI, none⟩) t.items.length c) := hB7.cell 4
      obtain ⟨e0, e1, e2, e3, e4, e5⟩ := HI.out w7 HW7.out
      clear hb7 ek hB7 r0 r4 r5
      go_wp2_with fail
      refine (ih x D f D' f' (d + 1) _ (by omega) (HN.out.at_ HX2.out) (by omega) (by omega) ((HXV.out.under HW7.out).wide fun b hb => Nat.lt_of_lt_of_le hb HW7.out.size)).mono ?_
      rintro e w9 ⟨rfl, hb9⟩
      rw [HDN.out, HZ.out]
      have HB9 := Lib.hid (HB7.out.trans (hb9.mono HB7.out.size))
      clear hb9
      go_wp2_with fail
      go_roundw
      case rel => exact ⟨j + 1, _, hlt, by go_num, rfl, by rw [lnss_take HX2.out, HCM.out, HKP.out]; simp only [dl_app, HS.out, ← HZ.out, ← HGG.out, ← HKQ.out]; simp [mkB], HB9.out⟩
      case measure => simp [intOf]; omega
     ·
      have c0 : decide ((0 : Int) < (j : Int)) = true := decide_eq_true (by omega)
      have c1 : decide (0 < j) = true := decide_eq_true (by omega)
      have HCM := Lib.hid (show comma j = [44] from by unfold comma; rw [if_neg hj0])
      clear hj0
      have hxs2 := T.at_size HX2.out
      have hzl := lns_len hbn x (HN.out.fit.at_ HX2.out) (d.toNat + 1) (by omega)
      have hxle := (HN.out.at_ HX2.out).size
      obtain ⟨Z, hZ⟩ : ∃ Z, mkB (x.lns bn (d.toNat + 1)) = Z := ⟨_, rfl⟩
      have hZs : Z.size ≤ 240000 := by rw [← hZ]; show (x.lns bn (d.toNat + 1)).toArray.size ≤ _; rw [List.size_toArray]; omega
      have HZ := Lib.hid hZ
      clear hZ
      obtain ⟨KQ, hKQ⟩ : ∃ KQ, mkB (Q.quo q.data.toList) = KQ := ⟨_, rfl⟩
      have hKs : KQ.size ≤ 400 := by rw [← hKQ]; show (Q.quo q.data.toList).toArray.size ≤ _; simp; omega
      have HKQ := Lib.hid hKQ
      clear hKQ
      have zs2a : ¬ ((9223372036854775807 : Int) < (S.size : Int) + 1) := by omega
      have zs2b : ¬ (9223372036854775807 < S.size + 1) := by omega
      have zs2c : S.size + 1 ≤ 9223372036854775807 := by omega
      have zs2d : (S.size : Int) + 1 ≤ (9223372036854775807 : Int) := by omega
      have zs3a : ¬ ((9223372036854775807 : Int) < (S.size : Int) + 1 + (GG.size : Int)) := by omega
      have zs3b : ¬ (9223372036854775807 < S.size + 1 + GG.size) := by omega
      have zs3c : S.size + 1 + GG.size ≤ 9223372036854775807 := by omega
      have zs3d : (S.size : Int) + 1 + (GG.size : Int) ≤ (9223372036854775807 : Int) := by omega
      have zs4a : ¬ ((9223372036854775807 : Int) < (S.size : Int) + 1 + (GG.size : Int) + (KQ.size : Int)) := by omega
      have zs4b : ¬ (9223372036854775807 < S.size + 1 + GG.size + KQ.size) := by omega
      have zs4c : S.size + 1 + GG.size + KQ.size ≤ 9223372036854775807 := by omega
      have zs4d : (S.size : Int) + 1 + (GG.size : Int) + (KQ.size : Int) ≤ (9223372036854775807 : Int) := by omega
      have zs5a : ¬ ((9223372036854775807 : Int) < (S.size : Int) + 1 + (GG.size : Int) + (KQ.size : Int) + 1) := by omega
      have zs5b : ¬ (9223372036854775807 < S.size + 1 + GG.size + KQ.size + 1) := by omega
      have zs5c : S.size + 1 + GG.size + KQ.size + 1 ≤ 9223372036854775807 := by omega
      have zs5d : (S.size : Int) + 1 + (GG.size : Int) + (KQ.size : Int) + 1 ≤ (9223372036854775807 : Int) := by omega
      have zs6a : ¬ ((9223372036854775807 : Int) < (S.size : Int) + 1 + (GG.size : Int) + (KQ.size : Int) + 1 + 1) := by omega
      have zs6b : ¬ (9223372036854775807 < S.size + 1 + GG.size + KQ.size + 1 + 1) := by omega
      have zs6c : S.size + 1 + GG.size + KQ.size + 1 + 1 ≤ 9223372036854775807 := by omega
      have zs6d : (S.size : Int) + 1 + (GG.size : Int) + (KQ.size : Int) + 1 + 1 ≤ (9223372036854775807 : Int) := by omega
      have zs7a : ¬ ((9223372036854775807 : Int) < (S.size : Int) + 1 + (GG.size : Int) + (KQ.size : Int) + 1 + 1 + (Z.size : Int)) := by omega
      have zs7b : ¬ (9223372036854775807 < S.size + 1 + GG.size + KQ.size + 1 + 1 + Z.size) := by omega
      have zs7c : S.size + 1 + GG.size + KQ.size + 1 + 1 + Z.size ≤ 9223372036854775807 := by omega
      have zs7d : (S.size : Int) + 1 + (GG.size : Int) + (KQ.size : Int) + 1 + 1 + (Z.size : Int) ≤ (9223372036854775807 : Int) := by omega
      go_wp2_with fail
      refine (gap_any bn (d + 1) hbn (by omega) (by omega) _).mono ?_
      rintro e w6 ⟨rfl, hb6⟩
      rw [HDN.out, HGG.out]
      have HW6 := Lib.hid (HWr.out.trans (hb6.mono HWr.out.size))
      have HB6 := Lib.hid (HBl.out.trans (hb6.mono HBl.out.size))
      have hB6 := HB0.out.onto HB6.out
      clear r0 r4 r5 hb6
      have r0 : w6.cell? ⟨w.heap.size, 0, none⟩ = some (.int .i64 t.kind) := hB6.cell 0
      have r4 : w6.cell? ⟨w.heap.size, 4, none⟩ = some (.slice (some ⟨bI, oI, none⟩) t.items.length c) := hB6.cell 4
      have r5 : w6.cell? ⟨w.heap.size, 5, none⟩ = some (.slice (some ⟨bK, oK, none⟩) t.keys.length c') := hB6.cell 5
      have ek : w6.cell? ⟨bK, oK + j, none⟩ = some (.string q) := (HW6.out.cell (p := ⟨bK, oK + j, none⟩) hbK).trans HCK.out
      clear hB6
      go_wp2_with fail
      refine (rquote_any q _ (by omega)).mono ?_
      rintro e w7 ⟨rfl, hb7⟩
      rw [HKQ.out]
      have HW7 := Lib.hid (HW6.out.trans (hb7.mono HW6.out.size))
      have HB7 := Lib.hid (HB6.out.trans (hb7.mono HB6.out.size))
      have hB7 := HB0.out.onto HB7.out
      have s4 : w7.cell? ⟨w.heap.size, 4, none⟩ = some (.slice (some ⟨bI, oI, none⟩) t.items.length c) := hB7.cell 4
      obtain ⟨e0, e1, e2, e3, e4, e5⟩ := HI.out w7 HW7.out
      clear hb7 ek hB7 r0 r4 r5
      go_wp2_with fail
      refine (ih x D f D' f' (d + 1) _ (by omega) (HN.out.at_ HX2.out) (by omega) (by omega) ((HXV.out.under HW7.out).wide fun b hb => Nat.lt_of_lt_of_le hb HW7.out.size)).mono ?_
      rintro e w9 ⟨rfl, hb9⟩
      rw [HDN.out, HZ.out]
      have HB9 := Lib.hid (HB7.out.trans (hb9.mono HB7.out.size))
      clear hb9
      go_wp2_with fail
      go_roundw
      case rel => exact ⟨j + 1, _, hlt, by go_num, rfl, by rw [lnss_take HX2.out, HCM.out, HKP.out]; simp only [dl_app, HS.out, ← HZ.out, ← HGG.out, ← HKQ.out]; simp [mkB], HB9.out⟩
      case measure => simp [intOf]; omega
    ·
     have u1 : decide (j < t.items.length) = false := decide_eq_false hlt
     have u2 : decide ((j : Int) < (t.items.length : Int)) = false := decide_eq_false (by omega)
     have hfull : t.items.take j = t.items := List.take_of_length_le (by omega)
     have HSF := Lib.hid (show S.data.toList = T.lnss bn t.keys t.items 0 (d.toNat + 1) from hfull ▸ HS.out)
     clear hfull
     by_cases hz : 0 < t.items.length
     ·
      have v1 : decide (0 < t.items.length) = true := decide_eq_true hz
      have v2 : decide ((0 : Int) < (t.items.length : Int)) = true := decide_eq_true (by omega)
      have HIF := Lib.hid (show (if t.items.length = 0 then [] else gapL bn d.toNat) = gapL bn d.toNat from if_neg (by omega))
      obtain ⟨GG, hGG⟩ : ∃ GG, mkB (gapL bn d.toNat) = GG := ⟨_, rfl⟩
      have hGs : GG.size ≤ 401 := by rw [← hGG]; show (gapL bn d.toNat).toArray.size ≤ _; rw [List.size_toArray]; exact gapL_len hbn (by omega)
      have HGG := Lib.hid hGG
      clear hGG hz
      have zy2a : ¬ ((9223372036854775807 : Int) < (S.size : Int) + (GG.size : Int)) := by omega
      have zy2b : ¬ (9223372036854775807 < S.size + GG.size) := by omega
      have zy2c : S.size + GG.size ≤ 9223372036854775807 := by omega
      have zy2d : (S.size : Int) + (GG.size : Int) ≤ (9223372036854775807 : Int) := by omega
      have zz2a : ¬ ((9223372036854775807 : Int) < 1 + (S.size : Int)) := by omega
      have zz2b : ¬ (9223372036854775807 < 1 + S.size) := by omega
      have zz2c : 1 + S.size ≤ 9223372036854775807 := by omega
      have zz2d : 1 + (S.size : Int) ≤ (9223372036854775807 : Int) := by omega
      have zz3a : ¬ ((9223372036854775807 : Int) < 1 + (S.size : Int) + (GG.size : Int)) := by omega
      have zz3b : ¬ (9223372036854775807 < 1 + S.size + GG.size) := by omega
      have zz3c : 1 + S.size + GG.size ≤ 9223372036854775807 := by omega
      have zz3d : 1 + (S.size : Int) + (GG.size : Int) ≤ (9223372036854775807 : Int) := by omega
      have zz4a : ¬ ((9223372036854775807 : Int) < 1 + (S.size : Int) + (GG.size : Int) + 1) := by omega
      have zz4b : ¬ (9223372036854775807 < 1 + S.size + GG.size + 1) := by omega
      have zz4c : 1 + S.size + GG.size + 1 ≤ 9223372036854775807 := by omega
      have zz4d : 1 + (S.size : Int) + (GG.size : Int) + 1 ≤ (9223372036854775807 : Int) := by omega
      have zq1 : ¬ ((9223372036854775807 : Int) < 1 + ((S.size : Int) + (GG.size : Int))) := by omega
      have zq2 : ¬ (9223372036854775807 < 1 + (S.size + GG.size)) := by omega
      have zq3 : ¬ ((9223372036854775807 : Int) < 1 + ((S.size : Int) + (GG.size : Int)) + 1) := by omega
      have zq4 : ¬ (9223372036854775807 < 1 + (S.size + GG.size) + 1) := by omega
      go_wp2_with fail
      refine (gap_any bn d hbn hd0 (by omega) _).mono ?_
      rintro e w6 ⟨rfl, hb6⟩
      rw [HGG.out]
      have HW6 := Lib.hid (HWr.out.trans (hb6.mono HWr.out.size))
      have hB6 := HB0.out.onto (HBl.out.trans (hb6.mono HBl.out.size))
      clear r0 r4 r5 hb6
      have r0 : w6.cell? ⟨w.heap.size, 0, none⟩ = some (.int .i64 t.kind) := hB6.cell 0
      clear hB6
      go_wp2_with fail
      go_ret
      exact ⟨congrArg (fun q => Ending.returned (.string q)) (mk_of (by rw [HX.out, HIF.out, dl_app, dl_app, dl_app, HSF.out, ← HGG.out]; simp [mkB])), HW6.out⟩
     ·
      have v1 : decide (0 < t.items.length) = false := decide_eq_false hz
      have v2 : decide ((0 : Int) < (t.items.length : Int)) = false := decide_eq_false (by omega)
      have HIF := Lib.hid (show (if t.items.length = 0 then [] else gapL bn d.toNat) = [] from if_pos (by omega))
      clear hz
      have zz2a : ¬ ((9223372036854775807 : Int) < 1 + (S.size : Int)) := by omega
      have zz2b : ¬ (9223372036854775807 < 1 + S.size) := by omega
      have zz2c : 1 + S.size ≤ 9223372036854775807 := by omega
      have zz2d : 1 + (S.size : Int) ≤ (9223372036854775807 : Int) := by omega
      have zz3a : ¬ ((9223372036854775807 : Int) < 1 + (S.size : Int) + 1) := by omega
      have zz3b : ¬ (9223372036854775807 < 1 + S.size + 1) := by omega
      have zz3c : 1 + S.size + 1 ≤ 9223372036854775807 := by omega
      have zz3d : 1 + (S.size : Int) + 1 ≤ (9223372036854775807 : Int) := by omega
      go_wp2_with fail
      go_ret
      exact ⟨congrArg (fun q => Ending.returned (.string q)) (mk_of (by rw [HX.out, HIF.out, dl_app, dl_app, HSF.out]; simp)), HWr.out⟩
end Go.Proofs.YtaeimlfehlbiiaaGreatDoor
namespace Go.Proofs.YtaeimlfehlbiiaaGreatDoor
open Go.RowKit
set_option linter.unusedVariables false
theorem lns_no (bn d : Nat) (t : T) : t.lns bn d ≠ [] := by
 rw [T.lns_eq]
 split
 · split <;> simp
 split
 · exact itoa_ne _
 split
 · unfold Q.quo; simp
 split
 · simp
 split
 · simp
 · simp
def byN (y : Int) : Nat := if y < 0 then 0 else if 8 < y then 8 else y.toNat
theorem byN_le (y : Int) : byN y ≤ 8 := by unfold byN; split <;> (try split) <;> omega
set_option maxRecDepth 100000 in
set_option maxHeartbeats 4000000 in
theorem rnlines_any (t : T) (A : Option Addr) (c : Nat) (A' : Option Addr) (c' : Nat) (y : Int) (w : World) (hn : t.Nice) (ht : Lib.TabIs Tryz.prog w "internal/strconv.uint64pow10" .u64 Lib.pow10Tab) (hv : TV w (· < w.heap.size) t A c A' c') :
 Calls Tryz.prog 8 #[.agg #[.int .i64 t.kind, .bool t.tr, .int .i64 t.num, .string t.str, .slice A t.items.length c, .slice A' t.keys.length c'], .int .i64 y] w fun e w' => e = .returned (.string (mkB (t.lns (byN y) 0))) ∧ Below w.heap.size w w' := by
 have hsz := hn.size
 have HN := Lib.hid hn
 have HT := Lib.hid (tab_of ht)
 have HV := Lib.hid hv
 have hb8 := byN_le y
 have HBY := Lib.hid (show byN y = if y < 0 then 0 else if 8 < y then 8 else y.toNat from rfl)
 generalize byN y = bn at *
 have em : min (max y 0) 8 = (bn : Int) := by
  rw [HBY.out, Int.min_def, Int.max_def]
  repeat' split
  all_goals omega
 clear hn ht hv
 have hW := wr_new2 #[.int .i64 t.kind, .bool t.tr, .int .i64 t.num, .string t.str, .slice A t.items.length c, .slice A' t.keys.length c'] (.string ⟨#[58, 32]⟩) (.func (.func 24) #[] #[]) (.int .i64 bn) (.int .i64 0) w
 have hB0 : Blk ((w.alloc (.cells #[.int .i64 t.kind, .bool t.tr, .int .i64 t.num, .string t.str, .slice A t.items.length c, .slice A' t.keys.length c'] 32)).alloc (.cells #[.pointer none, .slice none 0 0, .string ⟨#[58, 32]⟩, .func (.func 24) #[] #[], .int .i64 bn, .int .i64 0] 63)) w.heap.size 32 #[.int .i64 t.kind, .bool t.tr, .int .i64 t.num, .string t.str, .slice A t.items.length c, .slice A' t.keys.length c'] := (Blk.new w _ _).alloc _
 have hb : Below w.heap.size w ((w.alloc (.cells #[.int .i64 t.kind, .bool t.tr, .int .i64 t.num, .string t.str, .slice A t.items.length c, .slice A' t.keys.length c'] 32)).alloc (.cells #[.pointer none, .slice none 0 0, .string ⟨#[58, 32]⟩, .func (.func 24) #[] #[], .int .i64 bn, .int .i64 0] 63)) := ((Below.refl _ _).alloc (Nat.le_refl _) _).alloc (by simp) _
 have HW := Lib.hid hW
 have HB := Lib.hid hb
 have HB0 := Lib.hid hB0
 clear hW hb hB0
 go_enter Tryz.func8, Tryz.ntmps8
 go_upto_region 2 with fail
 try simp only [em]
 change Code.wp _ _ _ _ ((w.alloc (.cells #[.int .i64 t.kind, .bool t.tr, .int .i64 t.num, .string t.str, .slice A t.items.length c, .slice A' t.keys.length c'] 32)).alloc (.cells #[.pointer none, .slice none 0 0, .string ⟨#[58, 32]⟩, .func (.func 24) #[] #[], .int .i64 bn, .int .i64 0] 63))
 generalize ((w.alloc (.cells #[.int .i64 t.kind, .bool t.tr, .int .i64 t.num, .string t.str, .slice A t.items.length c, .slice A' t.keys.length c'] 32)).alloc (.cells #[.pointer none, .slice none 0 0, .string ⟨#[58, 32]⟩, .func (.func 24) #[] #[], .int .i64 bn, .int .i64 0] 63)) = W at *
 obtain ⟨a0, a1, a2, a3, a4, a5⟩ : W.cell? ⟨w.heap.size, 0, none⟩ = some (.int .i64 t.kind) ∧ W.cell? ⟨w.heap.size, 1, none⟩ = some (.bool t.tr) ∧ W.cell? ⟨w.heap.size, 2, none⟩ = some (.int .i64 t.num) ∧ W.cell? ⟨w.heap.size, 3, none⟩ = some (.string t.str) ∧ W.cell? ⟨w.heap.size, 4, none⟩ = some (.slice A t.items.length c) ∧ W.cell? ⟨w.heap.size, 5, none⟩ = some (.slice A' t.keys.length c') := ⟨HB0.out.cell 0, HB0.out.cell 1, HB0.out.cell 2, HB0.out.cell 3, HB0.out.cell 4, HB0.out.cell 5⟩
 go_wp2_with fail
 refine (valueL_at bn (by omega) 80 w.heap.size (w.heap.size + 1) [] 0 t A c A' c' _ (by omega) HN.out.fine (Int.le_refl _) (by omega) (by simp; omega) (HT.out.on HB.out) (HV.out.under HB.out) HW.out HB.out.size).mono ?_
 rintro e w2 ⟨rfl, h2, k2⟩
 have H2 := Lib.hid h2
 have K2 := Lib.hid k2
 clear h2 k2
 go_wp2_with fail
 refine (string_any w.heap.size (w.heap.size + 1) (t.lns bn 0) _ _ _ _ _ H2.out (lns_no _ _ t)).mono ?_
 rintro e w3 ⟨rfl, hb3⟩
 have H3 := Lib.hid (HB.out.trans (K2.out.1.trans hb3))
 clear hb3
 go_wp2_with fail
 go_ret
 exact ⟨rfl, H3.out⟩
set_option maxRecDepth 100000 in
set_option maxHeartbeats 4000000 in
theorem r7lines_any (t : T) (A : Option Addr) (c : Nat) (A' : Option Addr) (c' : Nat) (y : Int) (w : World) (hn : t.Nice) (hv : TV w (· < w.heap.size) t A c A' c') :
 Calls Tryz.prog 12 #[.agg #[.int .i64 t.kind, .bool t.tr, .int .i64 t.num, .string t.str, .slice A t.items.length c, .slice A' t.keys.length c'], .int .i64 y] w fun e w' => e = .returned (.string (mkB (t.lns (byN y) 0))) ∧ Below w.heap.size w w' := by
 have hsz := hn.size
 have hb : Below w.heap.size w (w.alloc (.cells #[.int .i64 t.kind, .bool t.tr, .int .i64 t.num, .string t.str, .slice A t.items.length c, .slice A' t.keys.length c'] 27)) := (Below.refl _ _).alloc (Nat.le_refl _) _
 have hb8 := byN_le y
 have HBY := Lib.hid (show byN y = if y < 0 then 0 else if 8 < y then 8 else y.toNat from rfl)
 generalize byN y = bn at *
 have HC := Lib.hid (writeL_at bn hb8 80 t A c A' c' 0 (w.alloc (.cells #[.int .i64 t.kind, .bool t.tr, .int .i64 t.num, .string t.str, .slice A t.items.length c, .slice A' t.keys.length c'] 27)) (by omega) hn.fine (Int.le_refl _) (by omega) (hv.on hb))
 have HB := Lib.hid hb
 have em : min (max y 0) 8 = (bn : Int) := by
  rw [HBY.out, Int.min_def, Int.max_def]
  repeat' split
  all_goals omega
 clear hv hn hb
 go_enter Tryz.func12, Tryz.ntmps12
 go_wp2_with fail
 try simp only [em]
 refine HC.out.mono ?_
 rintro e w2 ⟨rfl, hb2⟩
 have H2 := Lib.hid (HB.out.trans (hb2.mono HB.out.size))
 clear hb2
 go_wp2_with fail
 go_ret
 exact ⟨rfl, H2.out⟩
end Go.Proofs.YtaeimlfehlbiiaaGreatDoor
