/- The reference's text of a value: contract. -/
import Derived.Test.YtgiapdmoiaiofaaDoorWrK
import Derived.Test.YtgiapdmoiaiofaaDoorW2
import Derived.Outline
namespace Go.Proofs.YtgiapdmoiaiofaaDoor
open Go.RowKit
set_option linter.unusedVariables false

theorem dl_app (a b : ByteArray) : (a ++ b).data.toList = a.data.toList ++ b.data.toList := by simp
theorem mk_of {s : ByteArray} {l : List UInt8} (h : s.data.toList = l) : s = mkB l := ba_ext (by rw [h]; rfl)
def WriteAt (n : Nat) : Prop := ∀ (t : T) (A : Option Addr) (c : Nat) (A' : Option Addr) (c' : Nat) (d : Int) (w : World), t.size ≤ n → t.Fine → 0 ≤ d → d + t.size ≤ 1000 → TV w (· < w.heap.size) t A c A' c' →
    Calls Tryd.prog 42 #[.agg #[.int .i64 t.kind, .bool t.tr, .int .i64 t.num, .string t.str, .slice A t.items.length c, .slice A' t.keys.length c'], .int .i64 d, .int .i64 0, .bool false] w fun e w' => e = .returned (.string (mkB t.txt)) ∧ Below w.heap.size w w'
theorem sm_of {z : Int} (h0 : -9223372036854775808 ≤ z) (h1 : z ≤ 9223372036854775807) : W2.Sm 100 z := by
  unfold W2.Sm
  have : (10000 : Nat) ^ 5 ≤ 10000 ^ 100 := Nat.pow_le_pow_right (by decide) (by decide)
  have h5 : (10000 : Nat) ^ 5 = 100000000000000000000 := by decide
  omega
set_option maxRecDepth 100000 in
set_option maxHeartbeats 16000000 in
theorem write_at (n : Nat) : WriteAt n := by
  induction n with
  | zero => intro t A c A' c' d w h; have := t.size_pos; omega
  | succ n ih =>
    intro t A c A' c' d w hsz hn hd0 hd hv
    have hg := hn.good.here
    have hf := hn.fit.here
    have hi80 := hn.items80
    have hsizes := T.size_eq t
    have hB0 : Blk (w.alloc (.cells #[.int .i64 t.kind, .bool t.tr, .int .i64 t.num, .string t.str, .slice A t.items.length c, .slice A' t.keys.length c'] 35)) w.heap.size 35 #[.int .i64 t.kind, .bool t.tr, .int .i64 t.num, .string t.str, .slice A t.items.length c, .slice A' t.keys.length c'] := Blk.new w _ _
    have hbb : Below w.heap.size w (w.alloc (.cells #[.int .i64 t.kind, .bool t.tr, .int .i64 t.num, .string t.str, .slice A t.items.length c, .slice A' t.keys.length c'] 35)) := (Below.refl _ _).alloc (Nat.le_refl _) _
    have HN := Lib.hid hn
    have HV := Lib.hid hv
    have htx := T.txt_eq t
    have hk0 := hg.k0
    have hk5 := hg.k5
    have hn0 := hf.n0
    have hn1 := hf.n1
    have hs60 := hf.str
    have hkeys := hf.keys
    clear hn hv hg hf
    rcases (by omega : t.kind = 0 ∨ t.kind = 1 ∨ t.kind = 2 ∨ t.kind = 3 ∨ t.kind = 4 ∨ t.kind = 5) with hk | hk | hk | hk | hk | hk
    · have k0 : (t.kind == 0) = true := by rw [beq_iff_eq]; exact hk
      have k1 : (t.kind == 1) = false := by rw [beq_eq_false_iff_ne]; omega
      have k2 : (t.kind == 2) = false := by rw [beq_eq_false_iff_ne]; omega
      have k3 : (t.kind == 3) = false := by rw [beq_eq_false_iff_ne]; omega
      have k4 : (t.kind == 4) = false := by rw [beq_eq_false_iff_ne]; omega
      have k5 : (t.kind == 5) = false := by rw [beq_eq_false_iff_ne]; omega
      have htxt : t.txt = [110, 117, 108, 108] := by rw [htx]; rw [if_neg (by omega)]; rw [if_neg (by omega)]; rw [if_neg (by omega)]; rw [if_neg (by omega)]; rw [if_neg (by omega)]
      have HX := Lib.hid htxt
      clear htxt
      clear hk htx
      go_enter Tryd.func42, Tryd.ntmps42
      go_upto_region 1 with fail
      change Code.wp _ _ _ _ (w.alloc (.cells #[.int .i64 t.kind, .bool t.tr, .int .i64 t.num, .string t.str, .slice A t.items.length c, .slice A' t.keys.length c'] 35))
      generalize (w.alloc (.cells #[.int .i64 t.kind, .bool t.tr, .int .i64 t.num, .string t.str, .slice A t.items.length c, .slice A' t.keys.length c'] 35)) = W at *
      have HB0 := Lib.hid hB0
      have HBB := Lib.hid hbb
      obtain ⟨a0, a1, a2, a3, a4, a5⟩ : W.cell? ⟨w.heap.size, 0, none⟩ = some (.int .i64 t.kind) ∧ W.cell? ⟨w.heap.size, 1, none⟩ = some (.bool t.tr) ∧ W.cell? ⟨w.heap.size, 2, none⟩ = some (.int .i64 t.num) ∧ W.cell? ⟨w.heap.size, 3, none⟩ = some (.string t.str) ∧ W.cell? ⟨w.heap.size, 4, none⟩ = some (.slice A t.items.length c) ∧ W.cell? ⟨w.heap.size, 5, none⟩ = some (.slice A' t.keys.length c') := ⟨HB0.out.cell 0, HB0.out.cell 1, HB0.out.cell 2, HB0.out.cell 3, HB0.out.cell 4, HB0.out.cell 5⟩
      clear hB0 hbb
      go_wp2_with fail
      go_ret
      exact ⟨by rw [HX.out]; rfl, HBB.out⟩
    · have k0 : (t.kind == 0) = false := by rw [beq_eq_false_iff_ne]; omega
      have k1 : (t.kind == 1) = true := by rw [beq_iff_eq]; exact hk
      have k2 : (t.kind == 2) = false := by rw [beq_eq_false_iff_ne]; omega
      have k3 : (t.kind == 3) = false := by rw [beq_eq_false_iff_ne]; omega
      have k4 : (t.kind == 4) = false := by rw [beq_eq_false_iff_ne]; omega
      have k5 : (t.kind == 5) = false := by rw [beq_eq_false_iff_ne]; omega
      have htxt : t.txt = if t.tr then [116, 114, 117, 101] else [102, 97, 108, 115, 101] := by rw [htx]; rw [if_pos hk]
      have HX := Lib.hid htxt
      clear htxt
      clear hk htx
      go_enter Tryd.func42, Tryd.ntmps42
      go_upto_region 1 with fail
      change Code.wp _ _ _ _ (w.alloc (.cells #[.int .i64 t.kind, .bool t.tr, .int .i64 t.num, .string t.str, .slice A t.items.length c, .slice A' t.keys.length c'] 35))
      generalize (w.alloc (.cells #[.int .i64 t.kind, .bool t.tr, .int .i64 t.num, .string t.str, .slice A t.items.length c, .slice A' t.keys.length c'] 35)) = W at *
      have HB0 := Lib.hid hB0
      have HBB := Lib.hid hbb
      obtain ⟨a0, a1, a2, a3, a4, a5⟩ : W.cell? ⟨w.heap.size, 0, none⟩ = some (.int .i64 t.kind) ∧ W.cell? ⟨w.heap.size, 1, none⟩ = some (.bool t.tr) ∧ W.cell? ⟨w.heap.size, 2, none⟩ = some (.int .i64 t.num) ∧ W.cell? ⟨w.heap.size, 3, none⟩ = some (.string t.str) ∧ W.cell? ⟨w.heap.size, 4, none⟩ = some (.slice A t.items.length c) ∧ W.cell? ⟨w.heap.size, 5, none⟩ = some (.slice A' t.keys.length c') := ⟨HB0.out.cell 0, HB0.out.cell 1, HB0.out.cell 2, HB0.out.cell 3, HB0.out.cell 4, HB0.out.cell 5⟩
      clear hB0 hbb
      cases htr : t.tr with
      | true =>
        rw [htr] at a1
        go_wp2_with fail
        go_ret
        exact ⟨by rw [HX.out, htr]; rfl, HBB.out⟩
      | false =>
        rw [htr] at a1
        go_wp2_with fail
        go_ret
        exact ⟨by rw [HX.out, htr]; rfl, HBB.out⟩
    · have k0 : (t.kind == 0) = false := by rw [beq_eq_false_iff_ne]; omega
      have k1 : (t.kind == 1) = false := by rw [beq_eq_false_iff_ne]; omega
      have k2 : (t.kind == 2) = true := by rw [beq_iff_eq]; exact hk
      have k3 : (t.kind == 3) = false := by rw [beq_eq_false_iff_ne]; omega
      have k4 : (t.kind == 4) = false := by rw [beq_eq_false_iff_ne]; omega
      have k5 : (t.kind == 5) = false := by rw [beq_eq_false_iff_ne]; omega
      have htxt : t.txt = Lib.itoa t.num := by rw [htx]; rw [if_neg (by omega)]; rw [if_pos hk]
      have HX := Lib.hid htxt
      clear htxt
      clear hk htx
      go_enter Tryd.func42, Tryd.ntmps42
      go_upto_region 1 with fail
      change Code.wp _ _ _ _ (w.alloc (.cells #[.int .i64 t.kind, .bool t.tr, .int .i64 t.num, .string t.str, .slice A t.items.length c, .slice A' t.keys.length c'] 35))
      generalize (w.alloc (.cells #[.int .i64 t.kind, .bool t.tr, .int .i64 t.num, .string t.str, .slice A t.items.length c, .slice A' t.keys.length c'] 35)) = W at *
      have HB0 := Lib.hid hB0
      have HBB := Lib.hid hbb
      obtain ⟨a0, a1, a2, a3, a4, a5⟩ : W.cell? ⟨w.heap.size, 0, none⟩ = some (.int .i64 t.kind) ∧ W.cell? ⟨w.heap.size, 1, none⟩ = some (.bool t.tr) ∧ W.cell? ⟨w.heap.size, 2, none⟩ = some (.int .i64 t.num) ∧ W.cell? ⟨w.heap.size, 3, none⟩ = some (.string t.str) ∧ W.cell? ⟨w.heap.size, 4, none⟩ = some (.slice A t.items.length c) ∧ W.cell? ⟨w.heap.size, 5, none⟩ = some (.slice A' t.keys.length c') := ⟨HB0.out.cell 0, HB0.out.cell 1, HB0.out.cell 2, HB0.out.cell 3, HB0.out.cell 4, HB0.out.cell 5⟩
      clear hB0 hbb
      go_wp2_with fail
      refine (W2.of_any t.num _ ⟨hn0, hn1⟩).mono ?_
      rintro e w2 ⟨v, rfl, hnz, hb2⟩
      have H2 := Lib.hid (HBB.out.trans (hb2.mono HBB.out.size))
      have HNZ := Lib.hid hnz
      clear hb2 hnz
      go_wp2_with fail
      refine (W2.rtext_any v t.num _ HNZ.out (sm_of hn0 hn1)).mono ?_
      rintro e w3 ⟨rfl, hb3⟩
      have H3 := Lib.hid (H2.out.trans (hb3.mono H2.out.size))
      clear hb3
      go_wp2_with fail
      go_ret
      exact ⟨by rw [HX.out]; rfl, H3.out⟩
    · have k0 : (t.kind == 0) = false := by rw [beq_eq_false_iff_ne]; omega
      have k1 : (t.kind == 1) = false := by rw [beq_eq_false_iff_ne]; omega
      have k2 : (t.kind == 2) = false := by rw [beq_eq_false_iff_ne]; omega
      have k3 : (t.kind == 3) = true := by rw [beq_iff_eq]; exact hk
      have k4 : (t.kind == 4) = false := by rw [beq_eq_false_iff_ne]; omega
      have k5 : (t.kind == 5) = false := by rw [beq_eq_false_iff_ne]; omega
      have htxt : t.txt = Q.quo t.str.data.toList := by rw [htx]; rw [if_neg (by omega)]; rw [if_neg (by omega)]; rw [if_pos hk, ByteArray.toList_eq]
      have HX := Lib.hid htxt
      clear htxt
      clear hk htx
      go_enter Tryd.func42, Tryd.ntmps42
      go_upto_region 1 with fail
      change Code.wp _ _ _ _ (w.alloc (.cells #[.int .i64 t.kind, .bool t.tr, .int .i64 t.num, .string t.str, .slice A t.items.length c, .slice A' t.keys.length c'] 35))
      generalize (w.alloc (.cells #[.int .i64 t.kind, .bool t.tr, .int .i64 t.num, .string t.str, .slice A t.items.length c, .slice A' t.keys.length c'] 35)) = W at *
      have HB0 := Lib.hid hB0
      have HBB := Lib.hid hbb
      obtain ⟨a0, a1, a2, a3, a4, a5⟩ : W.cell? ⟨w.heap.size, 0, none⟩ = some (.int .i64 t.kind) ∧ W.cell? ⟨w.heap.size, 1, none⟩ = some (.bool t.tr) ∧ W.cell? ⟨w.heap.size, 2, none⟩ = some (.int .i64 t.num) ∧ W.cell? ⟨w.heap.size, 3, none⟩ = some (.string t.str) ∧ W.cell? ⟨w.heap.size, 4, none⟩ = some (.slice A t.items.length c) ∧ W.cell? ⟨w.heap.size, 5, none⟩ = some (.slice A' t.keys.length c') := ⟨HB0.out.cell 0, HB0.out.cell 1, HB0.out.cell 2, HB0.out.cell 3, HB0.out.cell 4, HB0.out.cell 5⟩
      clear hB0 hbb
      go_wp2_with fail
      refine (rquote_any t.str _ (by omega)).mono ?_
      rintro e w2 ⟨rfl, hb2⟩
      have H2 := Lib.hid (HBB.out.trans (hb2.mono HBB.out.size))
      clear hb2
      go_wp2_with fail
      go_ret
      exact ⟨by rw [HX.out]; rfl, H2.out⟩
    · have k0 : (t.kind == 0) = false := by rw [beq_eq_false_iff_ne]; omega
      have k1 : (t.kind == 1) = false := by rw [beq_eq_false_iff_ne]; omega
      have k2 : (t.kind == 2) = false := by rw [beq_eq_false_iff_ne]; omega
      have k3 : (t.kind == 3) = false := by rw [beq_eq_false_iff_ne]; omega
      have k4 : (t.kind == 4) = true := by rw [beq_iff_eq]; exact hk
      have k5 : (t.kind == 5) = false := by rw [beq_eq_false_iff_ne]; omega
      have hkz : t.keys = [] := HN.out.good.here.keys (by omega)
      have HK0 := Lib.hid hkz
      clear hkz
      have htxt : t.txt = 91 :: (T.txts t.keys t.items 0 ++ [93]) := by rw [htx]; rw [if_neg (by omega)]; rw [if_neg (by omega)]; rw [if_neg (by omega)]; rw [if_pos hk]
      have HX := Lib.hid htxt
      clear htxt
      clear hk htx
      go_enter Tryd.func42, Tryd.ntmps42
      go_upto_region 1 with fail
      change Code.wp _ _ _ _ (w.alloc (.cells #[.int .i64 t.kind, .bool t.tr, .int .i64 t.num, .string t.str, .slice A t.items.length c, .slice A' t.keys.length c'] 35))
      generalize (w.alloc (.cells #[.int .i64 t.kind, .bool t.tr, .int .i64 t.num, .string t.str, .slice A t.items.length c, .slice A' t.keys.length c'] 35)) = W at *
      have HB0 := Lib.hid hB0
      have HBB := Lib.hid hbb
      obtain ⟨a0, a1, a2, a3, a4, a5⟩ : W.cell? ⟨w.heap.size, 0, none⟩ = some (.int .i64 t.kind) ∧ W.cell? ⟨w.heap.size, 1, none⟩ = some (.bool t.tr) ∧ W.cell? ⟨w.heap.size, 2, none⟩ = some (.int .i64 t.num) ∧ W.cell? ⟨w.heap.size, 3, none⟩ = some (.string t.str) ∧ W.cell? ⟨w.heap.size, 4, none⟩ = some (.slice A t.items.length c) ∧ W.cell? ⟨w.heap.size, 5, none⟩ = some (.slice A' t.keys.length c') := ⟨HB0.out.cell 0, HB0.out.cell 1, HB0.out.cell 2, HB0.out.cell 3, HB0.out.cell 4, HB0.out.cell 5⟩
      clear hB0 hbb
      have hsW := HBB.out.size
      clear a0 a1 a2 a3 a4 a5
      obtain ⟨a0, a4⟩ : W.cell? ⟨w.heap.size, 0, none⟩ = some (.int .i64 t.kind) ∧ W.cell? ⟨w.heap.size, 4, none⟩ = some (.slice A t.items.length c) := ⟨HB0.out.cell 0, HB0.out.cell 4⟩
      go_wp2_with fail
      go_loopw [33, 9] (fun x y wr => ∃ (j : Nat) (S : ByteArray), j ≤ t.items.length ∧ x = .int .i64 j ∧ y = .string S ∧ S.data.toList = T.txts t.keys (t.items.take j) 0 ∧ Below W.heap.size W wr) (fun x _ _ => t.items.length - (intOf x).toNat)
      case atStart => exact ⟨0, ⟨#[]⟩, Nat.zero_le _, rfl, rfl, by simp [T.txts], Below.refl _ _⟩
      case round =>
        obtain ⟨j, S, hj, rfl, rfl, hS, hbel⟩ := hrel
        have hpre := txts_len hkeys (t.items.take j) 0 (fun x hx => txt_len x (HN.out.fit.mem (List.mem_of_mem_take hx)))
        have hst := T.sizes_take t.items j
        have hSz : S.size ≤ 64000 := by have h1 : S.size = S.data.toList.length := by simp
                                        have h2 := HN.out.size
                                        rw [h1, hS]; omega
        have HS := Lib.hid hS
        have HBl := Lib.hid hbel
        have HWr := Lib.hid (show Below w.heap.size w wr from HBB.out.trans (hbel.mono hsW))
        have hBr := HB0.out.onto hbel
        have r0 : wr.cell? ⟨w.heap.size, 0, none⟩ = some (.int .i64 t.kind) := hBr.cell 0
        have r4 : wr.cell? ⟨w.heap.size, 4, none⟩ = some (.slice A t.items.length c) := hBr.cell 4
        have r5 : wr.cell? ⟨w.heap.size, 5, none⟩ = some (.slice A' t.keys.length c') := hBr.cell 5
        clear hS hbel hBr a0 a4
        by_cases hlt : j < t.items.length
        · have u1 : decide (j < t.items.length) = true := decide_eq_true hlt
          have u2 : decide ((j : Int) < (t.items.length : Int)) = true := decide_eq_true (by omega)
          have i1 : (j : Int) < (t.items.length : Int) := by omega
          have i2 : (0 : Int) ≤ (j : Int) := by omega
          obtain ⟨bI, oI, x, D, f, D', f', rfl, hbI, hx, h6, hX⟩ := HV.out.at_ hlt
          have hxs := T.sizes_snoc hx
          have hst2 := T.sizes_take t.items (j + 1)
          have HI := Lib.hid (show ∀ w', Below w.heap.size w w' → w'.cell? ⟨bI, oI + j * 6, none⟩ = some (.int .i64 x.kind) ∧ w'.cell? ⟨bI, oI + j * 6 + 1, none⟩ = some (.bool x.tr) ∧ w'.cell? ⟨bI, oI + j * 6 + 2, none⟩ = some (.int .i64 x.num) ∧ w'.cell? ⟨bI, oI + j * 6 + 3, none⟩ = some (.string x.str) ∧ w'.cell? ⟨bI, oI + j * 6 + 4, none⟩ = some (.slice D x.items.length f) ∧ w'.cell? ⟨bI, oI + j * 6 + 5, none⟩ = some (.slice D' x.keys.length f') from fun w' h => h6.keep hbI (.of_below h))
          have HXV := Lib.hid hX
          have HX2 := Lib.hid hx
          clear hX h6 hx
          have HKP := Lib.hid (show keyPart t.keys j = [] from by unfold keyPart; rw [HK0.out]; rfl)
          obtain ⟨e0, e1, e2, e3, e4, e5⟩ := HI.out wr HWr.out
          by_cases hj0 : j = 0
          · have c0 : decide ((0 : Int) < (j : Int)) = false := decide_eq_false (by omega)
            have c1 : decide (0 < j) = false := decide_eq_false (by omega)
            have HCM := Lib.hid (show comma j = [] from by unfold comma; rw [if_pos hj0])
            clear hj0
            have hzl := txt_len x (HN.out.fit.at_ HX2.out)
            have hxle := (HN.out.at_ HX2.out).size
            obtain ⟨Z, hZ⟩ : ∃ Z, mkB x.txt = Z := ⟨_, rfl⟩
            have hZs : Z.size ≤ 64000 := by rw [← hZ]; show x.txt.toArray.size ≤ _; simp; omega
            have HZ := Lib.hid hZ
            clear hZ
            have zs2a : ¬ ((9223372036854775807 : Int) < (S.size : Int) + (Z.size : Int)) := by omega
            have zs2b : ¬ (9223372036854775807 < S.size + Z.size) := by omega
            have zs2c : S.size + Z.size ≤ 9223372036854775807 := by omega
            have zs2d : (S.size : Int) + (Z.size : Int) ≤ (9223372036854775807 : Int) := by omega
            go_wp2_with fail
            refine (ih x D f D' f' (d + 1) _ (by omega) (HN.out.at_ HX2.out) (by omega) (by omega) ((HXV.out.under HWr.out).wide fun b hb => Nat.lt_of_lt_of_le hb HWr.out.size)).mono ?_
            rintro e w9 ⟨rfl, hb9⟩
            rw [HZ.out]
            have HB9 := Lib.hid (HBl.out.trans (hb9.mono HBl.out.size))
            clear hb9
            go_wp2_with fail
            go_roundw
            case rel => exact ⟨j + 1, _, hlt, by go_num, rfl, by rw [txts_take HX2.out, HCM.out, HKP.out]; simp only [dl_app, HS.out, ← HZ.out]; simp [mkB], HB9.out⟩
            case measure => simp [intOf]; omega
          · have c0 : decide ((0 : Int) < (j : Int)) = true := decide_eq_true (by omega)
            have c1 : decide (0 < j) = true := decide_eq_true (by omega)
            have HCM := Lib.hid (show comma j = [44] from by unfold comma; rw [if_neg hj0])
            clear hj0
            have hzl := txt_len x (HN.out.fit.at_ HX2.out)
            have hxle := (HN.out.at_ HX2.out).size
            obtain ⟨Z, hZ⟩ : ∃ Z, mkB x.txt = Z := ⟨_, rfl⟩
            have hZs : Z.size ≤ 64000 := by rw [← hZ]; show x.txt.toArray.size ≤ _; simp; omega
            have HZ := Lib.hid hZ
            clear hZ
            have zs2a : ¬ ((9223372036854775807 : Int) < (S.size : Int) + 1) := by omega
            have zs2b : ¬ (9223372036854775807 < S.size + 1) := by omega
            have zs2c : S.size + 1 ≤ 9223372036854775807 := by omega
            have zs2d : (S.size : Int) + 1 ≤ (9223372036854775807 : Int) := by omega
            have zs3a : ¬ ((9223372036854775807 : Int) < (S.size : Int) + 1 + (Z.size : Int)) := by omega
            have zs3b : ¬ (9223372036854775807 < S.size + 1 + Z.size) := by omega
            have zs3c : S.size + 1 + Z.size ≤ 9223372036854775807 := by omega
            have zs3d : (S.size : Int) + 1 + (Z.size : Int) ≤ (9223372036854775807 : Int) := by omega
            go_wp2_with fail
            refine (ih x D f D' f' (d + 1) _ (by omega) (HN.out.at_ HX2.out) (by omega) (by omega) ((HXV.out.under HWr.out).wide fun b hb => Nat.lt_of_lt_of_le hb HWr.out.size)).mono ?_
            rintro e w9 ⟨rfl, hb9⟩
            rw [HZ.out]
            have HB9 := Lib.hid (HBl.out.trans (hb9.mono HBl.out.size))
            clear hb9
            go_wp2_with fail
            go_roundw
            case rel => exact ⟨j + 1, _, hlt, by go_num, rfl, by rw [txts_take HX2.out, HCM.out, HKP.out]; simp only [dl_app, HS.out, ← HZ.out]; simp [mkB], HB9.out⟩
            case measure => simp [intOf]; omega
        · have u1 : decide (j < t.items.length) = false := decide_eq_false hlt
          have u2 : decide ((j : Int) < (t.items.length : Int)) = false := decide_eq_false (by omega)
          have hfull : t.items.take j = t.items := List.take_of_length_le (by omega)
          have HSF := Lib.hid (show S.data.toList = T.txts t.keys t.items 0 from hfull ▸ HS.out)
          clear hfull
          have zz2a : ¬ ((9223372036854775807 : Int) < 1 + (S.size : Int)) := by omega
          have zz2b : ¬ (9223372036854775807 < 1 + S.size) := by omega
          have zz2c : 1 + S.size ≤ 9223372036854775807 := by omega
          have zz2d : 1 + (S.size : Int) ≤ (9223372036854775807 : Int) := by omega
          have zz3a : ¬ ((9223372036854775807 : Int) < 1 + (S.size : Int) + 1) := by omega
          have zz3b : ¬ (9223372036854775807 < 1 + S.size + 1) := by omega
          have zz3c : 1 + S.size + 1 ≤ 9223372036854775807 := by omega
          have zz3d : 1 + (S.size : Int) + 1 ≤ (9223372036854775807 : Int) := by omega
          go_wp2_with fail
          go_ret
          exact ⟨congrArg (fun q => Ending.returned (.string q)) (mk_of (by rw [HX.out, dl_app, dl_app, HSF.out]; rfl)), HWr.out⟩
    · have k0 : (t.kind == 0) = false := by rw [beq_eq_false_iff_ne]; omega
      have k1 : (t.kind == 1) = false := by rw [beq_eq_false_iff_ne]; omega
      have k2 : (t.kind == 2) = false := by rw [beq_eq_false_iff_ne]; omega
      have k3 : (t.kind == 3) = false := by rw [beq_eq_false_iff_ne]; omega
      have k4 : (t.kind == 4) = false := by rw [beq_eq_false_iff_ne]; omega
      have k5 : (t.kind == 5) = true := by rw [beq_iff_eq]; exact hk
      have hll : t.items.length ≤ t.keys.length := by have := HN.out.good.here.lens hk; omega
      have htxt : t.txt = 123 :: (T.txts t.keys t.items 0 ++ [125]) := by rw [htx]; rw [if_neg (by omega)]; rw [if_neg (by omega)]; rw [if_neg (by omega)]; rw [if_neg (by omega)]; rw [if_pos hk]
      have HX := Lib.hid htxt
      clear htxt
      clear hk htx
      go_enter Tryd.func42, Tryd.ntmps42
      go_upto_region 1 with fail
      change Code.wp _ _ _ _ (w.alloc (.cells #[.int .i64 t.kind, .bool t.tr, .int .i64 t.num, .string t.str, .slice A t.items.length c, .slice A' t.keys.length c'] 35))
      generalize (w.alloc (.cells #[.int .i64 t.kind, .bool t.tr, .int .i64 t.num, .string t.str, .slice A t.items.length c, .slice A' t.keys.length c'] 35)) = W at *
      have HB0 := Lib.hid hB0
      have HBB := Lib.hid hbb
      obtain ⟨a0, a1, a2, a3, a4, a5⟩ : W.cell? ⟨w.heap.size, 0, none⟩ = some (.int .i64 t.kind) ∧ W.cell? ⟨w.heap.size, 1, none⟩ = some (.bool t.tr) ∧ W.cell? ⟨w.heap.size, 2, none⟩ = some (.int .i64 t.num) ∧ W.cell? ⟨w.heap.size, 3, none⟩ = some (.string t.str) ∧ W.cell? ⟨w.heap.size, 4, none⟩ = some (.slice A t.items.length c) ∧ W.cell? ⟨w.heap.size, 5, none⟩ = some (.slice A' t.keys.length c') := ⟨HB0.out.cell 0, HB0.out.cell 1, HB0.out.cell 2, HB0.out.cell 3, HB0.out.cell 4, HB0.out.cell 5⟩
      clear hB0 hbb
      have hsW := HBB.out.size
      clear a0 a1 a2 a3 a4 a5
      obtain ⟨a0, a4⟩ : W.cell? ⟨w.heap.size, 0, none⟩ = some (.int .i64 t.kind) ∧ W.cell? ⟨w.heap.size, 4, none⟩ = some (.slice A t.items.length c) := ⟨HB0.out.cell 0, HB0.out.cell 4⟩
      go_wp2_with fail
      go_loopw [33, 9] (fun x y wr => ∃ (j : Nat) (S : ByteArray), j ≤ t.items.length ∧ x = .int .i64 j ∧ y = .string S ∧ S.data.toList = T.txts t.keys (t.items.take j) 0 ∧ Below W.heap.size W wr) (fun x _ _ => t.items.length - (intOf x).toNat)
      case atStart => exact ⟨0, ⟨#[]⟩, Nat.zero_le _, rfl, rfl, by simp [T.txts], Below.refl _ _⟩
      case round =>
        obtain ⟨j, S, hj, rfl, rfl, hS, hbel⟩ := hrel
        have hpre := txts_len hkeys (t.items.take j) 0 (fun x hx => txt_len x (HN.out.fit.mem (List.mem_of_mem_take hx)))
        have hst := T.sizes_take t.items j
        have hSz : S.size ≤ 64000 := by have h1 : S.size = S.data.toList.length := by simp
                                        have h2 := HN.out.size
                                        rw [h1, hS]; omega
        have HS := Lib.hid hS
        have HBl := Lib.hid hbel
        have HWr := Lib.hid (show Below w.heap.size w wr from HBB.out.trans (hbel.mono hsW))
        have hBr := HB0.out.onto hbel
        have r0 : wr.cell? ⟨w.heap.size, 0, none⟩ = some (.int .i64 t.kind) := hBr.cell 0
        have r4 : wr.cell? ⟨w.heap.size, 4, none⟩ = some (.slice A t.items.length c) := hBr.cell 4
        have r5 : wr.cell? ⟨w.heap.size, 5, none⟩ = some (.slice A' t.keys.length c') := hBr.cell 5
        clear hS hbel hBr a0 a4
        by_cases hlt : j < t.items.length
        · have u1 : decide (j < t.items.length) = true := decide_eq_true hlt
          have u2 : decide ((j : Int) < (t.items.length : Int)) = true := decide_eq_true (by omega)
          have i1 : (j : Int) < (t.items.length : Int) := by omega
          have i2 : (0 : Int) ≤ (j : Int) := by omega
          obtain ⟨bI, oI, x, D, f, D', f', rfl, hbI, hx, h6, hX⟩ := HV.out.at_ hlt
          have hxs := T.sizes_snoc hx
          have hst2 := T.sizes_take t.items (j + 1)
          have HI := Lib.hid (show ∀ w', Below w.heap.size w w' → w'.cell? ⟨bI, oI + j * 6, none⟩ = some (.int .i64 x.kind) ∧ w'.cell? ⟨bI, oI + j * 6 + 1, none⟩ = some (.bool x.tr) ∧ w'.cell? ⟨bI, oI + j * 6 + 2, none⟩ = some (.int .i64 x.num) ∧ w'.cell? ⟨bI, oI + j * 6 + 3, none⟩ = some (.string x.str) ∧ w'.cell? ⟨bI, oI + j * 6 + 4, none⟩ = some (.slice D x.items.length f) ∧ w'.cell? ⟨bI, oI + j * 6 + 5, none⟩ = some (.slice D' x.keys.length f') from fun w' h => h6.keep hbI (.of_below h))
          have HXV := Lib.hid hX
          have HX2 := Lib.hid hx
          clear hX h6 hx
          obtain ⟨q, hq⟩ : ∃ q, t.keys[j]? = some q := ⟨_, List.getElem?_eq_getElem (by omega)⟩
          have hq60 := hkeys q (List.mem_of_getElem? hq)
          have HKP := Lib.hid (show keyPart t.keys j = Q.quo q.data.toList ++ [58] from by unfold keyPart; rw [hq]; show Q.quo q.toList ++ [58] = _; rw [ByteArray.toList_eq])
          obtain ⟨bK, oK, rfl, hbK, hcK⟩ := HV.out.keys (by intro e; rw [e] at hq; simp at hq)
          have ek : wr.cell? ⟨bK, oK + j, none⟩ = some (.string q) := (HWr.out.cell (p := ⟨bK, oK + j, none⟩) hbK).trans (hcK j q hq)
          have v3 : (j : Int) < (t.keys.length : Int) := by omega
          have hql := Q.quo_len q.data.toList
          have hqs : q.data.toList.length = q.size := by simp
          clear hq hcK
          by_cases hj0 : j = 0
          · have c0 : decide ((0 : Int) < (j : Int)) = false := decide_eq_false (by omega)
            have c1 : decide (0 < j) = false := decide_eq_false (by omega)
            have HCM := Lib.hid (show comma j = [] from by unfold comma; rw [if_pos hj0])
            clear hj0
            have hzl := txt_len x (HN.out.fit.at_ HX2.out)
            have hxle := (HN.out.at_ HX2.out).size
            obtain ⟨Z, hZ⟩ : ∃ Z, mkB x.txt = Z := ⟨_, rfl⟩
            have hZs : Z.size ≤ 64000 := by rw [← hZ]; show x.txt.toArray.size ≤ _; simp; omega
            have HZ := Lib.hid hZ
            clear hZ
            obtain ⟨KQ, hKQ⟩ : ∃ KQ, mkB (Q.quo q.data.toList) = KQ := ⟨_, rfl⟩
            have hKs : KQ.size ≤ 400 := by rw [← hKQ]; show (Q.quo q.data.toList).toArray.size ≤ _; simp; omega
            have HKQ := Lib.hid hKQ
            clear hKQ
            have zs2a : ¬ ((9223372036854775807 : Int) < (S.size : Int) + (KQ.size : Int)) := by omega
            have zs2b : ¬ (9223372036854775807 < S.size + KQ.size) := by omega
            have zs2c : S.size + KQ.size ≤ 9223372036854775807 := by omega
            have zs2d : (S.size : Int) + (KQ.size : Int) ≤ (9223372036854775807 : Int) := by omega
            have zs3a : ¬ ((9223372036854775807 : Int) < (S.size : Int) + (KQ.size : Int) + 1) := by omega
            have zs3b : ¬ (9223372036854775807 < S.size + KQ.size + 1) := by omega
            have zs3c : S.size + KQ.size + 1 ≤ 9223372036854775807 := by omega
            have zs3d : (S.size : Int) + (KQ.size : Int) + 1 ≤ (9223372036854775807 : Int) := by omega
            have zs4a : ¬ ((9223372036854775807 : Int) < (S.size : Int) + (KQ.size : Int) + 1 + (Z.size : Int)) := by omega
            have zs4b : ¬ (9223372036854775807 < S.size + KQ.size + 1 + Z.size) := by omega
            have zs4c : S.size + KQ.size + 1 + Z.size ≤ 9223372036854775807 := by omega
            have zs4d : (S.size : Int) + (KQ.size : Int) + 1 + (Z.size : Int) ≤ (9223372036854775807 : Int) := by omega
            go_wp2_with fail
            refine (rquote_any q _ (by omega)).mono ?_
            rintro e w7 ⟨rfl, hb7⟩
            rw [HKQ.out]
            have HW7 := Lib.hid (HWr.out.trans (hb7.mono HWr.out.size))
            have HB7 := Lib.hid (HBl.out.trans (hb7.mono HBl.out.size))
            have hB7 := HB0.out.onto HB7.out
            have s4 : w7.cell? ⟨w.heap.size, 4, none⟩ = some (.slice (some ⟨bI, oI, none⟩) t.items.length c) := hB7.cell 4
            obtain ⟨e0, e1, e2, e3, e4, e5⟩ := HI.out w7 HW7.out
            clear hb7 ek hB7 r0 r4 r5
            go_wp2_with fail
            refine (ih x D f D' f' (d + 1) _ (by omega) (HN.out.at_ HX2.out) (by omega) (by omega) ((HXV.out.under HW7.out).wide fun b hb => Nat.lt_of_lt_of_le hb HW7.out.size)).mono ?_
            rintro e w9 ⟨rfl, hb9⟩
            rw [HZ.out]
            have HB9 := Lib.hid (HB7.out.trans (hb9.mono HB7.out.size))
            clear hb9
            go_wp2_with fail
            go_roundw
            case rel => exact ⟨j + 1, _, hlt, by go_num, rfl, by rw [txts_take HX2.out, HCM.out, HKP.out]; simp only [dl_app, HS.out, ← HZ.out, ← HKQ.out]; simp [mkB], HB9.out⟩
            case measure => simp [intOf]; omega
          · have c0 : decide ((0 : Int) < (j : Int)) = true := decide_eq_true (by omega)
            have c1 : decide (0 < j) = true := decide_eq_true (by omega)
            have HCM := Lib.hid (show comma j = [44] from by unfold comma; rw [if_neg hj0])
            clear hj0
            have hzl := txt_len x (HN.out.fit.at_ HX2.out)
            have hxle := (HN.out.at_ HX2.out).size
            obtain ⟨Z, hZ⟩ : ∃ Z, mkB x.txt = Z := ⟨_, rfl⟩
            have hZs : Z.size ≤ 64000 := by rw [← hZ]; show x.txt.toArray.size ≤ _; simp; omega
            have HZ := Lib.hid hZ
            clear hZ
            obtain ⟨KQ, hKQ⟩ : ∃ KQ, mkB (Q.quo q.data.toList) = KQ := ⟨_, rfl⟩
            have hKs : KQ.size ≤ 400 := by rw [← hKQ]; show (Q.quo q.data.toList).toArray.size ≤ _; simp; omega
            have HKQ := Lib.hid hKQ
            clear hKQ
            have zs2a : ¬ ((9223372036854775807 : Int) < (S.size : Int) + 1) := by omega
            have zs2b : ¬ (9223372036854775807 < S.size + 1) := by omega
            have zs2c : S.size + 1 ≤ 9223372036854775807 := by omega
            have zs2d : (S.size : Int) + 1 ≤ (9223372036854775807 : Int) := by omega
            have zs3a : ¬ ((9223372036854775807 : Int) < (S.size : Int) + 1 + (KQ.size : Int)) := by omega
            have zs3b : ¬ (9223372036854775807 < S.size + 1 + KQ.size) := by omega
            have zs3c : S.size + 1 + KQ.size ≤ 9223372036854775807 := by omega
            have zs3d : (S.size : Int) + 1 + (KQ.size : Int) ≤ (9223372036854775807 : Int) := by omega
            have zs4a : ¬ ((9223372036854775807 : Int) < (S.size : Int) + 1 + (KQ.size : Int) + 1) := by omega
            have zs4b : ¬ (9223372036854775807 < S.size + 1 + KQ.size + 1) := by omega
            have zs4c : S.size + 1 + KQ.size + 1 ≤ 9223372036854775807 := by omega
            have zs4d : (S.size : Int) + 1 + (KQ.size : Int) + 1 ≤ (9223372036854775807 : Int) := by omega
            have zs5a : ¬ ((9223372036854775807 : Int) < (S.size : Int) + 1 + (KQ.size : Int) + 1 + (Z.size : Int)) := by omega
            have zs5b : ¬ (9223372036854775807 < S.size + 1 + KQ.size + 1 + Z.size) := by omega
            have zs5c : S.size + 1 + KQ.size + 1 + Z.size ≤ 9223372036854775807 := by omega
            have zs5d : (S.size : Int) + 1 + (KQ.size : Int) + 1 + (Z.size : Int) ≤ (9223372036854775807 : Int) := by omega
            go_wp2_with fail
            refine (rquote_any q _ (by omega)).mono ?_
            rintro e w7 ⟨rfl, hb7⟩
            rw [HKQ.out]
            have HW7 := Lib.hid (HWr.out.trans (hb7.mono HWr.out.size))
            have HB7 := Lib.hid (HBl.out.trans (hb7.mono HBl.out.size))
            have hB7 := HB0.out.onto HB7.out
            have s4 : w7.cell? ⟨w.heap.size, 4, none⟩ = some (.slice (some ⟨bI, oI, none⟩) t.items.length c) := hB7.cell 4
            obtain ⟨e0, e1, e2, e3, e4, e5⟩ := HI.out w7 HW7.out
            clear hb7 ek hB7 r0 r4 r5
            go_wp2_with fail
            refine (ih x D f D' f' (d + 1) _ (by omega) (HN.out.at_ HX2.out) (by omega) (by omega) ((HXV.out.under HW7.out).wide fun b hb => Nat.lt_of_lt_of_le hb HW7.out.size)).mono ?_
            rintro e w9 ⟨rfl, hb9⟩
            rw [HZ.out]
            have HB9 := Lib.hid (HB7.out.trans (hb9.mono HB7.out.size))
            clear hb9
            go_wp2_with fail
            go_roundw
            case rel => exact ⟨j + 1, _, hlt, by go_num, rfl, by rw [txts_take HX2.out, HCM.out, HKP.out]; simp only [dl_app, HS.out, ← HZ.out, ← HKQ.out]; simp [mkB], HB9.out⟩
            case measure => simp [intOf]; omega
        · have u1 : decide (j < t.items.length) = false := decide_eq_false hlt
          have u2 : decide ((j : Int) < (t.items.length : Int)) = false := decide_eq_false (by omega)
          have hfull : t.items.take j = t.items := List.take_of_length_le (by omega)
          have HSF := Lib.hid (show S.data.toList = T.txts t.keys t.items 0 from hfull ▸ HS.out)
          clear hfull
          have zz2a : ¬ ((9223372036854775807 : Int) < 1 + (S.size : Int)) := by omega
          have zz2b : ¬ (9223372036854775807 < 1 + S.size) := by omega
          have zz2c : 1 + S.size ≤ 9223372036854775807 := by omega
          have zz2d : 1 + (S.size : Int) ≤ (9223372036854775807 : Int) := by omega
          have zz3a : ¬ ((9223372036854775807 : Int) < 1 + (S.size : Int) + 1) := by omega
          have zz3b : ¬ (9223372036854775807 < 1 + S.size + 1) := by omega
          have zz3c : 1 + S.size + 1 ≤ 9223372036854775807 := by omega
          have zz3d : 1 + (S.size : Int) + 1 ≤ (9223372036854775807 : Int) := by omega
          go_wp2_with fail
          go_ret
          exact ⟨congrArg (fun q => Ending.returned (.string q)) (mk_of (by rw [HX.out, dl_app, dl_app, HSF.out]; rfl)), HWr.out⟩
end Go.Proofs.YtgiapdmoiaiofaaDoor
