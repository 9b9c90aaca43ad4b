/- The writer: any value: contract. -/
import Derived.Test.YtgiapdmoiaiofaaDoorWrF
import Derived.Outline
namespace Go.Proofs.YtgiapdmoiaiofaaDoor
open Go.RowKit
set_option linter.unusedVariables false

set_option maxRecDepth 100000 in
set_option maxHeartbeats 8000000 in
theorem value_at (n : Nat) : ValueAt n := by
  induction n with
  | zero => intro B b l d t A c A' c' w h; have := t.size_pos; omega
  | succ n ih =>
    intro B b l d t A c A' c' w hsz hn hd0 hd hlen htab hv hw hBw
    have hg := hn.good.here
    have hf := hn.fit.here
    have hbl := hw.lt
    have hB0 : Blk (w.alloc (.cells #[.int .i64 t.kind, .bool t.tr, .int .i64 t.num, .string t.str, .slice A t.items.length c, .slice A' t.keys.length c'] 29)) w.heap.size 29 #[.int .i64 t.kind, .bool t.tr, .int .i64 t.num, .string t.str, .slice A t.items.length c, .slice A' t.keys.length c'] := Blk.new w _ _
    have hbb : Below w.heap.size w (w.alloc (.cells #[.int .i64 t.kind, .bool t.tr, .int .i64 t.num, .string t.str, .slice A t.items.length c, .slice A' t.keys.length c'] 29)) := (Below.refl _ _).alloc (Nat.le_refl _) _
    have HW := Lib.hid (hw.on hbb)
    have HK := Lib.hid (Kept.of (b := b) hbb hBw)
    have HN := Lib.hid hn
    have HT := Lib.hid (htab.on (hbb.mono hBw))
    have HV := Lib.hid (hv.under (hbb.mono hBw))
    have hs1 := Nat.le_trans hBw hbb.size
    have htx := T.txt_eq t
    have hk0 := hg.k0
    have hk5 := hg.k5
    have hn0 := hf.n0
    have hn1 := hf.n1
    have hs60 := hf.str
    clear hn htab hv hw hg hf
    rcases (by omega : t.kind = 0 ∨ t.kind = 1 ∨ t.kind = 2 ∨ t.kind = 3 ∨ t.kind = 4 ∨ t.kind = 5) with hk | hk | hk | hk | hk | hk
    · have k1 : (t.kind == 1) = false := by rw [beq_eq_false_iff_ne]; omega
      have k2 : (t.kind == 2) = false := by rw [beq_eq_false_iff_ne]; omega
      have k3 : (t.kind == 3) = false := by rw [beq_eq_false_iff_ne]; omega
      have k4 : (t.kind == 4) = false := by rw [beq_eq_false_iff_ne]; omega
      have k5 : (t.kind == 5) = false := by rw [beq_eq_false_iff_ne]; omega
      have htxt : t.txt = [110, 117, 108, 108] := by rw [htx]; rw [if_neg (by omega)]; rw [if_neg (by omega)]; rw [if_neg (by omega)]; rw [if_neg (by omega)]; rw [if_neg (by omega)]
      have HX := Lib.hid htxt
      clear htxt
      clear hk htx
      go_enter Tryd.func22, Tryd.ntmps22
      go_upto_region 1 with fail
      change Code.wp _ _ _ _ (w.alloc (.cells #[.int .i64 t.kind, .bool t.tr, .int .i64 t.num, .string t.str, .slice A t.items.length c, .slice A' t.keys.length c'] 29))
      generalize (w.alloc (.cells #[.int .i64 t.kind, .bool t.tr, .int .i64 t.num, .string t.str, .slice A t.items.length c, .slice A' t.keys.length c'] 29)) = W at *
      have HB0 := Lib.hid hB0
      generalize w.heap.size = g at *
      obtain ⟨a0, a1, a2, a3, a4, a5⟩ : W.cell? ⟨g, 0, none⟩ = some (.int .i64 t.kind) ∧ W.cell? ⟨g, 1, none⟩ = some (.bool t.tr) ∧ W.cell? ⟨g, 2, none⟩ = some (.int .i64 t.num) ∧ W.cell? ⟨g, 3, none⟩ = some (.string t.str) ∧ W.cell? ⟨g, 4, none⟩ = some (.slice A t.items.length c) ∧ W.cell? ⟨g, 5, none⟩ = some (.slice A' t.keys.length c') := ⟨HB0.out.cell 0, HB0.out.cell 1, HB0.out.cell 2, HB0.out.cell 3, HB0.out.cell 4, HB0.out.cell 5⟩
      clear hB0 hbb
      go_wp2_with fail
      refine (wstr_any B b l _ _ _ _ ⟨#[110, 117, 108, 108]⟩ _ HW.out (by show l.length + 4 ≤ 900000; omega) hs1).mono ?_
      rintro e w9 ⟨rfl, h9, k9⟩
      have H9 := Lib.hid h9
      have K9 := Lib.hid (HK.out.trans k9)
      clear h9 k9
      go_wp2_with fail
      go_end0
      exact ⟨rfl, by rw [HX.out]; exact H9.out, K9.out⟩
    · have k1 : (t.kind == 1) = true := by rw [beq_iff_eq]; exact hk
      have htxt : t.txt = if t.tr then [116, 114, 117, 101] else [102, 97, 108, 115, 101] := by rw [htx]; rw [if_pos hk]
      have HX := Lib.hid htxt
      clear htxt
      clear hk htx
      go_enter Tryd.func22, Tryd.ntmps22
      go_upto_region 1 with fail
      change Code.wp _ _ _ _ (w.alloc (.cells #[.int .i64 t.kind, .bool t.tr, .int .i64 t.num, .string t.str, .slice A t.items.length c, .slice A' t.keys.length c'] 29))
      generalize (w.alloc (.cells #[.int .i64 t.kind, .bool t.tr, .int .i64 t.num, .string t.str, .slice A t.items.length c, .slice A' t.keys.length c'] 29)) = W at *
      have HB0 := Lib.hid hB0
      generalize w.heap.size = g at *
      obtain ⟨a0, a1, a2, a3, a4, a5⟩ : W.cell? ⟨g, 0, none⟩ = some (.int .i64 t.kind) ∧ W.cell? ⟨g, 1, none⟩ = some (.bool t.tr) ∧ W.cell? ⟨g, 2, none⟩ = some (.int .i64 t.num) ∧ W.cell? ⟨g, 3, none⟩ = some (.string t.str) ∧ W.cell? ⟨g, 4, none⟩ = some (.slice A t.items.length c) ∧ W.cell? ⟨g, 5, none⟩ = some (.slice A' t.keys.length c') := ⟨HB0.out.cell 0, HB0.out.cell 1, HB0.out.cell 2, HB0.out.cell 3, HB0.out.cell 4, HB0.out.cell 5⟩
      clear hB0 hbb
      go_wp2_with fail
      refine (truth_any7 B b l _ _ _ _ t.tr _ HW.out (by omega) hs1).mono ?_
      rintro e w9 ⟨rfl, h9, k9⟩
      have H9 := Lib.hid h9
      have K9 := Lib.hid (HK.out.trans k9)
      clear h9 k9
      go_wp2_with fail
      go_end0
      exact ⟨rfl, by rw [HX.out]; exact H9.out, K9.out⟩
    · have k1 : (t.kind == 1) = false := by rw [beq_eq_false_iff_ne]; omega
      have k2 : (t.kind == 2) = true := by rw [beq_iff_eq]; exact hk
      have htxt : t.txt = Lib.itoa t.num := by rw [htx]; rw [if_neg (by omega)]; rw [if_pos hk]
      have HX := Lib.hid htxt
      clear htxt
      clear hk htx
      go_enter Tryd.func22, Tryd.ntmps22
      go_upto_region 1 with fail
      change Code.wp _ _ _ _ (w.alloc (.cells #[.int .i64 t.kind, .bool t.tr, .int .i64 t.num, .string t.str, .slice A t.items.length c, .slice A' t.keys.length c'] 29))
      generalize (w.alloc (.cells #[.int .i64 t.kind, .bool t.tr, .int .i64 t.num, .string t.str, .slice A t.items.length c, .slice A' t.keys.length c'] 29)) = W at *
      have HB0 := Lib.hid hB0
      generalize w.heap.size = g at *
      obtain ⟨a0, a1, a2, a3, a4, a5⟩ : W.cell? ⟨g, 0, none⟩ = some (.int .i64 t.kind) ∧ W.cell? ⟨g, 1, none⟩ = some (.bool t.tr) ∧ W.cell? ⟨g, 2, none⟩ = some (.int .i64 t.num) ∧ W.cell? ⟨g, 3, none⟩ = some (.string t.str) ∧ W.cell? ⟨g, 4, none⟩ = some (.slice A t.items.length c) ∧ W.cell? ⟨g, 5, none⟩ = some (.slice A' t.keys.length c') := ⟨HB0.out.cell 0, HB0.out.cell 1, HB0.out.cell 2, HB0.out.cell 3, HB0.out.cell 4, HB0.out.cell 5⟩
      clear hB0 hbb
      go_wp2_with fail
      refine wp_region_held_drew (S := fun w' => w'.cell? ⟨g, 2, none⟩ = some (.int .i64 t.num)) (by kernel_rfl) ?_ (fun hHeld => ?_)
      · exact a2
      refine wpAnyH_take (i := 0) (v := ?_) rfl (by kernel_rfl) (by kernel_rfl) (by kernel_rfl) (fun _ _ _ h => h) (Or.inl ⟨by rfl, ?_⟩) (by assumption) ?_
      rotate_left
      · intro wq hSw
        try dsimp only at hSw
        go_simp
        try (with_reducible rfl)
      try simp only [Act.put, List.getElem_toArray, List.getElem_cons_zero, List.setIfInBounds_toArray, List.set_cons_zero, List.set_cons_succ]
      refine wpAnyH_take (i := 1) (v := ?_) rfl (by kernel_rfl) (by kernel_rfl) (by kernel_rfl) (fun _ _ _ h => h) (Or.inl ⟨by rfl, ?_⟩) (by assumption) ?_
      rotate_left
      · intro wq hSw
        try dsimp only at hSw
        go_simp
        try (with_reducible rfl)
      try simp only [Act.put, List.getElem_toArray, List.getElem_cons_succ, List.getElem_cons_zero, List.setIfInBounds_toArray, List.set_cons_zero, List.set_cons_succ]
      refine wpAnyH_take (i := 2) (v := ?_) rfl (by kernel_rfl) (by kernel_rfl) (by kernel_rfl) (fun _ _ _ h => h) (Or.inl ⟨by rfl, ?_⟩) (by assumption) ?_
      rotate_left
      · intro wq hSw
        try dsimp only at hSw
        go_simp
        try (with_reducible rfl)
      try simp only [Act.put, List.getElem_toArray, List.getElem_cons_succ, List.getElem_cons_zero, List.setIfInBounds_toArray, List.set_cons_zero, List.set_cons_succ]
      refine wpAnyH_take (i := 3) (v := ?_) rfl (by kernel_rfl) (by kernel_rfl) (by kernel_rfl) (fun _ _ _ h => h) (Or.inl ⟨by rfl, ?_⟩) (by assumption) ?_
      rotate_left
      · intro wq hSw
        try dsimp only at hSw
        go_simp
        try (with_reducible rfl)
      try simp only [Act.put, List.getElem_toArray, List.getElem_cons_succ, List.getElem_cons_zero, List.setIfInBounds_toArray, List.set_cons_zero, List.set_cons_succ]
      refine wpAnyH_take (i := 4) (v := ?_) rfl (by kernel_rfl) (by kernel_rfl) (by kernel_rfl) (fun _ _ _ h => h) (Or.inl ⟨by rfl, ?_⟩) (by assumption) ?_
      rotate_left
      · intro wq hSw
        try dsimp only at hSw
        go_simp
        try (with_reducible rfl)
      try simp only [Act.put, List.getElem_toArray, List.getElem_cons_succ, List.getElem_cons_zero, List.setIfInBounds_toArray, List.set_cons_zero, List.set_cons_succ]
      refine wpAnyH_ready (rs := [5]) (by kernel_rfl) (by simp) ?_
      refine AllReadyH.cons rfl (fun K0 hK => ?_) ?_
      rotate_left
      · exact AllReadyH.nil
      go_simp
      refine (wtext_any t.num _ hn0 hn1 (HT.out.on (Below.refl B W).drew).2).mono ?_
      rintro e w2 ⟨rfl, hb2⟩
      have hb3 : Below W.heap.size W w2 := (Below.refl W.heap.size W).drew.trans hb2
      have HW2 := Lib.hid (HW.out.on hb3)
      have HK2 := Lib.hid (HK.out.trans (Kept.of (b := b) hb3 hs1))
      have hs2 := Nat.le_trans hs1 hb3.size
      have q2 : w2.cell? ⟨g, 2, none⟩ = some (.int .i64 t.num) := (HB0.out.onto hb3).cell 2
      have hnl := De.itoa_len (n := t.num) ⟨hn0, hn1⟩
      have HB2 := Lib.hid (HB0.out.onto hb3)
      have hgb : g ≠ b := by omega
      clear hb2 hb3
      go_wp2_with fail
      refine hK.out _ _ ?_ (fun hHeld => ?_)
      · exact q2
      clear hK K0
      try simp only [Act.put, List.getElem_toArray, List.getElem_cons_succ, List.getElem_cons_zero, List.setIfInBounds_toArray, List.set_cons_zero, List.set_cons_succ]
      refine wpAnyH_ready (rs := [6]) (by kernel_rfl) (by simp) ?_
      refine AllReadyH.cons rfl (fun K0 hK => ?_) ?_
      rotate_left
      · exact AllReadyH.nil
      go_simp
      refine (wstr_any B b l _ _ _ _ ⟨(Lib.itoa t.num).toArray⟩ _ HW2.out (by show l.length + (Lib.itoa t.num).toArray.size ≤ 900000; simp; omega) hs2).mono ?_
      rintro e w9 ⟨rfl, h9, k9⟩
      have H9 := Lib.hid (show Wr B b (l ++ Lib.itoa t.num) _ _ _ _ w9 from h9)
      have K9 := Lib.hid (HK2.out.trans k9)
      have q9 : w9.cell? ⟨g, 2, none⟩ = some (.int .i64 t.num) := (k9.blk (show Blk w2 g 29 #[.int .i64 t.kind, .bool t.tr, .int .i64 t.num, .string t.str, .slice A t.items.length c, .slice A' t.keys.length c'] from HB2.out) hgb (by decide)).cell 2
      clear h9 k9
      go_wp2_with fail
      refine hK.out _ _ ?_ (fun hHeld => ?_)
      · exact q9
      clear hK K0
      try simp only [Act.put, List.getElem_toArray, List.getElem_cons_succ, List.getElem_cons_zero, List.setIfInBounds_toArray, List.set_cons_zero, List.set_cons_succ]
      refine wpAnyH_done (by kernel_rfl) ?_ _
      go_wp2_with fail
      go_end0
      exact ⟨rfl, by rw [HX.out]; exact H9.out, K9.out⟩
    · have k1 : (t.kind == 1) = false := by rw [beq_eq_false_iff_ne]; omega
      have k2 : (t.kind == 2) = false := by rw [beq_eq_false_iff_ne]; omega
      have k3 : (t.kind == 3) = true := by rw [beq_iff_eq]; exact hk
      have htxt : t.txt = Q.quo t.str.data.toList := by rw [htx]; rw [if_neg (by omega)]; rw [if_neg (by omega)]; rw [if_pos hk, ByteArray.toList_eq]
      have HX := Lib.hid htxt
      clear htxt
      clear hk htx
      go_enter Tryd.func22, Tryd.ntmps22
      go_upto_region 1 with fail
      change Code.wp _ _ _ _ (w.alloc (.cells #[.int .i64 t.kind, .bool t.tr, .int .i64 t.num, .string t.str, .slice A t.items.length c, .slice A' t.keys.length c'] 29))
      generalize (w.alloc (.cells #[.int .i64 t.kind, .bool t.tr, .int .i64 t.num, .string t.str, .slice A t.items.length c, .slice A' t.keys.length c'] 29)) = W at *
      have HB0 := Lib.hid hB0
      generalize w.heap.size = g at *
      obtain ⟨a0, a1, a2, a3, a4, a5⟩ : W.cell? ⟨g, 0, none⟩ = some (.int .i64 t.kind) ∧ W.cell? ⟨g, 1, none⟩ = some (.bool t.tr) ∧ W.cell? ⟨g, 2, none⟩ = some (.int .i64 t.num) ∧ W.cell? ⟨g, 3, none⟩ = some (.string t.str) ∧ W.cell? ⟨g, 4, none⟩ = some (.slice A t.items.length c) ∧ W.cell? ⟨g, 5, none⟩ = some (.slice A' t.keys.length c') := ⟨HB0.out.cell 0, HB0.out.cell 1, HB0.out.cell 2, HB0.out.cell 3, HB0.out.cell 4, HB0.out.cell 5⟩
      clear hB0 hbb
      go_wp2_with fail
      refine (quote_any7 B b l _ _ _ _ t.str _ HW.out (by omega) (by omega) hs1).mono ?_
      rintro e w9 ⟨rfl, h9, k9⟩
      have H9 := Lib.hid h9
      have K9 := Lib.hid (HK.out.trans k9)
      clear h9 k9
      go_wp2_with fail
      go_end0
      exact ⟨rfl, by rw [HX.out]; exact H9.out, K9.out⟩
    · have k1 : (t.kind == 1) = false := by rw [beq_eq_false_iff_ne]; omega
      have k2 : (t.kind == 2) = false := by rw [beq_eq_false_iff_ne]; omega
      have k3 : (t.kind == 3) = false := by rw [beq_eq_false_iff_ne]; omega
      have k4 : (t.kind == 4) = true := by rw [beq_iff_eq]; exact hk
      have htxt : t.txt = 91 :: (T.txts t.keys t.items 0 ++ [93]) := by rw [htx]; rw [if_neg (by omega)]; rw [if_neg (by omega)]; rw [if_neg (by omega)]; rw [if_pos hk]
      have HX := Lib.hid htxt
      clear htxt
      clear hk htx
      go_enter Tryd.func22, Tryd.ntmps22
      go_upto_region 1 with fail
      change Code.wp _ _ _ _ (w.alloc (.cells #[.int .i64 t.kind, .bool t.tr, .int .i64 t.num, .string t.str, .slice A t.items.length c, .slice A' t.keys.length c'] 29))
      generalize (w.alloc (.cells #[.int .i64 t.kind, .bool t.tr, .int .i64 t.num, .string t.str, .slice A t.items.length c, .slice A' t.keys.length c'] 29)) = W at *
      have HB0 := Lib.hid hB0
      generalize w.heap.size = g at *
      obtain ⟨a0, a1, a2, a3, a4, a5⟩ : W.cell? ⟨g, 0, none⟩ = some (.int .i64 t.kind) ∧ W.cell? ⟨g, 1, none⟩ = some (.bool t.tr) ∧ W.cell? ⟨g, 2, none⟩ = some (.int .i64 t.num) ∧ W.cell? ⟨g, 3, none⟩ = some (.string t.str) ∧ W.cell? ⟨g, 4, none⟩ = some (.slice A t.items.length c) ∧ W.cell? ⟨g, 5, none⟩ = some (.slice A' t.keys.length c') := ⟨HB0.out.cell 0, HB0.out.cell 1, HB0.out.cell 2, HB0.out.cell 3, HB0.out.cell 4, HB0.out.cell 5⟩
      clear hB0 hbb
      go_wp2_with fail
      refine (things_at n ih B b l 91 93 d t A c A' c' _ hsz HN.out hd0 hd hlen HT.out HV.out HW.out hs1).mono ?_
      rintro e w9 ⟨rfl, h9, k9⟩
      have H9 := Lib.hid h9
      have K9 := Lib.hid (HK.out.trans k9)
      clear h9 k9
      go_wp2_with fail
      go_end0
      exact ⟨rfl, by rw [HX.out]; exact H9.out, K9.out⟩
    · have k1 : (t.kind == 1) = false := by rw [beq_eq_false_iff_ne]; omega
      have k2 : (t.kind == 2) = false := by rw [beq_eq_false_iff_ne]; omega
      have k3 : (t.kind == 3) = false := by rw [beq_eq_false_iff_ne]; omega
      have k4 : (t.kind == 4) = false := by rw [beq_eq_false_iff_ne]; omega
      have k5 : (t.kind == 5) = true := by rw [beq_iff_eq]; exact hk
      have htxt : t.txt = 123 :: (T.txts t.keys t.items 0 ++ [125]) := by rw [htx]; rw [if_neg (by omega)]; rw [if_neg (by omega)]; rw [if_neg (by omega)]; rw [if_neg (by omega)]; rw [if_pos hk]
      have HX := Lib.hid htxt
      clear htxt
      clear hk htx
      go_enter Tryd.func22, Tryd.ntmps22
      go_upto_region 1 with fail
      change Code.wp _ _ _ _ (w.alloc (.cells #[.int .i64 t.kind, .bool t.tr, .int .i64 t.num, .string t.str, .slice A t.items.length c, .slice A' t.keys.length c'] 29))
      generalize (w.alloc (.cells #[.int .i64 t.kind, .bool t.tr, .int .i64 t.num, .string t.str, .slice A t.items.length c, .slice A' t.keys.length c'] 29)) = W at *
      have HB0 := Lib.hid hB0
      generalize w.heap.size = g at *
      obtain ⟨a0, a1, a2, a3, a4, a5⟩ : W.cell? ⟨g, 0, none⟩ = some (.int .i64 t.kind) ∧ W.cell? ⟨g, 1, none⟩ = some (.bool t.tr) ∧ W.cell? ⟨g, 2, none⟩ = some (.int .i64 t.num) ∧ W.cell? ⟨g, 3, none⟩ = some (.string t.str) ∧ W.cell? ⟨g, 4, none⟩ = some (.slice A t.items.length c) ∧ W.cell? ⟨g, 5, none⟩ = some (.slice A' t.keys.length c') := ⟨HB0.out.cell 0, HB0.out.cell 1, HB0.out.cell 2, HB0.out.cell 3, HB0.out.cell 4, HB0.out.cell 5⟩
      clear hB0 hbb
      go_wp2_with fail
      refine (things_at n ih B b l 123 125 d t A c A' c' _ hsz HN.out hd0 hd hlen HT.out HV.out HW.out hs1).mono ?_
      rintro e w9 ⟨rfl, h9, k9⟩
      have H9 := Lib.hid h9
      have K9 := Lib.hid (HK.out.trans k9)
      clear h9 k9
      go_wp2_with fail
      go_end0
      exact ⟨rfl, by rw [HX.out]; exact H9.out, K9.out⟩
end Go.Proofs.YtgiapdmoiaiofaaDoor
