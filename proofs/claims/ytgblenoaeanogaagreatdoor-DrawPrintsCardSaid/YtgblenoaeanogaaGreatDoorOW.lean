/- The writer: arrays, objects and values: contracts. The writer: any value: contract. A value's text; the fixed fact of layer 7: contracts. -/
import Derived.Test.YtgblenoaeanogaaGreatDoorOA
import Derived.Test.YtgblenoaeanogaaGreatDoorOV
import Derived.Outline
set_option linter.unusedVariables false
set_option maxRecDepth 100000
set_option maxHeartbeats 8000000
open Go.Lib (hid)
namespace Go.Proofs.YtgblenoaeanogaaGreatDoor
open Go.RowKit
def WroteV (B b : Nat) (l x : List UInt8) (d : Int) (w : World) (e : Ending) (w' : World) : Prop := WroteW B b l x (.string ⟨#[58]⟩) (.func (.func 36) #[] #[]) (.int .i64 0) (.int .i64 d) w e w'
def ValueAt (n : Nat) : Prop := ∀ (B b : Nat) (l : List UInt8) (d : Int) (t : T) (A : Option Addr) (c : Nat) (A' : Option Addr) (c' : Nat) (w : World), t.size ≤ n → t.Wide → 0 ≤ d → d + t.size ≤ 1000 → l.length + t.txt.length ≤ 2400 → Tab B w → TV w (· < B) t A c A' c' → Wr B b l (.string ⟨#[58]⟩) (.func (.func 36) #[] #[]) (.int .i64 0) (.int .i64 d) w → B ≤ w.heap.size →
 Calls Tryz.prog 37 #[.pointer (some ⟨b, 0, none⟩), .agg #[.int .i64 t.kind, .bool t.tr, .int .i64 t.num, .string t.str, .slice A t.items.length c, .slice A' t.keys.length c']] w (WroteV B b l t.txt d w)
def Going (B b : Nat) (l : List UInt8) (o : UInt8) (t : T) (d : Int) (j : Nat) (w wr : World) : Prop := Wr B b (l ++ ([o] ++ T.txts t.keys (t.items.take j) 0)) (.string ⟨#[58]⟩) (.func (.func 36) #[] #[]) (.int .i64 0) (.int .i64 (d + 1)) wr ∧ KeptW B b w wr
theorem things_at (n : Nat) (ih : ValueAt n) (B b : Nat) (l : List UInt8) (o z : UInt8) (d : Int) (t : T) (A : Option Addr) (c : Nat) (A' : Option Addr) (c' : Nat) (w : World) (hsz : t.size ≤ n + 1) (hn : t.Wide) (hd0 : 0 ≤ d) (hd : d + t.size ≤ 1000) (hlen : l.length + ((T.txts t.keys t.items 0).length + 2) ≤ 2400) (htab : Tab B w) (hv : TV w (· < B) t A c A' c') (hw : Wr B b l (.string ⟨#[58]⟩) (.func (.func 36) #[] #[]) (.int .i64 0) (.int .i64 d) w) (hBw : B ≤ w.heap.size) :
 Calls Tryz.prog 60 #[.pointer (some ⟨b, 0, none⟩), .agg #[.int .i64 t.kind, .bool t.tr, .int .i64 t.num, .string t.str, .slice A t.items.length c, .slice A' t.keys.length c'], .string ⟨#[o]⟩, .string ⟨#[z]⟩] w (WroteV B b l (o :: (T.txts t.keys t.items 0 ++ [z])) d w) := by
 have hi80 : t.items.length ≤ 1000 := by have := T.len_size t; omega
 have hk80 : t.keys.length ≤ 1000 := by have := hn.keys_le; omega
 have hsizes := T.size_eq t
 have hbl := hw.lt
 have hBX : B ≤ b := hw.1
 have HN := hid hn
 have HT := hid htab
 have HV := hid hv
 have HW := hid hw
 clear hn htab hv hw
 go_enter Tryz.func60, Tryz.ntmps60
 go_upto_region 1 with fail
 refine alloc_gn (fun W hbb hB0 => ?_)
 have HB0 := hid hB0
 have HW1 := hid (HW.out.on hbb)
 have HK1 := hid (KeptW.of (b := b) hbb hBw)
 have hg0 : w.heap.size ≠ b := by omega
 have hs1 := Nat.le_trans hBw hbb.size
 generalize w.heap.size = g at *
 clear hB0 hbb HW
 go_wp2_with fail
 refine (wstr_any B b l _ _ _ _ ⟨#[o]⟩ _ HW1.out (by show l.length + 1 ≤ 900000; omega) hs1).mono ?_
 rintro e w2 ⟨rfl, h2, k2⟩
 have HK2 := hid (HK1.out.trans k2)
 have HB2 := hid (k2.blk HB0.out hg0 (by decide))
 have HW2 := hid (show Wr B b (l ++ [o]) (.string ⟨#[58]⟩) (.func (.func 36) #[] #[]) (.int .i64 0) (.int .i64 d) w2 from h2)
 obtain ⟨x2, x3, x5, f5⟩ := h2.cells
 obtain ⟨hw3, hk3⟩ := h2.deep (.int .i64 (d + 1))
 have hs2 := Nat.le_trans hs1 k2.size
 have HW3 := hid hw3
 have HK3 := hid (HK2.out.trans hk3)
 have HB3 := hid (hk3.blk HB2.out hg0 (by decide))
 have hwr : IntKind.i64.wrap (d + 1) = d + 1 := IntWalk.i64_in _ (by omega)
 have hs3 : B ≤ (w2.setCell ⟨b, 5, none⟩ (.int .i64 (d + 1))).heap.size := Nat.le_trans hs2 hk3.size
 clear h2 k2 hw3 hk3
 go_upto_region 3 with fail
 change Code.wp _ _ _ _ (w2.setCell ⟨b, 5, none⟩ (.int .i64 (d + 1)))
 generalize (w2.setCell ⟨b, 5, none⟩ (.int .i64 (d + 1))) = W3 at *
 clear x2 x3 x5 f5 HW2 HB2 HK2 HK1 HB0 HW1
 obtain ⟨a0, a1, a2, a3, a4, a5⟩ : W3.cell? ⟨g, 0, none⟩ = some (.int .i64 t.kind) ∧ W3.cell? ⟨g, 1, none⟩ = some (.bool t.tr) ∧ W3.cell? ⟨g, 2, none⟩ = some (.int .i64 t.num) ∧ W3.cell? ⟨g, 3, none⟩ = some (.string t.str) ∧ W3.cell? ⟨g, 4, none⟩ = some (.slice A t.items.length c) ∧ W3.cell? ⟨g, 5, none⟩ = some (.slice A' t.keys.length c') := ⟨HB3.out.cell 0, HB3.out.cell 1, HB3.out.cell 2, HB3.out.cell 3, HB3.out.cell 4, HB3.out.cell 5⟩
 go_wp2_with fail
 go_loopw [25] (fun x wr => ∃ j : Nat, j ≤ t.items.length ∧ x = .int .i64 j ∧ Going B b l o t d j w wr ∧ Blk wr g 43 #[.int .i64 t.kind, .bool t.tr, .int .i64 t.num, .string t.str, .slice A t.items.length c, .slice A' t.keys.length c']) (fun x _ => t.items.length - (intOf x).toNat)
 case atStart => exact ⟨0, Nat.zero_le _, rfl, ⟨by simpa [T.txts] using HW3.out, HK3.out⟩, HB3.out⟩
 case round =>
  obtain ⟨j, hj, rfl, ⟨hwr, hkr⟩, hbg⟩ := hrel
  have hsr : B ≤ wr.heap.size := Nat.le_trans (Nat.le_of_lt (Nat.lt_of_le_of_lt hBX hwr.lt)) (Nat.le_refl _)
  have hpre := txts_pre t.keys t.items j
  have hst := T.sizes_take t.items j
  have HR := hid hwr
  have HKR := hid hkr
  have HBG := hid hbg
  clear hwr hkr hbg a0 a1 a2 a3 a4 a5
  by_cases hlt : j < t.items.length
  ·
   have u1 : decide (j < t.items.length) = true := decide_eq_true hlt
   have u2 : decide ((j : Int) < (t.items.length : Int)) = true := decide_eq_true (by omega)
   have i1 : (j : Int) < (t.items.length : Int) := by omega
   have i2 : (0 : Int) ≤ (j : Int) := by omega
   obtain ⟨bI, oI, x, D, f, D', f', rfl, hbI, hx, h6, hX⟩ := HV.out.at_ hlt
   have hxs := T.sizes_snoc hx
   have hst2 := T.sizes_take t.items (j + 1)
   obtain ⟨e0, e1, e2, e3, e4, e5⟩ := h6.keep hbI (.of_below HKR.out.1)
   have HXV := hid hX
   have HX := hid hx
   clear hX h6 hx
   go_upto_region 6 with fail
   refine alloc_gn (fun W5 hbb hbI2 => ?_)
   have hbw := HR.out.lt
   have HR5 := hid (HR.out.on hbb)
   have HK5 := hid (HKR.out.trans (KeptW.of (b := b) hbb hsr))
   have HBG5 := hid (HBG.out.onto hbb)
   have HBI5 := hid hbI2
   have hs5 := Nat.le_trans hsr hbb.size
   have hgi : wr.heap.size ≠ b := by omega
   generalize wr.heap.size = gi at *
   clear hbb hbI2 e0 e1 e2 e3 e4 e5 HR HKR HBG
   have hcl := comma_len j
   have hkpl := txts_item (ks := t.keys) HX.out
   by_cases hj0 : j = 0
   ·
    have c0 : decide ((0 : Int) < (j : Int)) = false := decide_eq_false (by omega)
    have c1 : decide (0 < j) = false := decide_eq_false (by omega)
    have hcm : comma j = [] := by unfold comma; rw [if_pos hj0]
    have HR6 := hid (show Wr B b ((l ++ ([o] ++ T.txts t.keys (t.items.take j) 0)) ++ comma j) (.string ⟨#[58]⟩) (.func (.func 36) #[] #[]) (.int .i64 0) (.int .i64 (d + 1)) W5 from by rw [hcm, List.append_nil]; exact HR5.out)
    have HK6 := HK5
    have HBG6 := HBG5
    have HBI6 := HBI5
    have hs6 := hs5
    obtain ⟨x2, x3, x5, f5⟩ := HR6.out.cells
    clear hj0 hcm HR5 HK5 HBG5 HBI5
    by_cases hk5 : t.kind = 5
    ·
     have k5 : (t.kind = 5) := hk5
     have hll := HN.out.good.here.lens hk5
     obtain ⟨q, hq⟩ : ∃ q, t.keys[j]? = some q := ⟨_, List.getElem?_eq_getElem (by omega)⟩
     have hq60 : q.size ≤ 2400 := by have := keyPart_ge hq; omega
     have hkp : keyPart t.keys j = Q.quo q.data.toList ++ [58] := by unfold keyPart; rw [hq]; show Q.quo q.toList ++ [58] = _; rw [ByteArray.toList_eq]
     obtain ⟨bK, oK, hAK, hbK, hcK⟩ := HV.out.keys (by intro e; rw [e] at hq; simp at hq)
     subst hAK
     have ek : W5.cell? ⟨bK, oK + j, none⟩ = some (.string q) := (HK6.out.1.cell (p := ⟨bK, oK + j, none⟩) hbK).trans (hcK j q hq)
     have v1 : decide (j < t.keys.length) = true := decide_eq_true (by omega)
     have v2 : decide ((j : Int) < (t.keys.length : Int)) = true := decide_eq_true (by omega)
     have v3 : (j : Int) < (t.keys.length : Int) := by omega
     have b5 : W5.cell? ⟨g, 5, none⟩ = some (.slice (some ⟨bK, oK, none⟩) t.keys.length c') := HBG6.out.cell 5
     have hql := Q.quo_len q.data.toList
     have hqs : q.data.toList.length = q.size := by simp
     have HKP := hid hkp
     clear hq hcK hll k5 hk5 hkp
     go_wp2_with fail
     refine (nothing_any b _).mono ?_
     rintro e w6 ⟨rfl, rfl⟩
     go_wp2_with fail
     refine (quote_any7 B b _ _ _ _ _ q _ HR6.out (by simp only [List.length_append, List.length_singleton]; omega) (by omega) hs6).mono ?_
     rintro e w7 ⟨rfl, h7, k7⟩
     have HR7 := hid h7
     have HK7 := hid (HK6.out.trans k7)
     have HBG7 := hid (k7.blk HBG6.out hg0 (by decide))
     have HBI7 := hid (k7.blk HBI6.out hgi (by decide))
     have hs7 := Nat.le_trans hs6 k7.size
     have c7 := h7.cells.1
     clear h7 k7 x2 x3 x5 f5 b5 ek
     go_wp2_with fail
     refine wp_region_held_drew (S := fun w' => w'.cell? ⟨b, 2, none⟩ = some (.string ⟨#[58]⟩)) (by kernel_rfl) ?_ (fun hHeld => ?_)
     · exact c7
     refine wpAnyH_take (i := 0) (v := ?_) rfl (by kernel_rfl) (by kernel_rfl) (by kernel_rfl) (fun _ _ _ h => h) (Or.inl ⟨by rfl, ?_⟩) (by assumption) ?_
     rotate_left
     ·
      intro wq hSw
      try dsimp only at hSw
      go_simp
      try (with_reducible rfl)
     try simp only [Act.put, List.getElem_toArray, List.getElem_cons_zero, List.setIfInBounds_toArray, List.set_cons_zero, List.set_cons_succ]
     refine wpAnyH_take (i := 1) (v := ?_) rfl (by kernel_rfl) (by kernel_rfl) (by kernel_rfl) (fun _ _ _ h => h) (Or.inl ⟨by rfl, ?_⟩) (by assumption) ?_
     rotate_left
     ·
      intro wq hSw
      try dsimp only at hSw
      go_simp
      try (with_reducible rfl)
     try simp only [Act.put, sqa, sqb, sqc, sqd, sqe, sqf]
     refine wpAnyH_take (i := 2) (v := ?_) rfl (by kernel_rfl) (by kernel_rfl) (by kernel_rfl) (fun _ _ _ h => h) (Or.inl ⟨by rfl, ?_⟩) (by assumption) ?_
     rotate_left
     ·
      intro wq hSw
      try dsimp only at hSw
      go_simp
      try (with_reducible rfl)
     try simp only [Act.put, sqa, sqb, sqc, sqd, sqe, sqf]
     refine wpAnyH_take (i := 3) (v := ?_) rfl (by kernel_rfl) (by kernel_rfl) (by kernel_rfl) (fun _ _ _ h => h) (Or.inl ⟨by rfl, ?_⟩) (by assumption) ?_
     rotate_left
     ·
      intro wq hSw
      try dsimp only at hSw
      go_simp
      try (with_reducible rfl)
     try simp only [Act.put, sqa, sqb, sqc, sqd, sqe, sqf]
     refine wpAnyH_take (i := 4) (v := ?_) rfl (by kernel_rfl) (by kernel_rfl) (by kernel_rfl) (fun _ _ _ h => h) (Or.inl ⟨by rfl, ?_⟩) (by assumption) ?_
     rotate_left
     ·
      intro wq hSw
      try dsimp only at hSw
      go_simp
      try (with_reducible rfl)
     try simp only [Act.put, sqa, sqb, sqc, sqd, sqe, sqf]
     refine wpAnyH_take (i := 5) (v := ?_) rfl (by kernel_rfl) (by kernel_rfl) (by kernel_rfl) (fun _ _ _ h => h) (Or.inl ⟨by rfl, ?_⟩) (by assumption) ?_
     rotate_left
     ·
      intro wq hSw
      try dsimp only at hSw
      go_simp
      try (with_reducible rfl)
     try simp only [Act.put, sqa, sqb, sqc, sqd, sqe, sqf]
     refine wpAnyH_take (i := 6) (v := ?_) rfl (by kernel_rfl) (by kernel_rfl) (by kernel_rfl) (fun _ _ _ h => h) (Or.inl ⟨by rfl, ?_⟩) (by assumption) ?_
     rotate_left
     ·
      intro wq hSw
      try dsimp only at hSw
      go_simp
      try (with_reducible rfl)
     try simp only [Act.put, sqa, sqb, sqc, sqd, sqe, sqf]
     refine wpAnyH_ready (rs := [7]) (by kernel_rfl) (by simp) ?_
     refine AllReadyH.cons rfl (fun K0 hK => ?_) ?_
     rotate_left
     · exact AllReadyH.nil
     go_simp
     refine (wstr_any B b _ _ _ _ _ ⟨#[58]⟩ _ HR7.out.drewW (by show _ + 1 ≤ 900000; simp only [List.length_append, List.length_singleton]; omega) hs7).mono ?_
     rintro e w8 ⟨rfl, h8, k8⟩
     have HR8 := hid (show Wr B b ((l ++ ([o] ++ T.txts t.keys (t.items.take j) 0)) ++ comma j ++ keyPart t.keys j) (.string ⟨#[58]⟩) (.func (.func 36) #[] #[]) (.int .i64 0) (.int .i64 (d + 1)) w8 from by rw [HKP.out]; have := h8; simpa only [List.append_assoc] using this)
     have HK8 := hid (HK7.out.trans (KeptW.drewK k8))
     have HBG8 := hid ((KeptW.drewK k8).blk HBG7.out hg0 (by decide))
     have HBI8 := hid ((KeptW.drewK k8).blk HBI7.out hgi (by decide))
     have hs8 := Nat.le_trans hs7 (KeptW.drewK k8).size
     have c8 := h8.cells.1
     clear h8 k8 c7
     go_wp2_with fail
     refine hK.out _ _ ?_ (fun hHeld => ?_)
     · exact c8
     clear hK K0
     try simp only [Act.put, sqa, sqb, sqc, sqd, sqe, sqf]
     refine wpAnyH_done (by kernel_rfl) ?_ _
     clear c8
     obtain ⟨q0, q1, q2, q3, q4, q5⟩ : w8.cell? ⟨gi, 0, none⟩ = some (.int .i64 x.kind) ∧ w8.cell? ⟨gi, 1, none⟩ = some (.bool x.tr) ∧ w8.cell? ⟨gi, 2, none⟩ = some (.int .i64 x.num) ∧ w8.cell? ⟨gi, 3, none⟩ = some (.string x.str) ∧ w8.cell? ⟨gi, 4, none⟩ = some (.slice D x.items.length f) ∧ w8.cell? ⟨gi, 5, none⟩ = some (.slice D' x.keys.length f') := ⟨HBI8.out.cell 0, HBI8.out.cell 1, HBI8.out.cell 2, HBI8.out.cell 3, HBI8.out.cell 4, HBI8.out.cell 5⟩
     go_wp2_with fail
     refine (ih B b _ (d + 1) x D f D' f' _ (by omega) (HN.out.at_ HX.out) (by omega) (by omega) (by simp only [List.length_append, List.length_singleton]; omega) (HT.out.on HK8.out.1) (HXV.out.under HK8.out.1) HR8.out hs8).mono ?_
     rintro e w9 ⟨rfl, h9, k9⟩
     have HR9 := hid h9
     have HK9 := hid (HK8.out.trans k9)
     have HBG9 := hid (k9.blk HBG8.out hg0 (by decide))
     clear h9 k9 q0 q1 q2 q3 q4 q5
     go_wp2_with fail
     go_roundw
     case rel => exact ⟨j + 1, hlt, by go_num, ⟨by rw [txts_take HX.out]; have := HR9.out; simpa only [List.append_assoc] using this, HK9.out⟩, HBG9.out⟩
     case measure => simp [intOf]; omega
    ·
     have hk0 : t.keys = [] := HN.out.good.here.keys hk5
     have hkp : keyPart t.keys j = [] := by unfold keyPart; rw [hk0]; rfl
     have hkl0 : t.keys.length = 0 := by rw [hk0]; rfl
     have v1 : decide (j < t.keys.length) = false := decide_eq_false (by omega)
     have v2 : decide ((j : Int) < (t.keys.length : Int)) = false := decide_eq_false (by omega)
     have b5 : W5.cell? ⟨g, 5, none⟩ = some (.slice A' t.keys.length c') := HBG6.out.cell 5
     have HR8 := hid (show Wr B b ((l ++ ([o] ++ T.txts t.keys (t.items.take j) 0)) ++ comma j ++ keyPart t.keys j) (.string ⟨#[58]⟩) (.func (.func 36) #[] #[]) (.int .i64 0) (.int .i64 (d + 1)) W5 from by rw [hkp, List.append_nil]; exact HR6.out)
     clear hk5 hk0 hkp hkl0
     go_wp2_with fail
     refine (nothing_any b _).mono ?_
     rintro e w6 ⟨rfl, rfl⟩
     obtain ⟨q0, q1, q2, q3, q4, q5⟩ : W5.cell? ⟨gi, 0, none⟩ = some (.int .i64 x.kind) ∧ W5.cell? ⟨gi, 1, none⟩ = some (.bool x.tr) ∧ W5.cell? ⟨gi, 2, none⟩ = some (.int .i64 x.num) ∧ W5.cell? ⟨gi, 3, none⟩ = some (.string x.str) ∧ W5.cell? ⟨gi, 4, none⟩ = some (.slice D x.items.length f) ∧ W5.cell? ⟨gi, 5, none⟩ = some (.slice D' x.keys.length f') := ⟨HBI6.out.cell 0, HBI6.out.cell 1, HBI6.out.cell 2, HBI6.out.cell 3, HBI6.out.cell 4, HBI6.out.cell 5⟩
     go_wp2_with fail
     refine (ih B b _ (d + 1) x D f D' f' _ (by omega) (HN.out.at_ HX.out) (by omega) (by omega) (by simp only [List.length_append, List.length_singleton]; omega) (HT.out.on HK6.out.1) (HXV.out.under HK6.out.1) HR8.out hs6).mono ?_
     rintro e w9 ⟨rfl, h9, k9⟩
     have HR9 := hid h9
     have HK9 := hid (HK6.out.trans k9)
     have HBG9 := hid (k9.blk HBG6.out hg0 (by decide))
     clear h9 k9 q0 q1 q2 q3 q4 q5
     go_wp2_with fail
     go_roundw
     case rel => exact ⟨j + 1, hlt, by go_num, ⟨by rw [txts_take HX.out]; have := HR9.out; simpa only [List.append_assoc] using this, HK9.out⟩, HBG9.out⟩
     case measure => simp [intOf]; omega
   ·
    have c0 : decide ((0 : Int) < (j : Int)) = true := decide_eq_true (by omega)
    have c1 : decide (0 < j) = true := decide_eq_true (by omega)
    have hcm : comma j = [44] := by unfold comma; rw [if_neg hj0]
    clear hj0
    go_wp2_with fail
    refine (wstr_any B b _ _ _ _ _ ⟨#[44]⟩ _ HR5.out (by show _ + 1 ≤ 900000; simp only [List.length_append, List.length_singleton]; omega) hs5).mono ?_
    rintro e w6 ⟨rfl, h6, k6⟩
    have HR6 := hid (show Wr B b ((l ++ ([o] ++ T.txts t.keys (t.items.take j) 0)) ++ comma j) (.string ⟨#[58]⟩) (.func (.func 36) #[] #[]) (.int .i64 0) (.int .i64 (d + 1)) w6 from by rw [hcm]; exact h6)
    have HK6 := hid (HK5.out.trans k6)
    have HBG6 := hid (k6.blk HBG5.out hg0 (by decide))
    have HBI6 := hid (k6.blk HBI5.out hgi (by decide))
    have hs6 := Nat.le_trans hs5 k6.size
    obtain ⟨x2, x3, x5, f5⟩ := HR6.out.cells
    clear h6 k6 hcm HR5 HK5 HBG5 HBI5
    by_cases hk5 : t.kind = 5
    ·
     have k5 : (t.kind = 5) := hk5
     have hll := HN.out.good.here.lens hk5
     obtain ⟨q, hq⟩ : ∃ q, t.keys[j]? = some q := ⟨_, List.getElem?_eq_getElem (by omega)⟩
     have hq60 : q.size ≤ 2400 := by have := keyPart_ge hq; omega
     have hkp : keyPart t.keys j = Q.quo q.data.toList ++ [58] := by unfold keyPart; rw [hq]; show Q.quo q.toList ++ [58] = _; rw [ByteArray.toList_eq]
     obtain ⟨bK, oK, hAK, hbK, hcK⟩ := HV.out.keys (by intro e; rw [e] at hq; simp at hq)
     subst hAK
     have ek : w6.cell? ⟨bK, oK + j, none⟩ = some (.string q) := (HK6.out.1.cell (p := ⟨bK, oK + j, none⟩) hbK).trans (hcK j q hq)
     have v1 : decide (j < t.keys.length) = true := decide_eq_true (by omega)
     have v2 : decide ((j : Int) < (t.keys.length : Int)) = true := decide_eq_true (by omega)
     have v3 : (j : Int) < (t.keys.length : Int) := by omega
     have b5 : w6.cell? ⟨g, 5, none⟩ = some (.slice (some ⟨bK, oK, none⟩) t.keys.length c') := HBG6.out.cell 5
     have hql := Q.quo_len q.data.toList
     have hqs : q.data.toList.length = q.size := by simp
     have HKP := hid hkp
     clear hq hcK hll k5 hk5 hkp
     go_wp2_with fail
     refine (nothing_any b _).mono ?_
     rintro e w6 ⟨rfl, rfl⟩
     go_wp2_with fail
     refine (quote_any7 B b _ _ _ _ _ q _ HR6.out (by simp only [List.length_append, List.length_singleton]; omega) (by omega) hs6).mono ?_
     rintro e w7 ⟨rfl, h7, k7⟩
     have HR7 := hid h7
     have HK7 := hid (HK6.out.trans k7)
     have HBG7 := hid (k7.blk HBG6.out hg0 (by decide))
     have HBI7 := hid (k7.blk HBI6.out hgi (by decide))
     have hs7 := Nat.le_trans hs6 k7.size
     have c7 := h7.cells.1
     clear h7 k7 x2 x3 x5 f5 b5 ek
     go_wp2_with fail
     refine wp_region_held_drew (S := fun w' => w'.cell? ⟨b, 2, none⟩ = some (.string ⟨#[58]⟩)) (by kernel_rfl) ?_ (fun hHeld => ?_)
     · exact c7
     refine wpAnyH_take (i := 0) (v := ?_) rfl (by kernel_rfl) (by kernel_rfl) (by kernel_rfl) (fun _ _ _ h => h) (Or.inl ⟨by rfl, ?_⟩) (by assumption) ?_
     rotate_left
     ·
      intro wq hSw
      try dsimp only at hSw
      go_simp
      try (with_reducible rfl)
     try simp only [Act.put, List.getElem_toArray, List.getElem_cons_zero, List.setIfInBounds_toArray, List.set_cons_zero, List.set_cons_succ]
     refine wpAnyH_take (i := 1) (v := ?_) rfl (by kernel_rfl) (by kernel_rfl) (by kernel_rfl) (fun _ _ _ h => h) (Or.inl ⟨by rfl, ?_⟩) (by assumption) ?_
     rotate_left
     ·
      intro wq hSw
      try dsimp only at hSw
      go_simp
      try (with_reducible rfl)
     try simp only [Act.put, sqa, sqb, sqc, sqd, sqe, sqf]
     refine wpAnyH_take (i := 2) (v := ?_) rfl (by kernel_rfl) (by kernel_rfl) (by kernel_rfl) (fun _ _ _ h => h) (Or.inl ⟨by rfl, ?_⟩) (by assumption) ?_
     rotate_left
     ·
      intro wq hSw
      try dsimp only at hSw
      go_simp
      try (with_reducible rfl)
     try simp only [Act.put, sqa, sqb, sqc, sqd, sqe, sqf]
     refine wpAnyH_take (i := 3) (v := ?_) rfl (by kernel_rfl) (by kernel_rfl) (by kernel_rfl) (fun _ _ _ h => h) (Or.inl ⟨by rfl, ?_⟩) (by assumption) ?_
     rotate_left
     ·
      intro wq hSw
      try dsimp only at hSw
      go_simp
      try (with_reducible rfl)
     try simp only [Act.put, sqa, sqb, sqc, sqd, sqe, sqf]
     refine wpAnyH_take (i := 4) (v := ?_) rfl (by kernel_rfl) (by kernel_rfl) (by kernel_rfl) (fun _ _ _ h => h) (Or.inl ⟨by rfl, ?_⟩) (by assumption) ?_
     rotate_left
     ·
      intro wq hSw
      try dsimp only at hSw
      go_simp
      try (with_reducible rfl)
     try simp only [Act.put, sqa, sqb, sqc, sqd, sqe, sqf]
     refine wpAnyH_take (i := 5) (v := ?_) rfl (by kernel_rfl) (by kernel_rfl) (by kernel_rfl) (fun _ _ _ h => h) (Or.inl ⟨by rfl, ?_⟩) (by assumption) ?_
     rotate_left
     ·
      intro wq hSw
      try dsimp only at hSw
      go_simp
      try (with_reducible rfl)
     try simp only [Act.put, sqa, sqb, sqc, sqd, sqe, sqf]
     refine wpAnyH_take (i := 6) (v := ?_) rfl (by kernel_rfl) (by kernel_rfl) (by kernel_rfl) (fun _ _ _ h => h) (Or.inl ⟨by rfl, ?_⟩) (by assumption) ?_
     rotate_left
     ·
      intro wq hSw
      try dsimp only at hSw
      go_simp
      try (with_reducible rfl)
     try simp only [Act.put, sqa, sqb, sqc, sqd, sqe, sqf]
     refine wpAnyH_ready (rs := [7]) (by kernel_rfl) (by simp) ?_
     refine AllReadyH.cons rfl (fun K0 hK => ?_) ?_
     rotate_left
     · exact AllReadyH.nil
     go_simp
     refine (wstr_any B b _ _ _ _ _ ⟨#[58]⟩ _ HR7.out.drewW (by show _ + 1 ≤ 900000; simp only [List.length_append, List.length_singleton]; omega) hs7).mono ?_
     rintro e w8 ⟨rfl, h8, k8⟩
     have HR8 := hid (show Wr B b ((l ++ ([o] ++ T.txts t.keys (t.items.take j) 0)) ++ comma j ++ keyPart t.keys j) (.string ⟨#[58]⟩) (.func (.func 36) #[] #[]) (.int .i64 0) (.int .i64 (d + 1)) w8 from by rw [HKP.out]; have := h8; simpa only [List.append_assoc] using this)
     have HK8 := hid (HK7.out.trans (KeptW.drewK k8))
     have HBG8 := hid ((KeptW.drewK k8).blk HBG7.out hg0 (by decide))
     have HBI8 := hid ((KeptW.drewK k8).blk HBI7.out hgi (by decide))
     have hs8 := Nat.le_trans hs7 (KeptW.drewK k8).size
     have c8 := h8.cells.1
     clear h8 k8 c7
     go_wp2_with fail
     refine hK.out _ _ ?_ (fun hHeld => ?_)
     · exact c8
     clear hK K0
     try simp only [Act.put, sqa, sqb, sqc, sqd, sqe, sqf]
     refine wpAnyH_done (by kernel_rfl) ?_ _
     clear c8
     obtain ⟨q0, q1, q2, q3, q4, q5⟩ : w8.cell? ⟨gi, 0, none⟩ = some (.int .i64 x.kind) ∧ w8.cell? ⟨gi, 1, none⟩ = some (.bool x.tr) ∧ w8.cell? ⟨gi, 2, none⟩ = some (.int .i64 x.num) ∧ w8.cell? ⟨gi, 3, none⟩ = some (.string x.str) ∧ w8.cell? ⟨gi, 4, none⟩ = some (.slice D x.items.length f) ∧ w8.cell? ⟨gi, 5, none⟩ = some (.slice D' x.keys.length f') := ⟨HBI8.out.cell 0, HBI8.out.cell 1, HBI8.out.cell 2, HBI8.out.cell 3, HBI8.out.cell 4, HBI8.out.cell 5⟩
     go_wp2_with fail
     refine (ih B b _ (d + 1) x D f D' f' _ (by omega) (HN.out.at_ HX.out) (by omega) (by omega) (by simp only [List.length_append, List.length_singleton]; omega) (HT.out.on HK8.out.1) (HXV.out.under HK8.out.1) HR8.out hs8).mono ?_
     rintro e w9 ⟨rfl, h9, k9⟩
     have HR9 := hid h9
     have HK9 := hid (HK8.out.trans k9)
     have HBG9 := hid (k9.blk HBG8.out hg0 (by decide))
     clear h9 k9 q0 q1 q2 q3 q4 q5
     go_wp2_with fail
     go_roundw
     case rel => exact ⟨j + 1, hlt, by go_num, ⟨by rw [txts_take HX.out]; have := HR9.out; simpa only [List.append_assoc] using this, HK9.out⟩, HBG9.out⟩
     case measure => simp [intOf]; omega
    ·
     have hk0 : t.keys = [] := HN.out.good.here.keys hk5
     have hkp : keyPart t.keys j = [] := by unfold keyPart; rw [hk0]; rfl
     have hkl0 : t.keys.length = 0 := by rw [hk0]; rfl
     have v1 : decide (j < t.keys.length) = false := decide_eq_false (by omega)
     have v2 : decide ((j : Int) < (t.keys.length : Int)) = false := decide_eq_false (by omega)
     have b5 : w6.cell? ⟨g, 5, none⟩ = some (.slice A' t.keys.length c') := HBG6.out.cell 5
     have HR8 := hid (show Wr B b ((l ++ ([o] ++ T.txts t.keys (t.items.take j) 0)) ++ comma j ++ keyPart t.keys j) (.string ⟨#[58]⟩) (.func (.func 36) #[] #[]) (.int .i64 0) (.int .i64 (d + 1)) w6 from by rw [hkp, List.append_nil]; exact HR6.out)
     clear hk5 hk0 hkp hkl0
     go_wp2_with fail
     refine (nothing_any b _).mono ?_
     rintro e w6 ⟨rfl, rfl⟩
     obtain ⟨q0, q1, q2, q3, q4, q5⟩ : w6.cell? ⟨gi, 0, none⟩ = some (.int .i64 x.kind) ∧ w6.cell? ⟨gi, 1, none⟩ = some (.bool x.tr) ∧ w6.cell? ⟨gi, 2, none⟩ = some (.int .i64 x.num) ∧ w6.cell? ⟨gi, 3, none⟩ = some (.string x.str) ∧ w6.cell? ⟨gi, 4, none⟩ = some (.slice D x.items.length f) ∧ w6.cell? ⟨gi, 5, none⟩ = some (.slice D' x.keys.length f') := ⟨HBI6.out.cell 0, HBI6.out.cell 1, HBI6.out.cell 2, HBI6.out.cell 3, HBI6.out.cell 4, HBI6.out.cell 5⟩
     go_wp2_with fail
     refine (ih B b _ (d + 1) x D f D' f' _ (by omega) (HN.out.at_ HX.out) (by omega) (by omega) (by simp only [List.length_append, List.length_singleton]; omega) (HT.out.on HK6.out.1) (HXV.out.under HK6.out.1) HR8.out hs6).mono ?_
     rintro e w9 ⟨rfl, h9, k9⟩
     have HR9 := hid h9
     have HK9 := hid (HK6.out.trans k9)
     have HBG9 := hid (k9.blk HBG6.out hg0 (by decide))
     clear h9 k9 q0 q1 q2 q3 q4 q5
     go_wp2_with fail
     go_roundw
     case rel => exact ⟨j + 1, hlt, by go_num, ⟨by rw [txts_take HX.out]; have := HR9.out; simpa only [List.append_assoc] using this, HK9.out⟩, HBG9.out⟩
     case measure => simp [intOf]; omega
  ·
   have u1 : decide (j < t.items.length) = false := decide_eq_false hlt
   have u2 : decide ((j : Int) < (t.items.length : Int)) = false := decide_eq_false (by omega)
   have hfull : t.items.take j = t.items := List.take_of_length_le (by omega)
   rw [hfull] at hpre
   have HRF := hid (show Wr B b (l ++ ([o] ++ T.txts t.keys t.items 0)) (.string ⟨#[58]⟩) (.func (.func 36) #[] #[]) (.int .i64 0) (.int .i64 (d + 1)) wr from by have := HR.out; rw [hfull] at this; exact this)
   obtain ⟨x2, x3, x5, f5⟩ := HRF.out.cells
   obtain ⟨hwe, hke⟩ := HRF.out.deep (.int .i64 d)
   have hwr2 : IntKind.i64.wrap (d + 1 - 1) = d := by rw [show d + 1 - 1 = d by omega]; exact IntWalk.i64_in _ (by omega)
   have hwr3 : IntKind.i64.wrap d = d := IntWalk.i64_in _ (by omega)
   have HWE := hid hwe
   have HKE := hid (HKR.out.trans hke)
   have HBE := hid (hke.blk HBG.out hg0 (by decide))
   have hse : B ≤ (wr.setCell ⟨b, 5, none⟩ (.int .i64 d)).heap.size := Nat.le_trans hsr hke.size
   clear hwe hke hfull HR
   go_upto_region 15 with fail
   change Code.wp _ _ _ _ (wr.setCell ⟨b, 5, none⟩ (.int .i64 d))
   generalize (wr.setCell ⟨b, 5, none⟩ (.int .i64 d)) = WE at *
   clear x2 x3 x5 f5
   obtain ⟨x2, x3, x5, f5⟩ := HWE.out.cells
   have b4 : WE.cell? ⟨g, 4, none⟩ = some (.slice A t.items.length c) := HBE.out.cell 4
   by_cases hz : 0 < t.items.length
   ·
    have v1 : decide (0 < t.items.length) = true := decide_eq_true hz
    have v2 : decide ((0 : Int) < (t.items.length : Int)) = true := decide_eq_true (by omega)
    go_wp2_with fail
    refine (nothing_any b _).mono ?_
    rintro e w6 ⟨rfl, rfl⟩
    go_wp2_with fail
    refine (wstr_any B b _ _ _ _ _ ⟨#[z]⟩ _ HWE.out (by show _ + 1 ≤ 900000; simp only [List.length_append, List.length_singleton]; omega) hse).mono ?_
    rintro e w7 ⟨rfl, h7, k7⟩
    have HR7 := hid h7
    have HK7 := hid (HKE.out.trans k7)
    clear h7 k7
    go_wp2_with fail
    go_end0
    refine ⟨rfl, ?_, HK7.out⟩
    have := HR7.out
    simpa only [List.append_assoc, List.singleton_append, List.cons_append, List.nil_append] using this
   ·
    have v1 : decide (0 < t.items.length) = false := decide_eq_false hz
    have v2 : decide ((0 : Int) < (t.items.length : Int)) = false := decide_eq_false (by omega)
    go_wp2_with fail
    refine (wstr_any B b _ _ _ _ _ ⟨#[z]⟩ _ HWE.out (by show _ + 1 ≤ 900000; simp only [List.length_append, List.length_singleton]; omega) hse).mono ?_
    rintro e w7 ⟨rfl, h7, k7⟩
    have HR7 := hid h7
    have HK7 := hid (HKE.out.trans k7)
    clear h7 k7
    go_wp2_with fail
    go_end0
    refine ⟨rfl, ?_, HK7.out⟩
    have := HR7.out
    simpa only [List.append_assoc, List.singleton_append, List.cons_append, List.nil_append] using this
open Go.RowKit
theorem value_at (n : Nat) : ValueAt n := by
 induction n with
 | zero => intro B b l d t A c A' c' w h; have := t.size_pos; omega
 | succ n ih =>
  intro B b l d t A c A' c' w hsz hn hd0 hd hlen htab hv hw hBw
  have hg := hn.good.here
  have hf := hn.nums.here
  have hs60 : t.str.size ≤ 2400 := by have := str_txt hn.good; omega
  have hbl := hw.lt
  have hbb : Below w.heap.size w (w.alloc (.cells #[.int .i64 t.kind, .bool t.tr, .int .i64 t.num, .string t.str, .slice A t.items.length c, .slice A' t.keys.length c'] 43)) := (Below.refl _ _).alloc (Nat.le_refl _) _
  have hB0 : Blk (w.alloc (.cells #[.int .i64 t.kind, .bool t.tr, .int .i64 t.num, .string t.str, .slice A t.items.length c, .slice A' t.keys.length c'] 43)) w.heap.size 43 #[.int .i64 t.kind, .bool t.tr, .int .i64 t.num, .string t.str, .slice A t.items.length c, .slice A' t.keys.length c'] := Blk.new w _ _
  have HW := hid (hw.on hbb)
  have HK := hid (KeptW.of (b := b) hbb hBw)
  have HN := hid hn
  have HT := hid (htab.on (hbb.mono hBw))
  have HV := hid (hv.under (hbb.mono hBw))
  have hs1 := Nat.le_trans hBw hbb.size
  have htx := T.txt_eq t
  have hk0 := hg.k0
  have hk5 := hg.k5
  have hn0 := hf.1
  have hn1 := hf.2
  clear hn htab hv hw hg hf
  rcases (by omega : t.kind = 0 ∨ t.kind = 1 ∨ t.kind = 2 ∨ t.kind = 3 ∨ t.kind = 4 ∨ t.kind = 5) with hk | hk | hk | hk | hk | hk
  ·
   have k1 : (t.kind == 1) = false := by rw [beq_eq_false_iff_ne]; omega
   have k2 : (t.kind == 2) = false := by rw [beq_eq_false_iff_ne]; omega
   have k3 : (t.kind == 3) = false := by rw [beq_eq_false_iff_ne]; omega
   have k4 : (t.kind == 4) = false := by rw [beq_eq_false_iff_ne]; omega
   have k5 : (t.kind == 5) = false := by rw [beq_eq_false_iff_ne]; omega
   have htxt : t.txt = [110, 117, 108, 108] := by rw [htx]; rw [if_neg (by omega)]; rw [if_neg (by omega)]; rw [if_neg (by omega)]; rw [if_neg (by omega)]; rw [if_neg (by omega)]
   have HX := hid htxt
   clear htxt
   clear hk htx
   go_enter Tryz.func37, Tryz.ntmps37
   go_upto_region 1 with fail
   change Code.wp _ _ _ _ (w.alloc (.cells #[.int .i64 t.kind, .bool t.tr, .int .i64 t.num, .string t.str, .slice A t.items.length c, .slice A' t.keys.length c'] 43))
   generalize (w.alloc (.cells #[.int .i64 t.kind, .bool t.tr, .int .i64 t.num, .string t.str, .slice A t.items.length c, .slice A' t.keys.length c'] 43)) = W at *
   have HB0 := hid hB0
   generalize w.heap.size = g at *
   obtain ⟨a0, a1, a2, a3, a4, a5⟩ : W.cell? ⟨g, 0, none⟩ = some (.int .i64 t.kind) ∧ W.cell? ⟨g, 1, none⟩ = some (.bool t.tr) ∧ W.cell? ⟨g, 2, none⟩ = some (.int .i64 t.num) ∧ W.cell? ⟨g, 3, none⟩ = some (.string t.str) ∧ W.cell? ⟨g, 4, none⟩ = some (.slice A t.items.length c) ∧ W.cell? ⟨g, 5, none⟩ = some (.slice A' t.keys.length c') := ⟨HB0.out.cell 0, HB0.out.cell 1, HB0.out.cell 2, HB0.out.cell 3, HB0.out.cell 4, HB0.out.cell 5⟩
   clear hB0 hbb
   go_wp2_with fail
   refine (wstr_any B b l _ _ _ _ ⟨#[110, 117, 108, 108]⟩ _ HW.out (by show l.length + 4 ≤ 900000; omega) hs1).mono ?_
   rintro e w9 ⟨rfl, h9, k9⟩
   have H9 := hid h9
   have K9 := hid (HK.out.trans k9)
   clear h9 k9
   go_wp2_with fail
   go_end0
   exact ⟨rfl, by rw [HX.out]; exact H9.out, K9.out⟩
  ·
   have k1 : (t.kind == 1) = true := by rw [beq_iff_eq]; exact hk
   have htxt : t.txt = if t.tr then [116, 114, 117, 101] else [102, 97, 108, 115, 101] := by rw [htx]; rw [if_pos hk]
   have HX := hid htxt
   clear htxt
   clear hk htx
   go_enter Tryz.func37, Tryz.ntmps37
   go_upto_region 1 with fail
   change Code.wp _ _ _ _ (w.alloc (.cells #[.int .i64 t.kind, .bool t.tr, .int .i64 t.num, .string t.str, .slice A t.items.length c, .slice A' t.keys.length c'] 43))
   generalize (w.alloc (.cells #[.int .i64 t.kind, .bool t.tr, .int .i64 t.num, .string t.str, .slice A t.items.length c, .slice A' t.keys.length c'] 43)) = W at *
   have HB0 := hid hB0
   generalize w.heap.size = g at *
   obtain ⟨a0, a1, a2, a3, a4, a5⟩ : W.cell? ⟨g, 0, none⟩ = some (.int .i64 t.kind) ∧ W.cell? ⟨g, 1, none⟩ = some (.bool t.tr) ∧ W.cell? ⟨g, 2, none⟩ = some (.int .i64 t.num) ∧ W.cell? ⟨g, 3, none⟩ = some (.string t.str) ∧ W.cell? ⟨g, 4, none⟩ = some (.slice A t.items.length c) ∧ W.cell? ⟨g, 5, none⟩ = some (.slice A' t.keys.length c') := ⟨HB0.out.cell 0, HB0.out.cell 1, HB0.out.cell 2, HB0.out.cell 3, HB0.out.cell 4, HB0.out.cell 5⟩
   clear hB0 hbb
   go_wp2_with fail
   refine (truth_any7 B b l _ _ _ _ t.tr _ HW.out (by omega) hs1).mono ?_
   rintro e w9 ⟨rfl, h9, k9⟩
   have H9 := hid h9
   have K9 := hid (HK.out.trans k9)
   clear h9 k9
   go_wp2_with fail
   go_end0
   exact ⟨rfl, by rw [HX.out]; exact H9.out, K9.out⟩
  ·
   have k1 : (t.kind == 1) = false := by rw [beq_eq_false_iff_ne]; omega
   have k2 : (t.kind == 2) = true := by rw [beq_iff_eq]; exact hk
   have htxt : t.txt = Lib.itoa t.num := by rw [htx]; rw [if_neg (by omega)]; rw [if_pos hk]
   have HX := hid htxt
   clear htxt
   clear hk htx
   go_enter Tryz.func37, Tryz.ntmps37
   go_upto_region 1 with fail
   change Code.wp _ _ _ _ (w.alloc (.cells #[.int .i64 t.kind, .bool t.tr, .int .i64 t.num, .string t.str, .slice A t.items.length c, .slice A' t.keys.length c'] 43))
   generalize (w.alloc (.cells #[.int .i64 t.kind, .bool t.tr, .int .i64 t.num, .string t.str, .slice A t.items.length c, .slice A' t.keys.length c'] 43)) = W at *
   have HB0 := hid hB0
   generalize w.heap.size = g at *
   obtain ⟨a0, a1, a2, a3, a4, a5⟩ : W.cell? ⟨g, 0, none⟩ = some (.int .i64 t.kind) ∧ W.cell? ⟨g, 1, none⟩ = some (.bool t.tr) ∧ W.cell? ⟨g, 2, none⟩ = some (.int .i64 t.num) ∧ W.cell? ⟨g, 3, none⟩ = some (.string t.str) ∧ W.cell? ⟨g, 4, none⟩ = some (.slice A t.items.length c) ∧ W.cell? ⟨g, 5, none⟩ = some (.slice A' t.keys.length c') := ⟨HB0.out.cell 0, HB0.out.cell 1, HB0.out.cell 2, HB0.out.cell 3, HB0.out.cell 4, HB0.out.cell 5⟩
   clear hB0 hbb
   go_wp2_with fail
   refine wp_region_held_drew (S := fun w' => w'.cell? ⟨g, 2, none⟩ = some (.int .i64 t.num)) (by kernel_rfl) ?_ (fun hHeld => ?_)
   · exact a2
   refine wpAnyH_take (i := 0) (v := ?_) rfl (by kernel_rfl) (by kernel_rfl) (by kernel_rfl) (fun _ _ _ h => h) (Or.inl ⟨by rfl, ?_⟩) (by assumption) ?_
   rotate_left
   ·
    intro wq hSw
    try dsimp only at hSw
    go_simp
    try (with_reducible rfl)
   try simp only [Act.put, List.getElem_toArray, List.getElem_cons_zero, List.setIfInBounds_toArray, List.set_cons_zero, List.set_cons_succ]
   refine wpAnyH_take (i := 1) (v := ?_) rfl (by kernel_rfl) (by kernel_rfl) (by kernel_rfl) (fun _ _ _ h => h) (Or.inl ⟨by rfl, ?_⟩) (by assumption) ?_
   rotate_left
   ·
    intro wq hSw
    try dsimp only at hSw
    go_simp
    try (with_reducible rfl)
   try simp only [Act.put, sqa, sqb, sqc, sqd, sqe, sqf]
   refine wpAnyH_take (i := 2) (v := ?_) rfl (by kernel_rfl) (by kernel_rfl) (by kernel_rfl) (fun _ _ _ h => h) (Or.inl ⟨by rfl, ?_⟩) (by assumption) ?_
   rotate_left
   ·
    intro wq hSw
    try dsimp only at hSw
    go_simp
    try (with_reducible rfl)
   try simp only [Act.put, sqa, sqb, sqc, sqd, sqe, sqf]
   refine wpAnyH_take (i := 3) (v := ?_) rfl (by kernel_rfl) (by kernel_rfl) (by kernel_rfl) (fun _ _ _ h => h) (Or.inl ⟨by rfl, ?_⟩) (by assumption) ?_
   rotate_left
   ·
    intro wq hSw
    try dsimp only at hSw
    go_simp
    try (with_reducible rfl)
   try simp only [Act.put, sqa, sqb, sqc, sqd, sqe, sqf]
   refine wpAnyH_take (i := 4) (v := ?_) rfl (by kernel_rfl) (by kernel_rfl) (by kernel_rfl) (fun _ _ _ h => h) (Or.inl ⟨by rfl, ?_⟩) (by assumption) ?_
   rotate_left
   ·
    intro wq hSw
    try dsimp only at hSw
    go_simp
    try (with_reducible rfl)
   try simp only [Act.put, sqa, sqb, sqc, sqd, sqe, sqf]
   refine wpAnyH_ready (rs := [5]) (by kernel_rfl) (by simp) ?_
   refine AllReadyH.cons rfl (fun K0 hK => ?_) ?_
   rotate_left
   · exact AllReadyH.nil
   go_simp
   refine (wtext_any t.num _ hn0 hn1 (HT.out.on (Below.refl B W).drew).2).mono ?_
   rintro e w2 ⟨rfl, hb2⟩
   have hb3 : Below W.heap.size W w2 := (Below.refl W.heap.size W).drew.trans hb2
   have HW2 := hid (HW.out.on hb3)
   have HK2 := hid (HK.out.trans (KeptW.of (b := b) hb3 hs1))
   have hs2 := Nat.le_trans hs1 hb3.size
   have q2 : w2.cell? ⟨g, 2, none⟩ = some (.int .i64 t.num) := (HB0.out.onto hb3).cell 2
   have hnl := De.itoa_len (n := t.num) ⟨hn0, hn1⟩
   have HB2 := hid (HB0.out.onto hb3)
   have hgb : g ≠ b := by omega
   clear hb2 hb3
   go_wp2_with fail
   refine hK.out _ _ ?_ (fun hHeld => ?_)
   · exact q2
   clear hK K0
   try simp only [Act.put, sqa, sqb, sqc, sqd, sqe, sqf]
   refine wpAnyH_ready (rs := [6]) (by kernel_rfl) (by simp) ?_
   refine AllReadyH.cons rfl (fun K0 hK => ?_) ?_
   rotate_left
   · exact AllReadyH.nil
   go_simp
   refine (wstr_any B b l _ _ _ _ ⟨(Lib.itoa t.num).toArray⟩ _ HW2.out (by show l.length + (Lib.itoa t.num).toArray.size ≤ 900000; simp; omega) hs2).mono ?_
   rintro e w9 ⟨rfl, h9, k9⟩
   have H9 := hid (show Wr B b (l ++ Lib.itoa t.num) _ _ _ _ w9 from h9)
   have K9 := hid (HK2.out.trans k9)
   have q9 : w9.cell? ⟨g, 2, none⟩ = some (.int .i64 t.num) := (k9.blk (show Blk w2 g 43 #[.int .i64 t.kind, .bool t.tr, .int .i64 t.num, .string t.str, .slice A t.items.length c, .slice A' t.keys.length c'] from HB2.out) hgb (by decide)).cell 2
   clear h9 k9
   go_wp2_with fail
   refine hK.out _ _ ?_ (fun hHeld => ?_)
   · exact q9
   clear hK K0
   try simp only [Act.put, sqa, sqb, sqc, sqd, sqe, sqf]
   refine wpAnyH_done (by kernel_rfl) ?_ _
   go_wp2_with fail
   go_end0
   exact ⟨rfl, by rw [HX.out]; exact H9.out, K9.out⟩
  ·
   have k1 : (t.kind == 1) = false := by rw [beq_eq_false_iff_ne]; omega
   have k2 : (t.kind == 2) = false := by rw [beq_eq_false_iff_ne]; omega
   have k3 : (t.kind == 3) = true := by rw [beq_iff_eq]; exact hk
   have htxt : t.txt = Q.quo t.str.data.toList := by rw [htx]; rw [if_neg (by omega)]; rw [if_neg (by omega)]; rw [if_pos hk, ByteArray.toList_eq]
   have HX := hid htxt
   clear htxt
   clear hk htx
   go_enter Tryz.func37, Tryz.ntmps37
   go_upto_region 1 with fail
   change Code.wp _ _ _ _ (w.alloc (.cells #[.int .i64 t.kind, .bool t.tr, .int .i64 t.num, .string t.str, .slice A t.items.length c, .slice A' t.keys.length c'] 43))
   generalize (w.alloc (.cells #[.int .i64 t.kind, .bool t.tr, .int .i64 t.num, .string t.str, .slice A t.items.length c, .slice A' t.keys.length c'] 43)) = W at *
   have HB0 := hid hB0
   generalize w.heap.size = g at *
   obtain ⟨a0, a1, a2, a3, a4, a5⟩ : W.cell? ⟨g, 0, none⟩ = some (.int .i64 t.kind) ∧ W.cell? ⟨g, 1, none⟩ = some (.bool t.tr) ∧ W.cell? ⟨g, 2, none⟩ = some (.int .i64 t.num) ∧ W.cell? ⟨g, 3, none⟩ = some (.string t.str) ∧ W.cell? ⟨g, 4, none⟩ = some (.slice A t.items.length c) ∧ W.cell? ⟨g, 5, none⟩ = some (.slice A' t.keys.length c') := ⟨HB0.out.cell 0, HB0.out.cell 1, HB0.out.cell 2, HB0.out.cell 3, HB0.out.cell 4, HB0.out.cell 5⟩
   clear hB0 hbb
   go_wp2_with fail
   refine (quote_any7 B b l _ _ _ _ t.str _ HW.out (by omega) (by omega) hs1).mono ?_
   rintro e w9 ⟨rfl, h9, k9⟩
   have H9 := hid h9
   have K9 := hid (HK.out.trans k9)
   clear h9 k9
   go_wp2_with fail
   go_end0
   exact ⟨rfl, by rw [HX.out]; exact H9.out, K9.out⟩
  ·
   have k1 : (t.kind == 1) = false := by rw [beq_eq_false_iff_ne]; omega
   have k2 : (t.kind == 2) = false := by rw [beq_eq_false_iff_ne]; omega
   have k3 : (t.kind == 3) = false := by rw [beq_eq_false_iff_ne]; omega
   have k4 : (t.kind == 4) = true := by rw [beq_iff_eq]; exact hk
   have htxt : t.txt = 91 :: (T.txts t.keys t.items 0 ++ [93]) := by rw [htx]; rw [if_neg (by omega)]; rw [if_neg (by omega)]; rw [if_neg (by omega)]; rw [if_pos hk]
   have HX := hid htxt
   clear htxt
   clear hk htx
   go_enter Tryz.func37, Tryz.ntmps37
   go_upto_region 1 with fail
   change Code.wp _ _ _ _ (w.alloc (.cells #[.int .i64 t.kind, .bool t.tr, .int .i64 t.num, .string t.str, .slice A t.items.length c, .slice A' t.keys.length c'] 43))
   generalize (w.alloc (.cells #[.int .i64 t.kind, .bool t.tr, .int .i64 t.num, .string t.str, .slice A t.items.length c, .slice A' t.keys.length c'] 43)) = W at *
   have HB0 := hid hB0
   generalize w.heap.size = g at *
   obtain ⟨a0, a1, a2, a3, a4, a5⟩ : W.cell? ⟨g, 0, none⟩ = some (.int .i64 t.kind) ∧ W.cell? ⟨g, 1, none⟩ = some (.bool t.tr) ∧ W.cell? ⟨g, 2, none⟩ = some (.int .i64 t.num) ∧ W.cell? ⟨g, 3, none⟩ = some (.string t.str) ∧ W.cell? ⟨g, 4, none⟩ = some (.slice A t.items.length c) ∧ W.cell? ⟨g, 5, none⟩ = some (.slice A' t.keys.length c') := ⟨HB0.out.cell 0, HB0.out.cell 1, HB0.out.cell 2, HB0.out.cell 3, HB0.out.cell 4, HB0.out.cell 5⟩
   clear hB0 hbb
   go_wp2_with fail
   refine (things_at n ih B b l 91 93 d t A c A' c' _ hsz HN.out hd0 hd (by have e := congrArg List.length HX.out; simp only [List.length_cons, List.length_append, List.length_nil] at e; omega) HT.out HV.out HW.out hs1).mono ?_
   rintro e w9 ⟨rfl, h9, k9⟩
   have H9 := hid h9
   have K9 := hid (HK.out.trans k9)
   clear h9 k9
   go_wp2_with fail
   go_end0
   exact ⟨rfl, by rw [HX.out]; exact H9.out, K9.out⟩
  ·
   have k1 : (t.kind == 1) = false := by rw [beq_eq_false_iff_ne]; omega
   have k2 : (t.kind == 2) = false := by rw [beq_eq_false_iff_ne]; omega
   have k3 : (t.kind == 3) = false := by rw [beq_eq_false_iff_ne]; omega
   have k4 : (t.kind == 4) = false := by rw [beq_eq_false_iff_ne]; omega
   have k5 : (t.kind == 5) = true := by rw [beq_iff_eq]; exact hk
   have htxt : t.txt = 123 :: (T.txts t.keys t.items 0 ++ [125]) := by rw [htx]; rw [if_neg (by omega)]; rw [if_neg (by omega)]; rw [if_neg (by omega)]; rw [if_neg (by omega)]; rw [if_pos hk]
   have HX := hid htxt
   clear htxt
   clear hk htx
   go_enter Tryz.func37, Tryz.ntmps37
   go_upto_region 1 with fail
   change Code.wp _ _ _ _ (w.alloc (.cells #[.int .i64 t.kind, .bool t.tr, .int .i64 t.num, .string t.str, .slice A t.items.length c, .slice A' t.keys.length c'] 43))
   generalize (w.alloc (.cells #[.int .i64 t.kind, .bool t.tr, .int .i64 t.num, .string t.str, .slice A t.items.length c, .slice A' t.keys.length c'] 43)) = W at *
   have HB0 := hid hB0
   generalize w.heap.size = g at *
   obtain ⟨a0, a1, a2, a3, a4, a5⟩ : W.cell? ⟨g, 0, none⟩ = some (.int .i64 t.kind) ∧ W.cell? ⟨g, 1, none⟩ = some (.bool t.tr) ∧ W.cell? ⟨g, 2, none⟩ = some (.int .i64 t.num) ∧ W.cell? ⟨g, 3, none⟩ = some (.string t.str) ∧ W.cell? ⟨g, 4, none⟩ = some (.slice A t.items.length c) ∧ W.cell? ⟨g, 5, none⟩ = some (.slice A' t.keys.length c') := ⟨HB0.out.cell 0, HB0.out.cell 1, HB0.out.cell 2, HB0.out.cell 3, HB0.out.cell 4, HB0.out.cell 5⟩
   clear hB0 hbb
   go_wp2_with fail
   refine (things_at n ih B b l 123 125 d t A c A' c' _ hsz HN.out hd0 hd (by have e := congrArg List.length HX.out; simp only [List.length_cons, List.length_append, List.length_nil] at e; omega) HT.out HV.out HW.out hs1).mono ?_
   rintro e w9 ⟨rfl, h9, k9⟩
   have H9 := hid h9
   have K9 := hid (HK.out.trans k9)
   clear h9 k9
   go_wp2_with fail
   go_end0
   exact ⟨rfl, by rw [HX.out]; exact H9.out, K9.out⟩
open Go.RowKit
theorem itoa_ne (n : Int) : Lib.itoa n ≠ [] := by
 intro e
 have h := (De.itoa_form n).1
 rw [e] at h
 revert h
 decide
theorem txt_ne (t : T) : t.txt ≠ [] := by
 rw [T.txt_eq]
 split
 · split <;> simp
 split
 · exact itoa_ne _
 split
 · unfold Q.quo; simp
 split
 · simp
 split
 · simp
 · simp
theorem wr_new2 (c0 : Array Value) (c2 c3 c4 c5 : Value) (w : World) : Wr w.heap.size (w.heap.size + 1) [] c2 c3 c4 c5 ((w.alloc (.cells c0 43)).alloc (.cells #[.pointer none, .slice none 0 0, c2, c3, c4, c5] 92)) := by
 refine ⟨Nat.le_succ _, .pointer none, .slice none 0 0, .inl rfl, ?_, rfl, .inl ⟨rfl, rfl⟩⟩
 have := Blk.new (w.alloc (.cells c0 43)) 92 #[.pointer none, .slice none 0 0, c2, c3, c4, c5]
 simpa using this
theorem rntext_any (t : T) (A : Option Addr) (c : Nat) (A' : Option Addr) (c' : Nat) (w : World) (hn : t.Wide) (hl9 : t.txt.length ≤ 2400) (hl8 : t.size ≤ 1000) (ht : Lib.TabIs Tryz.prog w "internal/strconv.uint64pow10" .u64 Lib.pow10Tab) (hv : TV w (· < w.heap.size) t A c A' c') :
 Calls Tryz.prog 22 #[.agg #[.int .i64 t.kind, .bool t.tr, .int .i64 t.num, .string t.str, .slice A t.items.length c, .slice A' t.keys.length c']] w fun e w' => e = .returned (.string (mkB t.txt)) ∧ Below w.heap.size w w' := by
 have hsz := size_txt t hn.good
 have hsz9 : t.size ≤ 1000 := hl8
 have HN := hid hn
 have HT := hid (tab_of ht)
 have HV := hid hv
 clear hn ht hv
 go_enter Tryz.func22, Tryz.ntmps22
 go_upto_region 2 with fail
 have hW := wr_new2 #[.int .i64 t.kind, .bool t.tr, .int .i64 t.num, .string t.str, .slice A t.items.length c, .slice A' t.keys.length c'] (.string ⟨#[58]⟩) (.func (.func 36) #[] #[]) (.int .i64 0) (.int .i64 0) w
 have hB0 : Blk ((w.alloc (.cells #[.int .i64 t.kind, .bool t.tr, .int .i64 t.num, .string t.str, .slice A t.items.length c, .slice A' t.keys.length c'] 43)).alloc (.cells #[.pointer none, .slice none 0 0, .string ⟨#[58]⟩, .func (.func 36) #[] #[], .int .i64 0, .int .i64 0] 92)) w.heap.size 43 #[.int .i64 t.kind, .bool t.tr, .int .i64 t.num, .string t.str, .slice A t.items.length c, .slice A' t.keys.length c'] := (Blk.new w _ _).alloc _
 have hb : Below w.heap.size w ((w.alloc (.cells #[.int .i64 t.kind, .bool t.tr, .int .i64 t.num, .string t.str, .slice A t.items.length c, .slice A' t.keys.length c'] 43)).alloc (.cells #[.pointer none, .slice none 0 0, .string ⟨#[58]⟩, .func (.func 36) #[] #[], .int .i64 0, .int .i64 0] 92)) := ((Below.refl _ _).alloc (Nat.le_refl _) _).alloc (by simp) _
 change Code.wp _ _ _ _ ((w.alloc (.cells #[.int .i64 t.kind, .bool t.tr, .int .i64 t.num, .string t.str, .slice A t.items.length c, .slice A' t.keys.length c'] 43)).alloc (.cells #[.pointer none, .slice none 0 0, .string ⟨#[58]⟩, .func (.func 36) #[] #[], .int .i64 0, .int .i64 0] 92))
 generalize ((w.alloc (.cells #[.int .i64 t.kind, .bool t.tr, .int .i64 t.num, .string t.str, .slice A t.items.length c, .slice A' t.keys.length c'] 43)).alloc (.cells #[.pointer none, .slice none 0 0, .string ⟨#[58]⟩, .func (.func 36) #[] #[], .int .i64 0, .int .i64 0] 92)) = W at *
 obtain ⟨a0, a1, a2, a3, a4, a5⟩ : W.cell? ⟨w.heap.size, 0, none⟩ = some (.int .i64 t.kind) ∧ W.cell? ⟨w.heap.size, 1, none⟩ = some (.bool t.tr) ∧ W.cell? ⟨w.heap.size, 2, none⟩ = some (.int .i64 t.num) ∧ W.cell? ⟨w.heap.size, 3, none⟩ = some (.string t.str) ∧ W.cell? ⟨w.heap.size, 4, none⟩ = some (.slice A t.items.length c) ∧ W.cell? ⟨w.heap.size, 5, none⟩ = some (.slice A' t.keys.length c') := ⟨hB0.cell 0, hB0.cell 1, hB0.cell 2, hB0.cell 3, hB0.cell 4, hB0.cell 5⟩
 have HW := hid hW
 have HB := hid hb
 clear hW hb hB0
 go_wp2_with fail
 refine (value_at 1000 w.heap.size (w.heap.size + 1) [] 0 t A c A' c' _ hsz9 HN.out (Int.le_refl _) (by omega) (by simp; omega) (HT.out.on HB.out) (HV.out.under HB.out) HW.out HB.out.size).mono ?_
 rintro e w2 ⟨rfl, h2, k2⟩
 have H2 := hid h2
 have K2 := hid k2
 clear h2 k2
 go_wp2_with fail
 refine (string_any w.heap.size (w.heap.size + 1) t.txt _ _ _ _ _ H2.out (txt_ne t)).mono ?_
 rintro e w3 ⟨rfl, hb3⟩
 have H3 := hid (HB.out.trans (K2.out.1.trans hb3))
 clear hb3
 go_wp2_with fail
 go_ret
 exact ⟨rfl, H3.out⟩
def t1 : T := T.ofList [T.ofNum 1]
end Go.Proofs.YtgblenoaeanogaaGreatDoor
