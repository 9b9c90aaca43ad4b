/- The writer: arrays, objects and values: contracts. -/
import Derived.Test.YtgiapdmoiaiofaaDoorWrE
import Derived.Test.YtgiapdmoiaiofaaDoorCells
import Derived.Outline
namespace Go.Proofs.YtgiapdmoiaiofaaDoor
open Go.RowKit
set_option linter.unusedVariables false

def WroteV (B b : Nat) (l x : List UInt8) (d : Int) (w : World) (e : Ending) (w' : World) : Prop := Wrote B b l x (.string ⟨#[58]⟩) (.func (.func 21) #[] #[]) (.int .i64 0) (.int .i64 d) w e w'
def ValueAt (n : Nat) : Prop := ∀ (B b : Nat) (l : List UInt8) (d : Int) (t : T) (A : Option Addr) (c : Nat) (A' : Option Addr) (c' : Nat) (w : World), t.size ≤ n → t.Fine → 0 ≤ d → d + t.size ≤ 1000 → l.length + 800 * t.size ≤ 600000 → Tab B w → TV w (· < B) t A c A' c' → Wr B b l (.string ⟨#[58]⟩) (.func (.func 21) #[] #[]) (.int .i64 0) (.int .i64 d) w → B ≤ w.heap.size →
    Calls Tryd.prog 22 #[.pointer (some ⟨b, 0, none⟩), .agg #[.int .i64 t.kind, .bool t.tr, .int .i64 t.num, .string t.str, .slice A t.items.length c, .slice A' t.keys.length c']] w (WroteV B b l t.txt d w)
/-- what the loop has written -/
def Going (B b : Nat) (l : List UInt8) (o : UInt8) (t : T) (d : Int) (j : Nat) (w wr : World) : Prop := Wr B b (l ++ ([o] ++ T.txts t.keys (t.items.take j) 0)) (.string ⟨#[58]⟩) (.func (.func 21) #[] #[]) (.int .i64 0) (.int .i64 (d + 1)) wr ∧ Kept B b w wr
set_option maxRecDepth 100000 in
set_option maxHeartbeats 16000000 in
theorem things_at (n : Nat) (ih : ValueAt n) (B b : Nat) (l : List UInt8) (o z : UInt8) (d : Int) (t : T) (A : Option Addr) (c : Nat) (A' : Option Addr) (c' : Nat) (w : World) (hsz : t.size ≤ n + 1) (hn : t.Fine) (hd0 : 0 ≤ d) (hd : d + t.size ≤ 1000) (hlen : l.length + 800 * t.size ≤ 600000) (htab : Tab B w) (hv : TV w (· < B) t A c A' c') (hw : Wr B b l (.string ⟨#[58]⟩) (.func (.func 21) #[] #[]) (.int .i64 0) (.int .i64 d) w) (hBw : B ≤ w.heap.size) :
    Calls Tryd.prog 41 #[.pointer (some ⟨b, 0, none⟩), .agg #[.int .i64 t.kind, .bool t.tr, .int .i64 t.num, .string t.str, .slice A t.items.length c, .slice A' t.keys.length c'], .string ⟨#[o]⟩, .string ⟨#[z]⟩] w (WroteV B b l (o :: (T.txts t.keys t.items 0 ++ [z])) d w) := by
  have hi80 := hn.items80
  have hk80 := hn.keys_le
  have hsizes := T.size_eq t
  have hbl := hw.lt
  have hBX : B ≤ b := hw.1
  have HN := Lib.hid hn
  have HT := Lib.hid htab
  have HV := Lib.hid hv
  have HW := Lib.hid hw
  clear hn htab hv hw
  go_enter Tryd.func41, Tryd.ntmps41
  go_upto_region 1 with fail
  have hB0 : Blk (w.alloc (.cells #[.int .i64 t.kind, .bool t.tr, .int .i64 t.num, .string t.str, .slice A t.items.length c, .slice A' t.keys.length c'] 29)) w.heap.size 29 #[.int .i64 t.kind, .bool t.tr, .int .i64 t.num, .string t.str, .slice A t.items.length c, .slice A' t.keys.length c'] := Blk.new w _ _
  have hbb : Below w.heap.size w (w.alloc (.cells #[.int .i64 t.kind, .bool t.tr, .int .i64 t.num, .string t.str, .slice A t.items.length c, .slice A' t.keys.length c'] 29)) := (Below.refl _ _).alloc (Nat.le_refl _) _
  change Code.wp _ _ _ _ (w.alloc (.cells #[.int .i64 t.kind, .bool t.tr, .int .i64 t.num, .string t.str, .slice A t.items.length c, .slice A' t.keys.length c'] 29))
  generalize (w.alloc (.cells #[.int .i64 t.kind, .bool t.tr, .int .i64 t.num, .string t.str, .slice A t.items.length c, .slice A' t.keys.length c'] 29)) = W at *
  have HB0 := Lib.hid hB0
  have HW1 := Lib.hid (HW.out.on hbb)
  have HK1 := Lib.hid (Kept.of (b := b) hbb hBw)
  have hg0 : w.heap.size ≠ b := by omega
  have hs1 := Nat.le_trans hBw hbb.size
  generalize w.heap.size = g at *
  clear hB0 hbb HW
  go_wp2_with fail
  refine (wstr_any B b l _ _ _ _ ⟨#[o]⟩ _ HW1.out (by show l.length + 1 ≤ 900000; omega) hs1).mono ?_
  rintro e w2 ⟨rfl, h2, k2⟩
  have HK2 := Lib.hid (HK1.out.trans k2)
  have HB2 := Lib.hid (k2.blk HB0.out hg0 (by decide))
  have HW2 := Lib.hid (show Wr B b (l ++ [o]) (.string ⟨#[58]⟩) (.func (.func 21) #[] #[]) (.int .i64 0) (.int .i64 d) w2 from h2)
  obtain ⟨x2, x3, x5, f5⟩ := h2.cells
  obtain ⟨hw3, hk3⟩ := h2.deep (.int .i64 (d + 1))
  have hs2 := Nat.le_trans hs1 k2.size
  have HW3 := Lib.hid hw3
  have HK3 := Lib.hid (HK2.out.trans hk3)
  have HB3 := Lib.hid (hk3.blk HB2.out hg0 (by decide))
  have hwr : IntKind.i64.wrap (d + 1) = d + 1 := IntWalk.i64_in _ (by omega)
  have hs3 : B ≤ (w2.setCell ⟨b, 5, none⟩ (.int .i64 (d + 1))).heap.size := Nat.le_trans hs2 hk3.size
  clear h2 k2 hw3 hk3
  go_upto_region 3 with fail
  change Code.wp _ _ _ _ (w2.setCell ⟨b, 5, none⟩ (.int .i64 (d + 1)))
  generalize (w2.setCell ⟨b, 5, none⟩ (.int .i64 (d + 1))) = W3 at *
  clear x2 x3 x5 f5 HW2 HB2 HK2 HK1 HB0 HW1
  obtain ⟨a0, a1, a2, a3, a4, a5⟩ : W3.cell? ⟨g, 0, none⟩ = some (.int .i64 t.kind) ∧ W3.cell? ⟨g, 1, none⟩ = some (.bool t.tr) ∧ W3.cell? ⟨g, 2, none⟩ = some (.int .i64 t.num) ∧ W3.cell? ⟨g, 3, none⟩ = some (.string t.str) ∧ W3.cell? ⟨g, 4, none⟩ = some (.slice A t.items.length c) ∧ W3.cell? ⟨g, 5, none⟩ = some (.slice A' t.keys.length c') := ⟨HB3.out.cell 0, HB3.out.cell 1, HB3.out.cell 2, HB3.out.cell 3, HB3.out.cell 4, HB3.out.cell 5⟩
  have hfit := HN.out.fit.here.keys
  go_wp2_with fail
  go_loopw [25] (fun x wr => ∃ j : Nat, j ≤ t.items.length ∧ x = .int .i64 j ∧ Going B b l o t d j w wr ∧ Blk wr g 29 #[.int .i64 t.kind, .bool t.tr, .int .i64 t.num, .string t.str, .slice A t.items.length c, .slice A' t.keys.length c']) (fun x _ => t.items.length - (intOf x).toNat)
  case atStart => exact ⟨0, Nat.zero_le _, rfl, ⟨by simpa [T.txts] using HW3.out, HK3.out⟩, HB3.out⟩
  case round =>
    obtain ⟨j, hj, rfl, ⟨hwr, hkr⟩, hbg⟩ := hrel
    have hsr : B ≤ wr.heap.size := Nat.le_trans (Nat.le_of_lt (Nat.lt_of_le_of_lt hBX hwr.lt)) (Nat.le_refl _)
    have hpre := txts_len hfit (t.items.take j) 0 (fun x hx => txt_len x (HN.out.fit.mem (List.mem_of_mem_take hx)))
    have hst := T.sizes_take t.items j
    have HR := Lib.hid hwr
    have HKR := Lib.hid hkr
    have HBG := Lib.hid hbg
    clear hwr hkr hbg a0 a1 a2 a3 a4 a5
    by_cases hlt : j < t.items.length
    · have u1 : decide (j < t.items.length) = true := decide_eq_true hlt
      have u2 : decide ((j : Int) < (t.items.length : Int)) = true := decide_eq_true (by omega)
      have i1 : (j : Int) < (t.items.length : Int) := by omega
      have i2 : (0 : Int) ≤ (j : Int) := by omega
      obtain ⟨bI, oI, x, D, f, D', f', rfl, hbI, hx, h6, hX⟩ := HV.out.at_ hlt
      have hxs := T.sizes_snoc hx
      have hst2 := T.sizes_take t.items (j + 1)
      obtain ⟨e0, e1, e2, e3, e4, e5⟩ := h6.keep hbI (.of_below HKR.out.1)
      have HXV := Lib.hid hX
      have HX := Lib.hid hx
      clear hX h6 hx
      go_upto_region 6 with fail
      have hbI2 : Blk (wr.alloc (.cells #[.int .i64 x.kind, .bool x.tr, .int .i64 x.num, .string x.str, .slice D x.items.length f, .slice D' x.keys.length f'] 29)) wr.heap.size 29 #[.int .i64 x.kind, .bool x.tr, .int .i64 x.num, .string x.str, .slice D x.items.length f, .slice D' x.keys.length f'] := Blk.new wr _ _
      have hbb : Below wr.heap.size wr (wr.alloc (.cells #[.int .i64 x.kind, .bool x.tr, .int .i64 x.num, .string x.str, .slice D x.items.length f, .slice D' x.keys.length f'] 29)) := (Below.refl _ _).alloc (Nat.le_refl _) _
      change Code.wp _ _ _ _ (wr.alloc (.cells #[.int .i64 x.kind, .bool x.tr, .int .i64 x.num, .string x.str, .slice D x.items.length f, .slice D' x.keys.length f'] 29))
      have hbw := HR.out.lt
      generalize (wr.alloc (.cells #[.int .i64 x.kind, .bool x.tr, .int .i64 x.num, .string x.str, .slice D x.items.length f, .slice D' x.keys.length f'] 29)) = W5 at *
      have HR5 := Lib.hid (HR.out.on hbb)
      have HK5 := Lib.hid (HKR.out.trans (Kept.of (b := b) hbb hsr))
      have HBG5 := Lib.hid (HBG.out.onto hbb)
      have HBI5 := Lib.hid hbI2
      have hs5 := Nat.le_trans hsr hbb.size
      have hgi : wr.heap.size ≠ b := by omega
      generalize wr.heap.size = gi at *
      clear hbb hbI2 e0 e1 e2 e3 e4 e5 HR HKR HBG
      have hcl := comma_len j
      have hkpl := keyPart_len hfit j
      by_cases hj0 : j = 0
      · have c0 : decide ((0 : Int) < (j : Int)) = false := decide_eq_false (by omega)
        have c1 : decide (0 < j) = false := decide_eq_false (by omega)
        have hcm : comma j = [] := by unfold comma; rw [if_pos hj0]
        have HR6 := Lib.hid (show Wr B b ((l ++ ([o] ++ T.txts t.keys (t.items.take j) 0)) ++ comma j) (.string ⟨#[58]⟩) (.func (.func 21) #[] #[]) (.int .i64 0) (.int .i64 (d + 1)) W5 from by rw [hcm, List.append_nil]; exact HR5.out)
        have HK6 := HK5
        have HBG6 := HBG5
        have HBI6 := HBI5
        have hs6 := hs5
        obtain ⟨x2, x3, x5, f5⟩ := HR6.out.cells
        clear hj0 hcm HR5 HK5 HBG5 HBI5
        by_cases hk5 : t.kind = 5
        · have k5 : (t.kind = 5) := hk5
          have hll := HN.out.good.here.lens hk5
          obtain ⟨q, hq⟩ : ∃ q, t.keys[j]? = some q := ⟨_, List.getElem?_eq_getElem (by omega)⟩
          have hq60 := hfit q (List.mem_of_getElem? hq)
          have hkp : keyPart t.keys j = Q.quo q.data.toList ++ [58] := by unfold keyPart; rw [hq]; show Q.quo q.toList ++ [58] = _; rw [ByteArray.toList_eq]
          obtain ⟨bK, oK, hAK, hbK, hcK⟩ := HV.out.keys (by intro e; rw [e] at hq; simp at hq)
          subst hAK
          have ek : W5.cell? ⟨bK, oK + j, none⟩ = some (.string q) := (HK6.out.1.cell (p := ⟨bK, oK + j, none⟩) hbK).trans (hcK j q hq)
          have v1 : decide (j < t.keys.length) = true := decide_eq_true (by omega)
          have v2 : decide ((j : Int) < (t.keys.length : Int)) = true := decide_eq_true (by omega)
          have v3 : (j : Int) < (t.keys.length : Int) := by omega
          have b5 : W5.cell? ⟨g, 5, none⟩ = some (.slice (some ⟨bK, oK, none⟩) t.keys.length c') := HBG6.out.cell 5
          have hql := Q.quo_len q.data.toList
          have hqs : q.data.toList.length = q.size := by simp
          have HKP := Lib.hid hkp
          clear hq hcK hll k5 hk5 hkp
          go_wp2_with fail
          refine (nothing_any b _).mono ?_
          rintro e w6 ⟨rfl, rfl⟩
          go_wp2_with fail
          refine (quote_any7 B b _ _ _ _ _ q _ HR6.out (by simp only [List.length_append, List.length_singleton]; omega) (by omega) hs6).mono ?_
          rintro e w7 ⟨rfl, h7, k7⟩
          have HR7 := Lib.hid h7
          have HK7 := Lib.hid (HK6.out.trans k7)
          have HBG7 := Lib.hid (k7.blk HBG6.out hg0 (by decide))
          have HBI7 := Lib.hid (k7.blk HBI6.out hgi (by decide))
          have hs7 := Nat.le_trans hs6 k7.size
          have c7 := h7.cells.1
          clear h7 k7 x2 x3 x5 f5 b5 ek
          go_wp2_with fail
          refine wp_region_held_drew (S := fun w' => w'.cell? ⟨b, 2, none⟩ = some (.string ⟨#[58]⟩)) (by kernel_rfl) ?_ (fun hHeld => ?_)
          · exact c7
          refine wpAnyH_take (i := 0) (v := ?_) rfl (by kernel_rfl) (by kernel_rfl) (by kernel_rfl) (fun _ _ _ h => h) (Or.inl ⟨by rfl, ?_⟩) (by assumption) ?_
          rotate_left
          · intro wq hSw
            try dsimp only at hSw
            go_simp
            try (with_reducible rfl)
          try simp only [Act.put, List.getElem_toArray, List.getElem_cons_zero, List.setIfInBounds_toArray, List.set_cons_zero, List.set_cons_succ]
          refine wpAnyH_take (i := 1) (v := ?_) rfl (by kernel_rfl) (by kernel_rfl) (by kernel_rfl) (fun _ _ _ h => h) (Or.inl ⟨by rfl, ?_⟩) (by assumption) ?_
          rotate_left
          · intro wq hSw
            try dsimp only at hSw
            go_simp
            try (with_reducible rfl)
          try simp only [Act.put, List.getElem_toArray, List.getElem_cons_succ, List.getElem_cons_zero, List.setIfInBounds_toArray, List.set_cons_zero, List.set_cons_succ]
          refine wpAnyH_take (i := 2) (v := ?_) rfl (by kernel_rfl) (by kernel_rfl) (by kernel_rfl) (fun _ _ _ h => h) (Or.inl ⟨by rfl, ?_⟩) (by assumption) ?_
          rotate_left
          · intro wq hSw
            try dsimp only at hSw
            go_simp
            try (with_reducible rfl)
          try simp only [Act.put, List.getElem_toArray, List.getElem_cons_succ, List.getElem_cons_zero, List.setIfInBounds_toArray, List.set_cons_zero, List.set_cons_succ]
          refine wpAnyH_take (i := 3) (v := ?_) rfl (by kernel_rfl) (by kernel_rfl) (by kernel_rfl) (fun _ _ _ h => h) (Or.inl ⟨by rfl, ?_⟩) (by assumption) ?_
          rotate_left
          · intro wq hSw
            try dsimp only at hSw
            go_simp
            try (with_reducible rfl)
          try simp only [Act.put, List.getElem_toArray, List.getElem_cons_succ, List.getElem_cons_zero, List.setIfInBounds_toArray, List.set_cons_zero, List.set_cons_succ]
          refine wpAnyH_take (i := 4) (v := ?_) rfl (by kernel_rfl) (by kernel_rfl) (by kernel_rfl) (fun _ _ _ h => h) (Or.inl ⟨by rfl, ?_⟩) (by assumption) ?_
          rotate_left
          · intro wq hSw
            try dsimp only at hSw
            go_simp
            try (with_reducible rfl)
          try simp only [Act.put, List.getElem_toArray, List.getElem_cons_succ, List.getElem_cons_zero, List.setIfInBounds_toArray, List.set_cons_zero, List.set_cons_succ]
          refine wpAnyH_take (i := 5) (v := ?_) rfl (by kernel_rfl) (by kernel_rfl) (by kernel_rfl) (fun _ _ _ h => h) (Or.inl ⟨by rfl, ?_⟩) (by assumption) ?_
          rotate_left
          · intro wq hSw
            try dsimp only at hSw
            go_simp
            try (with_reducible rfl)
          try simp only [Act.put, List.getElem_toArray, List.getElem_cons_succ, List.getElem_cons_zero, List.setIfInBounds_toArray, List.set_cons_zero, List.set_cons_succ]
          refine wpAnyH_take (i := 6) (v := ?_) rfl (by kernel_rfl) (by kernel_rfl) (by kernel_rfl) (fun _ _ _ h => h) (Or.inl ⟨by rfl, ?_⟩) (by assumption) ?_
          rotate_left
          · intro wq hSw
            try dsimp only at hSw
            go_simp
            try (with_reducible rfl)
          try simp only [Act.put, List.getElem_toArray, List.getElem_cons_succ, List.getElem_cons_zero, List.setIfInBounds_toArray, List.set_cons_zero, List.set_cons_succ]
          refine wpAnyH_ready (rs := [7]) (by kernel_rfl) (by simp) ?_
          refine AllReadyH.cons rfl (fun K0 hK => ?_) ?_
          rotate_left
          · exact AllReadyH.nil
          go_simp
          refine (wstr_any B b _ _ _ _ _ ⟨#[58]⟩ _ HR7.out.drewW (by show _ + 1 ≤ 900000; simp only [List.length_append, List.length_singleton]; omega) hs7).mono ?_
          rintro e w8 ⟨rfl, h8, k8⟩
          have HR8 := Lib.hid (show Wr B b ((l ++ ([o] ++ T.txts t.keys (t.items.take j) 0)) ++ comma j ++ keyPart t.keys j) (.string ⟨#[58]⟩) (.func (.func 21) #[] #[]) (.int .i64 0) (.int .i64 (d + 1)) w8 from by rw [HKP.out]; have := h8; simpa only [List.append_assoc] using this)
          have HK8 := Lib.hid (HK7.out.trans (Kept.drewK k8))
          have HBG8 := Lib.hid ((Kept.drewK k8).blk HBG7.out hg0 (by decide))
          have HBI8 := Lib.hid ((Kept.drewK k8).blk HBI7.out hgi (by decide))
          have hs8 := Nat.le_trans hs7 (Kept.drewK k8).size
          have c8 := h8.cells.1
          clear h8 k8 c7
          go_wp2_with fail
          refine hK.out _ _ ?_ (fun hHeld => ?_)
          · exact c8
          clear hK K0
          try simp only [Act.put, List.getElem_toArray, List.getElem_cons_succ, List.getElem_cons_zero, List.setIfInBounds_toArray, List.set_cons_zero, List.set_cons_succ]
          refine wpAnyH_done (by kernel_rfl) ?_ _
          clear c8
          obtain ⟨q0, q1, q2, q3, q4, q5⟩ : w8.cell? ⟨gi, 0, none⟩ = some (.int .i64 x.kind) ∧ w8.cell? ⟨gi, 1, none⟩ = some (.bool x.tr) ∧ w8.cell? ⟨gi, 2, none⟩ = some (.int .i64 x.num) ∧ w8.cell? ⟨gi, 3, none⟩ = some (.string x.str) ∧ w8.cell? ⟨gi, 4, none⟩ = some (.slice D x.items.length f) ∧ w8.cell? ⟨gi, 5, none⟩ = some (.slice D' x.keys.length f') := ⟨HBI8.out.cell 0, HBI8.out.cell 1, HBI8.out.cell 2, HBI8.out.cell 3, HBI8.out.cell 4, HBI8.out.cell 5⟩
          go_wp2_with fail
          refine (ih B b _ (d + 1) x D f D' f' _ (by omega) (HN.out.at_ HX.out) (by omega) (by omega) (by simp only [List.length_append, List.length_singleton]; omega) (HT.out.on HK8.out.1) (HXV.out.under HK8.out.1) HR8.out hs8).mono ?_
          rintro e w9 ⟨rfl, h9, k9⟩
          have HR9 := Lib.hid h9
          have HK9 := Lib.hid (HK8.out.trans k9)
          have HBG9 := Lib.hid (k9.blk HBG8.out hg0 (by decide))
          clear h9 k9 q0 q1 q2 q3 q4 q5
          go_wp2_with fail
          go_roundw
          case rel => exact ⟨j + 1, hlt, by go_num, ⟨by rw [txts_take HX.out]; have := HR9.out; simpa only [List.append_assoc] using this, HK9.out⟩, HBG9.out⟩
          case measure => simp [intOf]; omega
        · have hk0 : t.keys = [] := HN.out.good.here.keys hk5
          have hkp : keyPart t.keys j = [] := by unfold keyPart; rw [hk0]; rfl
          have hkl0 : t.keys.length = 0 := by rw [hk0]; rfl
          have v1 : decide (j < t.keys.length) = false := decide_eq_false (by omega)
          have v2 : decide ((j : Int) < (t.keys.length : Int)) = false := decide_eq_false (by omega)
          have b5 : W5.cell? ⟨g, 5, none⟩ = some (.slice A' t.keys.length c') := HBG6.out.cell 5
          have HR8 := Lib.hid (show Wr B b ((l ++ ([o] ++ T.txts t.keys (t.items.take j) 0)) ++ comma j ++ keyPart t.keys j) (.string ⟨#[58]⟩) (.func (.func 21) #[] #[]) (.int .i64 0) (.int .i64 (d + 1)) W5 from by rw [hkp, List.append_nil]; exact HR6.out)
          clear hk5 hk0 hkp hkl0
          go_wp2_with fail
          refine (nothing_any b _).mono ?_
          rintro e w6 ⟨rfl, rfl⟩
          obtain ⟨q0, q1, q2, q3, q4, q5⟩ : W5.cell? ⟨gi, 0, none⟩ = some (.int .i64 x.kind) ∧ W5.cell? ⟨gi, 1, none⟩ = some (.bool x.tr) ∧ W5.cell? ⟨gi, 2, none⟩ = some (.int .i64 x.num) ∧ W5.cell? ⟨gi, 3, none⟩ = some (.string x.str) ∧ W5.cell? ⟨gi, 4, none⟩ = some (.slice D x.items.length f) ∧ W5.cell? ⟨gi, 5, none⟩ = some (.slice D' x.keys.length f') := ⟨HBI6.out.cell 0, HBI6.out.cell 1, HBI6.out.cell 2, HBI6.out.cell 3, HBI6.out.cell 4, HBI6.out.cell 5⟩
          go_wp2_with fail
          refine (ih B b _ (d + 1) x D f D' f' _ (by omega) (HN.out.at_ HX.out) (by omega) (by omega) (by simp only [List.length_append, List.length_singleton]; omega) (HT.out.on HK6.out.1) (HXV.out.under HK6.out.1) HR8.out hs6).mono ?_
          rintro e w9 ⟨rfl, h9, k9⟩
          have HR9 := Lib.hid h9
          have HK9 := Lib.hid (HK6.out.trans k9)
          have HBG9 := Lib.hid (k9.blk HBG6.out hg0 (by decide))
          clear h9 k9 q0 q1 q2 q3 q4 q5
          go_wp2_with fail
          go_roundw
          case rel => exact ⟨j + 1, hlt, by go_num, ⟨by rw [txts_take HX.out]; have := HR9.out; simpa only [List.append_assoc] using this, HK9.out⟩, HBG9.out⟩
          case measure => simp [intOf]; omega
      · have c0 : decide ((0 : Int) < (j : Int)) = true := decide_eq_true (by omega)
        have c1 : decide (0 < j) = true := decide_eq_true (by omega)
        have hcm : comma j = [44] := by unfold comma; rw [if_neg hj0]
        clear hj0
        go_wp2_with fail
        refine (wstr_any B b _ _ _ _ _ ⟨#[44]⟩ _ HR5.out (by show _ + 1 ≤ 900000; simp only [List.length_append, List.length_singleton]; omega) hs5).mono ?_
        rintro e w6 ⟨rfl, h6, k6⟩
        have HR6 := Lib.hid (show Wr B b ((l ++ ([o] ++ T.txts t.keys (t.items.take j) 0)) ++ comma j) (.string ⟨#[58]⟩) (.func (.func 21) #[] #[]) (.int .i64 0) (.int .i64 (d + 1)) w6 from by rw [hcm]; exact h6)
        have HK6 := Lib.hid (HK5.out.trans k6)
        have HBG6 := Lib.hid (k6.blk HBG5.out hg0 (by decide))
        have HBI6 := Lib.hid (k6.blk HBI5.out hgi (by decide))
        have hs6 := Nat.le_trans hs5 k6.size
        obtain ⟨x2, x3, x5, f5⟩ := HR6.out.cells
        clear h6 k6 hcm HR5 HK5 HBG5 HBI5
        by_cases hk5 : t.kind = 5
        · have k5 : (t.kind = 5) := hk5
          have hll := HN.out.good.here.lens hk5
          obtain ⟨q, hq⟩ : ∃ q, t.keys[j]? = some q := ⟨_, List.getElem?_eq_getElem (by omega)⟩
          have hq60 := hfit q (List.mem_of_getElem? hq)
          have hkp : keyPart t.keys j = Q.quo q.data.toList ++ [58] := by unfold keyPart; rw [hq]; show Q.quo q.toList ++ [58] = _; rw [ByteArray.toList_eq]
          obtain ⟨bK, oK, hAK, hbK, hcK⟩ := HV.out.keys (by intro e; rw [e] at hq; simp at hq)
          subst hAK
          have ek : w6.cell? ⟨bK, oK + j, none⟩ = some (.string q) := (HK6.out.1.cell (p := ⟨bK, oK + j, none⟩) hbK).trans (hcK j q hq)
          have v1 : decide (j < t.keys.length) = true := decide_eq_true (by omega)
          have v2 : decide ((j : Int) < (t.keys.length : Int)) = true := decide_eq_true (by omega)
          have v3 : (j : Int) < (t.keys.length : Int) := by omega
          have b5 : w6.cell? ⟨g, 5, none⟩ = some (.slice (some ⟨bK, oK, none⟩) t.keys.length c') := HBG6.out.cell 5
          have hql := Q.quo_len q.data.toList
          have hqs : q.data.toList.length = q.size := by simp
          have HKP := Lib.hid hkp
          clear hq hcK hll k5 hk5 hkp
          go_wp2_with fail
          refine (nothing_any b _).mono ?_
          rintro e w6 ⟨rfl, rfl⟩
          go_wp2_with fail
          refine (quote_any7 B b _ _ _ _ _ q _ HR6.out (by simp only [List.length_append, List.length_singleton]; omega) (by omega) hs6).mono ?_
          rintro e w7 ⟨rfl, h7, k7⟩
          have HR7 := Lib.hid h7
          have HK7 := Lib.hid (HK6.out.trans k7)
          have HBG7 := Lib.hid (k7.blk HBG6.out hg0 (by decide))
          have HBI7 := Lib.hid (k7.blk HBI6.out hgi (by decide))
          have hs7 := Nat.le_trans hs6 k7.size
          have c7 := h7.cells.1
          clear h7 k7 x2 x3 x5 f5 b5 ek
          go_wp2_with fail
          refine wp_region_held_drew (S := fun w' => w'.cell? ⟨b, 2, none⟩ = some (.string ⟨#[58]⟩)) (by kernel_rfl) ?_ (fun hHeld => ?_)
          · exact c7
          refine wpAnyH_take (i := 0) (v := ?_) rfl (by kernel_rfl) (by kernel_rfl) (by kernel_rfl) (fun _ _ _ h => h) (Or.inl ⟨by rfl, ?_⟩) (by assumption) ?_
          rotate_left
          · intro wq hSw
            try dsimp only at hSw
            go_simp
            try (with_reducible rfl)
          try simp only [Act.put, List.getElem_toArray, List.getElem_cons_zero, List.setIfInBounds_toArray, List.set_cons_zero, List.set_cons_succ]
          refine wpAnyH_take (i := 1) (v := ?_) rfl (by kernel_rfl) (by kernel_rfl) (by kernel_rfl) (fun _ _ _ h => h) (Or.inl ⟨by rfl, ?_⟩) (by assumption) ?_
          rotate_left
          · intro wq hSw
            try dsimp only at hSw
            go_simp
            try (with_reducible rfl)
          try simp only [Act.put, List.getElem_toArray, List.getElem_cons_succ, List.getElem_cons_zero, List.setIfInBounds_toArray, List.set_cons_zero, List.set_cons_succ]
          refine wpAnyH_take (i := 2) (v := ?_) rfl (by kernel_rfl) (by kernel_rfl) (by kernel_rfl) (fun _ _ _ h => h) (Or.inl ⟨by rfl, ?_⟩) (by assumption) ?_
          rotate_left
          · intro wq hSw
            try dsimp only at hSw
            go_simp
            try (with_reducible rfl)
          try simp only [Act.put, List.getElem_toArray, List.getElem_cons_succ, List.getElem_cons_zero, List.setIfInBounds_toArray, List.set_cons_zero, List.set_cons_succ]
          refine wpAnyH_take (i := 3) (v := ?_) rfl (by kernel_rfl) (by kernel_rfl) (by kernel_rfl) (fun _ _ _ h => h) (Or.inl ⟨by rfl, ?_⟩) (by assumption) ?_
          rotate_left
          · intro wq hSw
            try dsimp only at hSw
            go_simp
            try (with_reducible rfl)
          try simp only [Act.put, List.getElem_toArray, List.getElem_cons_succ, List.getElem_cons_zero, List.setIfInBounds_toArray, List.set_cons_zero, List.set_cons_succ]
          refine wpAnyH_take (i := 4) (v := ?_) rfl (by kernel_rfl) (by kernel_rfl) (by kernel_rfl) (fun _ _ _ h => h) (Or.inl ⟨by rfl, ?_⟩) (by assumption) ?_
          rotate_left
          · intro wq hSw
            try dsimp only at hSw
            go_simp
            try (with_reducible rfl)
          try simp only [Act.put, List.getElem_toArray, List.getElem_cons_succ, List.getElem_cons_zero, List.setIfInBounds_toArray, List.set_cons_zero, List.set_cons_succ]
          refine wpAnyH_take (i := 5) (v := ?_) rfl (by kernel_rfl) (by kernel_rfl) (by kernel_rfl) (fun _ _ _ h => h) (Or.inl ⟨by rfl, ?_⟩) (by assumption) ?_
          rotate_left
          · intro wq hSw
            try dsimp only at hSw
            go_simp
            try (with_reducible rfl)
          try simp only [Act.put, List.getElem_toArray, List.getElem_cons_succ, List.getElem_cons_zero, List.setIfInBounds_toArray, List.set_cons_zero, List.set_cons_succ]
          refine wpAnyH_take (i := 6) (v := ?_) rfl (by kernel_rfl) (by kernel_rfl) (by kernel_rfl) (fun _ _ _ h => h) (Or.inl ⟨by rfl, ?_⟩) (by assumption) ?_
          rotate_left
          · intro wq hSw
            try dsimp only at hSw
            go_simp
            try (with_reducible rfl)
          try simp only [Act.put, List.getElem_toArray, List.getElem_cons_succ, List.getElem_cons_zero, List.setIfInBounds_toArray, List.set_cons_zero, List.set_cons_succ]
          refine wpAnyH_ready (rs := [7]) (by kernel_rfl) (by simp) ?_
          refine AllReadyH.cons rfl (fun K0 hK => ?_) ?_
          rotate_left
          · exact AllReadyH.nil
          go_simp
          refine (wstr_any B b _ _ _ _ _ ⟨#[58]⟩ _ HR7.out.drewW (by show _ + 1 ≤ 900000; simp only [List.length_append, List.length_singleton]; omega) hs7).mono ?_
          rintro e w8 ⟨rfl, h8, k8⟩
          have HR8 := Lib.hid (show Wr B b ((l ++ ([o] ++ T.txts t.keys (t.items.take j) 0)) ++ comma j ++ keyPart t.keys j) (.string ⟨#[58]⟩) (.func (.func 21) #[] #[]) (.int .i64 0) (.int .i64 (d + 1)) w8 from by rw [HKP.out]; have := h8; simpa only [List.append_assoc] using this)
          have HK8 := Lib.hid (HK7.out.trans (Kept.drewK k8))
          have HBG8 := Lib.hid ((Kept.drewK k8).blk HBG7.out hg0 (by decide))
          have HBI8 := Lib.hid ((Kept.drewK k8).blk HBI7.out hgi (by decide))
          have hs8 := Nat.le_trans hs7 (Kept.drewK k8).size
          have c8 := h8.cells.1
          clear h8 k8 c7
          go_wp2_with fail
          refine hK.out _ _ ?_ (fun hHeld => ?_)
          · exact c8
          clear hK K0
          try simp only [Act.put, List.getElem_toArray, List.getElem_cons_succ, List.getElem_cons_zero, List.setIfInBounds_toArray, List.set_cons_zero, List.set_cons_succ]
          refine wpAnyH_done (by kernel_rfl) ?_ _
          clear c8
          obtain ⟨q0, q1, q2, q3, q4, q5⟩ : w8.cell? ⟨gi, 0, none⟩ = some (.int .i64 x.kind) ∧ w8.cell? ⟨gi, 1, none⟩ = some (.bool x.tr) ∧ w8.cell? ⟨gi, 2, none⟩ = some (.int .i64 x.num) ∧ w8.cell? ⟨gi, 3, none⟩ = some (.string x.str) ∧ w8.cell? ⟨gi, 4, none⟩ = some (.slice D x.items.length f) ∧ w8.cell? ⟨gi, 5, none⟩ = some (.slice D' x.keys.length f') := ⟨HBI8.out.cell 0, HBI8.out.cell 1, HBI8.out.cell 2, HBI8.out.cell 3, HBI8.out.cell 4, HBI8.out.cell 5⟩
          go_wp2_with fail
          refine (ih B b _ (d + 1) x D f D' f' _ (by omega) (HN.out.at_ HX.out) (by omega) (by omega) (by simp only [List.length_append, List.length_singleton]; omega) (HT.out.on HK8.out.1) (HXV.out.under HK8.out.1) HR8.out hs8).mono ?_
          rintro e w9 ⟨rfl, h9, k9⟩
          have HR9 := Lib.hid h9
          have HK9 := Lib.hid (HK8.out.trans k9)
          have HBG9 := Lib.hid (k9.blk HBG8.out hg0 (by decide))
          clear h9 k9 q0 q1 q2 q3 q4 q5
          go_wp2_with fail
          go_roundw
          case rel => exact ⟨j + 1, hlt, by go_num, ⟨by rw [txts_take HX.out]; have := HR9.out; simpa only [List.append_assoc] using this, HK9.out⟩, HBG9.out⟩
          case measure => simp [intOf]; omega
        · have hk0 : t.keys = [] := HN.out.good.here.keys hk5
          have hkp : keyPart t.keys j = [] := by unfold keyPart; rw [hk0]; rfl
          have hkl0 : t.keys.length = 0 := by rw [hk0]; rfl
          have v1 : decide (j < t.keys.length) = false := decide_eq_false (by omega)
          have v2 : decide ((j : Int) < (t.keys.length : Int)) = false := decide_eq_false (by omega)
          have b5 : w6.cell? ⟨g, 5, none⟩ = some (.slice A' t.keys.length c') := HBG6.out.cell 5
          have HR8 := Lib.hid (show Wr B b ((l ++ ([o] ++ T.txts t.keys (t.items.take j) 0)) ++ comma j ++ keyPart t.keys j) (.string ⟨#[58]⟩) (.func (.func 21) #[] #[]) (.int .i64 0) (.int .i64 (d + 1)) w6 from by rw [hkp, List.append_nil]; exact HR6.out)
          clear hk5 hk0 hkp hkl0
          go_wp2_with fail
          refine (nothing_any b _).mono ?_
          rintro e w6 ⟨rfl, rfl⟩
          obtain ⟨q0, q1, q2, q3, q4, q5⟩ : w6.cell? ⟨gi, 0, none⟩ = some (.int .i64 x.kind) ∧ w6.cell? ⟨gi, 1, none⟩ = some (.bool x.tr) ∧ w6.cell? ⟨gi, 2, none⟩ = some (.int .i64 x.num) ∧ w6.cell? ⟨gi, 3, none⟩ = some (.string x.str) ∧ w6.cell? ⟨gi, 4, none⟩ = some (.slice D x.items.length f) ∧ w6.cell? ⟨gi, 5, none⟩ = some (.slice D' x.keys.length f') := ⟨HBI6.out.cell 0, HBI6.out.cell 1, HBI6.out.cell 2, HBI6.out.cell 3, HBI6.out.cell 4, HBI6.out.cell 5⟩
          go_wp2_with fail
          refine (ih B b _ (d + 1) x D f D' f' _ (by omega) (HN.out.at_ HX.out) (by omega) (by omega) (by simp only [List.length_append, List.length_singleton]; omega) (HT.out.on HK6.out.1) (HXV.out.under HK6.out.1) HR8.out hs6).mono ?_
          rintro e w9 ⟨rfl, h9, k9⟩
          have HR9 := Lib.hid h9
          have HK9 := Lib.hid (HK6.out.trans k9)
          have HBG9 := Lib.hid (k9.blk HBG6.out hg0 (by decide))
          clear h9 k9 q0 q1 q2 q3 q4 q5
          go_wp2_with fail
          go_roundw
          case rel => exact ⟨j + 1, hlt, by go_num, ⟨by rw [txts_take HX.out]; have := HR9.out; simpa only [List.append_assoc] using this, HK9.out⟩, HBG9.out⟩
          case measure => simp [intOf]; omega
    · have u1 : decide (j < t.items.length) = false := decide_eq_false hlt
      have u2 : decide ((j : Int) < (t.items.length : Int)) = false := decide_eq_false (by omega)
      have hfull : t.items.take j = t.items := List.take_of_length_le (by omega)
      rw [hfull] at hpre
      have HRF := Lib.hid (show Wr B b (l ++ ([o] ++ T.txts t.keys t.items 0)) (.string ⟨#[58]⟩) (.func (.func 21) #[] #[]) (.int .i64 0) (.int .i64 (d + 1)) wr from by have := HR.out; rw [hfull] at this; exact this)
      obtain ⟨x2, x3, x5, f5⟩ := HRF.out.cells
      obtain ⟨hwe, hke⟩ := HRF.out.deep (.int .i64 d)
      have hwr2 : IntKind.i64.wrap (d + 1 - 1) = d := by rw [show d + 1 - 1 = d by omega]; exact IntWalk.i64_in _ (by omega)
      have hwr3 : IntKind.i64.wrap d = d := IntWalk.i64_in _ (by omega)
      have HWE := Lib.hid hwe
      have HKE := Lib.hid (HKR.out.trans hke)
      have HBE := Lib.hid (hke.blk HBG.out hg0 (by decide))
      have hse : B ≤ (wr.setCell ⟨b, 5, none⟩ (.int .i64 d)).heap.size := Nat.le_trans hsr hke.size
      clear hwe hke hfull HR
      go_upto_region 15 with fail
      change Code.wp _ _ _ _ (wr.setCell ⟨b, 5, none⟩ (.int .i64 d))
      generalize (wr.setCell ⟨b, 5, none⟩ (.int .i64 d)) = WE at *
      clear x2 x3 x5 f5
      obtain ⟨x2, x3, x5, f5⟩ := HWE.out.cells
      have b4 : WE.cell? ⟨g, 4, none⟩ = some (.slice A t.items.length c) := HBE.out.cell 4
      by_cases hz : 0 < t.items.length
      · have v1 : decide (0 < t.items.length) = true := decide_eq_true hz
        have v2 : decide ((0 : Int) < (t.items.length : Int)) = true := decide_eq_true (by omega)
        go_wp2_with fail
        refine (nothing_any b _).mono ?_
        rintro e w6 ⟨rfl, rfl⟩
        go_wp2_with fail
        refine (wstr_any B b _ _ _ _ _ ⟨#[z]⟩ _ HWE.out (by show _ + 1 ≤ 900000; simp only [List.length_append, List.length_singleton]; omega) hse).mono ?_
        rintro e w7 ⟨rfl, h7, k7⟩
        have HR7 := Lib.hid h7
        have HK7 := Lib.hid (HKE.out.trans k7)
        clear h7 k7
        go_wp2_with fail
        go_end0
        refine ⟨rfl, ?_, HK7.out⟩
        have := HR7.out
        simpa only [List.append_assoc, List.singleton_append, List.cons_append, List.nil_append] using this
      · have v1 : decide (0 < t.items.length) = false := decide_eq_false hz
        have v2 : decide ((0 : Int) < (t.items.length : Int)) = false := decide_eq_false (by omega)
        go_wp2_with fail
        refine (wstr_any B b _ _ _ _ _ ⟨#[z]⟩ _ HWE.out (by show _ + 1 ≤ 900000; simp only [List.length_append, List.length_singleton]; omega) hse).mono ?_
        rintro e w7 ⟨rfl, h7, k7⟩
        have HR7 := Lib.hid h7
        have HK7 := Lib.hid (HKE.out.trans k7)
        clear h7 k7
        go_wp2_with fail
        go_end0
        refine ⟨rfl, ?_, HK7.out⟩
        have := HR7.out
        simpa only [List.append_assoc, List.singleton_append, List.cons_append, List.nil_append] using this
end Go.Proofs.YtgiapdmoiaiofaaDoor
