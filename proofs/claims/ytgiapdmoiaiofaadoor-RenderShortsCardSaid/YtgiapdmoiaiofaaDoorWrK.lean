/- A value's text; the fixed fact of layer 7: contracts. The fixed fact of layer 7. A text's text: contract. -/
import Derived.Test.YtgiapdmoiaiofaaDoorWrG
import Derived.Test.YtgiapdmoiaiofaaDoorAwake
import Derived.Test.YtgiapdmoiaiofaaDoorList
import Derived.Outline
import Derived.Test.YtgiapdmoiaiofaaDoorNice
import Derived.Test.YtgiapdmoiaiofaaDoorRquo
namespace Go.Proofs.YtgiapdmoiaiofaaDoor
open Go.RowKit
set_option linter.unusedVariables false

theorem itoa_ne (n : Int) : Lib.itoa n ≠ [] := by
  intro e
  have h := (De.itoa_form n).1
  rw [e] at h
  revert h
  decide
theorem txt_ne (t : T) : t.txt ≠ [] := by
  rw [T.txt_eq]
  split
  · split <;> simp
  split
  · exact itoa_ne _
  split
  · unfold Q.quo; simp
  split
  · simp
  split
  · simp
  · simp
theorem wr_new2 (c0 : Array Value) (c2 c3 c4 c5 : Value) (w : World) : Wr w.heap.size (w.heap.size + 1) [] c2 c3 c4 c5 ((w.alloc (.cells c0 29)).alloc (.cells #[.pointer none, .slice none 0 0, c2, c3, c4, c5] 56)) := by
  refine ⟨Nat.le_succ _, .pointer none, .slice none 0 0, .inl rfl, ?_, rfl, .inl ⟨rfl, rfl⟩⟩
  have := Blk.new (w.alloc (.cells c0 29)) 56 #[.pointer none, .slice none 0 0, c2, c3, c4, c5]
  simpa using this
set_option maxHeartbeats 4000000 in
set_option maxRecDepth 100000 in
theorem rntext_any (t : T) (A : Option Addr) (c : Nat) (A' : Option Addr) (c' : Nat) (w : World) (hn : t.Fine) (ht : Lib.TabIs Tryd.prog w "internal/strconv.uint64pow10" .u64 Lib.pow10Tab) (hv : TV w (· < w.heap.size) t A c A' c') :
    Calls Tryd.prog 9 #[.agg #[.int .i64 t.kind, .bool t.tr, .int .i64 t.num, .string t.str, .slice A t.items.length c, .slice A' t.keys.length c']] w fun e w' => e = .returned (.string (mkB t.txt)) ∧ Below w.heap.size w w' := by
  have hsz := hn.size
  have HN := Lib.hid hn
  have HT := Lib.hid (tab_of ht)
  have HV := Lib.hid hv
  clear hn ht hv
  go_enter Tryd.func9, Tryd.ntmps9
  go_upto_region 2 with fail
  have hW := wr_new2 #[.int .i64 t.kind, .bool t.tr, .int .i64 t.num, .string t.str, .slice A t.items.length c, .slice A' t.keys.length c'] (.string ⟨#[58]⟩) (.func (.func 21) #[] #[]) (.int .i64 0) (.int .i64 0) w
  have hB0 : Blk ((w.alloc (.cells #[.int .i64 t.kind, .bool t.tr, .int .i64 t.num, .string t.str, .slice A t.items.length c, .slice A' t.keys.length c'] 29)).alloc (.cells #[.pointer none, .slice none 0 0, .string ⟨#[58]⟩, .func (.func 21) #[] #[], .int .i64 0, .int .i64 0] 56)) w.heap.size 29 #[.int .i64 t.kind, .bool t.tr, .int .i64 t.num, .string t.str, .slice A t.items.length c, .slice A' t.keys.length c'] := (Blk.new w _ _).alloc _
  have hb : Below w.heap.size w ((w.alloc (.cells #[.int .i64 t.kind, .bool t.tr, .int .i64 t.num, .string t.str, .slice A t.items.length c, .slice A' t.keys.length c'] 29)).alloc (.cells #[.pointer none, .slice none 0 0, .string ⟨#[58]⟩, .func (.func 21) #[] #[], .int .i64 0, .int .i64 0] 56)) := ((Below.refl _ _).alloc (Nat.le_refl _) _).alloc (by simp) _
  change Code.wp _ _ _ _ ((w.alloc (.cells #[.int .i64 t.kind, .bool t.tr, .int .i64 t.num, .string t.str, .slice A t.items.length c, .slice A' t.keys.length c'] 29)).alloc (.cells #[.pointer none, .slice none 0 0, .string ⟨#[58]⟩, .func (.func 21) #[] #[], .int .i64 0, .int .i64 0] 56))
  generalize ((w.alloc (.cells #[.int .i64 t.kind, .bool t.tr, .int .i64 t.num, .string t.str, .slice A t.items.length c, .slice A' t.keys.length c'] 29)).alloc (.cells #[.pointer none, .slice none 0 0, .string ⟨#[58]⟩, .func (.func 21) #[] #[], .int .i64 0, .int .i64 0] 56)) = W at *
  obtain ⟨a0, a1, a2, a3, a4, a5⟩ : W.cell? ⟨w.heap.size, 0, none⟩ = some (.int .i64 t.kind) ∧ W.cell? ⟨w.heap.size, 1, none⟩ = some (.bool t.tr) ∧ W.cell? ⟨w.heap.size, 2, none⟩ = some (.int .i64 t.num) ∧ W.cell? ⟨w.heap.size, 3, none⟩ = some (.string t.str) ∧ W.cell? ⟨w.heap.size, 4, none⟩ = some (.slice A t.items.length c) ∧ W.cell? ⟨w.heap.size, 5, none⟩ = some (.slice A' t.keys.length c') := ⟨hB0.cell 0, hB0.cell 1, hB0.cell 2, hB0.cell 3, hB0.cell 4, hB0.cell 5⟩
  have HW := Lib.hid hW
  have HB := Lib.hid hb
  clear hW hb hB0
  go_wp2_with fail
  refine (value_at 80 w.heap.size (w.heap.size + 1) [] 0 t A c A' c' _ hsz HN.out (Int.le_refl _) (by omega) (by simp; omega) (HT.out.on HB.out) (HV.out.under HB.out) HW.out HB.out.size).mono ?_
  rintro e w2 ⟨rfl, h2, k2⟩
  have H2 := Lib.hid h2
  have K2 := Lib.hid k2
  clear h2 k2
  go_wp2_with fail
  refine (string_any w.heap.size (w.heap.size + 1) t.txt _ _ _ _ _ H2.out (txt_ne t)).mono ?_
  rintro e w3 ⟨rfl, hb3⟩
  have H3 := Lib.hid (HB.out.trans (K2.out.1.trans hb3))
  clear hb3
  go_wp2_with fail
  go_ret
  exact ⟨rfl, H3.out⟩
theorem srt_ab : srt [sa, sb] = [sa, sb] := by
  have h : (([97] : List UInt8) ≤ [98]) := by decide
  simp [srt, sa, sb, List.mergeSort, h]
def t1 : T := T.ofList [T.ofNum 1]
def abN : T := .mk 5 false 0 ⟨#[]⟩ [t1, T.zero] [sa, sb]
theorem obj_ab : objT [sa, sb] [t1, T.zero] = abN := by
  unfold objT placed
  rw [srt_ab]
  rfl
end Go.Proofs.YtgiapdmoiaiofaaDoor
namespace Go.Proofs.YtgiapdmoiaiofaaDoor
open Go.RowKit
set_option linter.unusedVariables false

theorem itoa_one : Lib.itoa 1 = [49] := by
  unfold Lib.itoa
  rw [if_neg (by decide)]
  show Lib.decDigits 1 = [49]
  rw [De.dec_small' (by decide)]; rfl
theorem txt_ab : abN.txt = [123, 34, 97, 34, 58, 91, 49, 93, 44, 34, 98, 34, 58, 110, 117, 108, 108, 125] := by
  have e1 : t1.txt = [91, 49, 93] := by
    show 91 :: (([] ++ ([] ++ (Lib.itoa 1 ++ []))) ++ [93]) = _
    rw [itoa_one]; rfl
  have e2 : T.zero.txt = [110, 117, 108, 108] := rfl
  show 123 :: (T.txts [sa, sb] [t1, T.zero] 0 ++ [125]) = _
  rw [txts_cons, txts_cons, e1, e2, T.txts]
  have ka : keyPart [sa, sb] 0 = [34, 97, 34, 58] := by
    show Q.quo sa.toList ++ [58] = _
    rw [ByteArray.toList_eq]; decide +kernel
  have kb : keyPart [sa, sb] (0 + 1) = [34, 98, 34, 58] := by
    show Q.quo sb.toList ++ [58] = _
    rw [ByteArray.toList_eq]; decide +kernel
  rw [ka, kb]; rfl
theorem nice_t1 : t1.Nice := nice_app (l := []) nice_nil (nice_num (n := 1) (by decide) (by decide)) (by decide)
theorem nice_ab : abN.Nice := by
  have h1 : (T.ofObj [t1] [sa]).Nice := nice_put (l := []) (ks := []) (q := sa) nice_obj nice_t1 (by decide) (okText_one 97 (by decide)) (by decide) (by simp)
  have hr : rank [sa] sb = 1 := by decide +kernel
  have h2 := nice_put (l := [t1]) (ks := [sa]) (q := sb) (x := T.zero) h1 nice_zero (by decide) (okText_one 98 (by decide)) (by decide) (by rw [hr]; simp)
  unfold insK at h2
  rw [hr] at h2
  exact h2
set_option maxRecDepth 100000 in
set_option maxHeartbeats 4000000 in
theorem awake7_any (w : World) (ht : Lib.TabIs Tryd.prog w "internal/strconv.uint64pow10" .u64 Lib.pow10Tab) : Calls Tryd.prog 5 #[] w fun e w' => e = .returned (.bool true) ∧ Below w.heap.size w w' := by
  have HT := Lib.hid (tab_of ht)
  clear ht
  go_enter Tryd.func5, Tryd.ntmps5
  go_wp2_with fail
  refine (number_any 1 _).mono ?_
  rintro e w1 ⟨rfl, hb1⟩
  have h1 : Below w.heap.size w w1 := ((Below.refl _ w).alloc (Nat.le_refl _) _).trans (hb1.mono (by simp))
  have k1 : Blk w1 w.heap.size 9 #[.string sa, .string sb] := (Blk.new w _ _).onto hb1
  have H1 := Lib.hid h1
  have K1 := Lib.hid k1
  clear hb1 h1 k1
  rw [show (T.ofNum 1).agg none 0 none 0 = .agg #[.int .i64 2, .bool false, .int .i64 1, .string ⟨#[]⟩, .slice none 0 0, .slice none 0 0] from rfl]
  go_wp2_with fail
  have hW := Lib.hid (show Below w.heap.size w (w1.alloc (.cells #[.int .i64 2, .bool false, .int .i64 1, .string ⟨#[]⟩, .slice none 0 0, .slice none 0 0] 29)) from H1.out.alloc H1.out.size _)
  have kS := Lib.hid (K1.out.alloc (.cells #[.int .i64 2, .bool false, .int .i64 1, .string ⟨#[]⟩, .slice none 0 0, .slice none 0 0] 29))
  have kV := Blk.new w1 29 #[.int .i64 2, .bool false, .int .i64 1, .string ⟨#[]⟩, .slice none 0 0, .slice none 0 0]
  refine (list_any [T.ofNum 1] (some ⟨w1.heap.size, 0, none⟩) 1 _ (by decide) ?_ ?_).mono ?_
  · intro x hx
    simp only [List.mem_cons, List.not_mem_nil, or_false] at hx
    rcases hx with rfl
    exact T.leaf_all (by decide) rfl
  · intro _
    refine ⟨w1.heap.size, 0, rfl, kV.lt, fun i x hx => ?_⟩
    match i, hx with
    | 0, hx => injection hx with hx; subst hx; exact ⟨none, 0, none, 0, ⟨kV.cell 0, kV.cell 1, kV.cell 2, kV.cell 3, kV.cell 4, kV.cell 5⟩, TV.leaf _ _ rfl rfl⟩
  rintro e w3 ⟨⟨B, d, rfl, ht⟩, hb3⟩
  have H3 := Lib.hid (hW.out.trans (hb3.mono hW.out.size))
  have K3 := Lib.hid (kS.out.onto hb3)
  have HT3 := Lib.hid (show TV w3 (· < w3.heap.size) t1 B d none 0 from ht)
  clear hb3 hW kS kV ht
  rw [show (T.ofList [T.ofNum 1]).agg B d none 0 = .agg #[.int .i64 4, .bool false, .int .i64 0, .string ⟨#[]⟩, .slice B 1 d, .slice none 0 0] from rfl]
  go_wp2_with fail
  have hW3 := Lib.hid (show Below w.heap.size w (w3.alloc (.cells #[.int .i64 4, .bool false, .int .i64 0, .string ⟨#[]⟩, .slice B 1 d, .slice none 0 0, .int .i64 0, .bool false, .int .i64 0, .string ⟨#[]⟩, .slice none 0 0, .slice none 0 0] 29)) from H3.out.alloc H3.out.size _)
  have kS3 := K3.out.alloc (.cells #[.int .i64 4, .bool false, .int .i64 0, .string ⟨#[]⟩, .slice B 1 d, .slice none 0 0, .int .i64 0, .bool false, .int .i64 0, .string ⟨#[]⟩, .slice none 0 0, .slice none 0 0] 29)
  have kV3 := Blk.new w3 29 #[.int .i64 4, .bool false, .int .i64 0, .string ⟨#[]⟩, .slice B 1 d, .slice none 0 0, .int .i64 0, .bool false, .int .i64 0, .string ⟨#[]⟩, .slice none 0 0, .slice none 0 0]
  have kT3 := HT3.out.on ((Below.refl w3.heap.size w3).alloc (Nat.le_refl _) (.cells #[.int .i64 4, .bool false, .int .i64 0, .string ⟨#[]⟩, .slice B 1 d, .slice none 0 0, .int .i64 0, .bool false, .int .i64 0, .string ⟨#[]⟩, .slice none 0 0, .slice none 0 0] 29))
  refine (object_ok [sa, sb] [t1, T.zero] (some ⟨w.heap.size, 0, none⟩) 2 (some ⟨w3.heap.size, 0, none⟩) 2 _ (by decide) rfl ?_ ?_ ?_ ?_ ?_ ?_).mono ?_
  · intro _
    refine ⟨w.heap.size, 0, rfl, kS3.lt, fun i s hs => ?_⟩
    rw [Nat.zero_add, kS3.cell]
    match i, hs with
    | 0, hs => injection hs with hs; subst hs; rfl
    | 1, hs => injection hs with hs; subst hs; rfl
  · intro s hs
    simp only [List.mem_cons, List.not_mem_nil, or_false] at hs
    rcases hs with rfl | rfl
    · exact okText_one 97 (by decide)
    · exact okText_one 98 (by decide)
  · decide
  · decide
  · intro x hx
    simp only [List.mem_cons, List.not_mem_nil, or_false] at hx
    rcases hx with rfl | rfl
    · exact nice_t1.small
    · exact nice_zero.small
  · intro _
    refine ⟨w3.heap.size, 0, rfl, kV3.lt, fun i x hx => ?_⟩
    match i, hx with
    | 0, hx => injection hx with hx; subst hx; exact ⟨B, d, none, 0, ⟨kV3.cell 0, kV3.cell 1, kV3.cell 2, kV3.cell 3, kV3.cell 4, kV3.cell 5⟩, kT3⟩
    | 1, hx => injection hx with hx; subst hx; exact ⟨none, 0, none, 0, ⟨kV3.cell 6, kV3.cell 7, kV3.cell 8, kV3.cell 9, kV3.cell 10, kV3.cell 11⟩, TV.leaf _ _ rfl rfl⟩
  rintro e w4 ⟨⟨B4, d4, B4', d4', rfl, ht4⟩, hb4⟩
  rw [obj_ab] at ht4 ⊢
  have H4 := Lib.hid (hW3.out.trans (hb4.mono hW3.out.size))
  have HT4 := Lib.hid ht4
  clear hb4 hW3 kS3 kV3 kT3 ht4
  rw [show abN.agg B4 d4 B4' d4' = .agg #[.int .i64 5, .bool false, .int .i64 0, .string ⟨#[]⟩, .slice B4 2 d4, .slice B4' 2 d4'] from rfl]
  go_upto_region 2 with fail
  have hA : Below w4.heap.size w4 (w4.alloc (.cells #[.int .i64 5, .bool false, .int .i64 0, .string ⟨#[]⟩, .slice B4 2 d4, .slice B4' 2 d4'] 29)) := (Below.refl _ _).alloc (Nat.le_refl _) _
  have kP := Blk.new w4 29 #[.int .i64 5, .bool false, .int .i64 0, .string ⟨#[]⟩, .slice B4 2 d4, .slice B4' 2 d4']
  change Code.wp _ _ _ _ (w4.alloc (.cells #[.int .i64 5, .bool false, .int .i64 0, .string ⟨#[]⟩, .slice B4 2 d4, .slice B4' 2 d4'] 29))
  generalize (w4.alloc (.cells #[.int .i64 5, .bool false, .int .i64 0, .string ⟨#[]⟩, .slice B4 2 d4, .slice B4' 2 d4'] 29)) = W at *
  obtain ⟨a0, a1, a2, a3, a4, a5⟩ : W.cell? ⟨w4.heap.size, 0, none⟩ = some (.int .i64 5) ∧ W.cell? ⟨w4.heap.size, 1, none⟩ = some (.bool false) ∧ W.cell? ⟨w4.heap.size, 2, none⟩ = some (.int .i64 0) ∧ W.cell? ⟨w4.heap.size, 3, none⟩ = some (.string ⟨#[]⟩) ∧ W.cell? ⟨w4.heap.size, 4, none⟩ = some (.slice B4 2 d4) ∧ W.cell? ⟨w4.heap.size, 5, none⟩ = some (.slice B4' 2 d4') := ⟨kP.cell 0, kP.cell 1, kP.cell 2, kP.cell 3, kP.cell 4, kP.cell 5⟩
  have HA := Lib.hid hA
  have H5 := Lib.hid (H4.out.trans (hA.mono H4.out.size))
  clear hA kP
  go_wp2_with fail
  refine (rntext_any abN B4 d4 B4' d4' _ nice_ab.fine (HT.out.on H5.out).2 (HT4.out.on HA.out)).mono ?_
  rintro e w5 ⟨rfl, hb5⟩
  have H6 := Lib.hid (H5.out.trans (hb5.mono H5.out.size))
  rw [show mkB abN.txt = ⟨#[123, 34, 97, 34, 58, 91, 49, 93, 44, 34, 98, 34, 58, 110, 117, 108, 108, 125]⟩ from by unfold mkB; rw [txt_ab]]
  clear hb5
  go_wp2_with fail
  go_ret
  exact ⟨rfl, H6.out⟩
end Go.Proofs.YtgiapdmoiaiofaaDoor
namespace Go.Proofs.YtgiapdmoiaiofaaDoor
open Go.RowKit
set_option linter.unusedVariables false

set_option maxRecDepth 100000 in
set_option maxHeartbeats 4000000 in
theorem wvalue_str (B b : Nat) (l : List UInt8) (c2 c3 c4 c5 : Value) (s : ByteArray) (w : World) (hs : s.size ≤ 1000) (hlen : l.length ≤ 600000) (h : Wr B b l c2 c3 c4 c5 w) (hBw : B ≤ w.heap.size) :
    Calls Tryd.prog 22 #[.pointer (some ⟨b, 0, none⟩), .agg #[.int .i64 3, .bool false, .int .i64 0, .string s, .slice none 0 0, .slice none 0 0]] w (Wrote B b l (Q.quo s.data.toList) c2 c3 c4 c5 w) := by
  have hbb : Below w.heap.size w (w.alloc (.cells #[.int .i64 3, .bool false, .int .i64 0, .string s, .slice none 0 0, .slice none 0 0] 29)) := (Below.refl _ _).alloc (Nat.le_refl _) _
  have hB0 : Blk (w.alloc (.cells #[.int .i64 3, .bool false, .int .i64 0, .string s, .slice none 0 0, .slice none 0 0] 29)) w.heap.size 29 #[.int .i64 3, .bool false, .int .i64 0, .string s, .slice none 0 0, .slice none 0 0] := Blk.new w _ _
  have HW := Lib.hid (h.on hbb)
  have HK := Lib.hid (Kept.of (b := b) hbb hBw)
  have hs1 := Nat.le_trans hBw hbb.size
  clear h
  go_enter Tryd.func22, Tryd.ntmps22
  go_upto_region 1 with fail
  change Code.wp _ _ _ _ (w.alloc (.cells #[.int .i64 3, .bool false, .int .i64 0, .string s, .slice none 0 0, .slice none 0 0] 29))
  generalize (w.alloc (.cells #[.int .i64 3, .bool false, .int .i64 0, .string s, .slice none 0 0, .slice none 0 0] 29)) = W at *
  have a0 : W.cell? ⟨w.heap.size, 0, none⟩ = some (.int .i64 3) := hB0.cell 0
  have a3 : W.cell? ⟨w.heap.size, 3, none⟩ = some (.string s) := hB0.cell 3
  clear hB0 hbb
  go_wp2_with fail
  refine (quote_any7 B b l _ _ _ _ s _ HW.out (by omega) hs hs1).mono ?_
  rintro e w9 ⟨rfl, h9, k9⟩
  have H9 := Lib.hid h9
  have K9 := Lib.hid (HK.out.trans k9)
  clear h9 k9
  go_wp2_with fail
  go_end0
  exact ⟨rfl, H9.out, K9.out⟩
set_option maxHeartbeats 4000000 in
set_option maxRecDepth 100000 in
theorem rntext_str (s : ByteArray) (w : World) (hs : s.size ≤ 1000) :
    Calls Tryd.prog 9 #[.agg #[.int .i64 3, .bool false, .int .i64 0, .string s, .slice none 0 0, .slice none 0 0]] w fun e w' => e = .returned (.string (mkB (Q.quo s.data.toList))) ∧ Below w.heap.size w w' := by
  go_enter Tryd.func9, Tryd.ntmps9
  go_upto_region 2 with fail
  have hW := wr_new2 #[.int .i64 3, .bool false, .int .i64 0, .string s, .slice none 0 0, .slice none 0 0] (.string ⟨#[58]⟩) (.func (.func 21) #[] #[]) (.int .i64 0) (.int .i64 0) w
  have hB0 : Blk ((w.alloc (.cells #[.int .i64 3, .bool false, .int .i64 0, .string s, .slice none 0 0, .slice none 0 0] 29)).alloc (.cells #[.pointer none, .slice none 0 0, .string ⟨#[58]⟩, .func (.func 21) #[] #[], .int .i64 0, .int .i64 0] 56)) w.heap.size 29 #[.int .i64 3, .bool false, .int .i64 0, .string s, .slice none 0 0, .slice none 0 0] := (Blk.new w _ _).alloc _
  have hb : Below w.heap.size w ((w.alloc (.cells #[.int .i64 3, .bool false, .int .i64 0, .string s, .slice none 0 0, .slice none 0 0] 29)).alloc (.cells #[.pointer none, .slice none 0 0, .string ⟨#[58]⟩, .func (.func 21) #[] #[], .int .i64 0, .int .i64 0] 56)) := ((Below.refl _ _).alloc (Nat.le_refl _) _).alloc (by simp) _
  change Code.wp _ _ _ _ ((w.alloc (.cells #[.int .i64 3, .bool false, .int .i64 0, .string s, .slice none 0 0, .slice none 0 0] 29)).alloc (.cells #[.pointer none, .slice none 0 0, .string ⟨#[58]⟩, .func (.func 21) #[] #[], .int .i64 0, .int .i64 0] 56))
  generalize ((w.alloc (.cells #[.int .i64 3, .bool false, .int .i64 0, .string s, .slice none 0 0, .slice none 0 0] 29)).alloc (.cells #[.pointer none, .slice none 0 0, .string ⟨#[58]⟩, .func (.func 21) #[] #[], .int .i64 0, .int .i64 0] 56)) = W at *
  obtain ⟨a0, a1, a2, a3, a4, a5⟩ : W.cell? ⟨w.heap.size, 0, none⟩ = some (.int .i64 3) ∧ W.cell? ⟨w.heap.size, 1, none⟩ = some (.bool false) ∧ W.cell? ⟨w.heap.size, 2, none⟩ = some (.int .i64 0) ∧ W.cell? ⟨w.heap.size, 3, none⟩ = some (.string s) ∧ W.cell? ⟨w.heap.size, 4, none⟩ = some (.slice none 0 0) ∧ W.cell? ⟨w.heap.size, 5, none⟩ = some (.slice none 0 0) := ⟨hB0.cell 0, hB0.cell 1, hB0.cell 2, hB0.cell 3, hB0.cell 4, hB0.cell 5⟩
  have HW := Lib.hid hW
  have HB := Lib.hid hb
  clear hW hb hB0
  go_wp2_with fail
  refine (wvalue_str w.heap.size (w.heap.size + 1) [] _ _ _ _ s _ hs (by simp) HW.out HB.out.size).mono ?_
  rintro e w2 ⟨rfl, h2, k2⟩
  have H2 := Lib.hid h2
  have K2 := Lib.hid k2
  clear h2 k2
  go_wp2_with fail
  refine (string_any w.heap.size (w.heap.size + 1) (Q.quo s.data.toList) _ _ _ _ _ H2.out (by unfold Q.quo; simp)).mono ?_
  rintro e w3 ⟨rfl, hb3⟩
  have H3 := Lib.hid (HB.out.trans (K2.out.1.trans hb3))
  clear hb3
  go_wp2_with fail
  go_ret
  exact ⟨rfl, H3.out⟩
end Go.Proofs.YtgiapdmoiaiofaaDoor
