/- The fixed fact of layer 4. -/
import Derived.Test.YthkpeomdklcnmaaGreatDoorWay
import Derived.Test.YthkpeomdklcnmaaGreatDoorList
import Derived.Test.YthkpeomdklcnmaaGreatDoorNice
import Derived.Outline
namespace Go.Proofs.YthkpeomdklcnmaaGreatDoor
open Go.RowKit
set_option linter.unusedVariables false

def s1 : ByteArray := ⟨#[49]⟩
theorem decB_one : s1 = decB 1 := by unfold decB; rw [De.dec_small' (by decide)]; rfl
def t56 : T := T.ofList [T.ofNum 5, T.ofNum 6]
def aT : T := T.ofObj [t56] [sa]
theorem nice_56 : t56.Nice := by
  have h1 := nice_app (l := []) nice_nil (nice_num (n := 5) (by decide) (by decide)) (by decide)
  exact nice_app (l := [T.ofNum 5]) h1 (nice_num (n := 6) (by decide) (by decide)) (by decide)
theorem nice_aT : aT.Nice := by
  have := nice_put (l := []) (ks := []) (q := sa) nice_obj nice_56 (by decide) (okText_one 97 (by decide)) (by decide) (by simp)
  exact this
theorem obj_a : objT [sa] [t56] = aT := by
  have := objT_same (ks := [sa]) t56 (by simp)
  have h : objR [sa] t56 = aT := by unfold objR srt aT T.ofObj; simp
  rw [← h, ← this]; rfl
theorem leads_a : Leads aT [sa, s1] (T.ofNum 6) := ⟨0, t56, ⟨by decide, .inr ⟨rfl, rfl⟩⟩, rfl, 1, T.ofNum 6, ⟨by decide, .inl ⟨rfl, decB_one⟩⟩, rfl, rfl⟩
set_option maxRecDepth 100000 in
set_option maxHeartbeats 4000000 in
theorem awake4_any (w : World) (he : Errs w) : Calls Tryz.prog 4 #[] w fun e w' => e = .returned (.bool true) ∧ Below w.heap.size w w' := by
  have HE := Lib.hid he
  clear he
  go_enter Tryz.func4, Tryz.ntmps4
  go_wp2_with fail
  refine (number_any 5 _).mono ?_
  rintro e w1 ⟨rfl, hb1⟩
  have h1 : Below w.heap.size w w1 := ((Below.refl _ w).alloc (Nat.le_refl _) _).trans (hb1.mono (by simp))
  have k1 : Blk w1 w.heap.size 9 #[.string sa] := (Blk.new w _ _).onto hb1
  have H1 := Lib.hid h1
  have K1 := Lib.hid k1
  clear hb1 h1 k1
  rw [show (T.ofNum 5).agg none 0 none 0 = .agg #[.int .i64 2, .bool false, .int .i64 5, .string ⟨#[]⟩, .slice none 0 0, .slice none 0 0] from rfl]
  go_wp2_with fail
  refine (number_any 6 _).mono ?_
  rintro e w2 ⟨rfl, hb2⟩
  have H2 := Lib.hid (H1.out.trans (hb2.mono H1.out.size))
  have K2 := Lib.hid (K1.out.onto hb2)
  clear hb2
  rw [show (T.ofNum 6).agg none 0 none 0 = .agg #[.int .i64 2, .bool false, .int .i64 6, .string ⟨#[]⟩, .slice none 0 0, .slice none 0 0] from rfl]
  go_wp2_with fail
  have hW := Lib.hid (show Below w.heap.size w (w2.alloc (.cells #[.int .i64 2, .bool false, .int .i64 5, .string ⟨#[]⟩, .slice none 0 0, .slice none 0 0, .int .i64 2, .bool false, .int .i64 6, .string ⟨#[]⟩, .slice none 0 0, .slice none 0 0] 34)) from H2.out.alloc H2.out.size _)
  have kS := Lib.hid (K2.out.alloc (.cells #[.int .i64 2, .bool false, .int .i64 5, .string ⟨#[]⟩, .slice none 0 0, .slice none 0 0, .int .i64 2, .bool false, .int .i64 6, .string ⟨#[]⟩, .slice none 0 0, .slice none 0 0] 34))
  have kV := Blk.new w2 34 #[.int .i64 2, .bool false, .int .i64 5, .string ⟨#[]⟩, .slice none 0 0, .slice none 0 0, .int .i64 2, .bool false, .int .i64 6, .string ⟨#[]⟩, .slice none 0 0, .slice none 0 0]
  refine (list_any [T.ofNum 5, T.ofNum 6] (some ⟨w2.heap.size, 0, none⟩) 2 _ (by decide) ?_ ?_).mono ?_
  · intro x hx
    simp only [List.mem_cons, List.not_mem_nil, or_false] at hx
    rcases hx with rfl | rfl <;> exact T.leaf_all (by decide) rfl
  · intro _
    refine ⟨w2.heap.size, 0, rfl, kV.lt, fun i x hx => ?_⟩
    match i, hx with
    | 0, hx => injection hx with hx; subst hx; exact ⟨none, 0, none, 0, ⟨kV.cell 0, kV.cell 1, kV.cell 2, kV.cell 3, kV.cell 4, kV.cell 5⟩, TV.leaf _ _ rfl rfl⟩
    | 1, hx => injection hx with hx; subst hx; exact ⟨none, 0, none, 0, ⟨kV.cell 6, kV.cell 7, kV.cell 8, kV.cell 9, kV.cell 10, kV.cell 11⟩, TV.leaf _ _ rfl rfl⟩
  rintro e w3 ⟨⟨B, d, rfl, ht⟩, hb3⟩
  have H3 := Lib.hid (hW.out.trans (hb3.mono hW.out.size))
  have K3 := Lib.hid (kS.out.onto hb3)
  have HT3 := Lib.hid (show TV w3 (· < w3.heap.size) t56 B d none 0 from ht)
  clear hb3 hW kS kV ht
  rw [show (T.ofList [T.ofNum 5, T.ofNum 6]).agg B d none 0 = .agg #[.int .i64 4, .bool false, .int .i64 0, .string ⟨#[]⟩, .slice B 2 d, .slice none 0 0] from rfl]
  go_wp2_with fail
  have hW3 := Lib.hid (show Below w.heap.size w (w3.alloc (.cells #[.int .i64 4, .bool false, .int .i64 0, .string ⟨#[]⟩, .slice B 2 d, .slice none 0 0] 34)) from H3.out.alloc H3.out.size _)
  have kS3 := K3.out.alloc (.cells #[.int .i64 4, .bool false, .int .i64 0, .string ⟨#[]⟩, .slice B 2 d, .slice none 0 0] 34)
  have kV3 := Blk.new w3 34 #[.int .i64 4, .bool false, .int .i64 0, .string ⟨#[]⟩, .slice B 2 d, .slice none 0 0]
  have kT3 := HT3.out.on ((Below.refl w3.heap.size w3).alloc (Nat.le_refl _) (.cells #[.int .i64 4, .bool false, .int .i64 0, .string ⟨#[]⟩, .slice B 2 d, .slice none 0 0] 34))
  refine (object_ok [sa] [t56] (some ⟨w.heap.size, 0, none⟩) 1 (some ⟨w3.heap.size, 0, none⟩) 1 _ (by decide) rfl ?_ ?_ ?_ ?_ ?_ ?_).mono ?_
  · intro _
    refine ⟨w.heap.size, 0, rfl, kS3.lt, fun i s hs => ?_⟩
    rw [Nat.zero_add, kS3.cell]
    match i, hs with
    | 0, hs => injection hs with hs; subst hs; rfl
  · intro s hs
    simp only [List.mem_cons, List.not_mem_nil, or_false] at hs
    subst hs
    exact okText_one 97 (by decide)
  · decide
  · decide
  · intro x hx
    simp only [List.mem_cons, List.not_mem_nil, or_false] at hx
    subst hx
    exact nice_56.small
  · intro _
    refine ⟨w3.heap.size, 0, rfl, kV3.lt, fun i x hx => ?_⟩
    match i, hx with
    | 0, hx => injection hx with hx; subst hx; exact ⟨B, d, none, 0, ⟨kV3.cell 0, kV3.cell 1, kV3.cell 2, kV3.cell 3, kV3.cell 4, kV3.cell 5⟩, kT3⟩
  rintro e w4 ⟨⟨B4, d4, B4', d4', rfl, ht4⟩, hb4⟩
  rw [obj_a] at ht4 ⊢
  have H4 := Lib.hid (hW3.out.trans (hb4.mono hW3.out.size))
  have HT4 := Lib.hid ht4
  clear hb4 hW3 kS3 kV3 kT3 ht4
  rw [show aT.agg B4 d4 B4' d4' = .agg #[.int .i64 5, .bool false, .int .i64 0, .string ⟨#[]⟩, .slice B4 1 d4, .slice B4' 1 d4'] from rfl]
  go_wp2_with fail
  have hA := Lib.hid (show Below w4.heap.size w4 ((w4.alloc (.cells #[.int .i64 5, .bool false, .int .i64 0, .string ⟨#[]⟩, .slice B4 1 d4, .slice B4' 1 d4'] 34)).alloc (.cells #[.string sa, .string s1] 9)) from ((Below.refl _ _).alloc (Nat.le_refl _) _).alloc (by simp) _)
  have kP := Blk.new (w4.alloc (.cells #[.int .i64 5, .bool false, .int .i64 0, .string ⟨#[]⟩, .slice B4 1 d4, .slice B4' 1 d4'] 34)) 9 #[.string sa, .string s1]
  have kz : (w4.alloc (.cells #[.int .i64 5, .bool false, .int .i64 0, .string ⟨#[]⟩, .slice B4 1 d4, .slice B4' 1 d4'] 34)).heap.size = w4.heap.size + 1 := by simp
  rw [kz] at kP
  change Calls _ _ _ ((w4.alloc (.cells #[.int .i64 5, .bool false, .int .i64 0, .string ⟨#[]⟩, .slice B4 1 d4, .slice B4' 1 d4'] 34)).alloc (.cells #[.string sa, .string s1] 9)) _
  generalize ((w4.alloc (.cells #[.int .i64 5, .bool false, .int .i64 0, .string ⟨#[]⟩, .slice B4 1 d4, .slice B4' 1 d4'] 34)).alloc (.cells #[.string sa, .string s1] 9)) = W at *
  have H5 := Lib.hid (H4.out.trans (hA.out.mono H4.out.size))
  refine (get_any aT [sa, s1] (some ⟨w4.heap.size + 1, 0, none⟩) 2 B4 d4 B4' d4' W nice_aT.fine (HE.out.on H5.out) ?_ (by decide) ?_ (HT4.out.on hA.out)).mono ?_
  · intro q hq
    simp only [List.mem_cons, List.not_mem_nil, or_false] at hq
    rcases hq with rfl | rfl <;> decide
  · intro _
    refine ⟨w4.heap.size + 1, 0, rfl, kP.lt, fun i s hs => ?_⟩
    rw [Nat.zero_add, kP.cell]
    match i, hs with
    | 0, hs => injection hs with hs; subst hs; rfl
    | 1, hs => injection hs with hs; subst hs; rfl
  rintro e w5 (⟨x, hx, C, f, C', f', rfl, hT, hb5⟩ | ⟨hno, _⟩)
  · obtain rfl : x = T.ofNum 6 := leads_unique nice_aT.fine hx leads_a
    have H6 := Lib.hid (H5.out.trans (hb5.mono H5.out.size))
    clear hb5 hx hT kP kz
    rw [show (.agg #[.int .i64 (T.ofNum 6).kind, .bool (T.ofNum 6).tr, .int .i64 (T.ofNum 6).num, .string (T.ofNum 6).str, .slice C (T.ofNum 6).items.length f, .slice C' (T.ofNum 6).keys.length f'] : Value) = .agg #[.int .i64 2, .bool false, .int .i64 6, .string ⟨#[]⟩, .slice C 0 f, .slice C' 0 f'] from rfl]
    go_wp2_with fail
    go_ret
    exact ⟨rfl, H6.out.alloc H6.out.size _⟩
  · exact absurd leads_a (hno _)
end Go.Proofs.YthkpeomdklcnmaaGreatDoor
