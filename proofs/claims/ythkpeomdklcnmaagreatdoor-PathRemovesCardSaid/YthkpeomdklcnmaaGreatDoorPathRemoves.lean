/- The value without what stands at any path is the document's, and where nothing stands there, or without steps, it is told: for all values, all numbers that pick the path, and all steps behind it, at the library's variables as the card says. -/
import Derived.Test.YthkpeomdklcnmaaGreatDoorCards
import Derived.Test.YthkpeomdklcnmaaGreatDoorTie
import Derived.WalkKit
import Derived.ProofKit
import Derived.OpenShut
import Derived.ChangeOld
import Derived.ShutString
import Derived.Below
import Derived.LaidMore
import Derived.Lib.LaidTab
import Derived.Stop.Joined
import Derived.Stop.LaidErr
import Derived.SevenTiedAt
import Derived.Test.YthkpeomdklcnmaaGreatDoorPick
import Derived.Test.YthkpeomdklcnmaaGreatDoorRemW
import Derived.Test.YthkpeomdklcnmaaGreatDoorRremW
import Derived.Test.YthkpeomdklcnmaaGreatDoorRget
import Derived.Test.YthkpeomdklcnmaaGreatDoorAwake4
import Derived.Test.YthkpeomdklcnmaaGreatDoorSteps
import Derived.Test.YthkpeomdklcnmaaGreatDoorLTree
import Derived.Test.YthkpeomdklcnmaaGreatDoorCells
import Derived.Test.YthkpeomdklcnmaaGreatDoorOpen
namespace Go.Proofs.YthkpeomdklcnmaaGreatDoor.pathRemoves
open Go.ChangeShapes Go.WideShapes Go.ChangeAt Go.RowKit
open Go.ChangeMaps (open_string shut_string)
set_option linter.unusedVariables false

theorem own : ownKnob Tryz.prog.godebug = none := by kernel_rfl
theorem laidOut : laidOutB Tryz.prog = true := by kernel_rfl
theorem gRange : Tryz.prog.globalNamed "strconv.ErrRange" = some 1 := by kernel_rfl
theorem gSyntax : Tryz.prog.globalNamed "strconv.ErrSyntax" = some 0 := by kernel_rfl
theorem cell_of_var {W : World} {nm : String} {g : Nat} {v : Value} (hg : Tryz.prog.globalNamed nm = some g) (h : W.var? Tryz.prog nm = some #[v]) : W.cell? ⟨g, 0, none⟩ = some v := by
  unfold World.var? at h
  rw [hg] at h
  simp only [Option.bind_some] at h
  unfold World.cell?
  cases hh : W.heap[g]? with
  | none => rw [hh] at h; cases h
  | some o => rw [hh] at h; cases o <;> simp_all
theorem star : "*" ++ "errors.errorString" = "*errors.errorString" := by decide
theorem rowPtr (u : TypeId) (h : Tryz.prog.typeName? 3 u = some "*errors.errorString") : u = 137 :=
  typeName_ptr_named (nm := "errors.errorString") (by rw [star]; kernel_rfl) (by kernel_rfl) (by decide) u (by rw [star]; exact h)
/-- what the row's list gives -/
theorem errs {W : World} (h : laidMetH Tryz.prog Rows.pathRemovesRow.laid W) : Errs W := by
  have h' : laidMet Tryz.prog Rows.pathRemovesRow.laid W := h
  obtain ⟨a, s, hv, _⟩ := laid_sentinel h'.tail.tail.tail gRange (by kernel_rfl) Tryz.underlying106 rowPtr Tryz.underlying137 Tryz.underlying139 rfl rfl Tryz.underlying9 (by kernel_rfl) (by kernel_rfl)
  obtain ⟨a2, s2, hv2, _⟩ := laid_sentinel h'.tail.tail.tail.tail gSyntax (by kernel_rfl) Tryz.underlying106 rowPtr Tryz.underlying137 Tryz.underlying139 rfl rfl Tryz.underlying9 (by kernel_rfl) (by kernel_rfl)
  exact ⟨⟨_, _, cell_of_var gSyntax hv2⟩, ⟨_, _, cell_of_var gRange hv⟩⟩

set_option maxRecDepth 100000 in
set_option maxHeartbeats 16000000 in
theorem walk (A0 : Option Addr) (n0 c0 : Nat) (x1 : Int) (l : List ByteArray) (AL : Option Addr) (cL : Nat) (w : World) (hnc : n0 ≤ c0) (hcm : c0 ≤ maxLen) (hN : Nodes w (· < w.heap.size) A0 n0) (hx0 : 0 ≤ x1) (hx1 : x1 ≤ 65535) (hlc : l.length ≤ cL) (hlm : cL ≤ maxLen) (hl : SReads w (· < w.heap.size) AL l) (hz : ∀ s ∈ l, s.size ≤ maxLen) (he : Errs w) :
    Calls Tryz.prog 3 #[.slice A0 n0 c0, .int .u16 x1, .slice AL l.length cL] w fun e w' => e = .returned (.bool true) ∧ Below w.heap.size w w' := by
  obtain ⟨a, rfl⟩ : ∃ a : Nat, x1 = a := ⟨x1.toNat, by omega⟩
  have ha : a ≤ 65535 := by omega
  obtain ⟨i0, hi, hz0, hz1, hz2⟩ := info_parts infoStr
  have HN := Lib.hid hN
  have HE := Lib.hid he
  have HL := Lib.hid hl
  clear hN he hl hz
  go_enter Tryz.func3, Tryz.ntmps3
  go_wp2_with fail
  refine (awake4_any _ HE.out).mono ?_
  rintro e w1 ⟨rfl, hb1⟩
  have H1 := Lib.hid hb1
  clear hb1
  go_wp2_with fail
  refine (steps_any l AL cL _ (by unfold maxLen at *; omega) (HL.out.on H1.out)).mono ?_
  rintro e w2 ⟨bs, rfl, hst, hb2⟩
  have H2 := Lib.hid (H1.out.trans (hb2.mono H1.out.size))
  have HST := Lib.hid hst
  clear hb2 hst H1
  cases bs with
  | false =>
    go_wp2_with fail
    refine (awake4_any _ (HE.out.on H2.out)).mono ?_
    rintro e w3 ⟨rfl, hb3⟩
    have H3 := Lib.hid (H2.out.trans (hb3.mono H2.out.size))
    clear hb3
    go_wp2_with fail
    go_ret
    exact ⟨rfl, H3.out⟩
  | true =>
    have HL6 := Lib.hid (show ∀ q ∈ l, q.size ≤ 1000 from fun q hq => by have := ((HST.out rfl).1 q hq).1; omega)
    have hl10 := (HST.out rfl).2
    clear HST
    go_wp2_with fail
    refine (tree_any A0 n0 c0 _ hnc hcm (HN.out.on H2.out)).mono ?_
    rintro e w3 ⟨t, B, d, B', d', rfl, hnice, htv, hb3⟩
    have H3 := Lib.hid (H2.out.trans (hb3.mono H2.out.size))
    have HT := Lib.hid htv
    have HNI := Lib.hid hnice
    clear hb3 H2 htv hnice
    unfold T.agg
    go_upto_region 4 with fail
    have hb0 : Below w3.heap.size w3 (w3.alloc (.cells #[.int .i64 t.kind, .bool t.tr, .int .i64 t.num, .string t.str, .slice B t.items.length d, .slice B' t.keys.length d'] 29)) := (Below.refl _ _).alloc (Nat.le_refl _) _
    have hX : Blk (w3.alloc (.cells #[.int .i64 t.kind, .bool t.tr, .int .i64 t.num, .string t.str, .slice B t.items.length d, .slice B' t.keys.length d'] 29)) w3.heap.size 29 #[.int .i64 t.kind, .bool t.tr, .int .i64 t.num, .string t.str, .slice B t.items.length d, .slice B' t.keys.length d'] := Blk.new w3 _ _
    change Code.wp _ _ _ _ (w3.alloc (.cells #[.int .i64 t.kind, .bool t.tr, .int .i64 t.num, .string t.str, .slice B t.items.length d, .slice B' t.keys.length d'] 29))
    have HT4 := Lib.hid (HT.out.on hb0)
    clear HT
    have HW4 := Lib.hid (H3.out.trans (hb0.mono H3.out.size))
    generalize (w3.alloc (.cells #[.int .i64 t.kind, .bool t.tr, .int .i64 t.num, .string t.str, .slice B t.items.length d, .slice B' t.keys.length d'] 29)) = W4 at *
    have HB4 := Lib.hid hX
    clear hb0 hX
    clear H3
    generalize w3.heap.size = G3 at *
    have hl4 := HB4.out.lt
    obtain ⟨a0, a1, a2, a3, a4, a5⟩ : (W4.alloc (.cells #[] 9)).cell? ⟨G3, 0, none⟩ = some (.int .i64 t.kind) ∧ (W4.alloc (.cells #[] 9)).cell? ⟨G3, 1, none⟩ = some (.bool t.tr) ∧ (W4.alloc (.cells #[] 9)).cell? ⟨G3, 2, none⟩ = some (.int .i64 t.num) ∧ (W4.alloc (.cells #[] 9)).cell? ⟨G3, 3, none⟩ = some (.string t.str) ∧ (W4.alloc (.cells #[] 9)).cell? ⟨G3, 4, none⟩ = some (.slice B t.items.length d) ∧ (W4.alloc (.cells #[] 9)).cell? ⟨G3, 5, none⟩ = some (.slice B' t.keys.length d') := by
      have h := HB4.out.alloc (.cells #[] 9)
      exact ⟨h.cell 0, h.cell 1, h.cell 2, h.cell 3, h.cell 4, h.cell 5⟩
    have HOa := Lib.hid (show (W4.alloc (.cells #[] 9)).ownsRow W4.heap.size 9 1 (.slice (some ⟨W4.heap.size, 0, none⟩) 0 0) 0 [] from World.ownsRow_lit (base := W4.heap.size) (e := 9) (size := 1) W4 #[] 0 (Nat.le_refl _) (by unfold maxLen; omega) rfl)
    have HBa := Lib.hid (show Below W4.heap.size W4 (W4.alloc (.cells #[] 9)) from (Below.refl _ _).alloc (Nat.le_refl _) _)
    go_wp2_with fail
    refine (pick_any t B d B' d' a _ HNI.out ha (HT4.out.on HBa.out)).mono ?_
    rintro e wp ⟨q, y, Pq, cq, rfl, lcq, l40q, h1q, h2q, h3q, hbp⟩
    have HSq := Lib.hid h1q
    have HLq := Lib.hid h2q
    have HRq := Lib.hid h3q
    have HBp := Lib.hid (show Below W4.heap.size W4 wp from HBa.out.trans (hbp.mono HBa.out.size))
    have HOp := Lib.hid (own_keptS HOa.out hbp)
    have hsp := HBp.out.size
    clear h1q h2q h3q hbp HOa HBa a0 a1 a2 a3 a4 a5
    go_wp2_with (first
      | (at_builtin
         refine app_ss2 rfl (.tmp 24) (.tmp 27) rfl W4.heap.size (.slice (some ⟨W4.heap.size, 0, none⟩) 0 0) 0 [] rfl HOp.out Pq q.length cq (q.map Value.string) rfl (HRq.out.src) (by intro u hu; obtain ⟨k, _, rfl⟩ := List.mem_map.1 hu; rfl) (by omega) (by omega) hsp q.length (by omega) ?_
         intro B5 d5 w5 ho5 hb5
         rw [List.nil_append] at ho5
         have HO5 := Lib.hid ho5
         have HB5 := Lib.hid (hb5 W4 HBp.out)
         have hs5 := HB5.out.size
         clear ho5 hb5 HOp)
      | (at_builtin
         refine app_ss2 rfl (.tmp 28) (.tmp 29) rfl W4.heap.size (.slice B5 q.length d5) q.length (q.map Value.string) rfl HO5.out AL l.length cL (l.map Value.string) rfl ((HL.out.on (HW4.out.trans (HB5.out.mono HW4.out.size))).src) (by intro u hu; obtain ⟨k, _, rfl⟩ := List.mem_map.1 hu; rfl) (by omega) (by omega) hs5 (q ++ l).length (by simp) ?_
         intro Q cQ w8 ho8 hb8
         have HB8 := Lib.hid (hb8 W4 HB5.out)
         have HP8 := Lib.hid (show (q ++ l).length ≤ cQ ∧ SReads w8 (· < w8.heap.size) Q (q ++ l) from by
           have h := own_strs2 (n := (q ++ l).length) (l := q ++ l) rfl (by rw [List.map_append]; exact ho8)
           exact ⟨h.1, h.2.wide fun b hb => hb.2⟩)
         obtain ⟨a0, a1, a2, a3, a4, a5⟩ : w8.cell? ⟨G3, 0, none⟩ = some (.int .i64 t.kind) ∧ w8.cell? ⟨G3, 1, none⟩ = some (.bool t.tr) ∧ w8.cell? ⟨G3, 2, none⟩ = some (.int .i64 t.num) ∧ w8.cell? ⟨G3, 3, none⟩ = some (.string t.str) ∧ w8.cell? ⟨G3, 4, none⟩ = some (.slice B t.items.length d) ∧ w8.cell? ⟨G3, 5, none⟩ = some (.slice B' t.keys.length d') := by
           have h := HB4.out.onto HB8.out
           exact ⟨h.cell 0, h.cell 1, h.cell 2, h.cell 3, h.cell 4, h.cell 5⟩
         clear ho8 hb8 HO5)
      | fail)
    obtain ⟨p, hp⟩ : ∃ p, p = q ++ l := ⟨_, rfl⟩
    have hpn : q.length + l.length = p.length := by rw [hp]; simp
    have hp50 : p.length ≤ 50 := by omega
    have HSp := Lib.hid (show ∀ s ∈ p, s.size ≤ 1000 from fun s hs => by
      rw [hp] at hs
      rcases List.mem_append.1 hs with h | h
      · exact HSq.out s h
      · exact HL6.out s h)
    rw [← hp] at HP8
    try simp only [List.length_append]
    try rw [hpn]
    try rw [hpn]
    have hpc := HP8.out.1
    have HPP := Lib.hid HP8.out.2
    clear HSq HL6 HLq HRq HBp HP8
    clear hp hpn
    have HBW := Lib.hid (HW4.out.trans (HB8.out.mono HW4.out.size))
    refine (real_cells t B d B' d' _ HNI.out.le HNI.out.small (HT4.out.on HB8.out)).mono ?_
    rintro e w9 ⟨E, e1, E', e1', rfl, hT9, hb9⟩
    unfold T.agg
    have HRT := Lib.hid (show TV w9 (· < w9.heap.size) t E e1 E' e1' from hT9.wide fun b hb => hb.2)
    have H9 := Lib.hid (HB8.out.trans (hb9.mono HB8.out.size))
    have HP9 := Lib.hid (HPP.out.on hb9)
    clear hT9 hb9 HPP HB8 HBW a0 a1 a2 a3 a4 a5
    go_upto_region 6 with fail
    have hb0 : Below w9.heap.size w9 (w9.alloc (.cells #[.int .i64 t.kind, .bool t.tr, .int .i64 t.num, .string t.str, .slice E t.items.length e1, .slice E' t.keys.length e1'] 34)) := (Below.refl _ _).alloc (Nat.le_refl _) _
    have hX : Blk (w9.alloc (.cells #[.int .i64 t.kind, .bool t.tr, .int .i64 t.num, .string t.str, .slice E t.items.length e1, .slice E' t.keys.length e1'] 34)) w9.heap.size 34 #[.int .i64 t.kind, .bool t.tr, .int .i64 t.num, .string t.str, .slice E t.items.length e1, .slice E' t.keys.length e1'] := Blk.new w9 _ _
    change Code.wp _ _ _ _ (w9.alloc (.cells #[.int .i64 t.kind, .bool t.tr, .int .i64 t.num, .string t.str, .slice E t.items.length e1, .slice E' t.keys.length e1'] 34))
    have HRT6 := Lib.hid (HRT.out.on hb0)
    clear HRT
    have HP6 := Lib.hid (HP9.out.on hb0)
    clear HP9
    have H10 := Lib.hid (H9.out.trans (hb0.mono H9.out.size))
    generalize (w9.alloc (.cells #[.int .i64 t.kind, .bool t.tr, .int .i64 t.num, .string t.str, .slice E t.items.length e1, .slice E' t.keys.length e1'] 34)) = WX at *
    have HGX := Lib.hid hX
    clear hb0 hX
    clear H9
    generalize w9.heap.size = gx at *
    have hlx := HGX.out.lt
    have hs10 := H10.out.size
    have HS7 := Lib.hid (show ∀ w', Below WX.heap.size WX w' → (w'.cell? ⟨G3, 0, none⟩ = some (.int .i64 t.kind) ∧ w'.cell? ⟨G3, 1, none⟩ = some (.bool t.tr) ∧ w'.cell? ⟨G3, 2, none⟩ = some (.int .i64 t.num) ∧ w'.cell? ⟨G3, 3, none⟩ = some (.string t.str) ∧ w'.cell? ⟨G3, 4, none⟩ = some (.slice B t.items.length d) ∧ w'.cell? ⟨G3, 5, none⟩ = some (.slice B' t.keys.length d')) ∧ (w'.cell? ⟨gx, 0, none⟩ = some (.int .i64 t.kind) ∧ w'.cell? ⟨gx, 1, none⟩ = some (.bool t.tr) ∧ w'.cell? ⟨gx, 2, none⟩ = some (.int .i64 t.num) ∧ w'.cell? ⟨gx, 3, none⟩ = some (.string t.str) ∧ w'.cell? ⟨gx, 4, none⟩ = some (.slice E t.items.length e1) ∧ w'.cell? ⟨gx, 5, none⟩ = some (.slice E' t.keys.length e1')) from fun w' h => by
      have h0 := HB4.out.onto (H10.out.trans (h.mono hs10))
      have h2 := HGX.out.onto h
      exact ⟨⟨h0.cell 0, h0.cell 1, h0.cell 2, h0.cell 3, h0.cell 4, h0.cell 5⟩, h2.cell 0, h2.cell 1, h2.cell 2, h2.cell 3, h2.cell 4, h2.cell 5⟩)
    have HT6 := Lib.hid (HT4.out.on H10.out)
    have HWX := Lib.hid (show Below w.heap.size w WX from HW4.out.trans (H10.out.mono HW4.out.size))
    have hwx := HWX.out.size
    have HE6 := Lib.hid (HE.out.on HWX.out)
    obtain ⟨a0, a1, a2, a3, a4, a5⟩ : WX.cell? ⟨gx, 0, none⟩ = some (.int .i64 t.kind) ∧ WX.cell? ⟨gx, 1, none⟩ = some (.bool t.tr) ∧ WX.cell? ⟨gx, 2, none⟩ = some (.int .i64 t.num) ∧ WX.cell? ⟨gx, 3, none⟩ = some (.string t.str) ∧ WX.cell? ⟨gx, 4, none⟩ = some (.slice E t.items.length e1) ∧ WX.cell? ⟨gx, 5, none⟩ = some (.slice E' t.keys.length e1') := ⟨HGX.out.cell 0, HGX.out.cell 1, HGX.out.cell 2, HGX.out.cell 3, HGX.out.cell 4, HGX.out.cell 5⟩
    clear HT4 HE HL HN
    by_cases hp0 : p = []
    · skip
      have hl0 : p.length = 0 := by rw [hp0]; rfl
      try rw [hl0]
      go_wp2_with fail
      refine (rem_nil t Q cQ E e1 E' e1' _).mono ?_
      rintro e v0 ⟨rfl, hb0⟩
      have HBv := Lib.hid hb0
      clear hb0 a0 a1 a2 a3 a4 a5
      go_upto_region 7 with fail
      have hb0 : Below v0.heap.size v0 (v0.alloc (.cells #[.int .i64 0, .bool false, .int .i64 0, .string ⟨#[]⟩, .slice none 0 0, .slice none 0 0] 34)) := (Below.refl _ _).alloc (Nat.le_refl _) _
      have hX : Blk (v0.alloc (.cells #[.int .i64 0, .bool false, .int .i64 0, .string ⟨#[]⟩, .slice none 0 0, .slice none 0 0] 34)) v0.heap.size 34 #[.int .i64 0, .bool false, .int .i64 0, .string ⟨#[]⟩, .slice none 0 0, .slice none 0 0] := Blk.new v0 _ _
      change Code.wp _ _ _ _ (v0.alloc (.cells #[.int .i64 0, .bool false, .int .i64 0, .string ⟨#[]⟩, .slice none 0 0, .slice none 0 0] 34))
      have HBP := Lib.hid (HBv.out.trans (hb0.mono HBv.out.size))
      generalize (v0.alloc (.cells #[.int .i64 0, .bool false, .int .i64 0, .string ⟨#[]⟩, .slice none 0 0, .slice none 0 0] 34)) = vP at *
      have HF := Lib.hid hX
      clear hb0 hX
      clear HBv
      generalize v0.heap.size = gz at *
      refine wp_region_held_drew (S := fun w' => (w'.cell? ⟨G3, 0, none⟩ = some (.int .i64 t.kind) ∧ w'.cell? ⟨G3, 1, none⟩ = some (.bool t.tr) ∧ w'.cell? ⟨G3, 2, none⟩ = some (.int .i64 t.num) ∧ w'.cell? ⟨G3, 3, none⟩ = some (.string t.str) ∧ w'.cell? ⟨G3, 4, none⟩ = some (.slice B t.items.length d) ∧ w'.cell? ⟨G3, 5, none⟩ = some (.slice B' t.keys.length d')) ∧ (w'.cell? ⟨gx, 0, none⟩ = some (.int .i64 t.kind) ∧ w'.cell? ⟨gx, 1, none⟩ = some (.bool t.tr) ∧ w'.cell? ⟨gx, 2, none⟩ = some (.int .i64 t.num) ∧ w'.cell? ⟨gx, 3, none⟩ = some (.string t.str) ∧ w'.cell? ⟨gx, 4, none⟩ = some (.slice E t.items.length e1) ∧ w'.cell? ⟨gx, 5, none⟩ = some (.slice E' t.keys.length e1'))) (by kernel_rfl) ?_ (fun hHeld => ?_)
      · exact HS7.out _ HBP.out.drew
      refine wpAnyH_take (i := 0) (v := ?_) rfl (by kernel_rfl) (by kernel_rfl) (by kernel_rfl) (fun _ _ _ h => h) (Or.inl ⟨by rfl, ?_⟩) (by assumption) ?_
      rotate_left
      · intro wq hSw
        try dsimp only at hSw
        go_simp
        try (with_reducible rfl)
      try simp only [Act.put, List.getElem_toArray, List.getElem_cons_zero, List.setIfInBounds_toArray, List.set_cons_zero, List.set_cons_succ]
      refine wpAnyH_take (i := 2) (v := ?_) rfl (by kernel_rfl) (by kernel_rfl) (by kernel_rfl) (fun _ _ _ h => h) (Or.inl ⟨by rfl, ?_⟩) (by assumption) ?_
      rotate_left
      · intro wq hSw
        try dsimp only at hSw
        go_simp
        try (with_reducible rfl)
      try simp only [Act.put, List.getElem_toArray, List.getElem_cons_succ, List.getElem_cons_zero, List.setIfInBounds_toArray, List.set_cons_zero, List.set_cons_succ]
      refine wpAnyH_ready (rs := [1]) (by kernel_rfl) (by simp) ?_
      refine AllReadyH.cons rfl (fun K0 hK => ?_) ?_
      rotate_left
      · exact AllReadyH.nil
      go_simp
      refine (ref_cells _ t E e1 E' e1' _ HNI.out.le (Nat.le_refl _) (HRT6.out.on HBP.out.drew)).mono ?_
      rintro e0 vR ⟨R1, r1, R1', r1', rfl, hU, hb0⟩
      unfold T.agg
      have LR := Lib.hid (show Below vP.heap.size vP vR from (Below.refl vP.heap.size vP).drew.trans hb0)
      have HU := Lib.hid (show TV vR (· < vR.heap.size) t R1 r1 R1' r1' from hU.wide fun b hb => by
        have h1 := hb0.size
        rcases hb with hb | hb
        · exact Nat.lt_of_lt_of_le hb h1
        · exact hb.2)
      clear hU hb0
      go_wp2_with fail
      refine hK.out _ _ ?_ (fun hHeld => ?_)
      · exact HS7.out _ ((HBP.out.trans (LR.out.mono HBP.out.size)))
      clear hK K0
      try simp only [Act.put, List.getElem_toArray, List.getElem_cons_succ, List.getElem_cons_zero, List.setIfInBounds_toArray, List.set_cons_zero, List.set_cons_succ]
      refine wpAnyH_ready (rs := [3]) (by kernel_rfl) (by simp) ?_
      refine AllReadyH.cons rfl (fun K0 hK => ?_) ?_
      rotate_left
      · exact AllReadyH.nil
      go_simp
      refine (rsame_cells t R1 r1 R1' r1' B d B' d' _ HNI.out.le HNI.out.small HU.out (HT6.out.on (HBP.out.trans (LR.out.mono HBP.out.size)))).mono ?_
      rintro e0 vS ⟨rfl, hb0⟩
      have LS := Lib.hid (LR.out.trans (hb0.mono LR.out.size))
      clear hb0 LR HU
      go_wp2_with fail
      refine hK.out _ _ ?_ (fun hHeld => ?_)
      · exact HS7.out _ ((HBP.out.trans (LS.out.mono HBP.out.size)))
      clear hK K0
      try simp only [Act.put, List.getElem_toArray, List.getElem_cons_succ, List.getElem_cons_zero, List.setIfInBounds_toArray, List.set_cons_zero, List.set_cons_succ]
      refine wpAnyH_take (i := 4) (v := ?_) rfl (by kernel_rfl) (by kernel_rfl) (by kernel_rfl) (fun _ _ _ h => h) (Or.inl ⟨by rfl, ?_⟩) (by assumption) ?_
      rotate_left
      · intro wq hSw
        try dsimp only at hSw
        go_simp
        try (with_reducible rfl)
      try simp only [Act.put, List.getElem_toArray, List.getElem_cons_succ, List.getElem_cons_zero, List.setIfInBounds_toArray, List.set_cons_zero, List.set_cons_succ]
      refine wpAnyH_done (by kernel_rfl) ?_ _
      go_upto_region 10 with fail
      obtain ⟨a0, a1, a2, a3, a4, a5⟩ : vS.cell? ⟨gz, 0, none⟩ = some (.int .i64 0) ∧ vS.cell? ⟨gz, 1, none⟩ = some (.bool false) ∧ vS.cell? ⟨gz, 2, none⟩ = some (.int .i64 0) ∧ vS.cell? ⟨gz, 3, none⟩ = some (.string ⟨#[]⟩) ∧ vS.cell? ⟨gz, 4, none⟩ = some (.slice none 0 0) ∧ vS.cell? ⟨gz, 5, none⟩ = some (.slice none 0 0) := by
        have h := HF.out.onto LS.out
        exact ⟨h.cell 0, h.cell 1, h.cell 2, h.cell 3, h.cell 4, h.cell 5⟩
      have HWH := Lib.hid (HWX.out.trans ((HBP.out.trans (LS.out.mono HBP.out.size)).mono hwx))
      go_wp2_with fail
      refine (ref_zero _).mono ?_
      rintro e9 w9 ⟨U, f3, U', f3', rfl, hU, hb0⟩
      have HWI := Lib.hid (HWH.out.trans (hb0.mono HWH.out.size))
      have HU := Lib.hid hU
      clear hb0 hU
      go_wp2_with fail
      refine (rsame_zero U f3 U' f3' _ HU.out).mono ?_
      rintro e8 w10 ⟨rfl, hb0⟩
      have HWJ := Lib.hid (HWI.out.trans (hb0.mono HWI.out.size))
      clear hb0
      go_wp2_with fail
      go_ret
      exact ⟨rfl, HWJ.out⟩
    · skip
      obtain ⟨ps, q0, hpq⟩ := snoc_of hp0
      have hlp : p.length = ps.length + 1 := by rw [hpq]; simp
      rw [hlp]
      go_wp2_with fail
      refine (rem_any t ps q0 Q cQ E e1 E' e1' _ HNI.out HE6.out (hpq ▸ HSp.out) (by omega) (by omega) (hpq ▸ HP6.out) HRT6.out).mono ?_
      rintro e v0 (⟨h, k, yy, r, hhl, hka, hyk, hset, K1, k1, K1', k1', rfl, hT, hb0⟩ | ⟨hno, rfl, hb0⟩)
      · skip
        have HHL := Lib.hid hhl
        have HKA := Lib.hid hka
        have HYK := Lib.hid hyk
        have HSET := Lib.hid hset
        have HBv := Lib.hid hb0
        have HGOT := Lib.hid (show TV v0 (· < v0.heap.size) r K1 k1 K1' k1' from hT.wide fun b hb => hb.2)
        have HFine := Lib.hid (rems_fine HNI.out.fine hhl hyk hset)
        clear hhl hka hyk hset hb0 hT a0 a1 a2 a3 a4 a5
        go_upto_region 7 with fail
        have hb0 : Below v0.heap.size v0 (v0.alloc (.cells #[.int .i64 r.kind, .bool r.tr, .int .i64 r.num, .string r.str, .slice K1 r.items.length k1, .slice K1' r.keys.length k1'] 34)) := (Below.refl _ _).alloc (Nat.le_refl _) _
        have hX : Blk (v0.alloc (.cells #[.int .i64 r.kind, .bool r.tr, .int .i64 r.num, .string r.str, .slice K1 r.items.length k1, .slice K1' r.keys.length k1'] 34)) v0.heap.size 34 #[.int .i64 r.kind, .bool r.tr, .int .i64 r.num, .string r.str, .slice K1 r.items.length k1, .slice K1' r.keys.length k1'] := Blk.new v0 _ _
        change Code.wp _ _ _ _ (v0.alloc (.cells #[.int .i64 r.kind, .bool r.tr, .int .i64 r.num, .string r.str, .slice K1 r.items.length k1, .slice K1' r.keys.length k1'] 34))
        have HGP := Lib.hid (HGOT.out.on hb0)
        clear HGOT
        have HBP := Lib.hid (HBv.out.trans (hb0.mono HBv.out.size))
        generalize (v0.alloc (.cells #[.int .i64 r.kind, .bool r.tr, .int .i64 r.num, .string r.str, .slice K1 r.items.length k1, .slice K1' r.keys.length k1'] 34)) = vP at *
        have HF := Lib.hid hX
        clear hb0 hX
        clear HBv
        generalize v0.heap.size = gz at *
        refine wp_region_held_drew (S := fun w' => (w'.cell? ⟨G3, 0, none⟩ = some (.int .i64 t.kind) ∧ w'.cell? ⟨G3, 1, none⟩ = some (.bool t.tr) ∧ w'.cell? ⟨G3, 2, none⟩ = some (.int .i64 t.num) ∧ w'.cell? ⟨G3, 3, none⟩ = some (.string t.str) ∧ w'.cell? ⟨G3, 4, none⟩ = some (.slice B t.items.length d) ∧ w'.cell? ⟨G3, 5, none⟩ = some (.slice B' t.keys.length d')) ∧ (w'.cell? ⟨gx, 0, none⟩ = some (.int .i64 t.kind) ∧ w'.cell? ⟨gx, 1, none⟩ = some (.bool t.tr) ∧ w'.cell? ⟨gx, 2, none⟩ = some (.int .i64 t.num) ∧ w'.cell? ⟨gx, 3, none⟩ = some (.string t.str) ∧ w'.cell? ⟨gx, 4, none⟩ = some (.slice E t.items.length e1) ∧ w'.cell? ⟨gx, 5, none⟩ = some (.slice E' t.keys.length e1'))) (by kernel_rfl) ?_ (fun hHeld => ?_)
        · exact HS7.out _ HBP.out.drew
        refine wpAnyH_take (i := 0) (v := ?_) rfl (by kernel_rfl) (by kernel_rfl) (by kernel_rfl) (fun _ _ _ h => h) (Or.inl ⟨by rfl, ?_⟩) (by assumption) ?_
        rotate_left
        · intro wq hSw
          try dsimp only at hSw
          go_simp
          try (with_reducible rfl)
        try simp only [Act.put, List.getElem_toArray, List.getElem_cons_zero, List.setIfInBounds_toArray, List.set_cons_zero, List.set_cons_succ]
        refine wpAnyH_take (i := 2) (v := ?_) rfl (by kernel_rfl) (by kernel_rfl) (by kernel_rfl) (fun _ _ _ h => h) (Or.inl ⟨by rfl, ?_⟩) (by assumption) ?_
        rotate_left
        · intro wq hSw
          try dsimp only at hSw
          go_simp
          try (with_reducible rfl)
        try simp only [Act.put, List.getElem_toArray, List.getElem_cons_succ, List.getElem_cons_zero, List.setIfInBounds_toArray, List.set_cons_zero, List.set_cons_succ]
        refine wpAnyH_ready (rs := [1]) (by kernel_rfl) (by simp) ?_
        refine AllReadyH.cons rfl (fun K0 hK => ?_) ?_
        rotate_left
        · exact AllReadyH.nil
        go_simp
        refine (ref_cells _ t E e1 E' e1' _ HNI.out.le (Nat.le_refl _) (HRT6.out.on HBP.out.drew)).mono ?_
        rintro e0 vR ⟨R1, r1, R1', r1', rfl, hU, hb0⟩
        unfold T.agg
        have LR := Lib.hid (show Below vP.heap.size vP vR from (Below.refl vP.heap.size vP).drew.trans hb0)
        have HU := Lib.hid (show TV vR (· < vR.heap.size) t R1 r1 R1' r1' from hU.wide fun b hb => by
          have h1 := hb0.size
          rcases hb with hb | hb
          · exact Nat.lt_of_lt_of_le hb h1
          · exact hb.2)
        clear hU hb0
        go_wp2_with fail
        refine hK.out _ _ ?_ (fun hHeld => ?_)
        · exact HS7.out _ ((HBP.out.trans (LR.out.mono HBP.out.size)))
        clear hK K0
        try simp only [Act.put, List.getElem_toArray, List.getElem_cons_succ, List.getElem_cons_zero, List.setIfInBounds_toArray, List.set_cons_zero, List.set_cons_succ]
        refine wpAnyH_ready (rs := [3]) (by kernel_rfl) (by simp) ?_
        refine AllReadyH.cons rfl (fun K0 hK => ?_) ?_
        rotate_left
        · exact AllReadyH.nil
        go_simp
        refine (rsame_cells t R1 r1 R1' r1' B d B' d' _ HNI.out.le HNI.out.small HU.out (HT6.out.on (HBP.out.trans (LR.out.mono HBP.out.size)))).mono ?_
        rintro e0 vS ⟨rfl, hb0⟩
        have LS := Lib.hid (LR.out.trans (hb0.mono LR.out.size))
        clear hb0 LR HU
        go_wp2_with fail
        refine hK.out _ _ ?_ (fun hHeld => ?_)
        · exact HS7.out _ ((HBP.out.trans (LS.out.mono HBP.out.size)))
        clear hK K0
        try simp only [Act.put, List.getElem_toArray, List.getElem_cons_succ, List.getElem_cons_zero, List.setIfInBounds_toArray, List.set_cons_zero, List.set_cons_succ]
        refine wpAnyH_take (i := 4) (v := ?_) rfl (by kernel_rfl) (by kernel_rfl) (by kernel_rfl) (fun _ _ _ h => h) (Or.inl ⟨by rfl, ?_⟩) (by assumption) ?_
        rotate_left
        · intro wq hSw
          try dsimp only at hSw
          go_simp
          try (with_reducible rfl)
        try simp only [Act.put, List.getElem_toArray, List.getElem_cons_succ, List.getElem_cons_zero, List.setIfInBounds_toArray, List.set_cons_zero, List.set_cons_succ]
        refine wpAnyH_done (by kernel_rfl) ?_ _
        obtain ⟨a0, a1, a2, a3, a4, a5⟩ := (HS7.out vS (HBP.out.trans (LS.out.mono HBP.out.size))).1
        go_wp2_with fail
        rw [← hlp]
        refine (rget_any t p Q cQ B d B' d' _ HNI.out.fine (by omega) (HP6.out.on (HBP.out.trans (LS.out.mono HBP.out.size))) (HT6.out.on (HBP.out.trans (LS.out.mono HBP.out.size)))).mono ?_
        rintro e0 vG (⟨z1, hz1, C0, f0, C0', f0', rfl, hT, hb0⟩ | ⟨hno, _⟩)
        rotate_left
        · exact absurd (hpq.symm ▸ leads_snoc.2 ⟨h, k, HHL.out, HKA.out, HYK.out⟩) (hno yy)
        have LG := Lib.hid (LS.out.trans (hb0.mono LS.out.size))
        clear hT hz1 hb0 LS a0 a1 a2 a3 a4 a5
        go_upto_region 14 with fail
        have hb0 : Below vG.heap.size vG (vG.alloc (.cells #[.int .i64 z1.kind, .bool z1.tr, .int .i64 z1.num, .string z1.str, .slice C0 z1.items.length f0, .slice C0' z1.keys.length f0'] 29)) := (Below.refl _ _).alloc (Nat.le_refl _) _
        have hX : Blk (vG.alloc (.cells #[.int .i64 z1.kind, .bool z1.tr, .int .i64 z1.num, .string z1.str, .slice C0 z1.items.length f0, .slice C0' z1.keys.length f0'] 29)) vG.heap.size 29 #[.int .i64 z1.kind, .bool z1.tr, .int .i64 z1.num, .string z1.str, .slice C0 z1.items.length f0, .slice C0' z1.keys.length f0'] := Blk.new vG _ _
        change Code.wp _ _ _ _ (vG.alloc (.cells #[.int .i64 z1.kind, .bool z1.tr, .int .i64 z1.num, .string z1.str, .slice C0 z1.items.length f0, .slice C0' z1.keys.length f0'] 29))
        have LJ := Lib.hid (LG.out.trans (hb0.mono LG.out.size))
        generalize (vG.alloc (.cells #[.int .i64 z1.kind, .bool z1.tr, .int .i64 z1.num, .string z1.str, .slice C0 z1.items.length f0, .slice C0' z1.keys.length f0'] 29)) = vJ at *
        have HX13 := Lib.hid hX
        clear hb0 hX
        clear LG
        generalize vG.heap.size = g13 at *
        have HSS := Lib.hid (show ∀ w', Below vJ.heap.size vJ w' → (w'.cell? ⟨gz, 0, none⟩ = some (.int .i64 r.kind) ∧ w'.cell? ⟨gz, 1, none⟩ = some (.bool r.tr) ∧ w'.cell? ⟨gz, 2, none⟩ = some (.int .i64 r.num) ∧ w'.cell? ⟨gz, 3, none⟩ = some (.string r.str) ∧ w'.cell? ⟨gz, 4, none⟩ = some (.slice K1 r.items.length k1) ∧ w'.cell? ⟨gz, 5, none⟩ = some (.slice K1' r.keys.length k1')) ∧ (w'.cell? ⟨G3, 0, none⟩ = some (.int .i64 t.kind) ∧ w'.cell? ⟨G3, 1, none⟩ = some (.bool t.tr) ∧ w'.cell? ⟨G3, 2, none⟩ = some (.int .i64 t.num) ∧ w'.cell? ⟨G3, 3, none⟩ = some (.string t.str) ∧ w'.cell? ⟨G3, 4, none⟩ = some (.slice B t.items.length d) ∧ w'.cell? ⟨G3, 5, none⟩ = some (.slice B' t.keys.length d')) from fun w' hb => by
          have hb1 := LJ.out.trans (hb.mono LJ.out.size)
          have hb2 := H10.out.trans ((HBP.out.trans (hb1.mono HBP.out.size)).mono hs10)
          have h1 := HF.out.onto hb1
          have h2 := HB4.out.onto hb2
          exact ⟨⟨h1.cell 0, h1.cell 1, h1.cell 2, h1.cell 3, h1.cell 4, h1.cell 5⟩, h2.cell 0, h2.cell 1, h2.cell 2, h2.cell 3, h2.cell 4, h2.cell 5⟩)
        have HPJ := Lib.hid (HP6.out.on (HBP.out.trans (LJ.out.mono HBP.out.size)))
        have HTt := Lib.hid (HT6.out.on (HBP.out.trans (LJ.out.mono HBP.out.size)))
        have HTr := Lib.hid (HGP.out.on LJ.out)
        have HWJ := Lib.hid (HWX.out.trans ((HBP.out.trans (LJ.out.mono HBP.out.size)).mono hwx))
        clear HP6 HT6 HGP LJ HBP HF HS7 HRT6 HX13
        refine wp_region_held_drew (S := fun w' => (w'.cell? ⟨gz, 0, none⟩ = some (.int .i64 r.kind) ∧ w'.cell? ⟨gz, 1, none⟩ = some (.bool r.tr) ∧ w'.cell? ⟨gz, 2, none⟩ = some (.int .i64 r.num) ∧ w'.cell? ⟨gz, 3, none⟩ = some (.string r.str) ∧ w'.cell? ⟨gz, 4, none⟩ = some (.slice K1 r.items.length k1) ∧ w'.cell? ⟨gz, 5, none⟩ = some (.slice K1' r.keys.length k1')) ∧ (w'.cell? ⟨G3, 0, none⟩ = some (.int .i64 t.kind) ∧ w'.cell? ⟨G3, 1, none⟩ = some (.bool t.tr) ∧ w'.cell? ⟨G3, 2, none⟩ = some (.int .i64 t.num) ∧ w'.cell? ⟨G3, 3, none⟩ = some (.string t.str) ∧ w'.cell? ⟨G3, 4, none⟩ = some (.slice B t.items.length d) ∧ w'.cell? ⟨G3, 5, none⟩ = some (.slice B' t.keys.length d'))) (by kernel_rfl) ?_ (fun hHeld => ?_)
        · exact HSS.out _ (Below.refl vJ.heap.size vJ).drew
        refine wpAnyH_take (i := 0) (v := ?_) rfl (by kernel_rfl) (by kernel_rfl) (by kernel_rfl) (fun _ _ _ h => h) (Or.inl ⟨by rfl, ?_⟩) (by assumption) ?_
        rotate_left
        · intro wq hSw
          try dsimp only at hSw
          go_simp
          try (with_reducible rfl)
        try simp only [Act.put, List.getElem_toArray, List.getElem_cons_zero, List.setIfInBounds_toArray, List.set_cons_zero, List.set_cons_succ]
        refine wpAnyH_take (i := 1) (v := ?_) rfl (by kernel_rfl) (by kernel_rfl) (by kernel_rfl) (fun _ _ _ h => h) (Or.inl ⟨by rfl, ?_⟩) (by assumption) ?_
        rotate_left
        · intro wq hSw
          try dsimp only at hSw
          go_simp
          try (with_reducible rfl)
        try simp only [Act.put, List.getElem_toArray, List.getElem_cons_succ, List.getElem_cons_zero, List.setIfInBounds_toArray, List.set_cons_zero, List.set_cons_succ]
        refine wpAnyH_take (i := 2) (v := ?_) rfl (by kernel_rfl) (by kernel_rfl) (by kernel_rfl) (fun _ _ _ h => h) (Or.inl ⟨by rfl, ?_⟩) (by assumption) ?_
        rotate_left
        · intro wq hSw
          try dsimp only at hSw
          go_simp
          try (with_reducible rfl)
        try simp only [Act.put, List.getElem_toArray, List.getElem_cons_succ, List.getElem_cons_zero, List.setIfInBounds_toArray, List.set_cons_zero, List.set_cons_succ]
        refine wpAnyH_take (i := 3) (v := ?_) rfl (by kernel_rfl) (by kernel_rfl) (by kernel_rfl) (fun _ _ _ h => h) (Or.inl ⟨by rfl, ?_⟩) (by assumption) ?_
        rotate_left
        · intro wq hSw
          try dsimp only at hSw
          go_simp
          try (with_reducible rfl)
        try simp only [Act.put, List.getElem_toArray, List.getElem_cons_succ, List.getElem_cons_zero, List.setIfInBounds_toArray, List.set_cons_zero, List.set_cons_succ]
        refine wpAnyH_ready (rs := [4]) (by kernel_rfl) (by simp) ?_
        refine AllReadyH.cons rfl (fun K0 hK => ?_) ?_
        rotate_left
        · exact AllReadyH.nil
        go_simp
        refine (vgood_cells r K1 k1 K1' k1' _ HFine.out.le HFine.out.good (HTr.out.on (Below.refl vJ.heap.size vJ).drew)).mono ?_
        rintro e0 x1 ⟨rfl, hb0⟩
        have J1 := Lib.hid (show Below vJ.heap.size vJ x1 from (Below.refl vJ.heap.size vJ).drew.trans hb0)
        clear hb0
        go_wp2_with fail
        refine hK.out _ _ ?_ (fun hHeld => ?_)
        · exact HSS.out _ (J1.out)
        clear hK K0
        try simp only [Act.put, List.getElem_toArray, List.getElem_cons_succ, List.getElem_cons_zero, List.setIfInBounds_toArray, List.set_cons_zero, List.set_cons_succ]
        refine wpAnyH_take (i := 5) (v := ?_) rfl (by kernel_rfl) (by kernel_rfl) (by kernel_rfl) (fun _ _ _ h => h) (Or.inl ⟨by rfl, ?_⟩) (by assumption) ?_
        rotate_left
        · intro wq hSw
          try dsimp only at hSw
          go_simp
          try (with_reducible rfl)
        try simp only [Act.put, List.getElem_toArray, List.getElem_cons_succ, List.getElem_cons_zero, List.setIfInBounds_toArray, List.set_cons_zero, List.set_cons_succ]
        refine wpAnyH_take (i := 6) (v := ?_) rfl (by kernel_rfl) (by kernel_rfl) (by kernel_rfl) (fun _ _ _ h => h) (Or.inl ⟨by rfl, ?_⟩) (by assumption) ?_
        rotate_left
        · intro wq hSw
          try dsimp only at hSw
          go_simp
          try (with_reducible rfl)
        try simp only [Act.put, List.getElem_toArray, List.getElem_cons_succ, List.getElem_cons_zero, List.setIfInBounds_toArray, List.set_cons_zero, List.set_cons_succ]
        refine wpAnyH_take (i := 7) (v := ?_) rfl (by kernel_rfl) (by kernel_rfl) (by kernel_rfl) (fun _ _ _ h => h) (Or.inl ⟨by rfl, ?_⟩) (by assumption) ?_
        rotate_left
        · intro wq hSw
          try dsimp only at hSw
          go_simp
          try (with_reducible rfl)
        try simp only [Act.put, List.getElem_toArray, List.getElem_cons_succ, List.getElem_cons_zero, List.setIfInBounds_toArray, List.set_cons_zero, List.set_cons_succ]
        refine wpAnyH_take (i := 9) (v := ?_) rfl (by kernel_rfl) (by kernel_rfl) (by kernel_rfl) (fun _ _ _ h => h) (Or.inl ⟨by rfl, ?_⟩) (by assumption) ?_
        rotate_left
        · intro wq hSw
          try dsimp only at hSw
          go_simp
          try (with_reducible rfl)
        try simp only [Act.put, List.getElem_toArray, List.getElem_cons_succ, List.getElem_cons_zero, List.setIfInBounds_toArray, List.set_cons_zero, List.set_cons_succ]
        refine wpAnyH_take (i := 10) (v := ?_) rfl (by kernel_rfl) (by kernel_rfl) (by kernel_rfl) (fun _ _ _ h => h) (Or.inl ⟨by rfl, ?_⟩) (by assumption) ?_
        rotate_left
        · intro wq hSw
          try dsimp only at hSw
          go_simp
          try (with_reducible rfl)
        try simp only [Act.put, List.getElem_toArray, List.getElem_cons_succ, List.getElem_cons_zero, List.setIfInBounds_toArray, List.set_cons_zero, List.set_cons_succ]
        refine wpAnyH_ready (rs := [8]) (by kernel_rfl) (by simp) ?_
        refine AllReadyH.cons rfl (fun K0 hK => ?_) ?_
        rotate_left
        · exact AllReadyH.nil
        go_simp
        refine (ref_cells _ r K1 k1 K1' k1' _ HFine.out.le (Nat.le_refl _) (HTr.out.on J1.out)).mono ?_
        rintro e0 x2 ⟨R1, r1, R1', r1', rfl, hU, hb0⟩
        unfold T.agg
        have J2 := Lib.hid (J1.out.trans (hb0.mono J1.out.size))
        have HU := Lib.hid (show TV x2 (· < x2.heap.size) r R1 r1 R1' r1' from hU.wide fun b hb => by
          have h1 := hb0.size
          rcases hb with hb | hb
          · exact Nat.lt_of_lt_of_le hb h1
          · exact hb.2)
        clear hU hb0
        go_wp2_with fail
        refine hK.out _ _ ?_ (fun hHeld => ?_)
        · exact HSS.out _ (J2.out)
        clear hK K0
        try simp only [Act.put, List.getElem_toArray, List.getElem_cons_succ, List.getElem_cons_zero, List.setIfInBounds_toArray, List.set_cons_zero, List.set_cons_succ]
        refine wpAnyH_ready (rs := [11]) (by kernel_rfl) (by simp) ?_
        refine AllReadyH.cons rfl (fun K0 hK => ?_) ?_
        rotate_left
        · exact AllReadyH.nil
        go_simp
        try rw [hlp]
        refine (rrem_any t h r ps q0 k Q cQ B d B' d' _ HNI.out.fine HHL.out HKA.out HSET.out (by omega) (by omega) (hpq ▸ HPJ.out.on J2.out) (HTt.out.on J2.out)).mono ?_
        rintro e0 x3 ⟨M, m, M', m', rfl, hU, hb0⟩
        have J3 := Lib.hid (J2.out.trans (hb0.mono J2.out.size))
        have HU2 := Lib.hid (HU.out.on hb0)
        have HM := Lib.hid hU
        clear hU hb0 HU
        go_wp2_with fail
        refine hK.out _ _ ?_ (fun hHeld => ?_)
        · exact HSS.out _ (J3.out)
        clear hK K0
        try simp only [Act.put, List.getElem_toArray, List.getElem_cons_succ, List.getElem_cons_zero, List.setIfInBounds_toArray, List.set_cons_zero, List.set_cons_succ]
        refine wpAnyH_ready (rs := [12]) (by kernel_rfl) (by simp) ?_
        refine AllReadyH.cons rfl (fun K0 hK => ?_) ?_
        rotate_left
        · exact AllReadyH.nil
        go_simp
        refine (rsame_cells r R1 r1 R1' r1' M m M' m' _ HFine.out.le HFine.out.small HU2.out HM.out).mono ?_
        rintro e0 x4 ⟨rfl, hb0⟩
        have J4 := Lib.hid (J3.out.trans (hb0.mono J3.out.size))
        clear hb0 HU2 HM
        go_wp2_with fail
        refine hK.out _ _ ?_ (fun hHeld => ?_)
        · exact HSS.out _ (J4.out)
        clear hK K0
        try simp only [Act.put, List.getElem_toArray, List.getElem_cons_succ, List.getElem_cons_zero, List.setIfInBounds_toArray, List.set_cons_zero, List.set_cons_succ]
        refine wpAnyH_take (i := 13) (v := ?_) rfl (by kernel_rfl) (by kernel_rfl) (by kernel_rfl) (fun _ _ _ h => h) (Or.inl ⟨by rfl, ?_⟩) (by assumption) ?_
        rotate_left
        · intro wq hSw
          try dsimp only at hSw
          go_simp
          try (with_reducible rfl)
        try simp only [Act.put, List.getElem_toArray, List.getElem_cons_succ, List.getElem_cons_zero, List.setIfInBounds_toArray, List.set_cons_zero, List.set_cons_succ]
        refine wpAnyH_take (i := 14) (v := ?_) rfl (by kernel_rfl) (by kernel_rfl) (by kernel_rfl) (fun _ _ _ h => h) (Or.inl ⟨by rfl, ?_⟩) (by assumption) ?_
        rotate_left
        · intro wq hSw
          try dsimp only at hSw
          go_simp
          try (with_reducible rfl)
        try simp only [Act.put, List.getElem_toArray, List.getElem_cons_succ, List.getElem_cons_zero, List.setIfInBounds_toArray, List.set_cons_zero, List.set_cons_succ]
        refine wpAnyH_done (by kernel_rfl) ?_ _
        go_wp2_with fail
        go_ret
        exact ⟨rfl, HWJ.out.trans (J4.out.mono HWJ.out.size)⟩
      · skip
        have HNO := Lib.hid hno
        have HBv := Lib.hid hb0
        clear hno hb0 a0 a1 a2 a3 a4 a5
        go_upto_region 7 with fail
        have hb0 : Below v0.heap.size v0 (v0.alloc (.cells #[.int .i64 0, .bool false, .int .i64 0, .string ⟨#[]⟩, .slice none 0 0, .slice none 0 0] 34)) := (Below.refl _ _).alloc (Nat.le_refl _) _
        have hX : Blk (v0.alloc (.cells #[.int .i64 0, .bool false, .int .i64 0, .string ⟨#[]⟩, .slice none 0 0, .slice none 0 0] 34)) v0.heap.size 34 #[.int .i64 0, .bool false, .int .i64 0, .string ⟨#[]⟩, .slice none 0 0, .slice none 0 0] := Blk.new v0 _ _
        change Code.wp _ _ _ _ (v0.alloc (.cells #[.int .i64 0, .bool false, .int .i64 0, .string ⟨#[]⟩, .slice none 0 0, .slice none 0 0] 34))
        have HBP := Lib.hid (HBv.out.trans (hb0.mono HBv.out.size))
        generalize (v0.alloc (.cells #[.int .i64 0, .bool false, .int .i64 0, .string ⟨#[]⟩, .slice none 0 0, .slice none 0 0] 34)) = vP at *
        have HF := Lib.hid hX
        clear hb0 hX
        clear HBv
        generalize v0.heap.size = gz at *
        refine wp_region_held_drew (S := fun w' => (w'.cell? ⟨G3, 0, none⟩ = some (.int .i64 t.kind) ∧ w'.cell? ⟨G3, 1, none⟩ = some (.bool t.tr) ∧ w'.cell? ⟨G3, 2, none⟩ = some (.int .i64 t.num) ∧ w'.cell? ⟨G3, 3, none⟩ = some (.string t.str) ∧ w'.cell? ⟨G3, 4, none⟩ = some (.slice B t.items.length d) ∧ w'.cell? ⟨G3, 5, none⟩ = some (.slice B' t.keys.length d')) ∧ (w'.cell? ⟨gx, 0, none⟩ = some (.int .i64 t.kind) ∧ w'.cell? ⟨gx, 1, none⟩ = some (.bool t.tr) ∧ w'.cell? ⟨gx, 2, none⟩ = some (.int .i64 t.num) ∧ w'.cell? ⟨gx, 3, none⟩ = some (.string t.str) ∧ w'.cell? ⟨gx, 4, none⟩ = some (.slice E t.items.length e1) ∧ w'.cell? ⟨gx, 5, none⟩ = some (.slice E' t.keys.length e1'))) (by kernel_rfl) ?_ (fun hHeld => ?_)
        · exact HS7.out _ HBP.out.drew
        refine wpAnyH_take (i := 0) (v := ?_) rfl (by kernel_rfl) (by kernel_rfl) (by kernel_rfl) (fun _ _ _ h => h) (Or.inl ⟨by rfl, ?_⟩) (by assumption) ?_
        rotate_left
        · intro wq hSw
          try dsimp only at hSw
          go_simp
          try (with_reducible rfl)
        try simp only [Act.put, List.getElem_toArray, List.getElem_cons_zero, List.setIfInBounds_toArray, List.set_cons_zero, List.set_cons_succ]
        refine wpAnyH_take (i := 2) (v := ?_) rfl (by kernel_rfl) (by kernel_rfl) (by kernel_rfl) (fun _ _ _ h => h) (Or.inl ⟨by rfl, ?_⟩) (by assumption) ?_
        rotate_left
        · intro wq hSw
          try dsimp only at hSw
          go_simp
          try (with_reducible rfl)
        try simp only [Act.put, List.getElem_toArray, List.getElem_cons_succ, List.getElem_cons_zero, List.setIfInBounds_toArray, List.set_cons_zero, List.set_cons_succ]
        refine wpAnyH_ready (rs := [1]) (by kernel_rfl) (by simp) ?_
        refine AllReadyH.cons rfl (fun K0 hK => ?_) ?_
        rotate_left
        · exact AllReadyH.nil
        go_simp
        refine (ref_cells _ t E e1 E' e1' _ HNI.out.le (Nat.le_refl _) (HRT6.out.on HBP.out.drew)).mono ?_
        rintro e0 vR ⟨R1, r1, R1', r1', rfl, hU, hb0⟩
        unfold T.agg
        have LR := Lib.hid (show Below vP.heap.size vP vR from (Below.refl vP.heap.size vP).drew.trans hb0)
        have HU := Lib.hid (show TV vR (· < vR.heap.size) t R1 r1 R1' r1' from hU.wide fun b hb => by
          have h1 := hb0.size
          rcases hb with hb | hb
          · exact Nat.lt_of_lt_of_le hb h1
          · exact hb.2)
        clear hU hb0
        go_wp2_with fail
        refine hK.out _ _ ?_ (fun hHeld => ?_)
        · exact HS7.out _ ((HBP.out.trans (LR.out.mono HBP.out.size)))
        clear hK K0
        try simp only [Act.put, List.getElem_toArray, List.getElem_cons_succ, List.getElem_cons_zero, List.setIfInBounds_toArray, List.set_cons_zero, List.set_cons_succ]
        refine wpAnyH_ready (rs := [3]) (by kernel_rfl) (by simp) ?_
        refine AllReadyH.cons rfl (fun K0 hK => ?_) ?_
        rotate_left
        · exact AllReadyH.nil
        go_simp
        refine (rsame_cells t R1 r1 R1' r1' B d B' d' _ HNI.out.le HNI.out.small HU.out (HT6.out.on (HBP.out.trans (LR.out.mono HBP.out.size)))).mono ?_
        rintro e0 vS ⟨rfl, hb0⟩
        have LS := Lib.hid (LR.out.trans (hb0.mono LR.out.size))
        clear hb0 LR HU
        go_wp2_with fail
        refine hK.out _ _ ?_ (fun hHeld => ?_)
        · exact HS7.out _ ((HBP.out.trans (LS.out.mono HBP.out.size)))
        clear hK K0
        try simp only [Act.put, List.getElem_toArray, List.getElem_cons_succ, List.getElem_cons_zero, List.setIfInBounds_toArray, List.set_cons_zero, List.set_cons_succ]
        refine wpAnyH_take (i := 4) (v := ?_) rfl (by kernel_rfl) (by kernel_rfl) (by kernel_rfl) (fun _ _ _ h => h) (Or.inl ⟨by rfl, ?_⟩) (by assumption) ?_
        rotate_left
        · intro wq hSw
          try dsimp only at hSw
          go_simp
          try (with_reducible rfl)
        try simp only [Act.put, List.getElem_toArray, List.getElem_cons_succ, List.getElem_cons_zero, List.setIfInBounds_toArray, List.set_cons_zero, List.set_cons_succ]
        refine wpAnyH_done (by kernel_rfl) ?_ _
        obtain ⟨a0, a1, a2, a3, a4, a5⟩ := (HS7.out vS (HBP.out.trans (LS.out.mono HBP.out.size))).1
        go_wp2_with fail
        rw [← hlp]
        refine (rget_any t p Q cQ B d B' d' _ HNI.out.fine (by omega) (HP6.out.on (HBP.out.trans (LS.out.mono HBP.out.size))) (HT6.out.on (HBP.out.trans (LS.out.mono HBP.out.size)))).mono ?_
        rintro e0 vG (⟨z1, hz1, _⟩ | ⟨_, rfl, hb0⟩)
        · exact absurd (hpq ▸ hz1) (HNO.out z1)
        have LG := Lib.hid (LS.out.trans (hb0.mono LS.out.size))
        clear hb0 LS a0 a1 a2 a3 a4 a5
        go_upto_region 13 with fail
        have hb0 : Below vG.heap.size vG (vG.alloc (.cells #[.int .i64 0, .bool false, .int .i64 0, .string ⟨#[]⟩, .slice none 0 0, .slice none 0 0] 29)) := (Below.refl _ _).alloc (Nat.le_refl _) _
        have hX : Blk (vG.alloc (.cells #[.int .i64 0, .bool false, .int .i64 0, .string ⟨#[]⟩, .slice none 0 0, .slice none 0 0] 29)) vG.heap.size 29 #[.int .i64 0, .bool false, .int .i64 0, .string ⟨#[]⟩, .slice none 0 0, .slice none 0 0] := Blk.new vG _ _
        change Code.wp _ _ _ _ (vG.alloc (.cells #[.int .i64 0, .bool false, .int .i64 0, .string ⟨#[]⟩, .slice none 0 0, .slice none 0 0] 29))
        have LH := Lib.hid (LG.out.trans (hb0.mono LG.out.size))
        generalize (vG.alloc (.cells #[.int .i64 0, .bool false, .int .i64 0, .string ⟨#[]⟩, .slice none 0 0, .slice none 0 0] 29)) = vH at *
        have HX13 := Lib.hid hX
        clear hb0 hX
        clear LG
        generalize vG.heap.size = g13 at *
        obtain ⟨a0, a1, a2, a3, a4, a5⟩ : vH.cell? ⟨gz, 0, none⟩ = some (.int .i64 0) ∧ vH.cell? ⟨gz, 1, none⟩ = some (.bool false) ∧ vH.cell? ⟨gz, 2, none⟩ = some (.int .i64 0) ∧ vH.cell? ⟨gz, 3, none⟩ = some (.string ⟨#[]⟩) ∧ vH.cell? ⟨gz, 4, none⟩ = some (.slice none 0 0) ∧ vH.cell? ⟨gz, 5, none⟩ = some (.slice none 0 0) := by
          have h := HF.out.onto LH.out
          exact ⟨h.cell 0, h.cell 1, h.cell 2, h.cell 3, h.cell 4, h.cell 5⟩
        have HWH := Lib.hid (HWX.out.trans ((HBP.out.trans (LH.out.mono HBP.out.size)).mono hwx))
        go_wp2_with fail
        refine (ref_zero _).mono ?_
        rintro e9 w9 ⟨U, f3, U', f3', rfl, hU, hb0⟩
        have HWI := Lib.hid (HWH.out.trans (hb0.mono HWH.out.size))
        have HU := Lib.hid hU
        clear hb0 hU
        go_wp2_with fail
        refine (rsame_zero U f3 U' f3' _ HU.out).mono ?_
        rintro e8 w10 ⟨rfl, hb0⟩
        have HWJ := Lib.hid (HWI.out.trans (hb0.mono HWI.out.size))
        clear hb0
        go_wp2_with fail
        go_ret
        exact ⟨rfl, HWJ.out⟩

/-- the door's own heap meets the condition -/
theorem door_met (os : Os) (args : Array Value) : laidMetH Tryz.prog Rows.pathRemovesRow.laid ((World.doorLaid Tryz.prog 4000 os).forCall (fun _ _ => 0) ⟨#[], args, []⟩).memory :=
  laidMetH_of_parts3 (fuel := 8) (laidMet_of_run' 8 (by kernel_rfl) (by kernel_rfl)) (by kernel_rfl) (by kernel_rfl)

set_option maxRecDepth 100000 in
theorem lifted (os : Os) (started : os.Started) (H : Type) (enc : TypeId × Value → H) :
    ReturnsInHanded {} Tryz.checked os 3 .any (fun w args => (Rows.pathRemovesSpec.pre enc Tryz.prog Tryz.f3 [] false w args ∧ laidMetH Tryz.prog Rows.pathRemovesRow.laid w) ∧ sizedMet enc Tryz.prog Tryz.f3 (OpenSpec.ofChange Rows.pathRemovesSpec) false w args)
      (Rows.pathRemovesSpec.post enc Tryz.prog Tryz.f3 false true false false) := by
  refine returnsInHanded_of_change_and (C := Tryz.checked) (X := fun w _ => laidMetH Tryz.prog Rows.pathRemovesRow.laid w) (fun _ _ _ hh h => h.of_heap hh) own started (by kernel_rfl) Tryz.func3
    (ChangeSpec.witness_shaped (enc := enc) (C := Tryz.checked) (os := os) (X := fun w _ => laidMetH Tryz.prog Rows.pathRemovesRow.laid w) false (World.doorLaid Tryz.prog 4000 os) #[.slice none 0 0, .int .u16 0, .slice none 0 0] 8 rfl (World.shaped_of_RefB (by kernel_rfl) (by kernel_rfl)) (by kernel_rfl) (by kernel_rfl) (by kernel_rfl) (door_met os _)) ?_
  intro W base args ds gs before hval0 hW _ _ hL _
  have hval : ∀ (j : Nat) t v, Tryz.f3.params[j]? = some t → args[j]? = some v → Value.okWide Tryz.prog W .any base t v := hval0
  have hW' := hW
  obtain ⟨p, q, hA0, hV, rfl, hfz, hnd⟩ := hW
  have hA : DataW.TrodAll enc Tryz.prog W 0 (fun _ => true) true Tryz.f3.params.toList args.toList ds p := hA0
  rw [Tryz.params3] at hA hval
  obtain ⟨v0, vs0, d0, ds0, p0, q0, hargs, rfl, rfl, h0, r0⟩ := trodAll_cons hA
  obtain ⟨v1, vs1, d1, ds1, p1, q1, rfl, rfl, rfl, h1, r1⟩ := trodAll_cons r0
  obtain ⟨v2, vs2, d2, ds2, p2, q2, rfl, rfl, rfl, h2, r2⟩ := trodAll_cons r1
  obtain ⟨rfl, rfl, rfl⟩ := trodAll_nil r2
  obtain rfl : args = #[v0, v1, v2] := by cases args; simp_all
  obtain ⟨rfl, rfl⟩ := trodVars_none hV
  obtain ⟨a0, n0, c0, rfl⟩ := okWide_slice Tryz.underlying22 (hval 0 22 v0 rfl rfl)
  have k0 := h0
  have lt0 : ∀ x ∈ p0, x.block < W.heap.size := by obtain ⟨m, hm⟩ := k0; exact DataW.trod_lt m _ _ _ hm
  obtain ⟨f0, hf0⟩ := h0
  obtain ⟨hnc0, hcm0, hN0⟩ := nodes_open (show DataW.trod enc Tryz.prog W 0 _ _ f0 22 [.slice a0 n0 c0] = some (d0, p0) from hf0)
  obtain ⟨x1, rfl, rfl, rfl, w1⟩ := open_int Tryz.underlying23 (hval 1 23 v1 rfl rfl) h1
  have b1 := w1
  simp only [Lit.wf, decide_eq_true_eq, Bool.and_eq_true] at b1
  have eu8a : IntKind.u8.min = 0 := rfl
  have eu8b : IntKind.u8.max = 255 := rfl
  have eu16a : IntKind.u16.min = 0 := rfl
  have eu16b : IntKind.u16.max = 65535 := rfl
  have ei64a : IntKind.i64.min = -9223372036854775808 := rfl
  have ei64b : IntKind.i64.max = 9223372036854775807 := rfl
  obtain ⟨a2, n2, c2, rfl⟩ := okWide_slice Tryz.underlying24 (hval 2 24 v2 rfl rfl)
  have k2 := h2
  have lt2 : ∀ x ∈ p2, x.block < W.heap.size := by obtain ⟨m, hm⟩ := k2; exact DataW.trod_lt m _ _ _ hm
  obtain ⟨f2, hf2⟩ := h2
  obtain ⟨hnc2, hcm2, l2, rfl, hr2, hz2⟩ := strs_open (show DataW.trod enc Tryz.prog W 0 _ _ f2 24 [.slice a2 n2 c2] = some (d2, p2) from hf2)
  clear hA0 hval0
  refine (walk a0 n0 c0 x1 l2 a2 c2 W hnc0 hcm0 hN0 (by omega) (by omega) hnc2 hcm2 hr2 hz2 (errs hL)).mono fun e W' ⟨he, bel⟩ => ?_
  subst he
  exact ⟨_, rfl, _, _, _, [], _, [], hW', trodAll_mk1 (shut_bool Tryz.underlying4 _), (trodAll_cons_mk (Below.trod laidOut (by kernel_rfl) (of_decide_eq_true (by kernel_rfl)) k0 bel lt0) (trodAll_cons_mk (shut_int Tryz.underlying23 w1) (trodAll_cons_mk (Below.trod laidOut (by kernel_rfl) (of_decide_eq_true (by kernel_rfl)) k2 bel lt2) trodAll_mk0))), rfl, bel.frame _, fun h => by cases h⟩

theorem said : Rows.PathRemovesSaid :=
  OpenClaim.holds_of_wide 3 Tryz.f3 rfl rfl rfl rfl rfl rfl rfl ⟨rfl, rfl, rfl, rfl, rfl⟩ rfl rfl rfl rfl rfl (by kernel_rfl) Tryz.func3 (by kernel_rfl)
    (of_decide_eq_true (by kernel_rfl)) (by unfold Func.isWrapper; first | (rw [if_pos (by decide +kernel)]; kernel_rfl) | (rw [if_neg (by decide +kernel)]; exact ⟨rfl, rfl⟩))
    (fun os started H enc _ => lifted os started H enc)

/-- no parameter wants a stand-in -/
theorem plain (f : FuncId) (fn : Func) (hf : Tryz.pinned.checked.prog.funcNamed "cheval/chevallaw04.PathRemoves" = some f) (hfn : Tryz.pinned.checked.prog.funcs[f]? = some fn) :
    true = Tryz.pinned.checked.prog.looks [] ∧ ∀ (j : Nat) t, fn.params[j]? = some t → Tryz.pinned.checked.prog.wantsStandIn t = false := by
  obtain rfl : f = 3 := Option.some.inj ((show Tryz.prog.funcNamed "cheval/chevallaw04.PathRemoves" = some 3 by kernel_rfl).symm.trans hf) |>.symm
  obtain rfl : fn = Tryz.f3 := (Option.some.inj (Tryz.func3.symm.trans hfn)).symm
  refine ⟨by kernel_rfl, fun j t ht => ?_⟩
  rw [Tryz.params3] at ht
  have hm := Array.mem_of_getElem? ht
  simp only [List.mem_toArray, List.mem_cons, List.not_mem_nil, or_false] at hm
  rcases hm with rfl | rfl | rfl
  · exact (show Tryz.prog.wantsStandIn 22 = false by kernel_rfl)
  · exact (show Tryz.prog.wantsStandIn 23 = false by kernel_rfl)
  · exact (show Tryz.prog.wantsStandIn 24 = false by kernel_rfl)

/-- The statement: the tied card. -/
theorem card : Rows.PathRemovesCardSaid :=
  Claim7.holds_tied_plain_at .later [] _ _ _ _ said (fun _ h => by cases h) (by kernel_rfl) (fun _ h => by cases h) pathRemoves_row_tie rfl ⟨rfl, rfl⟩ (by kernel_rfl) rfl plain (by kernel_rfl)
end Go.Proofs.YthkpeomdklcnmaaGreatDoor.pathRemoves
