/- What is set at one path changes nothing of what stands at another one, neither of which begins with the other one: for all values and all numbers that pick the paths, at the library's variables as the card says. -/
import Derived.Test.YtmcacmhjhejfeaaDoorCards
import Derived.Test.YtmcacmhjhejfeaaDoorTie
import Derived.WalkKit
import Derived.ProofKit
import Derived.OpenShut
import Derived.ChangeOld
import Derived.ShutString
import Derived.Below
import Derived.LaidMore
import Derived.Lib.LaidTab
import Derived.Stop.Joined
import Derived.Stop.LaidErr
import Derived.SevenTiedAt
import Derived.Test.YtmcacmhjhejfeaaDoorPick
import Derived.Test.YtmcacmhjhejfeaaDoorSet
import Derived.Test.YtmcacmhjhejfeaaDoorRget
import Derived.Test.YtmcacmhjhejfeaaDoorAwake4
import Derived.Test.YtmcacmhjhejfeaaDoorLTree
import Derived.Test.YtmcacmhjhejfeaaDoorCells
import Derived.Test.YtmcacmhjhejfeaaDoorOpen
import Derived.Test.YtmcacmhjhejfeaaDoorPair
namespace Go.Proofs.YtmcacmhjhejfeaaDoor.pathApart
open Go.ChangeShapes Go.WideShapes Go.ChangeAt Go.RowKit
open Go.ChangeMaps (open_string shut_string)
set_option linter.unusedVariables false

theorem own : ownKnob Tryd.prog.godebug = none := by kernel_rfl
theorem laidOut : laidOutB Tryd.prog = true := by kernel_rfl
theorem gRange : Tryd.prog.globalNamed "strconv.ErrRange" = some 3 := by kernel_rfl
theorem gSyntax : Tryd.prog.globalNamed "strconv.ErrSyntax" = some 2 := by kernel_rfl
theorem cell_of_var {W : World} {nm : String} {g : Nat} {v : Value} (hg : Tryd.prog.globalNamed nm = some g) (h : W.var? Tryd.prog nm = some #[v]) : W.cell? ⟨g, 0, none⟩ = some v := by
  unfold World.var? at h
  rw [hg] at h
  simp only [Option.bind_some] at h
  unfold World.cell?
  cases hh : W.heap[g]? with
  | none => rw [hh] at h; cases h
  | some o => rw [hh] at h; cases o <;> simp_all
theorem star : "*" ++ "errors.errorString" = "*errors.errorString" := by decide
theorem rowPtr (u : TypeId) (h : Tryd.prog.typeName? 3 u = some "*errors.errorString") : u = 179 :=
  typeName_ptr_named (nm := "errors.errorString") (by rw [star]; kernel_rfl) (by kernel_rfl) (by decide) u (by rw [star]; exact h)
/-- what the row's list gives -/
theorem errs {W : World} (h : laidMetH Tryd.prog Rows.pathApartRow.laid W) : Errs W := by
  have h' : laidMet Tryd.prog Rows.pathApartRow.laid W := h
  obtain ⟨a, s, hv, _⟩ := laid_sentinel h'.tail.tail.tail gRange (by kernel_rfl) Tryd.underlying113 rowPtr Tryd.underlying179 Tryd.underlying181 rfl rfl Tryd.underlying9 (by kernel_rfl) (by kernel_rfl)
  obtain ⟨a2, s2, hv2, _⟩ := laid_sentinel h'.tail.tail.tail.tail gSyntax (by kernel_rfl) Tryd.underlying113 rowPtr Tryd.underlying179 Tryd.underlying181 rfl rfl Tryd.underlying9 (by kernel_rfl) (by kernel_rfl)
  exact ⟨⟨_, _, cell_of_var gSyntax hv2⟩, ⟨_, _, cell_of_var gRange hv⟩⟩

set_option maxRecDepth 100000 in
set_option maxHeartbeats 16000000 in
theorem walk (A0 : Option Addr) (n0 c0 : Nat) (A1 : Option Addr) (n1 c1 : Nat) (a b : Nat) (w : World) (hnc : n0 ≤ c0) (hcm : c0 ≤ maxLen) (hN : Nodes w (· < w.heap.size) A0 n0) (hnc1 : n1 ≤ c1) (hcm1 : c1 ≤ maxLen) (hN1 : Nodes w (· < w.heap.size) A1 n1) (ha : a ≤ 65535) (hb : b ≤ 65535) (he : Errs w) :
    Calls Tryd.prog 5 #[.slice A0 n0 c0, .slice A1 n1 c1, .agg #[.int .u16 a, .int .u16 b]] w fun e w' => e = .returned (.bool true) ∧ Below w.heap.size w w' := by
  have HN := Lib.hid hN
  have HN1 := Lib.hid hN1
  have HE := Lib.hid he
  clear hN he hN1
  go_enter Tryd.func5, Tryd.ntmps5
  go_upto_region 1 with fail
  have hB : Blk (w.alloc (.cells #[.int .u16 a, .int .u16 b] 58)) w.heap.size 58 #[.int .u16 a, .int .u16 b] := Blk.new w _ _
  have hW : Below w.heap.size w (w.alloc (.cells #[.int .u16 a, .int .u16 b] 58)) := (Below.refl _ _).alloc (Nat.le_refl _) _
  change Code.wp _ _ _ _ (w.alloc (.cells #[.int .u16 a, .int .u16 b] 58))
  generalize (w.alloc (.cells #[.int .u16 a, .int .u16 b] 58)) = W0 at *
  have HB0 := Lib.hid hB
  have HW0 := Lib.hid hW
  have hl0 := hB.lt
  clear hB hW
  go_wp2_with fail
  refine (awake4_any _ (HE.out.on HW0.out)).mono ?_
  rintro e w1 ⟨rfl, hb1⟩
  have H1 := Lib.hid hb1
  clear hb1
  go_wp2_with fail
  refine (tree_any A0 n0 c0 _ hnc hcm (HN.out.on (HW0.out.trans (H1.out.mono (by omega))))).mono ?_
  rintro e w2 ⟨t, B, d, B', d', rfl, hnice, htv, hb2⟩
  have H2 := Lib.hid (H1.out.trans (hb2.mono H1.out.size))
  have HT := Lib.hid htv
  have HNI := Lib.hid hnice
  clear hb2 H1 htv hnice
  unfold T.agg
  go_wp2_with fail
  refine (tree_any A1 n1 c1 _ hnc1 hcm1 (HN1.out.on (HW0.out.trans (H2.out.mono (by omega))))).mono ?_
  rintro e w3 ⟨x, D, g, D', g', rfl, hnice, htv, hb3⟩
  have H3 := Lib.hid (H2.out.trans (hb3.mono H2.out.size))
  have HTV := Lib.hid (HT.out.on hb3)
  have HX := Lib.hid htv
  have HXI := Lib.hid hnice
  clear hb3 H2 htv hnice HT
  unfold T.agg
  go_wp2_with fail
  have hb4 : Below W0.heap.size W0 ((w3.alloc (.cells #[.int .i64 t.kind, .bool t.tr, .int .i64 t.num, .string t.str, .slice B t.items.length d, .slice B' t.keys.length d'] 31)).alloc (.cells #[.int .i64 x.kind, .bool x.tr, .int .i64 x.num, .string x.str, .slice D x.items.length g, .slice D' x.keys.length g'] 31)) := (H3.out.alloc H3.out.size _).alloc (by have := H3.out.size; simp; omega) _
  have hB4 : Blk ((w3.alloc (.cells #[.int .i64 t.kind, .bool t.tr, .int .i64 t.num, .string t.str, .slice B t.items.length d, .slice B' t.keys.length d'] 31)).alloc (.cells #[.int .i64 x.kind, .bool x.tr, .int .i64 x.num, .string x.str, .slice D x.items.length g, .slice D' x.keys.length g'] 31)) w3.heap.size 31 #[.int .i64 t.kind, .bool t.tr, .int .i64 t.num, .string t.str, .slice B t.items.length d, .slice B' t.keys.length d'] := (Blk.new w3 _ _).alloc _
  have hB5 : Blk ((w3.alloc (.cells #[.int .i64 t.kind, .bool t.tr, .int .i64 t.num, .string t.str, .slice B t.items.length d, .slice B' t.keys.length d'] 31)).alloc (.cells #[.int .i64 x.kind, .bool x.tr, .int .i64 x.num, .string x.str, .slice D x.items.length g, .slice D' x.keys.length g'] 31)) (w3.heap.size + 1) 31 #[.int .i64 x.kind, .bool x.tr, .int .i64 x.num, .string x.str, .slice D x.items.length g, .slice D' x.keys.length g'] := by
    have := Blk.new (w3.alloc (.cells #[.int .i64 t.kind, .bool t.tr, .int .i64 t.num, .string t.str, .slice B t.items.length d, .slice B' t.keys.length d'] 31)) 31 #[.int .i64 x.kind, .bool x.tr, .int .i64 x.num, .string x.str, .slice D x.items.length g, .slice D' x.keys.length g']
    simpa using this
  have hb34 : Below w3.heap.size w3 ((w3.alloc (.cells #[.int .i64 t.kind, .bool t.tr, .int .i64 t.num, .string t.str, .slice B t.items.length d, .slice B' t.keys.length d'] 31)).alloc (.cells #[.int .i64 x.kind, .bool x.tr, .int .i64 x.num, .string x.str, .slice D x.items.length g, .slice D' x.keys.length g'] 31)) := ((Below.refl _ _).alloc (Nat.le_refl _) _).alloc (by simp) _
  change Code.wp _ _ _ _ ((w3.alloc (.cells #[.int .i64 t.kind, .bool t.tr, .int .i64 t.num, .string t.str, .slice B t.items.length d, .slice B' t.keys.length d'] 31)).alloc (.cells #[.int .i64 x.kind, .bool x.tr, .int .i64 x.num, .string x.str, .slice D x.items.length g, .slice D' x.keys.length g'] 31))
  generalize ((w3.alloc (.cells #[.int .i64 t.kind, .bool t.tr, .int .i64 t.num, .string t.str, .slice B t.items.length d, .slice B' t.keys.length d'] 31)).alloc (.cells #[.int .i64 x.kind, .bool x.tr, .int .i64 x.num, .string x.str, .slice D x.items.length g, .slice D' x.keys.length g'] 31)) = W4 at *
  have HT4 := Lib.hid (HTV.out.on hb34)
  have HX4 := Lib.hid (HX.out.on hb34)
  clear HTV HX
  generalize w3.heap.size = G3 at *
  have HB4 := Lib.hid hB4
  have HB5 := Lib.hid hB5
  have hl4 := hB4.lt
  have hl5 := hB5.lt
  have HW4 := Lib.hid hb4
  have HBW := Lib.hid (show Below w.heap.size w W4 from HW0.out.trans (hb4.mono (by omega)))
  have hs4 := hb4.size
  clear hB4 hB5 hb4 hb34 H3
  have HS4 := Lib.hid (show ∀ w', Below W4.heap.size W4 w' → (w'.cell? ⟨G3, 0, none⟩ = some (.int .i64 t.kind) ∧ w'.cell? ⟨G3, 1, none⟩ = some (.bool t.tr) ∧ w'.cell? ⟨G3, 2, none⟩ = some (.int .i64 t.num) ∧ w'.cell? ⟨G3, 3, none⟩ = some (.string t.str) ∧ w'.cell? ⟨G3, 4, none⟩ = some (.slice B t.items.length d) ∧ w'.cell? ⟨G3, 5, none⟩ = some (.slice B' t.keys.length d')) ∧ w'.cell? ⟨w.heap.size, 0, none⟩ = some (.int .u16 a) ∧ w'.cell? ⟨w.heap.size, 1, none⟩ = some (.int .u16 b) from fun w' h => by
    have h0 := HB4.out.onto h
    have h1 := HB0.out.onto (HW4.out.trans (h.mono hs4))
    exact ⟨⟨h0.cell 0, h0.cell 1, h0.cell 2, h0.cell 3, h0.cell 4, h0.cell 5⟩, h1.cell 0, h1.cell 1⟩)
  refine wp_region_held_drew (S := fun w' => (w'.cell? ⟨G3, 0, none⟩ = some (.int .i64 t.kind) ∧ w'.cell? ⟨G3, 1, none⟩ = some (.bool t.tr) ∧ w'.cell? ⟨G3, 2, none⟩ = some (.int .i64 t.num) ∧ w'.cell? ⟨G3, 3, none⟩ = some (.string t.str) ∧ w'.cell? ⟨G3, 4, none⟩ = some (.slice B t.items.length d) ∧ w'.cell? ⟨G3, 5, none⟩ = some (.slice B' t.keys.length d')) ∧ w'.cell? ⟨w.heap.size, 0, none⟩ = some (.int .u16 a) ∧ w'.cell? ⟨w.heap.size, 1, none⟩ = some (.int .u16 b)) (by kernel_rfl) ?_ (fun hHeld => ?_)
  · exact HS4.out _ (Below.refl W4.heap.size W4).drew
  refine wpAnyH_take (i := 0) (v := ?_) rfl (by kernel_rfl) (by kernel_rfl) (by kernel_rfl) (fun _ _ _ h => h) (Or.inl ⟨by rfl, ?_⟩) (by assumption) ?_
  rotate_left
  · intro wq hSw
    try dsimp only at hSw
    go_simp
    try (with_reducible rfl)
  try simp only [Act.put, List.getElem_toArray, List.getElem_cons_zero, List.setIfInBounds_toArray, List.set_cons_zero, List.set_cons_succ]
  refine wpAnyH_take (i := 1) (v := ?_) rfl (by kernel_rfl) (by kernel_rfl) (by kernel_rfl) (fun _ _ _ h => h) (Or.inl ⟨by rfl, ?_⟩) (by assumption) ?_
  rotate_left
  · intro wq hSw
    try dsimp only at hSw
    go_simp
    try (with_reducible rfl)
  try simp only [Act.put, List.getElem_toArray, List.getElem_cons_succ, List.getElem_cons_zero, List.setIfInBounds_toArray, List.set_cons_zero, List.set_cons_succ]
  refine wpAnyH_take (i := 2) (v := ?_) rfl (by kernel_rfl) (by kernel_rfl) (by kernel_rfl) (fun _ _ _ h => h) (Or.inl ⟨by rfl, ?_⟩) (by assumption) ?_
  rotate_left
  · intro wq hSw
    try dsimp only at hSw
    go_simp
    try (with_reducible rfl)
  try simp only [Act.put, List.getElem_toArray, List.getElem_cons_succ, List.getElem_cons_zero, List.setIfInBounds_toArray, List.set_cons_zero, List.set_cons_succ]
  refine wpAnyH_take (i := 4) (v := ?_) rfl (by kernel_rfl) (by kernel_rfl) (by kernel_rfl) (fun _ _ _ h => h) (Or.inl ⟨by rfl, ?_⟩) (by assumption) ?_
  rotate_left
  · intro wq hSw
    try dsimp only at hSw
    go_simp
    try (with_reducible rfl)
  try simp only [Act.put, List.getElem_toArray, List.getElem_cons_succ, List.getElem_cons_zero, List.setIfInBounds_toArray, List.set_cons_zero, List.set_cons_succ]
  refine wpAnyH_take (i := 5) (v := ?_) rfl (by kernel_rfl) (by kernel_rfl) (by kernel_rfl) (fun _ _ _ h => h) (Or.inl ⟨by rfl, ?_⟩) (by assumption) ?_
  rotate_left
  · intro wq hSw
    try dsimp only at hSw
    go_simp
    try (with_reducible rfl)
  try simp only [Act.put, List.getElem_toArray, List.getElem_cons_succ, List.getElem_cons_zero, List.setIfInBounds_toArray, List.set_cons_zero, List.set_cons_succ]
  refine wpAnyH_take (i := 6) (v := ?_) rfl (by kernel_rfl) (by kernel_rfl) (by kernel_rfl) (fun _ _ _ h => h) (Or.inl ⟨by rfl, ?_⟩) (by assumption) ?_
  rotate_left
  · intro wq hSw
    try dsimp only at hSw
    go_simp
    try (with_reducible rfl)
  try simp only [Act.put, List.getElem_toArray, List.getElem_cons_succ, List.getElem_cons_zero, List.setIfInBounds_toArray, List.set_cons_zero, List.set_cons_succ]
  refine wpAnyH_ready (rs := [3]) (by kernel_rfl) (by simp) ?_
  refine AllReadyH.cons rfl (fun K0 hK => ?_) ?_
  rotate_left
  · exact AllReadyH.nil
  go_simp
  refine (pick_any t B d B' d' a _ HNI.out ha (HT4.out.on (Below.refl W4.heap.size W4).drew)).mono ?_
  rintro e w5 ⟨q, y, Pq, cq, rfl, lcq, l40q, h1q, h2q, h3q, hbw5⟩
  have HSq := Lib.hid h1q
  have HLq := Lib.hid h2q
  have HRq := Lib.hid h3q
  have HBw5 := Lib.hid (show Below W4.heap.size W4 w5 from ((Below.refl W4.heap.size W4).drew).trans (hbw5.mono ((Below.refl W4.heap.size W4).drew).size))
  have HOw5 := Lib.hid hbw5
  clear h1q h2q h3q hbw5
  go_wp2_with fail
  refine hK.out _ _ ?_ (fun hHeld => ?_)
  · exact HS4.out _ HBw5.out
  clear hK K0
  try simp only [Act.put, List.getElem_toArray, List.getElem_cons_succ, List.getElem_cons_zero, List.setIfInBounds_toArray, List.set_cons_zero, List.set_cons_succ]
  refine wpAnyH_ready (rs := [7]) (by kernel_rfl) (by simp) ?_
  refine AllReadyH.cons rfl (fun K0 hK => ?_) ?_
  rotate_left
  · exact AllReadyH.nil
  go_simp
  refine (pick_any t B d B' d' b _ HNI.out hb (HT4.out.on HBw5.out)).mono ?_
  rintro e w6 ⟨r, z, Pr, cr, rfl, lcr, l40r, h1r, h2r, h3r, hbw6⟩
  have HSr := Lib.hid h1r
  have HLr := Lib.hid h2r
  have HRr := Lib.hid h3r
  have HBw6 := Lib.hid (show Below W4.heap.size W4 w6 from (HBw5.out).trans (hbw6.mono (HBw5.out).size))
  have HOw6 := Lib.hid hbw6
  clear h1r h2r h3r hbw6
  go_wp2_with fail
  refine hK.out _ _ ?_ (fun hHeld => ?_)
  · exact HS4.out _ HBw6.out
  clear hK K0
  try simp only [Act.put, List.getElem_toArray, List.getElem_cons_succ, List.getElem_cons_zero, List.setIfInBounds_toArray, List.set_cons_zero, List.set_cons_succ]
  have HRQ := Lib.hid (HRq.out.on HOw6.out)
  clear HRq HOw5 HOw6 HBw5
  refine wpAnyH_take (i := 8) (v := ?_) rfl (by kernel_rfl) (by kernel_rfl) (by kernel_rfl) (fun _ _ _ h => h) (Or.inl ⟨by rfl, ?_⟩) (by assumption) ?_
  rotate_left
  · intro wq hSw
    try dsimp only at hSw
    go_simp
    try (with_reducible rfl)
  try simp only [Act.put, List.getElem_toArray, List.getElem_cons_succ, List.getElem_cons_zero, List.setIfInBounds_toArray, List.set_cons_zero, List.set_cons_succ]
  refine wpAnyH_take (i := 9) (v := ?_) rfl (by kernel_rfl) (by kernel_rfl) (by kernel_rfl) (fun _ _ _ h => h) (Or.inl ⟨by rfl, ?_⟩) (by assumption) ?_
  rotate_left
  · intro wq hSw
    try dsimp only at hSw
    go_simp
    try (with_reducible rfl)
  try simp only [Act.put, List.getElem_toArray, List.getElem_cons_succ, List.getElem_cons_zero, List.setIfInBounds_toArray, List.set_cons_zero, List.set_cons_succ]
  refine wpAnyH_done (by kernel_rfl) ?_ _
  go_wp2_with fail
  refine (begins_w4 q r Pq cq Pr cr _ (by omega) (by omega) lcq HRQ.out HRr.out).mono ?_
  rintro e w7 ⟨b1, rfl, hpre1, hb7⟩
  have HB7 := Lib.hid (HBw6.out.trans (hb7.mono HBw6.out.size))
  have HRQ7 := Lib.hid (HRQ.out.on hb7)
  have HRR7 := Lib.hid (HRr.out.on hb7)
  have HP1 := Lib.hid hpre1
  clear hb7 hpre1 HRQ HRr HBw6
  cases b1 with
  | true =>
    go_wp2_with fail
    go_ret
    exact ⟨rfl, HBW.out.trans (HB7.out.mono (by have := HBW.out.size; omega))⟩
  | false =>
    go_wp2_with fail
    refine (begins_w4 r q Pr cr Pq cq _ (by omega) (by omega) lcr HRR7.out HRQ7.out).mono ?_
    rintro e w8 ⟨b2, rfl, hpre2, hb8⟩
    have HB8 := Lib.hid (HB7.out.trans (hb8.mono HB7.out.size))
    have HRQ8 := Lib.hid (HRQ7.out.on hb8)
    have HRR8 := Lib.hid (HRR7.out.on hb8)
    have HP2 := Lib.hid hpre2
    clear hb8 hpre2 HRQ7 HRR7 HB7
    cases b2 with
    | true =>
      go_wp2_with fail
      go_ret
      exact ⟨rfl, HBW.out.trans (HB8.out.mono (by have := HBW.out.size; omega))⟩
    | false =>
      go_wp2_with fail
      have HS7 := Lib.hid (show ∀ w', Below W4.heap.size W4 w' → (w'.cell? ⟨G3, 0, none⟩ = some (.int .i64 t.kind) ∧ w'.cell? ⟨G3, 1, none⟩ = some (.bool t.tr) ∧ w'.cell? ⟨G3, 2, none⟩ = some (.int .i64 t.num) ∧ w'.cell? ⟨G3, 3, none⟩ = some (.string t.str) ∧ w'.cell? ⟨G3, 4, none⟩ = some (.slice B t.items.length d) ∧ w'.cell? ⟨G3, 5, none⟩ = some (.slice B' t.keys.length d')) ∧ (w'.cell? ⟨G3 + 1, 0, none⟩ = some (.int .i64 x.kind) ∧ w'.cell? ⟨G3 + 1, 1, none⟩ = some (.bool x.tr) ∧ w'.cell? ⟨G3 + 1, 2, none⟩ = some (.int .i64 x.num) ∧ w'.cell? ⟨G3 + 1, 3, none⟩ = some (.string x.str) ∧ w'.cell? ⟨G3 + 1, 4, none⟩ = some (.slice D x.items.length g) ∧ w'.cell? ⟨G3 + 1, 5, none⟩ = some (.slice D' x.keys.length g')) from fun w' h => by
        have h0 := HB4.out.onto h
        have h1 := HB5.out.onto h
        exact ⟨⟨h0.cell 0, h0.cell 1, h0.cell 2, h0.cell 3, h0.cell 4, h0.cell 5⟩, h1.cell 0, h1.cell 1, h1.cell 2, h1.cell 3, h1.cell 4, h1.cell 5⟩)
      have hPar := parts_of (HP1.out (by first | trivial | rfl)) (HP2.out (by first | trivial | rfl))
      have HPar := Lib.hid hPar
      have HRQ9 := Lib.hid (show SReads w8.drew (· < w8.drew.heap.size) Pq q from HRQ8.out)
      have HRR9 := Lib.hid (show SReads w8.drew (· < w8.drew.heap.size) Pr r from HRR8.out)
      clear hPar
      refine wp_region_held_drew (S := fun w' => (w'.cell? ⟨G3, 0, none⟩ = some (.int .i64 t.kind) ∧ w'.cell? ⟨G3, 1, none⟩ = some (.bool t.tr) ∧ w'.cell? ⟨G3, 2, none⟩ = some (.int .i64 t.num) ∧ w'.cell? ⟨G3, 3, none⟩ = some (.string t.str) ∧ w'.cell? ⟨G3, 4, none⟩ = some (.slice B t.items.length d) ∧ w'.cell? ⟨G3, 5, none⟩ = some (.slice B' t.keys.length d')) ∧ (w'.cell? ⟨G3 + 1, 0, none⟩ = some (.int .i64 x.kind) ∧ w'.cell? ⟨G3 + 1, 1, none⟩ = some (.bool x.tr) ∧ w'.cell? ⟨G3 + 1, 2, none⟩ = some (.int .i64 x.num) ∧ w'.cell? ⟨G3 + 1, 3, none⟩ = some (.string x.str) ∧ w'.cell? ⟨G3 + 1, 4, none⟩ = some (.slice D x.items.length g) ∧ w'.cell? ⟨G3 + 1, 5, none⟩ = some (.slice D' x.keys.length g'))) (by kernel_rfl) ?_ (fun hHeld => ?_)
      · exact HS7.out _ HB8.out.drew
      refine wpAnyH_take (i := 0) (v := ?_) rfl (by kernel_rfl) (by kernel_rfl) (by kernel_rfl) (fun _ _ _ h => h) (Or.inl ⟨by rfl, ?_⟩) (by assumption) ?_
      rotate_left
      · intro wq hSw
        try dsimp only at hSw
        go_simp
        try (with_reducible rfl)
      try simp only [Act.put, List.getElem_toArray, List.getElem_cons_zero, List.setIfInBounds_toArray, List.set_cons_zero, List.set_cons_succ]
      refine wpAnyH_take (i := 2) (v := ?_) rfl (by kernel_rfl) (by kernel_rfl) (by kernel_rfl) (fun _ _ _ h => h) (Or.inl ⟨by rfl, ?_⟩) (by assumption) ?_
      rotate_left
      · intro wq hSw
        try dsimp only at hSw
        go_simp
        try (with_reducible rfl)
      try simp only [Act.put, List.getElem_toArray, List.getElem_cons_succ, List.getElem_cons_zero, List.setIfInBounds_toArray, List.set_cons_zero, List.set_cons_succ]
      refine wpAnyH_take (i := 3) (v := ?_) rfl (by kernel_rfl) (by kernel_rfl) (by kernel_rfl) (fun _ _ _ h => h) (Or.inl ⟨by rfl, ?_⟩) (by assumption) ?_
      rotate_left
      · intro wq hSw
        try dsimp only at hSw
        go_simp
        try (with_reducible rfl)
      try simp only [Act.put, List.getElem_toArray, List.getElem_cons_succ, List.getElem_cons_zero, List.setIfInBounds_toArray, List.set_cons_zero, List.set_cons_succ]
      refine wpAnyH_ready (rs := [1, 9]) (by kernel_rfl) (by simp) ?_
      refine AllReadyH.cons rfl (fun K0 hK => ?_) (AllReadyH.cons rfl (fun K0 hK => ?_) AllReadyH.nil)
      · skip
        go_simp
        refine (real_cells t B d B' d' _ HNI.out.le HNI.out.small (HT4.out.on (HB8.out.trans (((Below.refl w8.heap.size w8).drew).mono HB8.out.size)))).mono ?_
        rintro e0 v1 ⟨E, e1, E', e1', rfl, hT, hb0⟩
        unfold T.agg
        have HRQ_1 := Lib.hid (HRQ9.out.on hb0)
        clear HRQ9
        have HRT_1 := Lib.hid (show TV v1 (· < v1.heap.size) t E e1 E' e1' from hT.wide fun b hb => hb.2)
        have HBv1 := Lib.hid (show Below w8.heap.size w8 v1 from ((Below.refl w8.heap.size w8).drew).trans (hb0.mono ((Below.refl w8.heap.size w8).drew).size))
        clear hT hb0
        go_wp2_with fail
        refine hK.out _ _ ?_ (fun hHeld => ?_)
        · exact HS7.out _ (HB8.out.trans ((HBv1.out).mono HB8.out.size))
        clear hK K0
        try simp only [Act.put, List.getElem_toArray, List.getElem_cons_succ, List.getElem_cons_zero, List.setIfInBounds_toArray, List.set_cons_zero, List.set_cons_succ]
        refine wpAnyH_ready (rs := [4, 9]) (by kernel_rfl) (by simp) ?_
        refine AllReadyH.cons rfl (fun K0 hK => ?_) (AllReadyH.cons rfl (fun K0 hK => ?_) AllReadyH.nil)
        · skip
          go_simp
          refine (real_cells x D g D' g' _ HXI.out.le HXI.out.small (HX4.out.on (HB8.out.trans ((HBv1.out).mono HB8.out.size)))).mono ?_
          rintro e0 v2 ⟨F, f1, F', f1', rfl, hT, hb0⟩
          unfold T.agg
          have HRQ_2 := Lib.hid (HRQ_1.out.on hb0)
          clear HRQ_1
          have HRT_2 := Lib.hid (HRT_1.out.on hb0)
          clear HRT_1
          have HRX_2 := Lib.hid (show TV v2 (· < v2.heap.size) x F f1 F' f1' from hT.wide fun b hb => hb.2)
          have HBv2 := Lib.hid (show Below w8.heap.size w8 v2 from (HBv1.out).trans (hb0.mono (HBv1.out).size))
          clear hT hb0
          go_wp2_with fail
          refine hK.out _ _ ?_ (fun hHeld => ?_)
          · exact HS7.out _ (HB8.out.trans ((HBv2.out).mono HB8.out.size))
          clear hK K0
          try simp only [Act.put, List.getElem_toArray, List.getElem_cons_succ, List.getElem_cons_zero, List.setIfInBounds_toArray, List.set_cons_zero, List.set_cons_succ]
          refine wpAnyH_ready (rs := [5, 9]) (by kernel_rfl) (by simp) ?_
          refine AllReadyH.cons rfl (fun K0 hK => ?_) (AllReadyH.cons rfl (fun K0 hK => ?_) AllReadyH.nil)
          · skip
            go_simp
            refine (set_any t x q Pq cq E e1 E' e1' F f1 F' f1' _ HNI.out HXI.out (HE.out.on (HBW.out.trans ((HB8.out.trans ((HBv2.out).mono HB8.out.size)).mono (by have := HBW.out.size; omega)))) HSq.out (by omega) HRQ_2.out HRT_2.out HRX_2.out).mono ?_
            rintro e0 v3 (⟨y0, rr, hy0, hset, K1, k1, K1', k1', rfl, hT, hb0⟩ | ⟨hno, _⟩)
            rotate_left
            · exact absurd HLq.out (hno y)
            have HRQ_3 := Lib.hid (HRQ_2.out.on hb0)
            clear HRQ_2
            have HRT_3 := Lib.hid (HRT_2.out.on hb0)
            clear HRT_2
            have HRX_3 := Lib.hid (HRX_2.out.on hb0)
            clear HRX_2
            have HGOT := Lib.hid (show TV v3 (· < v3.heap.size) rr K1 k1 K1' k1' from hT.wide fun b hb => hb.2)
            skip
            have HSET := Lib.hid hset
            have HBv3 := Lib.hid (show Below w8.heap.size w8 v3 from (HBv2.out).trans (hb0.mono (HBv2.out).size))
            clear hT hb0 hset hy0
            go_wp2_with fail
            refine hK.out _ _ ?_ (fun hHeld => ?_)
            · exact HS7.out _ (HB8.out.trans ((HBv3.out).mono HB8.out.size))
            clear hK K0
            try simp only [Act.put, List.getElem_toArray, List.getElem_cons_succ, List.getElem_cons_zero, List.setIfInBounds_toArray, List.set_cons_zero, List.set_cons_succ]
            refine wpAnyH_take (i := 6) (v := ?_) rfl (by kernel_rfl) (by kernel_rfl) (by kernel_rfl) (fun _ _ _ h => h) (Or.inl ⟨by rfl, ?_⟩) (by assumption) ?_
            rotate_left
            · intro wq hSw
              try dsimp only at hSw
              go_simp
              try (with_reducible rfl)
            try simp only [Act.put, List.getElem_toArray, List.getElem_cons_succ, List.getElem_cons_zero, List.setIfInBounds_toArray, List.set_cons_zero, List.set_cons_succ]
            refine wpAnyH_take (i := 7) (v := ?_) rfl (by kernel_rfl) (by kernel_rfl) (by kernel_rfl) (fun _ _ _ h => h) (Or.inl ⟨by rfl, ?_⟩) (by assumption) ?_
            rotate_left
            · intro wq hSw
              try dsimp only at hSw
              go_simp
              try (with_reducible rfl)
            try simp only [Act.put, List.getElem_toArray, List.getElem_cons_succ, List.getElem_cons_zero, List.setIfInBounds_toArray, List.set_cons_zero, List.set_cons_succ]
            refine wpAnyH_take (i := 8) (v := ?_) rfl (by kernel_rfl) (by kernel_rfl) (by kernel_rfl) (fun _ _ _ h => h) (Or.inl ⟨by rfl, ?_⟩) (by assumption) ?_
            rotate_left
            · intro wq hSw
              try dsimp only at hSw
              go_simp
              try (with_reducible rfl)
            try simp only [Act.put, List.getElem_toArray, List.getElem_cons_succ, List.getElem_cons_zero, List.setIfInBounds_toArray, List.set_cons_zero, List.set_cons_succ]
            refine wpAnyH_ready (rs := [9]) (by kernel_rfl) (by simp) ?_
            refine AllReadyH.cons rfl (fun K0 hK => ?_) ?_
            rotate_left
            · exact AllReadyH.nil
            go_simp
            have hb0 : Below v3.heap.size v3 (v3.alloc (.cells #[.int .i64 0, .bool false, .int .i64 0, .string ⟨#[]⟩, .slice none 0 0, .slice none 0 0] 36)) := (Below.refl _ _).alloc (Nat.le_refl _) _
            have HZ_4 := Lib.hid (show Blk (v3.alloc (.cells #[.int .i64 0, .bool false, .int .i64 0, .string ⟨#[]⟩, .slice none 0 0, .slice none 0 0] 36)) v3.heap.size 36 #[.int .i64 0, .bool false, .int .i64 0, .string ⟨#[]⟩, .slice none 0 0, .slice none 0 0] from Blk.new v3 _ _)
            have HRQ_4 := Lib.hid (HRQ_3.out.on hb0)
            clear HRQ_3
            have HRT_4 := Lib.hid (HRT_3.out.on hb0)
            clear HRT_3
            have HRX_4 := Lib.hid (HRX_3.out.on hb0)
            clear HRX_3
            have HGOU := Lib.hid (show TV (v3.alloc (.cells #[.int .i64 0, .bool false, .int .i64 0, .string ⟨#[]⟩, .slice none 0 0, .slice none 0 0] 36)) (fun b => b ≠ v3.heap.size ∧ b < (v3.alloc (.cells #[.int .i64 0, .bool false, .int .i64 0, .string ⟨#[]⟩, .slice none 0 0, .slice none 0 0] 36)).heap.size) rr K1 k1 K1' k1' from (HGOT.out.keep (.of_below hb0)).wide fun b hb => ⟨Nat.ne_of_lt hb, Nat.lt_of_lt_of_le hb hb0.size⟩)
            clear HGOT
            have HBv4 := Lib.hid (show Below w8.heap.size w8 (v3.alloc (.cells #[.int .i64 0, .bool false, .int .i64 0, .string ⟨#[]⟩, .slice none 0 0, .slice none 0 0] 36)) from (HBv3.out).trans (hb0.mono (HBv3.out).size))
            have hzl := HZ_4.out.lt
            have hzb := (HBv3.out).size
            clear hb0
            refine hK.out _ _ ?_ (fun hHeld => ?_)
            · exact HS7.out _ (HB8.out.trans ((HBv4.out).mono HB8.out.size))
            clear hK K0
            try simp only [Act.put, List.getElem_toArray, List.getElem_cons_succ, List.getElem_cons_zero, List.setIfInBounds_toArray, List.set_cons_zero, List.set_cons_succ]
            generalize (v3.alloc (.cells #[.int .i64 0, .bool false, .int .i64 0, .string ⟨#[]⟩, .slice none 0 0, .slice none 0 0] 36)) = v4 at *
            have hgz : w8.heap.size ≤ v3.heap.size := hzb
            clear hzb
            generalize v3.heap.size = gz at *
            have q0 : v4.cell? ⟨gz, 0, none⟩ = some (.int .i64 0) := HZ_4.out.cell 0
            have q1 : v4.cell? ⟨gz, 1, none⟩ = some (.bool false) := HZ_4.out.cell 1
            have q2 : v4.cell? ⟨gz, 2, none⟩ = some (.int .i64 0) := HZ_4.out.cell 2
            have q3 : v4.cell? ⟨gz, 3, none⟩ = some (.string ⟨#[]⟩) := HZ_4.out.cell 3
            have q4 : v4.cell? ⟨gz, 4, none⟩ = some (.slice none 0 0) := HZ_4.out.cell 4
            have q5 : v4.cell? ⟨gz, 5, none⟩ = some (.slice none 0 0) := HZ_4.out.cell 5
            have u0 := HZ_4.out.free 0
            have u1 := HZ_4.out.free 1
            have u2 := HZ_4.out.free 2
            have u3 := HZ_4.out.free 3
            have u4 := HZ_4.out.free 4
            have u5 := HZ_4.out.free 5
            refine wpAnyH_ready (rs := [10]) (by kernel_rfl) (by simp) ?_
            refine AllReadyH.cons rfl (fun K0 hK => ?_) ?_
            rotate_left
            · exact AllReadyH.nil
            go_simp
            refine hK.out _ _ ?_ (fun hHeld => ?_)
            · have hS := HS7.out _ (HB8.out.trans ((HBv4.out).mono HB8.out.size))
              have h8s := HB8.out.size
              have hne : ∀ b o, b ≠ gz → (((((((v4.setCell ⟨gz, 0, none⟩ (.int .i64 rr.kind)).setCell ⟨gz, 1, none⟩ (.bool rr.tr)).setCell ⟨gz, 2, none⟩ (.int .i64 rr.num)).setCell ⟨gz, 3, none⟩ (.string rr.str)).setCell ⟨gz, 4, none⟩ (.slice K1 rr.items.length k1)).setCell ⟨gz, 5, none⟩ (.slice K1' rr.keys.length k1'))).cell? ⟨b, o, none⟩ = v4.cell? ⟨b, o, none⟩ := fun b o hb => World.cell?_of_block (put6_heap hb)
              have g1 : G3 ≠ gz := by omega
              have g2 : G3 + 1 ≠ gz := by omega
              try dsimp only
              rw [hne G3 _ g1, hne G3 _ g1, hne G3 _ g1, hne G3 _ g1, hne G3 _ g1, hne G3 _ g1, hne (G3 + 1) _ g2, hne (G3 + 1) _ g2, hne (G3 + 1) _ g2, hne (G3 + 1) _ g2, hne (G3 + 1) _ g2, hne (G3 + 1) _ g2]
              exact hS
            clear hK K0
            try simp only [Act.put, List.getElem_toArray, List.getElem_cons_succ, List.getElem_cons_zero, List.setIfInBounds_toArray, List.set_cons_zero, List.set_cons_succ]
            refine wpAnyH_take (i := 11) (v := ?_) rfl (by kernel_rfl) (by kernel_rfl) (by kernel_rfl) (fun _ _ _ h => h) (Or.inl ⟨by rfl, ?_⟩) (by assumption) ?_
            rotate_left
            · intro wq hSw
              try dsimp only at hSw
              go_simp
              try (with_reducible rfl)
            try simp only [Act.put, List.getElem_toArray, List.getElem_cons_succ, List.getElem_cons_zero, List.setIfInBounds_toArray, List.set_cons_zero, List.set_cons_succ]
            refine wpAnyH_done (by kernel_rfl) ?_ _
            have hlz := HZ_4.out.lt
            have HF := Lib.hid (res_put HZ_4.out rfl rr K1 k1 K1' k1')
            have hzs : (((((((v4.setCell ⟨gz, 0, none⟩ (.int .i64 rr.kind)).setCell ⟨gz, 1, none⟩ (.bool rr.tr)).setCell ⟨gz, 2, none⟩ (.int .i64 rr.num)).setCell ⟨gz, 3, none⟩ (.string rr.str)).setCell ⟨gz, 4, none⟩ (.slice K1 rr.items.length k1)).setCell ⟨gz, 5, none⟩ (.slice K1' rr.keys.length k1'))).heap.size = v4.heap.size := put6_size
            have h8s := HB8.out.size
            have HBP := Lib.hid (show Below w8.heap.size w8 ((((((v4.setCell ⟨gz, 0, none⟩ (.int .i64 rr.kind)).setCell ⟨gz, 1, none⟩ (.bool rr.tr)).setCell ⟨gz, 2, none⟩ (.int .i64 rr.num)).setCell ⟨gz, 3, none⟩ (.string rr.str)).setCell ⟨gz, 4, none⟩ (.slice K1 rr.items.length k1)).setCell ⟨gz, 5, none⟩ (.slice K1' rr.keys.length k1')) from put6_below HBv4.out hgz)
            have HGP := Lib.hid (show TV ((((((v4.setCell ⟨gz, 0, none⟩ (.int .i64 rr.kind)).setCell ⟨gz, 1, none⟩ (.bool rr.tr)).setCell ⟨gz, 2, none⟩ (.int .i64 rr.num)).setCell ⟨gz, 3, none⟩ (.string rr.str)).setCell ⟨gz, 4, none⟩ (.slice K1 rr.items.length k1)).setCell ⟨gz, 5, none⟩ (.slice K1' rr.keys.length k1')) (· < (((((((v4.setCell ⟨gz, 0, none⟩ (.int .i64 rr.kind)).setCell ⟨gz, 1, none⟩ (.bool rr.tr)).setCell ⟨gz, 2, none⟩ (.int .i64 rr.num)).setCell ⟨gz, 3, none⟩ (.string rr.str)).setCell ⟨gz, 4, none⟩ (.slice K1 rr.items.length k1)).setCell ⟨gz, 5, none⟩ (.slice K1' rr.keys.length k1'))).heap.size) rr K1 k1 K1' k1' from (HGOU.out.keep fun b hb => put6_heap hb.1).wide fun b hb => by show b < _; rw [hzs]; exact hb.2)
            have HFine := Lib.hid (sets_fine HNI.out HXI.out HSET.out)
            clear q0 q1 q2 q3 q4 q5 u0 u1 u2 u3 u4 u5 HGOU HZ_4 hlz
            generalize ((((((v4.setCell ⟨gz, 0, none⟩ (.int .i64 rr.kind)).setCell ⟨gz, 1, none⟩ (.bool rr.tr)).setCell ⟨gz, 2, none⟩ (.int .i64 rr.num)).setCell ⟨gz, 3, none⟩ (.string rr.str)).setCell ⟨gz, 4, none⟩ (.slice K1 rr.items.length k1)).setCell ⟨gz, 5, none⟩ (.slice K1' rr.keys.length k1')) = vP at *
            have HRP := Lib.hid (HRR8.out.on HBP.out)
            have HWP := Lib.hid (show Below W4.heap.size W4 vP from (HB8.out.trans ((HBP.out).mono HB8.out.size)))
            obtain ⟨a0, a1, a2, a3, a4, a5⟩ : vP.cell? ⟨gz, 0, none⟩ = some (.int .i64 rr.kind) ∧ vP.cell? ⟨gz, 1, none⟩ = some (.bool rr.tr) ∧ vP.cell? ⟨gz, 2, none⟩ = some (.int .i64 rr.num) ∧ vP.cell? ⟨gz, 3, none⟩ = some (.string rr.str) ∧ vP.cell? ⟨gz, 4, none⟩ = some (.slice K1 rr.items.length k1) ∧ vP.cell? ⟨gz, 5, none⟩ = some (.slice K1' rr.keys.length k1') := ⟨HF.out.cell 0, HF.out.cell 1, HF.out.cell 2, HF.out.cell 3, HF.out.cell 4, HF.out.cell 5⟩
            go_wp2_with fail
            refine (get_any rr r Pr cr K1 k1 K1' k1' _ HFine.out (HE.out.on (HBW.out.trans (HWP.out.mono (by have := HBW.out.size; omega)))) HSr.out (by omega) HRP.out HGP.out).mono ?_
            rintro e0 vG (⟨z1, hz1, C, f, C', f', rfl, hT, hb0⟩ | ⟨hno, _⟩)
            rotate_left
            · exact absurd (sets_off HNI.out.fine HPar.out HSET.out HLr.out) (hno z)
            obtain rfl : z1 = z := leads_unique HFine.out hz1 (sets_off HNI.out.fine HPar.out HSET.out HLr.out)
            have HWG := Lib.hid (HWP.out.trans (hb0.mono HWP.out.size))
            have HRG := Lib.hid (HRP.out.on hb0)
            have HTG := Lib.hid hT
            have HNZ := Lib.hid (leads_fine HFine.out hz1)
            clear hb0 hT hz1 a0 a1 a2 a3 a4 a5 HGP HF HRP
            go_upto_region 9 with fail
            have hb0 : Below vG.heap.size vG (vG.alloc (.cells #[.int .i64 z1.kind, .bool z1.tr, .int .i64 z1.num, .string z1.str, .slice C z1.items.length f, .slice C' z1.keys.length f'] 36)) := (Below.refl _ _).alloc (Nat.le_refl _) _
            have hX9 : Blk (vG.alloc (.cells #[.int .i64 z1.kind, .bool z1.tr, .int .i64 z1.num, .string z1.str, .slice C z1.items.length f, .slice C' z1.keys.length f'] 36)) vG.heap.size 36 #[.int .i64 z1.kind, .bool z1.tr, .int .i64 z1.num, .string z1.str, .slice C z1.items.length f, .slice C' z1.keys.length f'] := Blk.new vG _ _
            change Code.wp _ _ _ _ (vG.alloc (.cells #[.int .i64 z1.kind, .bool z1.tr, .int .i64 z1.num, .string z1.str, .slice C z1.items.length f, .slice C' z1.keys.length f'] 36))
            have HT9 := Lib.hid (HTG.out.on hb0)
            have HR9 := Lib.hid (HRG.out.on hb0)
            have HW9 := Lib.hid (HWG.out.trans (hb0.mono HWG.out.size))
            generalize (vG.alloc (.cells #[.int .i64 z1.kind, .bool z1.tr, .int .i64 z1.num, .string z1.str, .slice C z1.items.length f, .slice C' z1.keys.length f'] 36)) = v9 at *
            have HX9 := Lib.hid hX9
            have hl9 := hX9.lt
            clear hb0 hX9 HTG HRG
            generalize hgx : vG.heap.size = gx at *
            have h7 := HS7.out v9 HW9.out
            obtain ⟨⟨b0, b1, b2, b3, b4, b5⟩, _⟩ := h7
            go_wp2_with fail
            refine (rget_any t r Pr cr B d B' d' _ HNI.out.fine (by omega) HR9.out (HT4.out.on HW9.out)).mono ?_
            rintro e0 vU (⟨z2, hz2, U, f2, U', f2', rfl, hT, hb0⟩ | ⟨hno, _⟩)
            rotate_left
            · exact absurd HLr.out (hno z1)
            obtain rfl : z1 = z2 := leads_unique HNI.out.fine HLr.out hz2
            have HWU := Lib.hid (HW9.out.trans (hb0.mono HW9.out.size))
            have HTU := Lib.hid hT
            have HT10 := Lib.hid (HT9.out.on hb0)
            have HX10 := Lib.hid (HX9.out.onto hb0)
            have hl10 := hb0.size
            clear hb0 hT hz2 b0 b1 b2 b3 b4 b5 HT9 HX9
            go_upto_region 10 with fail
            have hb0 : Below vU.heap.size vU (vU.alloc (.cells #[.int .i64 z1.kind, .bool z1.tr, .int .i64 z1.num, .string z1.str, .slice U z1.items.length f2, .slice U' z1.keys.length f2'] 31)) := (Below.refl _ _).alloc (Nat.le_refl _) _
            have hY0 : Blk (vU.alloc (.cells #[.int .i64 z1.kind, .bool z1.tr, .int .i64 z1.num, .string z1.str, .slice U z1.items.length f2, .slice U' z1.keys.length f2'] 31)) vU.heap.size 31 #[.int .i64 z1.kind, .bool z1.tr, .int .i64 z1.num, .string z1.str, .slice U z1.items.length f2, .slice U' z1.keys.length f2'] := Blk.new vU _ _
            change Code.wp _ _ _ _ (vU.alloc (.cells #[.int .i64 z1.kind, .bool z1.tr, .int .i64 z1.num, .string z1.str, .slice U z1.items.length f2, .slice U' z1.keys.length f2'] 31))
            have HTX := Lib.hid (HT10.out.on hb0)
            have HTY := Lib.hid (HTU.out.on hb0)
            have HXX := Lib.hid (HX10.out.onto hb0)
            have HWX := Lib.hid (HWU.out.trans (hb0.mono HWU.out.size))
            generalize (vU.alloc (.cells #[.int .i64 z1.kind, .bool z1.tr, .int .i64 z1.num, .string z1.str, .slice U z1.items.length f2, .slice U' z1.keys.length f2'] 31)) = vX at *
            generalize vU.heap.size = gy at *
            have HYY := Lib.hid hY0
            clear hb0 hY0 HT10 HTU HX10 HWU
            have HSS := Lib.hid (show ∀ w', Below vX.heap.size vX w' → (w'.cell? ⟨gx, 0, none⟩ = some (.int .i64 z1.kind) ∧ w'.cell? ⟨gx, 1, none⟩ = some (.bool z1.tr) ∧ w'.cell? ⟨gx, 2, none⟩ = some (.int .i64 z1.num) ∧ w'.cell? ⟨gx, 3, none⟩ = some (.string z1.str) ∧ w'.cell? ⟨gx, 4, none⟩ = some (.slice C z1.items.length f) ∧ w'.cell? ⟨gx, 5, none⟩ = some (.slice C' z1.keys.length f')) ∧ (w'.cell? ⟨gy, 0, none⟩ = some (.int .i64 z1.kind) ∧ w'.cell? ⟨gy, 1, none⟩ = some (.bool z1.tr) ∧ w'.cell? ⟨gy, 2, none⟩ = some (.int .i64 z1.num) ∧ w'.cell? ⟨gy, 3, none⟩ = some (.string z1.str) ∧ w'.cell? ⟨gy, 4, none⟩ = some (.slice U z1.items.length f2) ∧ w'.cell? ⟨gy, 5, none⟩ = some (.slice U' z1.keys.length f2')) from fun w' hb => by
              have h1 := HXX.out.onto hb
              have h2 := HYY.out.onto hb
              exact ⟨⟨h1.cell 0, h1.cell 1, h1.cell 2, h1.cell 3, h1.cell 4, h1.cell 5⟩, ⟨h2.cell 0, h2.cell 1, h2.cell 2, h2.cell 3, h2.cell 4, h2.cell 5⟩⟩)
            have hgo : Below w.heap.size w vX := HBW.out.trans (HWX.out.mono (by have := HBW.out.size; omega))
            have HGO := Lib.hid hgo
            clear hgo
            refine wp_region_held_drew (S := fun w' => (w'.cell? ⟨gx, 0, none⟩ = some (.int .i64 z1.kind) ∧ w'.cell? ⟨gx, 1, none⟩ = some (.bool z1.tr) ∧ w'.cell? ⟨gx, 2, none⟩ = some (.int .i64 z1.num) ∧ w'.cell? ⟨gx, 3, none⟩ = some (.string z1.str) ∧ w'.cell? ⟨gx, 4, none⟩ = some (.slice C z1.items.length f) ∧ w'.cell? ⟨gx, 5, none⟩ = some (.slice C' z1.keys.length f')) ∧ (w'.cell? ⟨gy, 0, none⟩ = some (.int .i64 z1.kind) ∧ w'.cell? ⟨gy, 1, none⟩ = some (.bool z1.tr) ∧ w'.cell? ⟨gy, 2, none⟩ = some (.int .i64 z1.num) ∧ w'.cell? ⟨gy, 3, none⟩ = some (.string z1.str) ∧ w'.cell? ⟨gy, 4, none⟩ = some (.slice U z1.items.length f2) ∧ w'.cell? ⟨gy, 5, none⟩ = some (.slice U' z1.keys.length f2'))) (by kernel_rfl) ?_ (fun hHeld => ?_)
            · exact HSS.out _ (Below.refl _ _).drew
            refine wpAnyH_take (i := 0) (v := ?_) rfl (by kernel_rfl) (by kernel_rfl) (by kernel_rfl) (fun _ _ _ h => h) (Or.inl ⟨by rfl, ?_⟩) (by assumption) ?_
            rotate_left
            · intro wq hSw
              try dsimp only at hSw
              go_simp
              try (with_reducible rfl)
            try simp only [Act.put, List.getElem_toArray, List.getElem_cons_zero, List.setIfInBounds_toArray, List.set_cons_zero, List.set_cons_succ]
            refine wpAnyH_take (i := 1) (v := ?_) rfl (by kernel_rfl) (by kernel_rfl) (by kernel_rfl) (fun _ _ _ h => h) (Or.inl ⟨by rfl, ?_⟩) (by assumption) ?_
            rotate_left
            · intro wq hSw
              try dsimp only at hSw
              go_simp
              try (with_reducible rfl)
            try simp only [Act.put, List.getElem_toArray, List.getElem_cons_succ, List.getElem_cons_zero, List.setIfInBounds_toArray, List.set_cons_zero, List.set_cons_succ]
            refine wpAnyH_take (i := 2) (v := ?_) rfl (by kernel_rfl) (by kernel_rfl) (by kernel_rfl) (fun _ _ _ h => h) (Or.inl ⟨by rfl, ?_⟩) (by assumption) ?_
            rotate_left
            · intro wq hSw
              try dsimp only at hSw
              go_simp
              try (with_reducible rfl)
            try simp only [Act.put, List.getElem_toArray, List.getElem_cons_succ, List.getElem_cons_zero, List.setIfInBounds_toArray, List.set_cons_zero, List.set_cons_succ]
            refine wpAnyH_take (i := 3) (v := ?_) rfl (by kernel_rfl) (by kernel_rfl) (by kernel_rfl) (fun _ _ _ h => h) (Or.inl ⟨by rfl, ?_⟩) (by assumption) ?_
            rotate_left
            · intro wq hSw
              try dsimp only at hSw
              go_simp
              try (with_reducible rfl)
            try simp only [Act.put, List.getElem_toArray, List.getElem_cons_succ, List.getElem_cons_zero, List.setIfInBounds_toArray, List.set_cons_zero, List.set_cons_succ]
            refine wpAnyH_take (i := 4) (v := ?_) rfl (by kernel_rfl) (by kernel_rfl) (by kernel_rfl) (fun _ _ _ h => h) (Or.inl ⟨by rfl, ?_⟩) (by assumption) ?_
            rotate_left
            · intro wq hSw
              try dsimp only at hSw
              go_simp
              try (with_reducible rfl)
            try simp only [Act.put, List.getElem_toArray, List.getElem_cons_succ, List.getElem_cons_zero, List.setIfInBounds_toArray, List.set_cons_zero, List.set_cons_succ]
            refine wpAnyH_take (i := 5) (v := ?_) rfl (by kernel_rfl) (by kernel_rfl) (by kernel_rfl) (fun _ _ _ h => h) (Or.inl ⟨by rfl, ?_⟩) (by assumption) ?_
            rotate_left
            · intro wq hSw
              try dsimp only at hSw
              go_simp
              try (with_reducible rfl)
            try simp only [Act.put, List.getElem_toArray, List.getElem_cons_succ, List.getElem_cons_zero, List.setIfInBounds_toArray, List.set_cons_zero, List.set_cons_succ]
            refine wpAnyH_take (i := 6) (v := ?_) rfl (by kernel_rfl) (by kernel_rfl) (by kernel_rfl) (fun _ _ _ h => h) (Or.inl ⟨by rfl, ?_⟩) (by assumption) ?_
            rotate_left
            · intro wq hSw
              try dsimp only at hSw
              go_simp
              try (with_reducible rfl)
            try simp only [Act.put, List.getElem_toArray, List.getElem_cons_succ, List.getElem_cons_zero, List.setIfInBounds_toArray, List.set_cons_zero, List.set_cons_succ]
            refine wpAnyH_take (i := 7) (v := ?_) rfl (by kernel_rfl) (by kernel_rfl) (by kernel_rfl) (fun _ _ _ h => h) (Or.inl ⟨by rfl, ?_⟩) (by assumption) ?_
            rotate_left
            · intro wq hSw
              try dsimp only at hSw
              go_simp
              try (with_reducible rfl)
            try simp only [Act.put, List.getElem_toArray, List.getElem_cons_succ, List.getElem_cons_zero, List.setIfInBounds_toArray, List.set_cons_zero, List.set_cons_succ]
            refine wpAnyH_take (i := 9) (v := ?_) rfl (by kernel_rfl) (by kernel_rfl) (by kernel_rfl) (fun _ _ _ h => h) (Or.inl ⟨by rfl, ?_⟩) (by assumption) ?_
            rotate_left
            · intro wq hSw
              try dsimp only at hSw
              go_simp
              try (with_reducible rfl)
            try simp only [Act.put, List.getElem_toArray, List.getElem_cons_succ, List.getElem_cons_zero, List.setIfInBounds_toArray, List.set_cons_zero, List.set_cons_succ]
            refine wpAnyH_ready (rs := [8]) (by kernel_rfl) (by simp) ?_
            refine AllReadyH.cons rfl (fun K0 hK => ?_) ?_
            rotate_left
            · exact AllReadyH.nil
            go_simp
            refine (ref_cells _ z1 C f C' f' _ HNZ.out.le (Nat.le_refl _) (HTX.out.on (Below.refl _ _).drew)).mono ?_
            rintro e9 w9 ⟨R1, r1, R1', r1', rfl, hU, hb9⟩
            unfold T.agg
            have HBc := Lib.hid (show Below vX.heap.size vX w9 from (Below.refl vX.heap.size vX).drew.trans hb9)
            have HU := Lib.hid (show TV w9 (· < w9.heap.size) z1 R1 r1 R1' r1' from hU.wide fun b hb => by
              have h1 := hb9.size
              rcases hb with hb | hb
              · exact Nat.lt_of_lt_of_le (show b < vX.drew.heap.size from hb) h1
              · exact hb.2)
            clear hb9 hU
            go_wp2_with fail
            refine hK.out _ _ ?_ (fun hHeld => ?_)
            · exact HSS.out _ HBc.out
            clear hK K0
            try simp only [Act.put, List.getElem_toArray, List.getElem_cons_succ, List.getElem_cons_zero, List.setIfInBounds_toArray, List.set_cons_zero, List.set_cons_succ]
            refine wpAnyH_ready (rs := [10]) (by kernel_rfl) (by simp) ?_
            refine AllReadyH.cons rfl (fun K0 hK => ?_) ?_
            rotate_left
            · exact AllReadyH.nil
            go_simp
            refine (rsame_cells z1 R1 r1 R1' r1' U f2 U' f2' _ HNZ.out.le HNZ.out.small HU.out (HTY.out.on HBc.out)).mono ?_
            rintro e10 w10 ⟨rfl, hb10⟩
            have HBd := Lib.hid (HBc.out.trans (hb10.mono HBc.out.size))
            clear hb10
            go_wp2_with fail
            refine hK.out _ _ ?_ (fun hHeld => ?_)
            · exact HSS.out _ HBd.out
            clear hK K0
            try simp only [Act.put, List.getElem_toArray, List.getElem_cons_succ, List.getElem_cons_zero, List.setIfInBounds_toArray, List.set_cons_zero, List.set_cons_succ]
            refine wpAnyH_take (i := 11) (v := ?_) rfl (by kernel_rfl) (by kernel_rfl) (by kernel_rfl) (fun _ _ _ h => h) (Or.inl ⟨by rfl, ?_⟩) (by assumption) ?_
            rotate_left
            · intro wq hSw
              try dsimp only at hSw
              go_simp
              try (with_reducible rfl)
            try simp only [Act.put, List.getElem_toArray, List.getElem_cons_succ, List.getElem_cons_zero, List.setIfInBounds_toArray, List.set_cons_zero, List.set_cons_succ]
            refine wpAnyH_take (i := 12) (v := ?_) rfl (by kernel_rfl) (by kernel_rfl) (by kernel_rfl) (fun _ _ _ h => h) (Or.inl ⟨by rfl, ?_⟩) (by assumption) ?_
            rotate_left
            · intro wq hSw
              try dsimp only at hSw
              go_simp
              try (with_reducible rfl)
            try simp only [Act.put, List.getElem_toArray, List.getElem_cons_succ, List.getElem_cons_zero, List.setIfInBounds_toArray, List.set_cons_zero, List.set_cons_succ]
            refine wpAnyH_done (by kernel_rfl) ?_ _
            go_wp2_with fail
            go_ret
            exact ⟨rfl, HGO.out.trans (HBd.out.mono HGO.out.size)⟩
          · skip
            go_simp
            have hb0 : Below v2.heap.size v2 (v2.alloc (.cells #[.int .i64 0, .bool false, .int .i64 0, .string ⟨#[]⟩, .slice none 0 0, .slice none 0 0] 36)) := (Below.refl _ _).alloc (Nat.le_refl _) _
            have HZ_3 := Lib.hid (show Blk (v2.alloc (.cells #[.int .i64 0, .bool false, .int .i64 0, .string ⟨#[]⟩, .slice none 0 0, .slice none 0 0] 36)) v2.heap.size 36 #[.int .i64 0, .bool false, .int .i64 0, .string ⟨#[]⟩, .slice none 0 0, .slice none 0 0] from Blk.new v2 _ _)
            have HRQ_3 := Lib.hid (HRQ_2.out.on hb0)
            clear HRQ_2
            have HRT_3 := Lib.hid (HRT_2.out.on hb0)
            clear HRT_2
            have HRX_3 := Lib.hid (HRX_2.out.on hb0)
            clear HRX_2
            have HBv3 := Lib.hid (show Below w8.heap.size w8 (v2.alloc (.cells #[.int .i64 0, .bool false, .int .i64 0, .string ⟨#[]⟩, .slice none 0 0, .slice none 0 0] 36)) from (HBv2.out).trans (hb0.mono (HBv2.out).size))
            have hzl := HZ_3.out.lt
            have hzb := (HBv2.out).size
            clear hb0
            refine hK.out _ _ ?_ (fun hHeld => ?_)
            · exact HS7.out _ (HB8.out.trans ((HBv3.out).mono HB8.out.size))
            clear hK K0
            try simp only [Act.put, List.getElem_toArray, List.getElem_cons_succ, List.getElem_cons_zero, List.setIfInBounds_toArray, List.set_cons_zero, List.set_cons_succ]
            generalize (v2.alloc (.cells #[.int .i64 0, .bool false, .int .i64 0, .string ⟨#[]⟩, .slice none 0 0, .slice none 0 0] 36)) = v3 at *
            have hgz : w8.heap.size ≤ v2.heap.size := hzb
            clear hzb
            generalize v2.heap.size = gz at *
            refine wpAnyH_ready (rs := [5]) (by kernel_rfl) (by simp) ?_
            refine AllReadyH.cons rfl (fun K0 hK => ?_) ?_
            rotate_left
            · exact AllReadyH.nil
            go_simp
            have HZ_3Z := HZ_3.out.lt
            refine (set_any t x q Pq cq E e1 E' e1' F f1 F' f1' _ HNI.out HXI.out (HE.out.on (HBW.out.trans ((HB8.out.trans ((HBv3.out).mono HB8.out.size)).mono (by have := HBW.out.size; omega)))) HSq.out (by omega) HRQ_3.out HRT_3.out HRX_3.out).mono ?_
            rintro e0 v4 (⟨y0, rr, hy0, hset, K1, k1, K1', k1', rfl, hT, hb0⟩ | ⟨hno, _⟩)
            rotate_left
            · exact absurd HLq.out (hno y)
            have HRQ_4 := Lib.hid (HRQ_3.out.on hb0)
            clear HRQ_3
            have HRT_4 := Lib.hid (HRT_3.out.on hb0)
            clear HRT_3
            have HRX_4 := Lib.hid (HRX_3.out.on hb0)
            clear HRX_3
            have HZ_4 := Lib.hid (HZ_3.out.onto hb0)
            clear HZ_3
            have hz1 := HZ_3Z
            have HGOT := Lib.hid (show TV v4 (fun b => b ≠ gz ∧ b < v4.heap.size) rr K1 k1 K1' k1' from hT.wide fun b hb => ⟨by omega, hb.2⟩)
            skip
            have HSET := Lib.hid hset
            have HBv4 := Lib.hid (show Below w8.heap.size w8 v4 from (HBv3.out).trans (hb0.mono (HBv3.out).size))
            clear hT hb0 hset hy0
            go_wp2_with fail
            refine hK.out _ _ ?_ (fun hHeld => ?_)
            · exact HS7.out _ (HB8.out.trans ((HBv4.out).mono HB8.out.size))
            clear hK K0
            try simp only [Act.put, List.getElem_toArray, List.getElem_cons_succ, List.getElem_cons_zero, List.setIfInBounds_toArray, List.set_cons_zero, List.set_cons_succ]
            refine wpAnyH_take (i := 6) (v := ?_) rfl (by kernel_rfl) (by kernel_rfl) (by kernel_rfl) (fun _ _ _ h => h) (Or.inl ⟨by rfl, ?_⟩) (by assumption) ?_
            rotate_left
            · intro wq hSw
              try dsimp only at hSw
              go_simp
              try (with_reducible rfl)
            try simp only [Act.put, List.getElem_toArray, List.getElem_cons_succ, List.getElem_cons_zero, List.setIfInBounds_toArray, List.set_cons_zero, List.set_cons_succ]
            refine wpAnyH_take (i := 7) (v := ?_) rfl (by kernel_rfl) (by kernel_rfl) (by kernel_rfl) (fun _ _ _ h => h) (Or.inl ⟨by rfl, ?_⟩) (by assumption) ?_
            rotate_left
            · intro wq hSw
              try dsimp only at hSw
              go_simp
              try (with_reducible rfl)
            try simp only [Act.put, List.getElem_toArray, List.getElem_cons_succ, List.getElem_cons_zero, List.setIfInBounds_toArray, List.set_cons_zero, List.set_cons_succ]
            refine wpAnyH_take (i := 8) (v := ?_) rfl (by kernel_rfl) (by kernel_rfl) (by kernel_rfl) (fun _ _ _ h => h) (Or.inl ⟨by rfl, ?_⟩) (by assumption) ?_
            rotate_left
            · intro wq hSw
              try dsimp only at hSw
              go_simp
              try (with_reducible rfl)
            try simp only [Act.put, List.getElem_toArray, List.getElem_cons_succ, List.getElem_cons_zero, List.setIfInBounds_toArray, List.set_cons_zero, List.set_cons_succ]
            have q0 : v4.cell? ⟨gz, 0, none⟩ = some (.int .i64 0) := HZ_4.out.cell 0
            have q1 : v4.cell? ⟨gz, 1, none⟩ = some (.bool false) := HZ_4.out.cell 1
            have q2 : v4.cell? ⟨gz, 2, none⟩ = some (.int .i64 0) := HZ_4.out.cell 2
            have q3 : v4.cell? ⟨gz, 3, none⟩ = some (.string ⟨#[]⟩) := HZ_4.out.cell 3
            have q4 : v4.cell? ⟨gz, 4, none⟩ = some (.slice none 0 0) := HZ_4.out.cell 4
            have q5 : v4.cell? ⟨gz, 5, none⟩ = some (.slice none 0 0) := HZ_4.out.cell 5
            have u0 := HZ_4.out.free 0
            have u1 := HZ_4.out.free 1
            have u2 := HZ_4.out.free 2
            have u3 := HZ_4.out.free 3
            have u4 := HZ_4.out.free 4
            have u5 := HZ_4.out.free 5
            refine wpAnyH_ready (rs := [10]) (by kernel_rfl) (by simp) ?_
            refine AllReadyH.cons rfl (fun K0 hK => ?_) ?_
            rotate_left
            · exact AllReadyH.nil
            go_simp
            refine hK.out _ _ ?_ (fun hHeld => ?_)
            · have hS := HS7.out _ (HB8.out.trans ((HBv4.out).mono HB8.out.size))
              have h8s := HB8.out.size
              have hne : ∀ b o, b ≠ gz → (((((((v4.setCell ⟨gz, 0, none⟩ (.int .i64 rr.kind)).setCell ⟨gz, 1, none⟩ (.bool rr.tr)).setCell ⟨gz, 2, none⟩ (.int .i64 rr.num)).setCell ⟨gz, 3, none⟩ (.string rr.str)).setCell ⟨gz, 4, none⟩ (.slice K1 rr.items.length k1)).setCell ⟨gz, 5, none⟩ (.slice K1' rr.keys.length k1'))).cell? ⟨b, o, none⟩ = v4.cell? ⟨b, o, none⟩ := fun b o hb => World.cell?_of_block (put6_heap hb)
              have g1 : G3 ≠ gz := by omega
              have g2 : G3 + 1 ≠ gz := by omega
              try dsimp only
              rw [hne G3 _ g1, hne G3 _ g1, hne G3 _ g1, hne G3 _ g1, hne G3 _ g1, hne G3 _ g1, hne (G3 + 1) _ g2, hne (G3 + 1) _ g2, hne (G3 + 1) _ g2, hne (G3 + 1) _ g2, hne (G3 + 1) _ g2, hne (G3 + 1) _ g2]
              exact hS
            clear hK K0
            try simp only [Act.put, List.getElem_toArray, List.getElem_cons_succ, List.getElem_cons_zero, List.setIfInBounds_toArray, List.set_cons_zero, List.set_cons_succ]
            refine wpAnyH_take (i := 11) (v := ?_) rfl (by kernel_rfl) (by kernel_rfl) (by kernel_rfl) (fun _ _ _ h => h) (Or.inl ⟨by rfl, ?_⟩) (by assumption) ?_
            rotate_left
            · intro wq hSw
              try dsimp only at hSw
              go_simp
              try (with_reducible rfl)
            try simp only [Act.put, List.getElem_toArray, List.getElem_cons_succ, List.getElem_cons_zero, List.setIfInBounds_toArray, List.set_cons_zero, List.set_cons_succ]
            refine wpAnyH_done (by kernel_rfl) ?_ _
            have hlz := HZ_4.out.lt
            have HF := Lib.hid (res_put HZ_4.out rfl rr K1 k1 K1' k1')
            have hzs : (((((((v4.setCell ⟨gz, 0, none⟩ (.int .i64 rr.kind)).setCell ⟨gz, 1, none⟩ (.bool rr.tr)).setCell ⟨gz, 2, none⟩ (.int .i64 rr.num)).setCell ⟨gz, 3, none⟩ (.string rr.str)).setCell ⟨gz, 4, none⟩ (.slice K1 rr.items.length k1)).setCell ⟨gz, 5, none⟩ (.slice K1' rr.keys.length k1'))).heap.size = v4.heap.size := put6_size
            have h8s := HB8.out.size
            have HBP := Lib.hid (show Below w8.heap.size w8 ((((((v4.setCell ⟨gz, 0, none⟩ (.int .i64 rr.kind)).setCell ⟨gz, 1, none⟩ (.bool rr.tr)).setCell ⟨gz, 2, none⟩ (.int .i64 rr.num)).setCell ⟨gz, 3, none⟩ (.string rr.str)).setCell ⟨gz, 4, none⟩ (.slice K1 rr.items.length k1)).setCell ⟨gz, 5, none⟩ (.slice K1' rr.keys.length k1')) from put6_below HBv4.out hgz)
            have HGP := Lib.hid (show TV ((((((v4.setCell ⟨gz, 0, none⟩ (.int .i64 rr.kind)).setCell ⟨gz, 1, none⟩ (.bool rr.tr)).setCell ⟨gz, 2, none⟩ (.int .i64 rr.num)).setCell ⟨gz, 3, none⟩ (.string rr.str)).setCell ⟨gz, 4, none⟩ (.slice K1 rr.items.length k1)).setCell ⟨gz, 5, none⟩ (.slice K1' rr.keys.length k1')) (· < (((((((v4.setCell ⟨gz, 0, none⟩ (.int .i64 rr.kind)).setCell ⟨gz, 1, none⟩ (.bool rr.tr)).setCell ⟨gz, 2, none⟩ (.int .i64 rr.num)).setCell ⟨gz, 3, none⟩ (.string rr.str)).setCell ⟨gz, 4, none⟩ (.slice K1 rr.items.length k1)).setCell ⟨gz, 5, none⟩ (.slice K1' rr.keys.length k1'))).heap.size) rr K1 k1 K1' k1' from (HGOT.out.keep fun b hb => put6_heap hb.1).wide fun b hb => by show b < _; rw [hzs]; exact hb.2)
            have HFine := Lib.hid (sets_fine HNI.out HXI.out HSET.out)
            clear q0 q1 q2 q3 q4 q5 u0 u1 u2 u3 u4 u5 HGOT HZ_4 hlz
            generalize ((((((v4.setCell ⟨gz, 0, none⟩ (.int .i64 rr.kind)).setCell ⟨gz, 1, none⟩ (.bool rr.tr)).setCell ⟨gz, 2, none⟩ (.int .i64 rr.num)).setCell ⟨gz, 3, none⟩ (.string rr.str)).setCell ⟨gz, 4, none⟩ (.slice K1 rr.items.length k1)).setCell ⟨gz, 5, none⟩ (.slice K1' rr.keys.length k1')) = vP at *
            have HRP := Lib.hid (HRR8.out.on HBP.out)
            have HWP := Lib.hid (show Below W4.heap.size W4 vP from (HB8.out.trans ((HBP.out).mono HB8.out.size)))
            obtain ⟨a0, a1, a2, a3, a4, a5⟩ : vP.cell? ⟨gz, 0, none⟩ = some (.int .i64 rr.kind) ∧ vP.cell? ⟨gz, 1, none⟩ = some (.bool rr.tr) ∧ vP.cell? ⟨gz, 2, none⟩ = some (.int .i64 rr.num) ∧ vP.cell? ⟨gz, 3, none⟩ = some (.string rr.str) ∧ vP.cell? ⟨gz, 4, none⟩ = some (.slice K1 rr.items.length k1) ∧ vP.cell? ⟨gz, 5, none⟩ = some (.slice K1' rr.keys.length k1') := ⟨HF.out.cell 0, HF.out.cell 1, HF.out.cell 2, HF.out.cell 3, HF.out.cell 4, HF.out.cell 5⟩
            go_wp2_with fail
            refine (get_any rr r Pr cr K1 k1 K1' k1' _ HFine.out (HE.out.on (HBW.out.trans (HWP.out.mono (by have := HBW.out.size; omega)))) HSr.out (by omega) HRP.out HGP.out).mono ?_
            rintro e0 vG (⟨z1, hz1, C, f, C', f', rfl, hT, hb0⟩ | ⟨hno, _⟩)
            rotate_left
            · exact absurd (sets_off HNI.out.fine HPar.out HSET.out HLr.out) (hno z)
            obtain rfl : z1 = z := leads_unique HFine.out hz1 (sets_off HNI.out.fine HPar.out HSET.out HLr.out)
            have HWG := Lib.hid (HWP.out.trans (hb0.mono HWP.out.size))
            have HRG := Lib.hid (HRP.out.on hb0)
            have HTG := Lib.hid hT
            have HNZ := Lib.hid (leads_fine HFine.out hz1)
            clear hb0 hT hz1 a0 a1 a2 a3 a4 a5 HGP HF HRP
            go_upto_region 9 with fail
            have hb0 : Below vG.heap.size vG (vG.alloc (.cells #[.int .i64 z1.kind, .bool z1.tr, .int .i64 z1.num, .string z1.str, .slice C z1.items.length f, .slice C' z1.keys.length f'] 36)) := (Below.refl _ _).alloc (Nat.le_refl _) _
            have hX9 : Blk (vG.alloc (.cells #[.int .i64 z1.kind, .bool z1.tr, .int .i64 z1.num, .string z1.str, .slice C z1.items.length f, .slice C' z1.keys.length f'] 36)) vG.heap.size 36 #[.int .i64 z1.kind, .bool z1.tr, .int .i64 z1.num, .string z1.str, .slice C z1.items.length f, .slice C' z1.keys.length f'] := Blk.new vG _ _
            change Code.wp _ _ _ _ (vG.alloc (.cells #[.int .i64 z1.kind, .bool z1.tr, .int .i64 z1.num, .string z1.str, .slice C z1.items.length f, .slice C' z1.keys.length f'] 36))
            have HT9 := Lib.hid (HTG.out.on hb0)
            have HR9 := Lib.hid (HRG.out.on hb0)
            have HW9 := Lib.hid (HWG.out.trans (hb0.mono HWG.out.size))
            generalize (vG.alloc (.cells #[.int .i64 z1.kind, .bool z1.tr, .int .i64 z1.num, .string z1.str, .slice C z1.items.length f, .slice C' z1.keys.length f'] 36)) = v9 at *
            have HX9 := Lib.hid hX9
            have hl9 := hX9.lt
            clear hb0 hX9 HTG HRG
            generalize hgx : vG.heap.size = gx at *
            have h7 := HS7.out v9 HW9.out
            obtain ⟨⟨b0, b1, b2, b3, b4, b5⟩, _⟩ := h7
            go_wp2_with fail
            refine (rget_any t r Pr cr B d B' d' _ HNI.out.fine (by omega) HR9.out (HT4.out.on HW9.out)).mono ?_
            rintro e0 vU (⟨z2, hz2, U, f2, U', f2', rfl, hT, hb0⟩ | ⟨hno, _⟩)
            rotate_left
            · exact absurd HLr.out (hno z1)
            obtain rfl : z1 = z2 := leads_unique HNI.out.fine HLr.out hz2
            have HWU := Lib.hid (HW9.out.trans (hb0.mono HW9.out.size))
            have HTU := Lib.hid hT
            have HT10 := Lib.hid (HT9.out.on hb0)
            have HX10 := Lib.hid (HX9.out.onto hb0)
            have hl10 := hb0.size
            clear hb0 hT hz2 b0 b1 b2 b3 b4 b5 HT9 HX9
            go_upto_region 10 with fail
            have hb0 : Below vU.heap.size vU (vU.alloc (.cells #[.int .i64 z1.kind, .bool z1.tr, .int .i64 z1.num, .string z1.str, .slice U z1.items.length f2, .slice U' z1.keys.length f2'] 31)) := (Below.refl _ _).alloc (Nat.le_refl _) _
            have hY0 : Blk (vU.alloc (.cells #[.int .i64 z1.kind, .bool z1.tr, .int .i64 z1.num, .string z1.str, .slice U z1.items.length f2, .slice U' z1.keys.length f2'] 31)) vU.heap.size 31 #[.int .i64 z1.kind, .bool z1.tr, .int .i64 z1.num, .string z1.str, .slice U z1.items.length f2, .slice U' z1.keys.length f2'] := Blk.new vU _ _
            change Code.wp _ _ _ _ (vU.alloc (.cells #[.int .i64 z1.kind, .bool z1.tr, .int .i64 z1.num, .string z1.str, .slice U z1.items.length f2, .slice U' z1.keys.length f2'] 31))
            have HTX := Lib.hid (HT10.out.on hb0)
            have HTY := Lib.hid (HTU.out.on hb0)
            have HXX := Lib.hid (HX10.out.onto hb0)
            have HWX := Lib.hid (HWU.out.trans (hb0.mono HWU.out.size))
            generalize (vU.alloc (.cells #[.int .i64 z1.kind, .bool z1.tr, .int .i64 z1.num, .string z1.str, .slice U z1.items.length f2, .slice U' z1.keys.length f2'] 31)) = vX at *
            generalize vU.heap.size = gy at *
            have HYY := Lib.hid hY0
            clear hb0 hY0 HT10 HTU HX10 HWU
            have HSS := Lib.hid (show ∀ w', Below vX.heap.size vX w' → (w'.cell? ⟨gx, 0, none⟩ = some (.int .i64 z1.kind) ∧ w'.cell? ⟨gx, 1, none⟩ = some (.bool z1.tr) ∧ w'.cell? ⟨gx, 2, none⟩ = some (.int .i64 z1.num) ∧ w'.cell? ⟨gx, 3, none⟩ = some (.string z1.str) ∧ w'.cell? ⟨gx, 4, none⟩ = some (.slice C z1.items.length f) ∧ w'.cell? ⟨gx, 5, none⟩ = some (.slice C' z1.keys.length f')) ∧ (w'.cell? ⟨gy, 0, none⟩ = some (.int .i64 z1.kind) ∧ w'.cell? ⟨gy, 1, none⟩ = some (.bool z1.tr) ∧ w'.cell? ⟨gy, 2, none⟩ = some (.int .i64 z1.num) ∧ w'.cell? ⟨gy, 3, none⟩ = some (.string z1.str) ∧ w'.cell? ⟨gy, 4, none⟩ = some (.slice U z1.items.length f2) ∧ w'.cell? ⟨gy, 5, none⟩ = some (.slice U' z1.keys.length f2')) from fun w' hb => by
              have h1 := HXX.out.onto hb
              have h2 := HYY.out.onto hb
              exact ⟨⟨h1.cell 0, h1.cell 1, h1.cell 2, h1.cell 3, h1.cell 4, h1.cell 5⟩, ⟨h2.cell 0, h2.cell 1, h2.cell 2, h2.cell 3, h2.cell 4, h2.cell 5⟩⟩)
            have hgo : Below w.heap.size w vX := HBW.out.trans (HWX.out.mono (by have := HBW.out.size; omega))
            have HGO := Lib.hid hgo
            clear hgo
            refine wp_region_held_drew (S := fun w' => (w'.cell? ⟨gx, 0, none⟩ = some (.int .i64 z1.kind) ∧ w'.cell? ⟨gx, 1, none⟩ = some (.bool z1.tr) ∧ w'.cell? ⟨gx, 2, none⟩ = some (.int .i64 z1.num) ∧ w'.cell? ⟨gx, 3, none⟩ = some (.string z1.str) ∧ w'.cell? ⟨gx, 4, none⟩ = some (.slice C z1.items.length f) ∧ w'.cell? ⟨gx, 5, none⟩ = some (.slice C' z1.keys.length f')) ∧ (w'.cell? ⟨gy, 0, none⟩ = some (.int .i64 z1.kind) ∧ w'.cell? ⟨gy, 1, none⟩ = some (.bool z1.tr) ∧ w'.cell? ⟨gy, 2, none⟩ = some (.int .i64 z1.num) ∧ w'.cell? ⟨gy, 3, none⟩ = some (.string z1.str) ∧ w'.cell? ⟨gy, 4, none⟩ = some (.slice U z1.items.length f2) ∧ w'.cell? ⟨gy, 5, none⟩ = some (.slice U' z1.keys.length f2'))) (by kernel_rfl) ?_ (fun hHeld => ?_)
            · exact HSS.out _ (Below.refl _ _).drew
            refine wpAnyH_take (i := 0) (v := ?_) rfl (by kernel_rfl) (by kernel_rfl) (by kernel_rfl) (fun _ _ _ h => h) (Or.inl ⟨by rfl, ?_⟩) (by assumption) ?_
            rotate_left
            · intro wq hSw
              try dsimp only at hSw
              go_simp
              try (with_reducible rfl)
            try simp only [Act.put, List.getElem_toArray, List.getElem_cons_zero, List.setIfInBounds_toArray, List.set_cons_zero, List.set_cons_succ]
            refine wpAnyH_take (i := 1) (v := ?_) rfl (by kernel_rfl) (by kernel_rfl) (by kernel_rfl) (fun _ _ _ h => h) (Or.inl ⟨by rfl, ?_⟩) (by assumption) ?_
            rotate_left
            · intro wq hSw
              try dsimp only at hSw
              go_simp
              try (with_reducible rfl)
            try simp only [Act.put, List.getElem_toArray, List.getElem_cons_succ, List.getElem_cons_zero, List.setIfInBounds_toArray, List.set_cons_zero, List.set_cons_succ]
            refine wpAnyH_take (i := 2) (v := ?_) rfl (by kernel_rfl) (by kernel_rfl) (by kernel_rfl) (fun _ _ _ h => h) (Or.inl ⟨by rfl, ?_⟩) (by assumption) ?_
            rotate_left
            · intro wq hSw
              try dsimp only at hSw
              go_simp
              try (with_reducible rfl)
            try simp only [Act.put, List.getElem_toArray, List.getElem_cons_succ, List.getElem_cons_zero, List.setIfInBounds_toArray, List.set_cons_zero, List.set_cons_succ]
            refine wpAnyH_take (i := 3) (v := ?_) rfl (by kernel_rfl) (by kernel_rfl) (by kernel_rfl) (fun _ _ _ h => h) (Or.inl ⟨by rfl, ?_⟩) (by assumption) ?_
            rotate_left
            · intro wq hSw
              try dsimp only at hSw
              go_simp
              try (with_reducible rfl)
            try simp only [Act.put, List.getElem_toArray, List.getElem_cons_succ, List.getElem_cons_zero, List.setIfInBounds_toArray, List.set_cons_zero, List.set_cons_succ]
            refine wpAnyH_take (i := 4) (v := ?_) rfl (by kernel_rfl) (by kernel_rfl) (by kernel_rfl) (fun _ _ _ h => h) (Or.inl ⟨by rfl, ?_⟩) (by assumption) ?_
            rotate_left
            · intro wq hSw
              try dsimp only at hSw
              go_simp
              try (with_reducible rfl)
            try simp only [Act.put, List.getElem_toArray, List.getElem_cons_succ, List.getElem_cons_zero, List.setIfInBounds_toArray, List.set_cons_zero, List.set_cons_succ]
            refine wpAnyH_take (i := 5) (v := ?_) rfl (by kernel_rfl) (by kernel_rfl) (by kernel_rfl) (fun _ _ _ h => h) (Or.inl ⟨by rfl, ?_⟩) (by assumption) ?_
            rotate_left
            · intro wq hSw
              try dsimp only at hSw
              go_simp
              try (with_reducible rfl)
            try simp only [Act.put, List.getElem_toArray, List.getElem_cons_succ, List.getElem_cons_zero, List.setIfInBounds_toArray, List.set_cons_zero, List.set_cons_succ]
            refine wpAnyH_take (i := 6) (v := ?_) rfl (by kernel_rfl) (by kernel_rfl) (by kernel_rfl) (fun _ _ _ h => h) (Or.inl ⟨by rfl, ?_⟩) (by assumption) ?_
            rotate_left
            · intro wq hSw
              try dsimp only at hSw
              go_simp
              try (with_reducible rfl)
            try simp only [Act.put, List.getElem_toArray, List.getElem_cons_succ, List.getElem_cons_zero, List.setIfInBounds_toArray, List.set_cons_zero, List.set_cons_succ]
            refine wpAnyH_take (i := 7) (v := ?_) rfl (by kernel_rfl) (by kernel_rfl) (by kernel_rfl) (fun _ _ _ h => h) (Or.inl ⟨by rfl, ?_⟩) (by assumption) ?_
            rotate_left
            · intro wq hSw
              try dsimp only at hSw
              go_simp
              try (with_reducible rfl)
            try simp only [Act.put, List.getElem_toArray, List.getElem_cons_succ, List.getElem_cons_zero, List.setIfInBounds_toArray, List.set_cons_zero, List.set_cons_succ]
            refine wpAnyH_take (i := 9) (v := ?_) rfl (by kernel_rfl) (by kernel_rfl) (by kernel_rfl) (fun _ _ _ h => h) (Or.inl ⟨by rfl, ?_⟩) (by assumption) ?_
            rotate_left
            · intro wq hSw
              try dsimp only at hSw
              go_simp
              try (with_reducible rfl)
            try simp only [Act.put, List.getElem_toArray, List.getElem_cons_succ, List.getElem_cons_zero, List.setIfInBounds_toArray, List.set_cons_zero, List.set_cons_succ]
            refine wpAnyH_ready (rs := [8]) (by kernel_rfl) (by simp) ?_
            refine AllReadyH.cons rfl (fun K0 hK => ?_) ?_
            rotate_left
            · exact AllReadyH.nil
            go_simp
            refine (ref_cells _ z1 C f C' f' _ HNZ.out.le (Nat.le_refl _) (HTX.out.on (Below.refl _ _).drew)).mono ?_
            rintro e9 w9 ⟨R1, r1, R1', r1', rfl, hU, hb9⟩
            unfold T.agg
            have HBc := Lib.hid (show Below vX.heap.size vX w9 from (Below.refl vX.heap.size vX).drew.trans hb9)
            have HU := Lib.hid (show TV w9 (· < w9.heap.size) z1 R1 r1 R1' r1' from hU.wide fun b hb => by
              have h1 := hb9.size
              rcases hb with hb | hb
              · exact Nat.lt_of_lt_of_le (show b < vX.drew.heap.size from hb) h1
              · exact hb.2)
            clear hb9 hU
            go_wp2_with fail
            refine hK.out _ _ ?_ (fun hHeld => ?_)
            · exact HSS.out _ HBc.out
            clear hK K0
            try simp only [Act.put, List.getElem_toArray, List.getElem_cons_succ, List.getElem_cons_zero, List.setIfInBounds_toArray, List.set_cons_zero, List.set_cons_succ]
            refine wpAnyH_ready (rs := [10]) (by kernel_rfl) (by simp) ?_
            refine AllReadyH.cons rfl (fun K0 hK => ?_) ?_
            rotate_left
            · exact AllReadyH.nil
            go_simp
            refine (rsame_cells z1 R1 r1 R1' r1' U f2 U' f2' _ HNZ.out.le HNZ.out.small HU.out (HTY.out.on HBc.out)).mono ?_
            rintro e10 w10 ⟨rfl, hb10⟩
            have HBd := Lib.hid (HBc.out.trans (hb10.mono HBc.out.size))
            clear hb10
            go_wp2_with fail
            refine hK.out _ _ ?_ (fun hHeld => ?_)
            · exact HSS.out _ HBd.out
            clear hK K0
            try simp only [Act.put, List.getElem_toArray, List.getElem_cons_succ, List.getElem_cons_zero, List.setIfInBounds_toArray, List.set_cons_zero, List.set_cons_succ]
            refine wpAnyH_take (i := 11) (v := ?_) rfl (by kernel_rfl) (by kernel_rfl) (by kernel_rfl) (fun _ _ _ h => h) (Or.inl ⟨by rfl, ?_⟩) (by assumption) ?_
            rotate_left
            · intro wq hSw
              try dsimp only at hSw
              go_simp
              try (with_reducible rfl)
            try simp only [Act.put, List.getElem_toArray, List.getElem_cons_succ, List.getElem_cons_zero, List.setIfInBounds_toArray, List.set_cons_zero, List.set_cons_succ]
            refine wpAnyH_take (i := 12) (v := ?_) rfl (by kernel_rfl) (by kernel_rfl) (by kernel_rfl) (fun _ _ _ h => h) (Or.inl ⟨by rfl, ?_⟩) (by assumption) ?_
            rotate_left
            · intro wq hSw
              try dsimp only at hSw
              go_simp
              try (with_reducible rfl)
            try simp only [Act.put, List.getElem_toArray, List.getElem_cons_succ, List.getElem_cons_zero, List.setIfInBounds_toArray, List.set_cons_zero, List.set_cons_succ]
            refine wpAnyH_done (by kernel_rfl) ?_ _
            go_wp2_with fail
            go_ret
            exact ⟨rfl, HGO.out.trans (HBd.out.mono HGO.out.size)⟩
        · skip
          go_simp
          have hb0 : Below v1.heap.size v1 (v1.alloc (.cells #[.int .i64 0, .bool false, .int .i64 0, .string ⟨#[]⟩, .slice none 0 0, .slice none 0 0] 36)) := (Below.refl _ _).alloc (Nat.le_refl _) _
          have HZ_2 := Lib.hid (show Blk (v1.alloc (.cells #[.int .i64 0, .bool false, .int .i64 0, .string ⟨#[]⟩, .slice none 0 0, .slice none 0 0] 36)) v1.heap.size 36 #[.int .i64 0, .bool false, .int .i64 0, .string ⟨#[]⟩, .slice none 0 0, .slice none 0 0] from Blk.new v1 _ _)
          have HRQ_2 := Lib.hid (HRQ_1.out.on hb0)
          clear HRQ_1
          have HRT_2 := Lib.hid (HRT_1.out.on hb0)
          clear HRT_1
          have HBv2 := Lib.hid (show Below w8.heap.size w8 (v1.alloc (.cells #[.int .i64 0, .bool false, .int .i64 0, .string ⟨#[]⟩, .slice none 0 0, .slice none 0 0] 36)) from (HBv1.out).trans (hb0.mono (HBv1.out).size))
          have hzl := HZ_2.out.lt
          have hzb := (HBv1.out).size
          clear hb0
          refine hK.out _ _ ?_ (fun hHeld => ?_)
          · exact HS7.out _ (HB8.out.trans ((HBv2.out).mono HB8.out.size))
          clear hK K0
          try simp only [Act.put, List.getElem_toArray, List.getElem_cons_succ, List.getElem_cons_zero, List.setIfInBounds_toArray, List.set_cons_zero, List.set_cons_succ]
          generalize (v1.alloc (.cells #[.int .i64 0, .bool false, .int .i64 0, .string ⟨#[]⟩, .slice none 0 0, .slice none 0 0] 36)) = v2 at *
          have hgz : w8.heap.size ≤ v1.heap.size := hzb
          clear hzb
          generalize v1.heap.size = gz at *
          refine wpAnyH_ready (rs := [4]) (by kernel_rfl) (by simp) ?_
          refine AllReadyH.cons rfl (fun K0 hK => ?_) ?_
          rotate_left
          · exact AllReadyH.nil
          go_simp
          refine (real_cells x D g D' g' _ HXI.out.le HXI.out.small (HX4.out.on (HB8.out.trans ((HBv2.out).mono HB8.out.size)))).mono ?_
          rintro e0 v3 ⟨F, f1, F', f1', rfl, hT, hb0⟩
          unfold T.agg
          have HRQ_3 := Lib.hid (HRQ_2.out.on hb0)
          clear HRQ_2
          have HRT_3 := Lib.hid (HRT_2.out.on hb0)
          clear HRT_2
          have HZ_3 := Lib.hid (HZ_2.out.onto hb0)
          clear HZ_2
          have HRX_3 := Lib.hid (show TV v3 (· < v3.heap.size) x F f1 F' f1' from hT.wide fun b hb => hb.2)
          have HBv3 := Lib.hid (show Below w8.heap.size w8 v3 from (HBv2.out).trans (hb0.mono (HBv2.out).size))
          clear hT hb0
          go_wp2_with fail
          refine hK.out _ _ ?_ (fun hHeld => ?_)
          · exact HS7.out _ (HB8.out.trans ((HBv3.out).mono HB8.out.size))
          clear hK K0
          try simp only [Act.put, List.getElem_toArray, List.getElem_cons_succ, List.getElem_cons_zero, List.setIfInBounds_toArray, List.set_cons_zero, List.set_cons_succ]
          refine wpAnyH_ready (rs := [5]) (by kernel_rfl) (by simp) ?_
          refine AllReadyH.cons rfl (fun K0 hK => ?_) ?_
          rotate_left
          · exact AllReadyH.nil
          go_simp
          have HZ_3Z := HZ_3.out.lt
          refine (set_any t x q Pq cq E e1 E' e1' F f1 F' f1' _ HNI.out HXI.out (HE.out.on (HBW.out.trans ((HB8.out.trans ((HBv3.out).mono HB8.out.size)).mono (by have := HBW.out.size; omega)))) HSq.out (by omega) HRQ_3.out HRT_3.out HRX_3.out).mono ?_
          rintro e0 v4 (⟨y0, rr, hy0, hset, K1, k1, K1', k1', rfl, hT, hb0⟩ | ⟨hno, _⟩)
          rotate_left
          · exact absurd HLq.out (hno y)
          have HRQ_4 := Lib.hid (HRQ_3.out.on hb0)
          clear HRQ_3
          have HRT_4 := Lib.hid (HRT_3.out.on hb0)
          clear HRT_3
          have HZ_4 := Lib.hid (HZ_3.out.onto hb0)
          clear HZ_3
          have HRX_4 := Lib.hid (HRX_3.out.on hb0)
          clear HRX_3
          have hz1 := HZ_3Z
          have HGOT := Lib.hid (show TV v4 (fun b => b ≠ gz ∧ b < v4.heap.size) rr K1 k1 K1' k1' from hT.wide fun b hb => ⟨by omega, hb.2⟩)
          skip
          have HSET := Lib.hid hset
          have HBv4 := Lib.hid (show Below w8.heap.size w8 v4 from (HBv3.out).trans (hb0.mono (HBv3.out).size))
          clear hT hb0 hset hy0
          go_wp2_with fail
          refine hK.out _ _ ?_ (fun hHeld => ?_)
          · exact HS7.out _ (HB8.out.trans ((HBv4.out).mono HB8.out.size))
          clear hK K0
          try simp only [Act.put, List.getElem_toArray, List.getElem_cons_succ, List.getElem_cons_zero, List.setIfInBounds_toArray, List.set_cons_zero, List.set_cons_succ]
          refine wpAnyH_take (i := 6) (v := ?_) rfl (by kernel_rfl) (by kernel_rfl) (by kernel_rfl) (fun _ _ _ h => h) (Or.inl ⟨by rfl, ?_⟩) (by assumption) ?_
          rotate_left
          · intro wq hSw
            try dsimp only at hSw
            go_simp
            try (with_reducible rfl)
          try simp only [Act.put, List.getElem_toArray, List.getElem_cons_succ, List.getElem_cons_zero, List.setIfInBounds_toArray, List.set_cons_zero, List.set_cons_succ]
          refine wpAnyH_take (i := 7) (v := ?_) rfl (by kernel_rfl) (by kernel_rfl) (by kernel_rfl) (fun _ _ _ h => h) (Or.inl ⟨by rfl, ?_⟩) (by assumption) ?_
          rotate_left
          · intro wq hSw
            try dsimp only at hSw
            go_simp
            try (with_reducible rfl)
          try simp only [Act.put, List.getElem_toArray, List.getElem_cons_succ, List.getElem_cons_zero, List.setIfInBounds_toArray, List.set_cons_zero, List.set_cons_succ]
          refine wpAnyH_take (i := 8) (v := ?_) rfl (by kernel_rfl) (by kernel_rfl) (by kernel_rfl) (fun _ _ _ h => h) (Or.inl ⟨by rfl, ?_⟩) (by assumption) ?_
          rotate_left
          · intro wq hSw
            try dsimp only at hSw
            go_simp
            try (with_reducible rfl)
          try simp only [Act.put, List.getElem_toArray, List.getElem_cons_succ, List.getElem_cons_zero, List.setIfInBounds_toArray, List.set_cons_zero, List.set_cons_succ]
          have q0 : v4.cell? ⟨gz, 0, none⟩ = some (.int .i64 0) := HZ_4.out.cell 0
          have q1 : v4.cell? ⟨gz, 1, none⟩ = some (.bool false) := HZ_4.out.cell 1
          have q2 : v4.cell? ⟨gz, 2, none⟩ = some (.int .i64 0) := HZ_4.out.cell 2
          have q3 : v4.cell? ⟨gz, 3, none⟩ = some (.string ⟨#[]⟩) := HZ_4.out.cell 3
          have q4 : v4.cell? ⟨gz, 4, none⟩ = some (.slice none 0 0) := HZ_4.out.cell 4
          have q5 : v4.cell? ⟨gz, 5, none⟩ = some (.slice none 0 0) := HZ_4.out.cell 5
          have u0 := HZ_4.out.free 0
          have u1 := HZ_4.out.free 1
          have u2 := HZ_4.out.free 2
          have u3 := HZ_4.out.free 3
          have u4 := HZ_4.out.free 4
          have u5 := HZ_4.out.free 5
          refine wpAnyH_ready (rs := [10]) (by kernel_rfl) (by simp) ?_
          refine AllReadyH.cons rfl (fun K0 hK => ?_) ?_
          rotate_left
          · exact AllReadyH.nil
          go_simp
          refine hK.out _ _ ?_ (fun hHeld => ?_)
          · have hS := HS7.out _ (HB8.out.trans ((HBv4.out).mono HB8.out.size))
            have h8s := HB8.out.size
            have hne : ∀ b o, b ≠ gz → (((((((v4.setCell ⟨gz, 0, none⟩ (.int .i64 rr.kind)).setCell ⟨gz, 1, none⟩ (.bool rr.tr)).setCell ⟨gz, 2, none⟩ (.int .i64 rr.num)).setCell ⟨gz, 3, none⟩ (.string rr.str)).setCell ⟨gz, 4, none⟩ (.slice K1 rr.items.length k1)).setCell ⟨gz, 5, none⟩ (.slice K1' rr.keys.length k1'))).cell? ⟨b, o, none⟩ = v4.cell? ⟨b, o, none⟩ := fun b o hb => World.cell?_of_block (put6_heap hb)
            have g1 : G3 ≠ gz := by omega
            have g2 : G3 + 1 ≠ gz := by omega
            try dsimp only
            rw [hne G3 _ g1, hne G3 _ g1, hne G3 _ g1, hne G3 _ g1, hne G3 _ g1, hne G3 _ g1, hne (G3 + 1) _ g2, hne (G3 + 1) _ g2, hne (G3 + 1) _ g2, hne (G3 + 1) _ g2, hne (G3 + 1) _ g2, hne (G3 + 1) _ g2]
            exact hS
          clear hK K0
          try simp only [Act.put, List.getElem_toArray, List.getElem_cons_succ, List.getElem_cons_zero, List.setIfInBounds_toArray, List.set_cons_zero, List.set_cons_succ]
          refine wpAnyH_take (i := 11) (v := ?_) rfl (by kernel_rfl) (by kernel_rfl) (by kernel_rfl) (fun _ _ _ h => h) (Or.inl ⟨by rfl, ?_⟩) (by assumption) ?_
          rotate_left
          · intro wq hSw
            try dsimp only at hSw
            go_simp
            try (with_reducible rfl)
          try simp only [Act.put, List.getElem_toArray, List.getElem_cons_succ, List.getElem_cons_zero, List.setIfInBounds_toArray, List.set_cons_zero, List.set_cons_succ]
          refine wpAnyH_done (by kernel_rfl) ?_ _
          have hlz := HZ_4.out.lt
          have HF := Lib.hid (res_put HZ_4.out rfl rr K1 k1 K1' k1')
          have hzs : (((((((v4.setCell ⟨gz, 0, none⟩ (.int .i64 rr.kind)).setCell ⟨gz, 1, none⟩ (.bool rr.tr)).setCell ⟨gz, 2, none⟩ (.int .i64 rr.num)).setCell ⟨gz, 3, none⟩ (.string rr.str)).setCell ⟨gz, 4, none⟩ (.slice K1 rr.items.length k1)).setCell ⟨gz, 5, none⟩ (.slice K1' rr.keys.length k1'))).heap.size = v4.heap.size := put6_size
          have h8s := HB8.out.size
          have HBP := Lib.hid (show Below w8.heap.size w8 ((((((v4.setCell ⟨gz, 0, none⟩ (.int .i64 rr.kind)).setCell ⟨gz, 1, none⟩ (.bool rr.tr)).setCell ⟨gz, 2, none⟩ (.int .i64 rr.num)).setCell ⟨gz, 3, none⟩ (.string rr.str)).setCell ⟨gz, 4, none⟩ (.slice K1 rr.items.length k1)).setCell ⟨gz, 5, none⟩ (.slice K1' rr.keys.length k1')) from put6_below HBv4.out hgz)
          have HGP := Lib.hid (show TV ((((((v4.setCell ⟨gz, 0, none⟩ (.int .i64 rr.kind)).setCell ⟨gz, 1, none⟩ (.bool rr.tr)).setCell ⟨gz, 2, none⟩ (.int .i64 rr.num)).setCell ⟨gz, 3, none⟩ (.string rr.str)).setCell ⟨gz, 4, none⟩ (.slice K1 rr.items.length k1)).setCell ⟨gz, 5, none⟩ (.slice K1' rr.keys.length k1')) (· < (((((((v4.setCell ⟨gz, 0, none⟩ (.int .i64 rr.kind)).setCell ⟨gz, 1, none⟩ (.bool rr.tr)).setCell ⟨gz, 2, none⟩ (.int .i64 rr.num)).setCell ⟨gz, 3, none⟩ (.string rr.str)).setCell ⟨gz, 4, none⟩ (.slice K1 rr.items.length k1)).setCell ⟨gz, 5, none⟩ (.slice K1' rr.keys.length k1'))).heap.size) rr K1 k1 K1' k1' from (HGOT.out.keep fun b hb => put6_heap hb.1).wide fun b hb => by show b < _; rw [hzs]; exact hb.2)
          have HFine := Lib.hid (sets_fine HNI.out HXI.out HSET.out)
          clear q0 q1 q2 q3 q4 q5 u0 u1 u2 u3 u4 u5 HGOT HZ_4 hlz
          generalize ((((((v4.setCell ⟨gz, 0, none⟩ (.int .i64 rr.kind)).setCell ⟨gz, 1, none⟩ (.bool rr.tr)).setCell ⟨gz, 2, none⟩ (.int .i64 rr.num)).setCell ⟨gz, 3, none⟩ (.string rr.str)).setCell ⟨gz, 4, none⟩ (.slice K1 rr.items.length k1)).setCell ⟨gz, 5, none⟩ (.slice K1' rr.keys.length k1')) = vP at *
          have HRP := Lib.hid (HRR8.out.on HBP.out)
          have HWP := Lib.hid (show Below W4.heap.size W4 vP from (HB8.out.trans ((HBP.out).mono HB8.out.size)))
          obtain ⟨a0, a1, a2, a3, a4, a5⟩ : vP.cell? ⟨gz, 0, none⟩ = some (.int .i64 rr.kind) ∧ vP.cell? ⟨gz, 1, none⟩ = some (.bool rr.tr) ∧ vP.cell? ⟨gz, 2, none⟩ = some (.int .i64 rr.num) ∧ vP.cell? ⟨gz, 3, none⟩ = some (.string rr.str) ∧ vP.cell? ⟨gz, 4, none⟩ = some (.slice K1 rr.items.length k1) ∧ vP.cell? ⟨gz, 5, none⟩ = some (.slice K1' rr.keys.length k1') := ⟨HF.out.cell 0, HF.out.cell 1, HF.out.cell 2, HF.out.cell 3, HF.out.cell 4, HF.out.cell 5⟩
          go_wp2_with fail
          refine (get_any rr r Pr cr K1 k1 K1' k1' _ HFine.out (HE.out.on (HBW.out.trans (HWP.out.mono (by have := HBW.out.size; omega)))) HSr.out (by omega) HRP.out HGP.out).mono ?_
          rintro e0 vG (⟨z1, hz1, C, f, C', f', rfl, hT, hb0⟩ | ⟨hno, _⟩)
          rotate_left
          · exact absurd (sets_off HNI.out.fine HPar.out HSET.out HLr.out) (hno z)
          obtain rfl : z1 = z := leads_unique HFine.out hz1 (sets_off HNI.out.fine HPar.out HSET.out HLr.out)
          have HWG := Lib.hid (HWP.out.trans (hb0.mono HWP.out.size))
          have HRG := Lib.hid (HRP.out.on hb0)
          have HTG := Lib.hid hT
          have HNZ := Lib.hid (leads_fine HFine.out hz1)
          clear hb0 hT hz1 a0 a1 a2 a3 a4 a5 HGP HF HRP
          go_upto_region 9 with fail
          have hb0 : Below vG.heap.size vG (vG.alloc (.cells #[.int .i64 z1.kind, .bool z1.tr, .int .i64 z1.num, .string z1.str, .slice C z1.items.length f, .slice C' z1.keys.length f'] 36)) := (Below.refl _ _).alloc (Nat.le_refl _) _
          have hX9 : Blk (vG.alloc (.cells #[.int .i64 z1.kind, .bool z1.tr, .int .i64 z1.num, .string z1.str, .slice C z1.items.length f, .slice C' z1.keys.length f'] 36)) vG.heap.size 36 #[.int .i64 z1.kind, .bool z1.tr, .int .i64 z1.num, .string z1.str, .slice C z1.items.length f, .slice C' z1.keys.length f'] := Blk.new vG _ _
          change Code.wp _ _ _ _ (vG.alloc (.cells #[.int .i64 z1.kind, .bool z1.tr, .int .i64 z1.num, .string z1.str, .slice C z1.items.length f, .slice C' z1.keys.length f'] 36))
          have HT9 := Lib.hid (HTG.out.on hb0)
          have HR9 := Lib.hid (HRG.out.on hb0)
          have HW9 := Lib.hid (HWG.out.trans (hb0.mono HWG.out.size))
          generalize (vG.alloc (.cells #[.int .i64 z1.kind, .bool z1.tr, .int .i64 z1.num, .string z1.str, .slice C z1.items.length f, .slice C' z1.keys.length f'] 36)) = v9 at *
          have HX9 := Lib.hid hX9
          have hl9 := hX9.lt
          clear hb0 hX9 HTG HRG
          generalize hgx : vG.heap.size = gx at *
          have h7 := HS7.out v9 HW9.out
          obtain ⟨⟨b0, b1, b2, b3, b4, b5⟩, _⟩ := h7
          go_wp2_with fail
          refine (rget_any t r Pr cr B d B' d' _ HNI.out.fine (by omega) HR9.out (HT4.out.on HW9.out)).mono ?_
          rintro e0 vU (⟨z2, hz2, U, f2, U', f2', rfl, hT, hb0⟩ | ⟨hno, _⟩)
          rotate_left
          · exact absurd HLr.out (hno z1)
          obtain rfl : z1 = z2 := leads_unique HNI.out.fine HLr.out hz2
          have HWU := Lib.hid (HW9.out.trans (hb0.mono HW9.out.size))
          have HTU := Lib.hid hT
          have HT10 := Lib.hid (HT9.out.on hb0)
          have HX10 := Lib.hid (HX9.out.onto hb0)
          have hl10 := hb0.size
          clear hb0 hT hz2 b0 b1 b2 b3 b4 b5 HT9 HX9
          go_upto_region 10 with fail
          have hb0 : Below vU.heap.size vU (vU.alloc (.cells #[.int .i64 z1.kind, .bool z1.tr, .int .i64 z1.num, .string z1.str, .slice U z1.items.length f2, .slice U' z1.keys.length f2'] 31)) := (Below.refl _ _).alloc (Nat.le_refl _) _
          have hY0 : Blk (vU.alloc (.cells #[.int .i64 z1.kind, .bool z1.tr, .int .i64 z1.num, .string z1.str, .slice U z1.items.length f2, .slice U' z1.keys.length f2'] 31)) vU.heap.size 31 #[.int .i64 z1.kind, .bool z1.tr, .int .i64 z1.num, .string z1.str, .slice U z1.items.length f2, .slice U' z1.keys.length f2'] := Blk.new vU _ _
          change Code.wp _ _ _ _ (vU.alloc (.cells #[.int .i64 z1.kind, .bool z1.tr, .int .i64 z1.num, .string z1.str, .slice U z1.items.length f2, .slice U' z1.keys.length f2'] 31))
          have HTX := Lib.hid (HT10.out.on hb0)
          have HTY := Lib.hid (HTU.out.on hb0)
          have HXX := Lib.hid (HX10.out.onto hb0)
          have HWX := Lib.hid (HWU.out.trans (hb0.mono HWU.out.size))
          generalize (vU.alloc (.cells #[.int .i64 z1.kind, .bool z1.tr, .int .i64 z1.num, .string z1.str, .slice U z1.items.length f2, .slice U' z1.keys.length f2'] 31)) = vX at *
          generalize vU.heap.size = gy at *
          have HYY := Lib.hid hY0
          clear hb0 hY0 HT10 HTU HX10 HWU
          have HSS := Lib.hid (show ∀ w', Below vX.heap.size vX w' → (w'.cell? ⟨gx, 0, none⟩ = some (.int .i64 z1.kind) ∧ w'.cell? ⟨gx, 1, none⟩ = some (.bool z1.tr) ∧ w'.cell? ⟨gx, 2, none⟩ = some (.int .i64 z1.num) ∧ w'.cell? ⟨gx, 3, none⟩ = some (.string z1.str) ∧ w'.cell? ⟨gx, 4, none⟩ = some (.slice C z1.items.length f) ∧ w'.cell? ⟨gx, 5, none⟩ = some (.slice C' z1.keys.length f')) ∧ (w'.cell? ⟨gy, 0, none⟩ = some (.int .i64 z1.kind) ∧ w'.cell? ⟨gy, 1, none⟩ = some (.bool z1.tr) ∧ w'.cell? ⟨gy, 2, none⟩ = some (.int .i64 z1.num) ∧ w'.cell? ⟨gy, 3, none⟩ = some (.string z1.str) ∧ w'.cell? ⟨gy, 4, none⟩ = some (.slice U z1.items.length f2) ∧ w'.cell? ⟨gy, 5, none⟩ = some (.slice U' z1.keys.length f2')) from fun w' hb => by
            have h1 := HXX.out.onto hb
            have h2 := HYY.out.onto hb
            exact ⟨⟨h1.cell 0, h1.cell 1, h1.cell 2, h1.cell 3, h1.cell 4, h1.cell 5⟩, ⟨h2.cell 0, h2.cell 1, h2.cell 2, h2.cell 3, h2.cell 4, h2.cell 5⟩⟩)
          have hgo : Below w.heap.size w vX := HBW.out.trans (HWX.out.mono (by have := HBW.out.size; omega))
          have HGO := Lib.hid hgo
          clear hgo
          refine wp_region_held_drew (S := fun w' => (w'.cell? ⟨gx, 0, none⟩ = some (.int .i64 z1.kind) ∧ w'.cell? ⟨gx, 1, none⟩ = some (.bool z1.tr) ∧ w'.cell? ⟨gx, 2, none⟩ = some (.int .i64 z1.num) ∧ w'.cell? ⟨gx, 3, none⟩ = some (.string z1.str) ∧ w'.cell? ⟨gx, 4, none⟩ = some (.slice C z1.items.length f) ∧ w'.cell? ⟨gx, 5, none⟩ = some (.slice C' z1.keys.length f')) ∧ (w'.cell? ⟨gy, 0, none⟩ = some (.int .i64 z1.kind) ∧ w'.cell? ⟨gy, 1, none⟩ = some (.bool z1.tr) ∧ w'.cell? ⟨gy, 2, none⟩ = some (.int .i64 z1.num) ∧ w'.cell? ⟨gy, 3, none⟩ = some (.string z1.str) ∧ w'.cell? ⟨gy, 4, none⟩ = some (.slice U z1.items.length f2) ∧ w'.cell? ⟨gy, 5, none⟩ = some (.slice U' z1.keys.length f2'))) (by kernel_rfl) ?_ (fun hHeld => ?_)
          · exact HSS.out _ (Below.refl _ _).drew
          refine wpAnyH_take (i := 0) (v := ?_) rfl (by kernel_rfl) (by kernel_rfl) (by kernel_rfl) (fun _ _ _ h => h) (Or.inl ⟨by rfl, ?_⟩) (by assumption) ?_
          rotate_left
          · intro wq hSw
            try dsimp only at hSw
            go_simp
            try (with_reducible rfl)
          try simp only [Act.put, List.getElem_toArray, List.getElem_cons_zero, List.setIfInBounds_toArray, List.set_cons_zero, List.set_cons_succ]
          refine wpAnyH_take (i := 1) (v := ?_) rfl (by kernel_rfl) (by kernel_rfl) (by kernel_rfl) (fun _ _ _ h => h) (Or.inl ⟨by rfl, ?_⟩) (by assumption) ?_
          rotate_left
          · intro wq hSw
            try dsimp only at hSw
            go_simp
            try (with_reducible rfl)
          try simp only [Act.put, List.getElem_toArray, List.getElem_cons_succ, List.getElem_cons_zero, List.setIfInBounds_toArray, List.set_cons_zero, List.set_cons_succ]
          refine wpAnyH_take (i := 2) (v := ?_) rfl (by kernel_rfl) (by kernel_rfl) (by kernel_rfl) (fun _ _ _ h => h) (Or.inl ⟨by rfl, ?_⟩) (by assumption) ?_
          rotate_left
          · intro wq hSw
            try dsimp only at hSw
            go_simp
            try (with_reducible rfl)
          try simp only [Act.put, List.getElem_toArray, List.getElem_cons_succ, List.getElem_cons_zero, List.setIfInBounds_toArray, List.set_cons_zero, List.set_cons_succ]
          refine wpAnyH_take (i := 3) (v := ?_) rfl (by kernel_rfl) (by kernel_rfl) (by kernel_rfl) (fun _ _ _ h => h) (Or.inl ⟨by rfl, ?_⟩) (by assumption) ?_
          rotate_left
          · intro wq hSw
            try dsimp only at hSw
            go_simp
            try (with_reducible rfl)
          try simp only [Act.put, List.getElem_toArray, List.getElem_cons_succ, List.getElem_cons_zero, List.setIfInBounds_toArray, List.set_cons_zero, List.set_cons_succ]
          refine wpAnyH_take (i := 4) (v := ?_) rfl (by kernel_rfl) (by kernel_rfl) (by kernel_rfl) (fun _ _ _ h => h) (Or.inl ⟨by rfl, ?_⟩) (by assumption) ?_
          rotate_left
          · intro wq hSw
            try dsimp only at hSw
            go_simp
            try (with_reducible rfl)
          try simp only [Act.put, List.getElem_toArray, List.getElem_cons_succ, List.getElem_cons_zero, List.setIfInBounds_toArray, List.set_cons_zero, List.set_cons_succ]
          refine wpAnyH_take (i := 5) (v := ?_) rfl (by kernel_rfl) (by kernel_rfl) (by kernel_rfl) (fun _ _ _ h => h) (Or.inl ⟨by rfl, ?_⟩) (by assumption) ?_
          rotate_left
          · intro wq hSw
            try dsimp only at hSw
            go_simp
            try (with_reducible rfl)
          try simp only [Act.put, List.getElem_toArray, List.getElem_cons_succ, List.getElem_cons_zero, List.setIfInBounds_toArray, List.set_cons_zero, List.set_cons_succ]
          refine wpAnyH_take (i := 6) (v := ?_) rfl (by kernel_rfl) (by kernel_rfl) (by kernel_rfl) (fun _ _ _ h => h) (Or.inl ⟨by rfl, ?_⟩) (by assumption) ?_
          rotate_left
          · intro wq hSw
            try dsimp only at hSw
            go_simp
            try (with_reducible rfl)
          try simp only [Act.put, List.getElem_toArray, List.getElem_cons_succ, List.getElem_cons_zero, List.setIfInBounds_toArray, List.set_cons_zero, List.set_cons_succ]
          refine wpAnyH_take (i := 7) (v := ?_) rfl (by kernel_rfl) (by kernel_rfl) (by kernel_rfl) (fun _ _ _ h => h) (Or.inl ⟨by rfl, ?_⟩) (by assumption) ?_
          rotate_left
          · intro wq hSw
            try dsimp only at hSw
            go_simp
            try (with_reducible rfl)
          try simp only [Act.put, List.getElem_toArray, List.getElem_cons_succ, List.getElem_cons_zero, List.setIfInBounds_toArray, List.set_cons_zero, List.set_cons_succ]
          refine wpAnyH_take (i := 9) (v := ?_) rfl (by kernel_rfl) (by kernel_rfl) (by kernel_rfl) (fun _ _ _ h => h) (Or.inl ⟨by rfl, ?_⟩) (by assumption) ?_
          rotate_left
          · intro wq hSw
            try dsimp only at hSw
            go_simp
            try (with_reducible rfl)
          try simp only [Act.put, List.getElem_toArray, List.getElem_cons_succ, List.getElem_cons_zero, List.setIfInBounds_toArray, List.set_cons_zero, List.set_cons_succ]
          refine wpAnyH_ready (rs := [8]) (by kernel_rfl) (by simp) ?_
          refine AllReadyH.cons rfl (fun K0 hK => ?_) ?_
          rotate_left
          · exact AllReadyH.nil
          go_simp
          refine (ref_cells _ z1 C f C' f' _ HNZ.out.le (Nat.le_refl _) (HTX.out.on (Below.refl _ _).drew)).mono ?_
          rintro e9 w9 ⟨R1, r1, R1', r1', rfl, hU, hb9⟩
          unfold T.agg
          have HBc := Lib.hid (show Below vX.heap.size vX w9 from (Below.refl vX.heap.size vX).drew.trans hb9)
          have HU := Lib.hid (show TV w9 (· < w9.heap.size) z1 R1 r1 R1' r1' from hU.wide fun b hb => by
            have h1 := hb9.size
            rcases hb with hb | hb
            · exact Nat.lt_of_lt_of_le (show b < vX.drew.heap.size from hb) h1
            · exact hb.2)
          clear hb9 hU
          go_wp2_with fail
          refine hK.out _ _ ?_ (fun hHeld => ?_)
          · exact HSS.out _ HBc.out
          clear hK K0
          try simp only [Act.put, List.getElem_toArray, List.getElem_cons_succ, List.getElem_cons_zero, List.setIfInBounds_toArray, List.set_cons_zero, List.set_cons_succ]
          refine wpAnyH_ready (rs := [10]) (by kernel_rfl) (by simp) ?_
          refine AllReadyH.cons rfl (fun K0 hK => ?_) ?_
          rotate_left
          · exact AllReadyH.nil
          go_simp
          refine (rsame_cells z1 R1 r1 R1' r1' U f2 U' f2' _ HNZ.out.le HNZ.out.small HU.out (HTY.out.on HBc.out)).mono ?_
          rintro e10 w10 ⟨rfl, hb10⟩
          have HBd := Lib.hid (HBc.out.trans (hb10.mono HBc.out.size))
          clear hb10
          go_wp2_with fail
          refine hK.out _ _ ?_ (fun hHeld => ?_)
          · exact HSS.out _ HBd.out
          clear hK K0
          try simp only [Act.put, List.getElem_toArray, List.getElem_cons_succ, List.getElem_cons_zero, List.setIfInBounds_toArray, List.set_cons_zero, List.set_cons_succ]
          refine wpAnyH_take (i := 11) (v := ?_) rfl (by kernel_rfl) (by kernel_rfl) (by kernel_rfl) (fun _ _ _ h => h) (Or.inl ⟨by rfl, ?_⟩) (by assumption) ?_
          rotate_left
          · intro wq hSw
            try dsimp only at hSw
            go_simp
            try (with_reducible rfl)
          try simp only [Act.put, List.getElem_toArray, List.getElem_cons_succ, List.getElem_cons_zero, List.setIfInBounds_toArray, List.set_cons_zero, List.set_cons_succ]
          refine wpAnyH_take (i := 12) (v := ?_) rfl (by kernel_rfl) (by kernel_rfl) (by kernel_rfl) (fun _ _ _ h => h) (Or.inl ⟨by rfl, ?_⟩) (by assumption) ?_
          rotate_left
          · intro wq hSw
            try dsimp only at hSw
            go_simp
            try (with_reducible rfl)
          try simp only [Act.put, List.getElem_toArray, List.getElem_cons_succ, List.getElem_cons_zero, List.setIfInBounds_toArray, List.set_cons_zero, List.set_cons_succ]
          refine wpAnyH_done (by kernel_rfl) ?_ _
          go_wp2_with fail
          go_ret
          exact ⟨rfl, HGO.out.trans (HBd.out.mono HGO.out.size)⟩
      · skip
        go_simp
        have hb0 : Below w8.drew.heap.size w8.drew (w8.alloc (.cells #[.int .i64 0, .bool false, .int .i64 0, .string ⟨#[]⟩, .slice none 0 0, .slice none 0 0] 36)).drew := (fun (h : Below w8.heap.size w8 (w8.alloc (.cells #[.int .i64 0, .bool false, .int .i64 0, .string ⟨#[]⟩, .slice none 0 0, .slice none 0 0] 36)).drew) => (⟨h.os, h.tape, h.output, h.size, h.block⟩ : Below w8.drew.heap.size w8.drew (w8.alloc (.cells #[.int .i64 0, .bool false, .int .i64 0, .string ⟨#[]⟩, .slice none 0 0, .slice none 0 0] 36)).drew)) ((Below.refl _ _).alloc (Nat.le_refl _) _).drew
        have HZ_1 := Lib.hid (show Blk (w8.alloc (.cells #[.int .i64 0, .bool false, .int .i64 0, .string ⟨#[]⟩, .slice none 0 0, .slice none 0 0] 36)).drew w8.heap.size 36 #[.int .i64 0, .bool false, .int .i64 0, .string ⟨#[]⟩, .slice none 0 0, .slice none 0 0] from Blk.new w8 _ _)
        have HRQ_1 := Lib.hid (HRQ9.out.on hb0)
        clear HRQ9
        have HBv1 := Lib.hid (show Below w8.heap.size w8 (w8.alloc (.cells #[.int .i64 0, .bool false, .int .i64 0, .string ⟨#[]⟩, .slice none 0 0, .slice none 0 0] 36)).drew from ((Below.refl w8.heap.size w8).drew).trans (hb0.mono ((Below.refl w8.heap.size w8).drew).size))
        have hzl := HZ_1.out.lt
        have hzb := ((Below.refl w8.heap.size w8).drew).size
        clear hb0
        refine hK.out _ _ ?_ (fun hHeld => ?_)
        · exact HS7.out _ (HB8.out.trans ((HBv1.out).mono HB8.out.size))
        clear hK K0
        try simp only [Act.put, List.getElem_toArray, List.getElem_cons_succ, List.getElem_cons_zero, List.setIfInBounds_toArray, List.set_cons_zero, List.set_cons_succ]
        generalize (w8.alloc (.cells #[.int .i64 0, .bool false, .int .i64 0, .string ⟨#[]⟩, .slice none 0 0, .slice none 0 0] 36)).drew = v1 at *
        obtain ⟨gz, hgzE⟩ : ∃ gz, gz = w8.heap.size := ⟨_, rfl⟩
        have hgz : w8.heap.size ≤ gz := by omega
        have HZ_1' := Lib.hid (show Blk v1 gz 36 #[.int .i64 0, .bool false, .int .i64 0, .string ⟨#[]⟩, .slice none 0 0, .slice none 0 0] from by rw [hgzE]; exact HZ_1.out)
        rw [← hgzE]
        clear hgzE hzb hzl HZ_1
        refine wpAnyH_ready (rs := [1]) (by kernel_rfl) (by simp) ?_
        refine AllReadyH.cons rfl (fun K0 hK => ?_) ?_
        rotate_left
        · exact AllReadyH.nil
        go_simp
        refine (real_cells t B d B' d' _ HNI.out.le HNI.out.small (HT4.out.on (HB8.out.trans ((HBv1.out).mono HB8.out.size)))).mono ?_
        rintro e0 v2 ⟨E, e1, E', e1', rfl, hT, hb0⟩
        unfold T.agg
        have HRQ_2 := Lib.hid (HRQ_1.out.on hb0)
        clear HRQ_1
        have HZ_2 := Lib.hid (HZ_1'.out.onto hb0)
        clear HZ_1'
        have HRT_2 := Lib.hid (show TV v2 (· < v2.heap.size) t E e1 E' e1' from hT.wide fun b hb => hb.2)
        have HBv2 := Lib.hid (show Below w8.heap.size w8 v2 from (HBv1.out).trans (hb0.mono (HBv1.out).size))
        clear hT hb0
        go_wp2_with fail
        refine hK.out _ _ ?_ (fun hHeld => ?_)
        · exact HS7.out _ (HB8.out.trans ((HBv2.out).mono HB8.out.size))
        clear hK K0
        try simp only [Act.put, List.getElem_toArray, List.getElem_cons_succ, List.getElem_cons_zero, List.setIfInBounds_toArray, List.set_cons_zero, List.set_cons_succ]
        refine wpAnyH_ready (rs := [4]) (by kernel_rfl) (by simp) ?_
        refine AllReadyH.cons rfl (fun K0 hK => ?_) ?_
        rotate_left
        · exact AllReadyH.nil
        go_simp
        refine (real_cells x D g D' g' _ HXI.out.le HXI.out.small (HX4.out.on (HB8.out.trans ((HBv2.out).mono HB8.out.size)))).mono ?_
        rintro e0 v3 ⟨F, f1, F', f1', rfl, hT, hb0⟩
        unfold T.agg
        have HRQ_3 := Lib.hid (HRQ_2.out.on hb0)
        clear HRQ_2
        have HZ_3 := Lib.hid (HZ_2.out.onto hb0)
        clear HZ_2
        have HRT_3 := Lib.hid (HRT_2.out.on hb0)
        clear HRT_2
        have HRX_3 := Lib.hid (show TV v3 (· < v3.heap.size) x F f1 F' f1' from hT.wide fun b hb => hb.2)
        have HBv3 := Lib.hid (show Below w8.heap.size w8 v3 from (HBv2.out).trans (hb0.mono (HBv2.out).size))
        clear hT hb0
        go_wp2_with fail
        refine hK.out _ _ ?_ (fun hHeld => ?_)
        · exact HS7.out _ (HB8.out.trans ((HBv3.out).mono HB8.out.size))
        clear hK K0
        try simp only [Act.put, List.getElem_toArray, List.getElem_cons_succ, List.getElem_cons_zero, List.setIfInBounds_toArray, List.set_cons_zero, List.set_cons_succ]
        refine wpAnyH_ready (rs := [5]) (by kernel_rfl) (by simp) ?_
        refine AllReadyH.cons rfl (fun K0 hK => ?_) ?_
        rotate_left
        · exact AllReadyH.nil
        go_simp
        have HZ_3Z := HZ_3.out.lt
        refine (set_any t x q Pq cq E e1 E' e1' F f1 F' f1' _ HNI.out HXI.out (HE.out.on (HBW.out.trans ((HB8.out.trans ((HBv3.out).mono HB8.out.size)).mono (by have := HBW.out.size; omega)))) HSq.out (by omega) HRQ_3.out HRT_3.out HRX_3.out).mono ?_
        rintro e0 v4 (⟨y0, rr, hy0, hset, K1, k1, K1', k1', rfl, hT, hb0⟩ | ⟨hno, _⟩)
        rotate_left
        · exact absurd HLq.out (hno y)
        have HRQ_4 := Lib.hid (HRQ_3.out.on hb0)
        clear HRQ_3
        have HZ_4 := Lib.hid (HZ_3.out.onto hb0)
        clear HZ_3
        have HRT_4 := Lib.hid (HRT_3.out.on hb0)
        clear HRT_3
        have HRX_4 := Lib.hid (HRX_3.out.on hb0)
        clear HRX_3
        have hz1 := HZ_3Z
        have HGOT := Lib.hid (show TV v4 (fun b => b ≠ gz ∧ b < v4.heap.size) rr K1 k1 K1' k1' from hT.wide fun b hb => ⟨by omega, hb.2⟩)
        skip
        have HSET := Lib.hid hset
        have HBv4 := Lib.hid (show Below w8.heap.size w8 v4 from (HBv3.out).trans (hb0.mono (HBv3.out).size))
        clear hT hb0 hset hy0
        go_wp2_with fail
        refine hK.out _ _ ?_ (fun hHeld => ?_)
        · exact HS7.out _ (HB8.out.trans ((HBv4.out).mono HB8.out.size))
        clear hK K0
        try simp only [Act.put, List.getElem_toArray, List.getElem_cons_succ, List.getElem_cons_zero, List.setIfInBounds_toArray, List.set_cons_zero, List.set_cons_succ]
        refine wpAnyH_take (i := 6) (v := ?_) rfl (by kernel_rfl) (by kernel_rfl) (by kernel_rfl) (fun _ _ _ h => h) (Or.inl ⟨by rfl, ?_⟩) (by assumption) ?_
        rotate_left
        · intro wq hSw
          try dsimp only at hSw
          go_simp
          try (with_reducible rfl)
        try simp only [Act.put, List.getElem_toArray, List.getElem_cons_succ, List.getElem_cons_zero, List.setIfInBounds_toArray, List.set_cons_zero, List.set_cons_succ]
        refine wpAnyH_take (i := 7) (v := ?_) rfl (by kernel_rfl) (by kernel_rfl) (by kernel_rfl) (fun _ _ _ h => h) (Or.inl ⟨by rfl, ?_⟩) (by assumption) ?_
        rotate_left
        · intro wq hSw
          try dsimp only at hSw
          go_simp
          try (with_reducible rfl)
        try simp only [Act.put, List.getElem_toArray, List.getElem_cons_succ, List.getElem_cons_zero, List.setIfInBounds_toArray, List.set_cons_zero, List.set_cons_succ]
        refine wpAnyH_take (i := 8) (v := ?_) rfl (by kernel_rfl) (by kernel_rfl) (by kernel_rfl) (fun _ _ _ h => h) (Or.inl ⟨by rfl, ?_⟩) (by assumption) ?_
        rotate_left
        · intro wq hSw
          try dsimp only at hSw
          go_simp
          try (with_reducible rfl)
        try simp only [Act.put, List.getElem_toArray, List.getElem_cons_succ, List.getElem_cons_zero, List.setIfInBounds_toArray, List.set_cons_zero, List.set_cons_succ]
        have q0 : v4.cell? ⟨gz, 0, none⟩ = some (.int .i64 0) := HZ_4.out.cell 0
        have q1 : v4.cell? ⟨gz, 1, none⟩ = some (.bool false) := HZ_4.out.cell 1
        have q2 : v4.cell? ⟨gz, 2, none⟩ = some (.int .i64 0) := HZ_4.out.cell 2
        have q3 : v4.cell? ⟨gz, 3, none⟩ = some (.string ⟨#[]⟩) := HZ_4.out.cell 3
        have q4 : v4.cell? ⟨gz, 4, none⟩ = some (.slice none 0 0) := HZ_4.out.cell 4
        have q5 : v4.cell? ⟨gz, 5, none⟩ = some (.slice none 0 0) := HZ_4.out.cell 5
        have u0 := HZ_4.out.free 0
        have u1 := HZ_4.out.free 1
        have u2 := HZ_4.out.free 2
        have u3 := HZ_4.out.free 3
        have u4 := HZ_4.out.free 4
        have u5 := HZ_4.out.free 5
        refine wpAnyH_ready (rs := [10]) (by kernel_rfl) (by simp) ?_
        refine AllReadyH.cons rfl (fun K0 hK => ?_) ?_
        rotate_left
        · exact AllReadyH.nil
        go_simp
        refine hK.out _ _ ?_ (fun hHeld => ?_)
        · have hS := HS7.out _ (HB8.out.trans ((HBv4.out).mono HB8.out.size))
          have h8s := HB8.out.size
          have hne : ∀ b o, b ≠ gz → (((((((v4.setCell ⟨gz, 0, none⟩ (.int .i64 rr.kind)).setCell ⟨gz, 1, none⟩ (.bool rr.tr)).setCell ⟨gz, 2, none⟩ (.int .i64 rr.num)).setCell ⟨gz, 3, none⟩ (.string rr.str)).setCell ⟨gz, 4, none⟩ (.slice K1 rr.items.length k1)).setCell ⟨gz, 5, none⟩ (.slice K1' rr.keys.length k1'))).cell? ⟨b, o, none⟩ = v4.cell? ⟨b, o, none⟩ := fun b o hb => World.cell?_of_block (put6_heap hb)
          have g1 : G3 ≠ gz := by omega
          have g2 : G3 + 1 ≠ gz := by omega
          try dsimp only
          rw [hne G3 _ g1, hne G3 _ g1, hne G3 _ g1, hne G3 _ g1, hne G3 _ g1, hne G3 _ g1, hne (G3 + 1) _ g2, hne (G3 + 1) _ g2, hne (G3 + 1) _ g2, hne (G3 + 1) _ g2, hne (G3 + 1) _ g2, hne (G3 + 1) _ g2]
          exact hS
        clear hK K0
        try simp only [Act.put, List.getElem_toArray, List.getElem_cons_succ, List.getElem_cons_zero, List.setIfInBounds_toArray, List.set_cons_zero, List.set_cons_succ]
        refine wpAnyH_take (i := 11) (v := ?_) rfl (by kernel_rfl) (by kernel_rfl) (by kernel_rfl) (fun _ _ _ h => h) (Or.inl ⟨by rfl, ?_⟩) (by assumption) ?_
        rotate_left
        · intro wq hSw
          try dsimp only at hSw
          go_simp
          try (with_reducible rfl)
        try simp only [Act.put, List.getElem_toArray, List.getElem_cons_succ, List.getElem_cons_zero, List.setIfInBounds_toArray, List.set_cons_zero, List.set_cons_succ]
        refine wpAnyH_done (by kernel_rfl) ?_ _
        have hlz := HZ_4.out.lt
        have HF := Lib.hid (res_put HZ_4.out rfl rr K1 k1 K1' k1')
        have hzs : (((((((v4.setCell ⟨gz, 0, none⟩ (.int .i64 rr.kind)).setCell ⟨gz, 1, none⟩ (.bool rr.tr)).setCell ⟨gz, 2, none⟩ (.int .i64 rr.num)).setCell ⟨gz, 3, none⟩ (.string rr.str)).setCell ⟨gz, 4, none⟩ (.slice K1 rr.items.length k1)).setCell ⟨gz, 5, none⟩ (.slice K1' rr.keys.length k1'))).heap.size = v4.heap.size := put6_size
        have h8s := HB8.out.size
        have HBP := Lib.hid (show Below w8.heap.size w8 ((((((v4.setCell ⟨gz, 0, none⟩ (.int .i64 rr.kind)).setCell ⟨gz, 1, none⟩ (.bool rr.tr)).setCell ⟨gz, 2, none⟩ (.int .i64 rr.num)).setCell ⟨gz, 3, none⟩ (.string rr.str)).setCell ⟨gz, 4, none⟩ (.slice K1 rr.items.length k1)).setCell ⟨gz, 5, none⟩ (.slice K1' rr.keys.length k1')) from put6_below HBv4.out hgz)
        have HGP := Lib.hid (show TV ((((((v4.setCell ⟨gz, 0, none⟩ (.int .i64 rr.kind)).setCell ⟨gz, 1, none⟩ (.bool rr.tr)).setCell ⟨gz, 2, none⟩ (.int .i64 rr.num)).setCell ⟨gz, 3, none⟩ (.string rr.str)).setCell ⟨gz, 4, none⟩ (.slice K1 rr.items.length k1)).setCell ⟨gz, 5, none⟩ (.slice K1' rr.keys.length k1')) (· < (((((((v4.setCell ⟨gz, 0, none⟩ (.int .i64 rr.kind)).setCell ⟨gz, 1, none⟩ (.bool rr.tr)).setCell ⟨gz, 2, none⟩ (.int .i64 rr.num)).setCell ⟨gz, 3, none⟩ (.string rr.str)).setCell ⟨gz, 4, none⟩ (.slice K1 rr.items.length k1)).setCell ⟨gz, 5, none⟩ (.slice K1' rr.keys.length k1'))).heap.size) rr K1 k1 K1' k1' from (HGOT.out.keep fun b hb => put6_heap hb.1).wide fun b hb => by show b < _; rw [hzs]; exact hb.2)
        have HFine := Lib.hid (sets_fine HNI.out HXI.out HSET.out)
        clear q0 q1 q2 q3 q4 q5 u0 u1 u2 u3 u4 u5 HGOT HZ_4 hlz
        generalize ((((((v4.setCell ⟨gz, 0, none⟩ (.int .i64 rr.kind)).setCell ⟨gz, 1, none⟩ (.bool rr.tr)).setCell ⟨gz, 2, none⟩ (.int .i64 rr.num)).setCell ⟨gz, 3, none⟩ (.string rr.str)).setCell ⟨gz, 4, none⟩ (.slice K1 rr.items.length k1)).setCell ⟨gz, 5, none⟩ (.slice K1' rr.keys.length k1')) = vP at *
        have HRP := Lib.hid (HRR8.out.on HBP.out)
        have HWP := Lib.hid (show Below W4.heap.size W4 vP from (HB8.out.trans ((HBP.out).mono HB8.out.size)))
        obtain ⟨a0, a1, a2, a3, a4, a5⟩ : vP.cell? ⟨gz, 0, none⟩ = some (.int .i64 rr.kind) ∧ vP.cell? ⟨gz, 1, none⟩ = some (.bool rr.tr) ∧ vP.cell? ⟨gz, 2, none⟩ = some (.int .i64 rr.num) ∧ vP.cell? ⟨gz, 3, none⟩ = some (.string rr.str) ∧ vP.cell? ⟨gz, 4, none⟩ = some (.slice K1 rr.items.length k1) ∧ vP.cell? ⟨gz, 5, none⟩ = some (.slice K1' rr.keys.length k1') := ⟨HF.out.cell 0, HF.out.cell 1, HF.out.cell 2, HF.out.cell 3, HF.out.cell 4, HF.out.cell 5⟩
        go_wp2_with fail
        refine (get_any rr r Pr cr K1 k1 K1' k1' _ HFine.out (HE.out.on (HBW.out.trans (HWP.out.mono (by have := HBW.out.size; omega)))) HSr.out (by omega) HRP.out HGP.out).mono ?_
        rintro e0 vG (⟨z1, hz1, C, f, C', f', rfl, hT, hb0⟩ | ⟨hno, _⟩)
        rotate_left
        · exact absurd (sets_off HNI.out.fine HPar.out HSET.out HLr.out) (hno z)
        obtain rfl : z1 = z := leads_unique HFine.out hz1 (sets_off HNI.out.fine HPar.out HSET.out HLr.out)
        have HWG := Lib.hid (HWP.out.trans (hb0.mono HWP.out.size))
        have HRG := Lib.hid (HRP.out.on hb0)
        have HTG := Lib.hid hT
        have HNZ := Lib.hid (leads_fine HFine.out hz1)
        clear hb0 hT hz1 a0 a1 a2 a3 a4 a5 HGP HF HRP
        go_upto_region 9 with fail
        have hb0 : Below vG.heap.size vG (vG.alloc (.cells #[.int .i64 z1.kind, .bool z1.tr, .int .i64 z1.num, .string z1.str, .slice C z1.items.length f, .slice C' z1.keys.length f'] 36)) := (Below.refl _ _).alloc (Nat.le_refl _) _
        have hX9 : Blk (vG.alloc (.cells #[.int .i64 z1.kind, .bool z1.tr, .int .i64 z1.num, .string z1.str, .slice C z1.items.length f, .slice C' z1.keys.length f'] 36)) vG.heap.size 36 #[.int .i64 z1.kind, .bool z1.tr, .int .i64 z1.num, .string z1.str, .slice C z1.items.length f, .slice C' z1.keys.length f'] := Blk.new vG _ _
        change Code.wp _ _ _ _ (vG.alloc (.cells #[.int .i64 z1.kind, .bool z1.tr, .int .i64 z1.num, .string z1.str, .slice C z1.items.length f, .slice C' z1.keys.length f'] 36))
        have HT9 := Lib.hid (HTG.out.on hb0)
        have HR9 := Lib.hid (HRG.out.on hb0)
        have HW9 := Lib.hid (HWG.out.trans (hb0.mono HWG.out.size))
        generalize (vG.alloc (.cells #[.int .i64 z1.kind, .bool z1.tr, .int .i64 z1.num, .string z1.str, .slice C z1.items.length f, .slice C' z1.keys.length f'] 36)) = v9 at *
        have HX9 := Lib.hid hX9
        have hl9 := hX9.lt
        clear hb0 hX9 HTG HRG
        generalize hgx : vG.heap.size = gx at *
        have h7 := HS7.out v9 HW9.out
        obtain ⟨⟨b0, b1, b2, b3, b4, b5⟩, _⟩ := h7
        go_wp2_with fail
        refine (rget_any t r Pr cr B d B' d' _ HNI.out.fine (by omega) HR9.out (HT4.out.on HW9.out)).mono ?_
        rintro e0 vU (⟨z2, hz2, U, f2, U', f2', rfl, hT, hb0⟩ | ⟨hno, _⟩)
        rotate_left
        · exact absurd HLr.out (hno z1)
        obtain rfl : z1 = z2 := leads_unique HNI.out.fine HLr.out hz2
        have HWU := Lib.hid (HW9.out.trans (hb0.mono HW9.out.size))
        have HTU := Lib.hid hT
        have HT10 := Lib.hid (HT9.out.on hb0)
        have HX10 := Lib.hid (HX9.out.onto hb0)
        have hl10 := hb0.size
        clear hb0 hT hz2 b0 b1 b2 b3 b4 b5 HT9 HX9
        go_upto_region 10 with fail
        have hb0 : Below vU.heap.size vU (vU.alloc (.cells #[.int .i64 z1.kind, .bool z1.tr, .int .i64 z1.num, .string z1.str, .slice U z1.items.length f2, .slice U' z1.keys.length f2'] 31)) := (Below.refl _ _).alloc (Nat.le_refl _) _
        have hY0 : Blk (vU.alloc (.cells #[.int .i64 z1.kind, .bool z1.tr, .int .i64 z1.num, .string z1.str, .slice U z1.items.length f2, .slice U' z1.keys.length f2'] 31)) vU.heap.size 31 #[.int .i64 z1.kind, .bool z1.tr, .int .i64 z1.num, .string z1.str, .slice U z1.items.length f2, .slice U' z1.keys.length f2'] := Blk.new vU _ _
        change Code.wp _ _ _ _ (vU.alloc (.cells #[.int .i64 z1.kind, .bool z1.tr, .int .i64 z1.num, .string z1.str, .slice U z1.items.length f2, .slice U' z1.keys.length f2'] 31))
        have HTX := Lib.hid (HT10.out.on hb0)
        have HTY := Lib.hid (HTU.out.on hb0)
        have HXX := Lib.hid (HX10.out.onto hb0)
        have HWX := Lib.hid (HWU.out.trans (hb0.mono HWU.out.size))
        generalize (vU.alloc (.cells #[.int .i64 z1.kind, .bool z1.tr, .int .i64 z1.num, .string z1.str, .slice U z1.items.length f2, .slice U' z1.keys.length f2'] 31)) = vX at *
        generalize vU.heap.size = gy at *
        have HYY := Lib.hid hY0
        clear hb0 hY0 HT10 HTU HX10 HWU
        have HSS := Lib.hid (show ∀ w', Below vX.heap.size vX w' → (w'.cell? ⟨gx, 0, none⟩ = some (.int .i64 z1.kind) ∧ w'.cell? ⟨gx, 1, none⟩ = some (.bool z1.tr) ∧ w'.cell? ⟨gx, 2, none⟩ = some (.int .i64 z1.num) ∧ w'.cell? ⟨gx, 3, none⟩ = some (.string z1.str) ∧ w'.cell? ⟨gx, 4, none⟩ = some (.slice C z1.items.length f) ∧ w'.cell? ⟨gx, 5, none⟩ = some (.slice C' z1.keys.length f')) ∧ (w'.cell? ⟨gy, 0, none⟩ = some (.int .i64 z1.kind) ∧ w'.cell? ⟨gy, 1, none⟩ = some (.bool z1.tr) ∧ w'.cell? ⟨gy, 2, none⟩ = some (.int .i64 z1.num) ∧ w'.cell? ⟨gy, 3, none⟩ = some (.string z1.str) ∧ w'.cell? ⟨gy, 4, none⟩ = some (.slice U z1.items.length f2) ∧ w'.cell? ⟨gy, 5, none⟩ = some (.slice U' z1.keys.length f2')) from fun w' hb => by
          have h1 := HXX.out.onto hb
          have h2 := HYY.out.onto hb
          exact ⟨⟨h1.cell 0, h1.cell 1, h1.cell 2, h1.cell 3, h1.cell 4, h1.cell 5⟩, ⟨h2.cell 0, h2.cell 1, h2.cell 2, h2.cell 3, h2.cell 4, h2.cell 5⟩⟩)
        have hgo : Below w.heap.size w vX := HBW.out.trans (HWX.out.mono (by have := HBW.out.size; omega))
        have HGO := Lib.hid hgo
        clear hgo
        refine wp_region_held_drew (S := fun w' => (w'.cell? ⟨gx, 0, none⟩ = some (.int .i64 z1.kind) ∧ w'.cell? ⟨gx, 1, none⟩ = some (.bool z1.tr) ∧ w'.cell? ⟨gx, 2, none⟩ = some (.int .i64 z1.num) ∧ w'.cell? ⟨gx, 3, none⟩ = some (.string z1.str) ∧ w'.cell? ⟨gx, 4, none⟩ = some (.slice C z1.items.length f) ∧ w'.cell? ⟨gx, 5, none⟩ = some (.slice C' z1.keys.length f')) ∧ (w'.cell? ⟨gy, 0, none⟩ = some (.int .i64 z1.kind) ∧ w'.cell? ⟨gy, 1, none⟩ = some (.bool z1.tr) ∧ w'.cell? ⟨gy, 2, none⟩ = some (.int .i64 z1.num) ∧ w'.cell? ⟨gy, 3, none⟩ = some (.string z1.str) ∧ w'.cell? ⟨gy, 4, none⟩ = some (.slice U z1.items.length f2) ∧ w'.cell? ⟨gy, 5, none⟩ = some (.slice U' z1.keys.length f2'))) (by kernel_rfl) ?_ (fun hHeld => ?_)
        · exact HSS.out _ (Below.refl _ _).drew
        refine wpAnyH_take (i := 0) (v := ?_) rfl (by kernel_rfl) (by kernel_rfl) (by kernel_rfl) (fun _ _ _ h => h) (Or.inl ⟨by rfl, ?_⟩) (by assumption) ?_
        rotate_left
        · intro wq hSw
          try dsimp only at hSw
          go_simp
          try (with_reducible rfl)
        try simp only [Act.put, List.getElem_toArray, List.getElem_cons_zero, List.setIfInBounds_toArray, List.set_cons_zero, List.set_cons_succ]
        refine wpAnyH_take (i := 1) (v := ?_) rfl (by kernel_rfl) (by kernel_rfl) (by kernel_rfl) (fun _ _ _ h => h) (Or.inl ⟨by rfl, ?_⟩) (by assumption) ?_
        rotate_left
        · intro wq hSw
          try dsimp only at hSw
          go_simp
          try (with_reducible rfl)
        try simp only [Act.put, List.getElem_toArray, List.getElem_cons_succ, List.getElem_cons_zero, List.setIfInBounds_toArray, List.set_cons_zero, List.set_cons_succ]
        refine wpAnyH_take (i := 2) (v := ?_) rfl (by kernel_rfl) (by kernel_rfl) (by kernel_rfl) (fun _ _ _ h => h) (Or.inl ⟨by rfl, ?_⟩) (by assumption) ?_
        rotate_left
        · intro wq hSw
          try dsimp only at hSw
          go_simp
          try (with_reducible rfl)
        try simp only [Act.put, List.getElem_toArray, List.getElem_cons_succ, List.getElem_cons_zero, List.setIfInBounds_toArray, List.set_cons_zero, List.set_cons_succ]
        refine wpAnyH_take (i := 3) (v := ?_) rfl (by kernel_rfl) (by kernel_rfl) (by kernel_rfl) (fun _ _ _ h => h) (Or.inl ⟨by rfl, ?_⟩) (by assumption) ?_
        rotate_left
        · intro wq hSw
          try dsimp only at hSw
          go_simp
          try (with_reducible rfl)
        try simp only [Act.put, List.getElem_toArray, List.getElem_cons_succ, List.getElem_cons_zero, List.setIfInBounds_toArray, List.set_cons_zero, List.set_cons_succ]
        refine wpAnyH_take (i := 4) (v := ?_) rfl (by kernel_rfl) (by kernel_rfl) (by kernel_rfl) (fun _ _ _ h => h) (Or.inl ⟨by rfl, ?_⟩) (by assumption) ?_
        rotate_left
        · intro wq hSw
          try dsimp only at hSw
          go_simp
          try (with_reducible rfl)
        try simp only [Act.put, List.getElem_toArray, List.getElem_cons_succ, List.getElem_cons_zero, List.setIfInBounds_toArray, List.set_cons_zero, List.set_cons_succ]
        refine wpAnyH_take (i := 5) (v := ?_) rfl (by kernel_rfl) (by kernel_rfl) (by kernel_rfl) (fun _ _ _ h => h) (Or.inl ⟨by rfl, ?_⟩) (by assumption) ?_
        rotate_left
        · intro wq hSw
          try dsimp only at hSw
          go_simp
          try (with_reducible rfl)
        try simp only [Act.put, List.getElem_toArray, List.getElem_cons_succ, List.getElem_cons_zero, List.setIfInBounds_toArray, List.set_cons_zero, List.set_cons_succ]
        refine wpAnyH_take (i := 6) (v := ?_) rfl (by kernel_rfl) (by kernel_rfl) (by kernel_rfl) (fun _ _ _ h => h) (Or.inl ⟨by rfl, ?_⟩) (by assumption) ?_
        rotate_left
        · intro wq hSw
          try dsimp only at hSw
          go_simp
          try (with_reducible rfl)
        try simp only [Act.put, List.getElem_toArray, List.getElem_cons_succ, List.getElem_cons_zero, List.setIfInBounds_toArray, List.set_cons_zero, List.set_cons_succ]
        refine wpAnyH_take (i := 7) (v := ?_) rfl (by kernel_rfl) (by kernel_rfl) (by kernel_rfl) (fun _ _ _ h => h) (Or.inl ⟨by rfl, ?_⟩) (by assumption) ?_
        rotate_left
        · intro wq hSw
          try dsimp only at hSw
          go_simp
          try (with_reducible rfl)
        try simp only [Act.put, List.getElem_toArray, List.getElem_cons_succ, List.getElem_cons_zero, List.setIfInBounds_toArray, List.set_cons_zero, List.set_cons_succ]
        refine wpAnyH_take (i := 9) (v := ?_) rfl (by kernel_rfl) (by kernel_rfl) (by kernel_rfl) (fun _ _ _ h => h) (Or.inl ⟨by rfl, ?_⟩) (by assumption) ?_
        rotate_left
        · intro wq hSw
          try dsimp only at hSw
          go_simp
          try (with_reducible rfl)
        try simp only [Act.put, List.getElem_toArray, List.getElem_cons_succ, List.getElem_cons_zero, List.setIfInBounds_toArray, List.set_cons_zero, List.set_cons_succ]
        refine wpAnyH_ready (rs := [8]) (by kernel_rfl) (by simp) ?_
        refine AllReadyH.cons rfl (fun K0 hK => ?_) ?_
        rotate_left
        · exact AllReadyH.nil
        go_simp
        refine (ref_cells _ z1 C f C' f' _ HNZ.out.le (Nat.le_refl _) (HTX.out.on (Below.refl _ _).drew)).mono ?_
        rintro e9 w9 ⟨R1, r1, R1', r1', rfl, hU, hb9⟩
        unfold T.agg
        have HBc := Lib.hid (show Below vX.heap.size vX w9 from (Below.refl vX.heap.size vX).drew.trans hb9)
        have HU := Lib.hid (show TV w9 (· < w9.heap.size) z1 R1 r1 R1' r1' from hU.wide fun b hb => by
          have h1 := hb9.size
          rcases hb with hb | hb
          · exact Nat.lt_of_lt_of_le (show b < vX.drew.heap.size from hb) h1
          · exact hb.2)
        clear hb9 hU
        go_wp2_with fail
        refine hK.out _ _ ?_ (fun hHeld => ?_)
        · exact HSS.out _ HBc.out
        clear hK K0
        try simp only [Act.put, List.getElem_toArray, List.getElem_cons_succ, List.getElem_cons_zero, List.setIfInBounds_toArray, List.set_cons_zero, List.set_cons_succ]
        refine wpAnyH_ready (rs := [10]) (by kernel_rfl) (by simp) ?_
        refine AllReadyH.cons rfl (fun K0 hK => ?_) ?_
        rotate_left
        · exact AllReadyH.nil
        go_simp
        refine (rsame_cells z1 R1 r1 R1' r1' U f2 U' f2' _ HNZ.out.le HNZ.out.small HU.out (HTY.out.on HBc.out)).mono ?_
        rintro e10 w10 ⟨rfl, hb10⟩
        have HBd := Lib.hid (HBc.out.trans (hb10.mono HBc.out.size))
        clear hb10
        go_wp2_with fail
        refine hK.out _ _ ?_ (fun hHeld => ?_)
        · exact HSS.out _ HBd.out
        clear hK K0
        try simp only [Act.put, List.getElem_toArray, List.getElem_cons_succ, List.getElem_cons_zero, List.setIfInBounds_toArray, List.set_cons_zero, List.set_cons_succ]
        refine wpAnyH_take (i := 11) (v := ?_) rfl (by kernel_rfl) (by kernel_rfl) (by kernel_rfl) (fun _ _ _ h => h) (Or.inl ⟨by rfl, ?_⟩) (by assumption) ?_
        rotate_left
        · intro wq hSw
          try dsimp only at hSw
          go_simp
          try (with_reducible rfl)
        try simp only [Act.put, List.getElem_toArray, List.getElem_cons_succ, List.getElem_cons_zero, List.setIfInBounds_toArray, List.set_cons_zero, List.set_cons_succ]
        refine wpAnyH_take (i := 12) (v := ?_) rfl (by kernel_rfl) (by kernel_rfl) (by kernel_rfl) (fun _ _ _ h => h) (Or.inl ⟨by rfl, ?_⟩) (by assumption) ?_
        rotate_left
        · intro wq hSw
          try dsimp only at hSw
          go_simp
          try (with_reducible rfl)
        try simp only [Act.put, List.getElem_toArray, List.getElem_cons_succ, List.getElem_cons_zero, List.setIfInBounds_toArray, List.set_cons_zero, List.set_cons_succ]
        refine wpAnyH_done (by kernel_rfl) ?_ _
        go_wp2_with fail
        go_ret
        exact ⟨rfl, HGO.out.trans (HBd.out.mono HGO.out.size)⟩

/-- the door's own heap meets the condition -/
theorem door_met (os : Os) (args : Array Value) : laidMetH Tryd.prog Rows.pathApartRow.laid ((World.doorLaid Tryd.prog 4000 os).forCall (fun _ _ => 0) ⟨#[], args, []⟩).memory :=
  laidMetH_of_parts3 (fuel := 8) (laidMet_of_run' 8 (by kernel_rfl) (by kernel_rfl)) (by kernel_rfl) (by kernel_rfl)

set_option maxRecDepth 100000 in
theorem lifted (os : Os) (started : os.Started) (H : Type) (enc : TypeId × Value → H) :
    ReturnsInHanded {} Tryd.checked os 5 .any (fun w args => (Rows.pathApartSpec.pre enc Tryd.prog Tryd.f5 [] false w args ∧ laidMetH Tryd.prog Rows.pathApartRow.laid w) ∧ sizedMet enc Tryd.prog Tryd.f5 (OpenSpec.ofChange Rows.pathApartSpec) false w args)
      (Rows.pathApartSpec.post enc Tryd.prog Tryd.f5 false true false false) := by
  refine returnsInHanded_of_change_and (C := Tryd.checked) (X := fun w _ => laidMetH Tryd.prog Rows.pathApartRow.laid w) (fun _ _ _ hh h => h.of_heap hh) own started (by kernel_rfl) Tryd.func5
    (ChangeSpec.witness_shaped (enc := enc) (C := Tryd.checked) (os := os) (X := fun w _ => laidMetH Tryd.prog Rows.pathApartRow.laid w) false (World.doorLaid Tryd.prog 4000 os) #[.slice none 0 0, .slice none 0 0, .agg #[.int .u16 0, .int .u16 0]] 8 rfl (World.shaped_of_RefB (by kernel_rfl) (by kernel_rfl)) (by kernel_rfl) (by kernel_rfl) (by kernel_rfl) (door_met os _)) ?_
  intro W base args ds gs before hval0 hW _ _ hL _
  have hval : ∀ (j : Nat) t v, Tryd.f5.params[j]? = some t → args[j]? = some v → Value.okWide Tryd.prog W .any base t v := hval0
  have hW' := hW
  obtain ⟨p, q, hA0, hV, rfl, hfz, hnd⟩ := hW
  have hA : DataW.TrodAll enc Tryd.prog W 0 (fun _ => true) true Tryd.f5.params.toList args.toList ds p := hA0
  rw [Tryd.params5] at hA hval
  obtain ⟨v0, vs0, d0, ds0, p0, q0, hargs, rfl, rfl, h0, r0⟩ := trodAll_cons hA
  obtain ⟨v1, vs1, d1, ds1, p1, q1, rfl, rfl, rfl, h1, r1⟩ := trodAll_cons r0
  obtain ⟨v2, vs2, d2, ds2, p2, q2, rfl, rfl, rfl, h2, r2⟩ := trodAll_cons r1
  obtain ⟨rfl, rfl, rfl⟩ := trodAll_nil r2
  obtain rfl : args = #[v0, v1, v2] := by cases args; simp_all
  obtain ⟨rfl, rfl⟩ := trodVars_none hV
  obtain ⟨a0, n0, c0, rfl⟩ := okWide_slice Tryd.underlying22 (hval 0 22 v0 rfl rfl)
  have k0 := h0
  have lt0 : ∀ x ∈ p0, x.block < W.heap.size := by obtain ⟨m, hm⟩ := k0; exact DataW.trod_lt m _ _ _ hm
  obtain ⟨f0, hf0⟩ := h0
  obtain ⟨hnc0, hcm0, hN0⟩ := nodes_open (show DataW.trod enc Tryd.prog W 0 _ _ f0 22 [.slice a0 n0 c0] = some (d0, p0) from hf0)
  obtain ⟨a1, n1, c1, rfl⟩ := okWide_slice Tryd.underlying22 (hval 1 22 v1 rfl rfl)
  have k1 := h1
  have lt1 : ∀ x ∈ p1, x.block < W.heap.size := by obtain ⟨m, hm⟩ := k1; exact DataW.trod_lt m _ _ _ hm
  obtain ⟨f1, hf1⟩ := h1
  obtain ⟨hnc1, hcm1, hN1⟩ := nodes_open (show DataW.trod enc Tryd.prog W 0 _ _ f1 22 [.slice a1 n1 c1] = some (d1, p1) from hf1)
  have k2 := h2
  have lt2 : ∀ x ∈ p2, x.block < W.heap.size := by obtain ⟨m, hm⟩ := k2; exact DataW.trod_lt m _ _ _ hm
  obtain ⟨x2, y2, rfl, hx2, hy2⟩ := pair_open (hval 2 58 v2 rfl rfl) h2
  clear hA0 hval0
  refine (walk a0 n0 c0 a1 n1 c1 x2 y2 W hnc0 hcm0 hN0 hnc1 hcm1 hN1 hx2 hy2 (errs hL)).mono fun e W' ⟨he, bel⟩ => ?_
  subst he
  exact ⟨_, rfl, _, _, _, [], _, [], hW', trodAll_mk1 (shut_bool Tryd.underlying4 _), (trodAll_cons_mk (Below.trod laidOut (by kernel_rfl) (of_decide_eq_true (by kernel_rfl)) k0 bel lt0) (trodAll_cons_mk (Below.trod laidOut (by kernel_rfl) (of_decide_eq_true (by kernel_rfl)) k1 bel lt1) (trodAll_cons_mk (Below.trod laidOut (by kernel_rfl) (of_decide_eq_true (by kernel_rfl)) k2 bel lt2) trodAll_mk0))), rfl, bel.frame _, fun h => by cases h⟩

theorem said : Rows.PathApartSaid :=
  OpenClaim.holds_of_wide 5 Tryd.f5 rfl rfl rfl rfl rfl rfl rfl ⟨rfl, rfl, rfl, rfl, rfl⟩ rfl rfl rfl rfl rfl (by kernel_rfl) Tryd.func5 (by kernel_rfl)
    (of_decide_eq_true (by kernel_rfl)) (by unfold Func.isWrapper; first | (rw [if_pos (by decide +kernel)]; kernel_rfl) | (rw [if_neg (by decide +kernel)]; exact ⟨rfl, rfl⟩))
    (fun os started H enc _ => lifted os started H enc)

/-- no parameter wants a stand-in -/
theorem plain (f : FuncId) (fn : Func) (hf : Tryd.pinned.checked.prog.funcNamed "cheval/chevallaw04.PathApart" = some f) (hfn : Tryd.pinned.checked.prog.funcs[f]? = some fn) :
    true = Tryd.pinned.checked.prog.looks [] ∧ ∀ (j : Nat) t, fn.params[j]? = some t → Tryd.pinned.checked.prog.wantsStandIn t = false := by
  obtain rfl : f = 5 := Option.some.inj ((show Tryd.prog.funcNamed "cheval/chevallaw04.PathApart" = some 5 by kernel_rfl).symm.trans hf) |>.symm
  obtain rfl : fn = Tryd.f5 := (Option.some.inj (Tryd.func5.symm.trans hfn)).symm
  refine ⟨by kernel_rfl, fun j t ht => ?_⟩
  rw [Tryd.params5] at ht
  have hm := Array.mem_of_getElem? ht
  simp only [List.mem_toArray, List.mem_cons, List.not_mem_nil, or_false] at hm
  rcases hm with rfl | rfl | rfl
  · exact (show Tryd.prog.wantsStandIn 22 = false by kernel_rfl)
  · exact (show Tryd.prog.wantsStandIn 22 = false by kernel_rfl)
  · exact (show Tryd.prog.wantsStandIn 58 = false by kernel_rfl)

/-- The statement: the tied card. -/
theorem card : Rows.PathApartCardSaid :=
  Claim7.holds_tied_plain_at .later [] _ _ _ _ said (fun _ h => by cases h) (by kernel_rfl) (fun _ h => by cases h) pathApart_row_tie rfl ⟨rfl, rfl⟩ (by kernel_rfl) rfl plain (by kernel_rfl)
end Go.Proofs.YtmcacmhjhejfeaaDoor.pathApart
