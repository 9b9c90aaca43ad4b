/- What any path leads to from any value, or that it leads nowhere, is the document's: for all values and all paths, at the library's variables as the card says. -/
import Derived.Test.YthkpeomdklcnmaaDoorCards
import Derived.Test.YthkpeomdklcnmaaDoorTie
import Derived.WalkKit
import Derived.ProofKit
import Derived.OpenShut
import Derived.ChangeOld
import Derived.ShutString
import Derived.Below
import Derived.LaidMore
import Derived.Lib.LaidTab
import Derived.Stop.Joined
import Derived.Stop.LaidErr
import Derived.SevenTiedAt
import Derived.Test.YthkpeomdklcnmaaDoorSteps
import Derived.Test.YthkpeomdklcnmaaDoorRget
import Derived.Test.YthkpeomdklcnmaaDoorLTree
import Derived.Test.YthkpeomdklcnmaaDoorCells
import Derived.Test.YthkpeomdklcnmaaDoorOpen
namespace Go.Proofs.YthkpeomdklcnmaaDoor.pathGets
open Go.ChangeShapes Go.WideShapes Go.ChangeAt Go.RowKit
open Go.ChangeMaps (open_string shut_string)
set_option linter.unusedVariables false

theorem own : ownKnob Tryd.prog.godebug = none := by kernel_rfl
theorem laidOut : laidOutB Tryd.prog = true := by kernel_rfl
theorem gRange : Tryd.prog.globalNamed "strconv.ErrRange" = some 1 := by kernel_rfl
theorem gSyntax : Tryd.prog.globalNamed "strconv.ErrSyntax" = some 0 := by kernel_rfl
theorem cell_of_var {W : World} {nm : String} {g : Nat} {v : Value} (hg : Tryd.prog.globalNamed nm = some g) (h : W.var? Tryd.prog nm = some #[v]) : W.cell? ⟨g, 0, none⟩ = some v := by
  unfold World.var? at h
  rw [hg] at h
  simp only [Option.bind_some] at h
  unfold World.cell?
  cases hh : W.heap[g]? with
  | none => rw [hh] at h; cases h
  | some o => rw [hh] at h; cases o <;> simp_all
theorem star : "*" ++ "errors.errorString" = "*errors.errorString" := by decide
theorem rowPtr (u : TypeId) (h : Tryd.prog.typeName? 3 u = some "*errors.errorString") : u = 151 :=
  typeName_ptr_named (nm := "errors.errorString") (by rw [star]; kernel_rfl) (by kernel_rfl) (by decide) u (by rw [star]; exact h)
/-- what the row's list gives -/
theorem errs {W : World} (h : laidMetH Tryd.prog Rows.pathGetsRow.laid W) : Errs W := by
  have h' : laidMet Tryd.prog Rows.pathGetsRow.laid W := h
  obtain ⟨a, s, hv, _⟩ := laid_sentinel h'.tail.tail.tail gRange (by kernel_rfl) Tryd.underlying117 rowPtr Tryd.underlying151 Tryd.underlying153 rfl rfl Tryd.underlying9 (by kernel_rfl) (by kernel_rfl)
  obtain ⟨a2, s2, hv2, _⟩ := laid_sentinel h'.tail.tail.tail.tail gSyntax (by kernel_rfl) Tryd.underlying117 rowPtr Tryd.underlying151 Tryd.underlying153 rfl rfl Tryd.underlying9 (by kernel_rfl) (by kernel_rfl)
  exact ⟨⟨_, _, cell_of_var gSyntax hv2⟩, ⟨_, _, cell_of_var gRange hv⟩⟩

theorem ret_same {x : T} (w : World) (hn : x.Nice) (C : Option Addr) (f : Nat) (C' : Option Addr) (f' : Nat) (D : Option Addr) (e : Nat) (D' : Option Addr) (e' : Nat) (h1 : TV w (· < w.heap.size) x C f C' f') (h2 : TV w (· < w.heap.size) x D e D' e') :
    Calls Tryd.prog 12 #[.agg #[.int .i64 x.kind, .bool x.tr, .int .i64 x.num, .string x.str, .slice C x.items.length f, .slice C' x.keys.length f'], .agg #[.int .i64 x.kind, .bool x.tr, .int .i64 x.num, .string x.str, .slice D x.items.length e, .slice D' x.keys.length e']] w fun r w' => r = .returned (.bool true) ∧ Below w.heap.size w w' := rsame_cells x C f C' f' D e D' e' w hn.le hn.small h1 h2
set_option maxRecDepth 100000 in
set_option maxHeartbeats 16000000 in
theorem walk (A0 : Option Addr) (n c0 : Nat) (p : List ByteArray) (P : Option Addr) (cp : Nat) (w : World) (hnc : n ≤ c0) (hcm : c0 ≤ maxLen) (hN : Nodes w (· < w.heap.size) A0 n) (hlc : p.length ≤ cp) (hpm : cp ≤ maxLen) (hp : SReads w (· < w.heap.size) P p) (hz : ∀ s ∈ p, s.size ≤ maxLen) (he : Errs w) :
    Calls Tryd.prog 3 #[.slice A0 n c0, .slice P p.length cp] w fun e w' => e = .returned (.bool true) ∧ Below w.heap.size w w' := by
  have HN := Lib.hid hN
  have HP := Lib.hid hp
  have HE := Lib.hid he
  clear hN hp he hz
  go_enter Tryd.func3, Tryd.ntmps3
  go_wp2_with fail
  refine (awake4_any _ HE.out).mono ?_
  rintro e w1 ⟨rfl, hb1⟩
  have H1 := Lib.hid hb1
  clear hb1
  go_wp2_with fail
  refine (steps_any p P cp _ (by omega) (HP.out.on H1.out)).mono ?_
  rintro e w2 ⟨b, rfl, hst, hb2⟩
  have H2 := Lib.hid (H1.out.trans (hb2.mono H1.out.size))
  have HST := Lib.hid hst
  clear hb2 hst H1
  cases b with
  | false =>
    go_wp2_with fail
    refine (awake4_any _ (HE.out.on H2.out)).mono ?_
    rintro e w3 ⟨rfl, hb3⟩
    have H3 := Lib.hid (H2.out.trans (hb3.mono H2.out.size))
    clear hb3
    go_wp2_with fail
    go_ret
    exact ⟨rfl, H3.out⟩
  | true =>
    have hp60 := (HST.out rfl).1
    have hp10 := (HST.out rfl).2
    have HP6 := Lib.hid (show ∀ q ∈ p, q.size ≤ 1000 from fun q hq => by have := (hp60 q hq).1; omega)
    clear hp60 HST
    go_wp2_with fail
    refine (tree_any A0 n c0 _ hnc hcm (HN.out.on H2.out)).mono ?_
    rintro e w3 ⟨t, B, d, B', d', rfl, hnice, htv, hb3⟩
    have H3 := Lib.hid (H2.out.trans (hb3.mono H2.out.size))
    have HT := Lib.hid htv
    have HNI := Lib.hid hnice
    clear hb3 H2 htv hnice
    unfold T.agg
    go_upto_region 4 with fail
    have hW : Below w.heap.size w (w3.alloc (.cells #[.int .i64 t.kind, .bool t.tr, .int .i64 t.num, .string t.str, .slice B t.items.length d, .slice B' t.keys.length d'] 28)) := H3.out.alloc H3.out.size _
    have hB : Blk (w3.alloc (.cells #[.int .i64 t.kind, .bool t.tr, .int .i64 t.num, .string t.str, .slice B t.items.length d, .slice B' t.keys.length d'] 28)) w3.heap.size 28 #[.int .i64 t.kind, .bool t.tr, .int .i64 t.num, .string t.str, .slice B t.items.length d, .slice B' t.keys.length d'] := Blk.new w3 _ _
    have hT : TV (w3.alloc (.cells #[.int .i64 t.kind, .bool t.tr, .int .i64 t.num, .string t.str, .slice B t.items.length d, .slice B' t.keys.length d'] 28)) (· < (w3.alloc (.cells #[.int .i64 t.kind, .bool t.tr, .int .i64 t.num, .string t.str, .slice B t.items.length d, .slice B' t.keys.length d'] 28)).heap.size) t B d B' d' := HT.out.on ((Below.refl _ _).alloc (Nat.le_refl _) _)
    change Code.wp _ _ _ _ (w3.alloc (.cells #[.int .i64 t.kind, .bool t.tr, .int .i64 t.num, .string t.str, .slice B t.items.length d, .slice B' t.keys.length d'] 28))
    generalize (w3.alloc (.cells #[.int .i64 t.kind, .bool t.tr, .int .i64 t.num, .string t.str, .slice B t.items.length d, .slice B' t.keys.length d'] 28)) = W at *
    clear HT H3
    generalize w3.heap.size = G at *
    clear w3
    have HW := Lib.hid hW
    have HT := Lib.hid hT
    have HB := Lib.hid hB
    obtain ⟨a0, a1, a2, a3, a4, a5⟩ : W.cell? ⟨G, 0, none⟩ = some (.int .i64 t.kind) ∧ W.cell? ⟨G, 1, none⟩ = some (.bool t.tr) ∧ W.cell? ⟨G, 2, none⟩ = some (.int .i64 t.num) ∧ W.cell? ⟨G, 3, none⟩ = some (.string t.str) ∧ W.cell? ⟨G, 4, none⟩ = some (.slice B t.items.length d) ∧ W.cell? ⟨G, 5, none⟩ = some (.slice B' t.keys.length d') := ⟨hB.cell 0, hB.cell 1, hB.cell 2, hB.cell 3, hB.cell 4, hB.cell 5⟩
    clear hW hT hB
    go_wp2_with fail
    refine (real_cells t B d B' d' _ HNI.out.le HNI.out.small HT.out).mono ?_
    rintro e w4 ⟨E, g, E', g', rfl, hT4, hb4⟩
    unfold T.agg
    have HR := Lib.hid (show TV w4 (· < w4.heap.size) t E g E' g' from hT4.wide fun b hb => hb.2)
    have H4 := Lib.hid hb4
    have HW4 := Lib.hid (HW.out.trans (hb4.mono HW.out.size))
    clear hT4 hb4
    go_wp2_with fail
    refine (get_any t p P cp E g E' g' _ HNI.out.fine (HE.out.on HW4.out) HP6.out (by omega) (HP.out.on HW4.out) HR.out).mono ?_
    rintro e w5 (⟨x, hx, C, f, C', f', rfl, hT5, hb5⟩ | ⟨hno, rfl, hb5⟩)
    · skip
      have H5 := Lib.hid (H4.out.trans (hb5.mono H4.out.size))
      have HX5 := Lib.hid hT5
      have HLX := Lib.hid hx
      have HXN := Lib.hid (leads_nice HNI.out hx)
      clear hb5 hT5 hx HR HW4 H4 a0 a1 a2 a3 a4 a5
      go_upto_region 5 with fail
      have hb6 : Below W.heap.size W (w5.alloc (.cells #[.int .i64 x.kind, .bool x.tr, .int .i64 x.num, .string x.str, .slice C x.items.length f, .slice C' x.keys.length f'] 32)) := H5.out.alloc H5.out.size _
      have hX6 : Blk (w5.alloc (.cells #[.int .i64 x.kind, .bool x.tr, .int .i64 x.num, .string x.str, .slice C x.items.length f, .slice C' x.keys.length f'] 32)) w5.heap.size 32 #[.int .i64 x.kind, .bool x.tr, .int .i64 x.num, .string x.str, .slice C x.items.length f, .slice C' x.keys.length f'] := Blk.new w5 _ _
      have hT6 : TV (w5.alloc (.cells #[.int .i64 x.kind, .bool x.tr, .int .i64 x.num, .string x.str, .slice C x.items.length f, .slice C' x.keys.length f'] 32)) (· < (w5.alloc (.cells #[.int .i64 x.kind, .bool x.tr, .int .i64 x.num, .string x.str, .slice C x.items.length f, .slice C' x.keys.length f'] 32)).heap.size) x C f C' f' := HX5.out.on ((Below.refl _ _).alloc (Nat.le_refl _) _)
      change Code.wp _ _ _ _ (w5.alloc (.cells #[.int .i64 x.kind, .bool x.tr, .int .i64 x.num, .string x.str, .slice C x.items.length f, .slice C' x.keys.length f'] 32))
      generalize (w5.alloc (.cells #[.int .i64 x.kind, .bool x.tr, .int .i64 x.num, .string x.str, .slice C x.items.length f, .slice C' x.keys.length f'] 32)) = W6 at *
      clear HX5 H5
      generalize w5.heap.size = K at *
      clear w5
      have H6 := Lib.hid hb6
      have HX6 := Lib.hid hX6
      have HT6 := Lib.hid hT6
      have hB6 := HB.out.onto hb6
      obtain ⟨a0, a1, a2, a3, a4, a5⟩ : W6.cell? ⟨G, 0, none⟩ = some (.int .i64 t.kind) ∧ W6.cell? ⟨G, 1, none⟩ = some (.bool t.tr) ∧ W6.cell? ⟨G, 2, none⟩ = some (.int .i64 t.num) ∧ W6.cell? ⟨G, 3, none⟩ = some (.string t.str) ∧ W6.cell? ⟨G, 4, none⟩ = some (.slice B t.items.length d) ∧ W6.cell? ⟨G, 5, none⟩ = some (.slice B' t.keys.length d') := ⟨hB6.cell 0, hB6.cell 1, hB6.cell 2, hB6.cell 3, hB6.cell 4, hB6.cell 5⟩
      have HW6 := Lib.hid (HW.out.trans (hb6.mono HW.out.size))
      clear hb6 hX6 hT6 hB6
      go_wp2_with fail
      refine (rget_any t p P cp B d B' d' _ HNI.out.fine (by omega) (HP.out.on HW6.out) (HT.out.on H6.out)).mono ?_
      rintro e w7 (⟨y, hy, D, f2, D', f2', rfl, hT7, hb7⟩ | ⟨hno, _⟩)
      rotate_left
      · exact absurd HLX.out (hno x)
      obtain rfl : x = y := leads_unique HNI.out.fine HLX.out hy
      have H7 := Lib.hid hb7
      have HY7 := Lib.hid hT7
      clear hb7 hT7 hy a0 a1 a2 a3 a4 a5
      go_upto_region 6 with fail
      have hb8 : Below W6.heap.size W6 (w7.alloc (.cells #[.int .i64 x.kind, .bool x.tr, .int .i64 x.num, .string x.str, .slice D x.items.length f2, .slice D' x.keys.length f2'] 28)) := H7.out.alloc H7.out.size _
      have hY8 : Blk (w7.alloc (.cells #[.int .i64 x.kind, .bool x.tr, .int .i64 x.num, .string x.str, .slice D x.items.length f2, .slice D' x.keys.length f2'] 28)) w7.heap.size 28 #[.int .i64 x.kind, .bool x.tr, .int .i64 x.num, .string x.str, .slice D x.items.length f2, .slice D' x.keys.length f2'] := Blk.new w7 _ _
      have hT8 : TV (w7.alloc (.cells #[.int .i64 x.kind, .bool x.tr, .int .i64 x.num, .string x.str, .slice D x.items.length f2, .slice D' x.keys.length f2'] 28)) (· < (w7.alloc (.cells #[.int .i64 x.kind, .bool x.tr, .int .i64 x.num, .string x.str, .slice D x.items.length f2, .slice D' x.keys.length f2'] 28)).heap.size) x D f2 D' f2' := HY7.out.on ((Below.refl _ _).alloc (Nat.le_refl _) _)
      change Code.wp _ _ _ _ (w7.alloc (.cells #[.int .i64 x.kind, .bool x.tr, .int .i64 x.num, .string x.str, .slice D x.items.length f2, .slice D' x.keys.length f2'] 28))
      generalize (w7.alloc (.cells #[.int .i64 x.kind, .bool x.tr, .int .i64 x.num, .string x.str, .slice D x.items.length f2, .slice D' x.keys.length f2'] 28)) = W8 at *
      clear HY7 H7
      generalize w7.heap.size = L at *
      clear w7
      have HW8 := Lib.hid (HW6.out.trans (hb8.mono HW6.out.size))
      have HX8 := Lib.hid (HX6.out.onto hb8)
      have HTX := Lib.hid (HT6.out.on hb8)
      have HTY := Lib.hid hT8
      have HY8 := Lib.hid hY8
      clear hb8 hY8 hT8 H6 HX6 HT6 HW6
      have HSS := Lib.hid (show ∀ w', Below W8.heap.size W8 w' → (w'.cell? ⟨K, 0, none⟩ = some (.int .i64 x.kind) ∧ w'.cell? ⟨K, 1, none⟩ = some (.bool x.tr) ∧ w'.cell? ⟨K, 2, none⟩ = some (.int .i64 x.num) ∧ w'.cell? ⟨K, 3, none⟩ = some (.string x.str) ∧ w'.cell? ⟨K, 4, none⟩ = some (.slice C x.items.length f) ∧ w'.cell? ⟨K, 5, none⟩ = some (.slice C' x.keys.length f')) ∧ (w'.cell? ⟨L, 0, none⟩ = some (.int .i64 x.kind) ∧ w'.cell? ⟨L, 1, none⟩ = some (.bool x.tr) ∧ w'.cell? ⟨L, 2, none⟩ = some (.int .i64 x.num) ∧ w'.cell? ⟨L, 3, none⟩ = some (.string x.str) ∧ w'.cell? ⟨L, 4, none⟩ = some (.slice D x.items.length f2) ∧ w'.cell? ⟨L, 5, none⟩ = some (.slice D' x.keys.length f2')) from fun w' hb => by
        have h1 := HX8.out.onto hb
        have h2 := HY8.out.onto hb
        exact ⟨⟨h1.cell 0, h1.cell 1, h1.cell 2, h1.cell 3, h1.cell 4, h1.cell 5⟩, ⟨h2.cell 0, h2.cell 1, h2.cell 2, h2.cell 3, h2.cell 4, h2.cell 5⟩⟩)
      refine wp_region_held_drew (S := fun w' => (w'.cell? ⟨K, 0, none⟩ = some (.int .i64 x.kind) ∧ w'.cell? ⟨K, 1, none⟩ = some (.bool x.tr) ∧ w'.cell? ⟨K, 2, none⟩ = some (.int .i64 x.num) ∧ w'.cell? ⟨K, 3, none⟩ = some (.string x.str) ∧ w'.cell? ⟨K, 4, none⟩ = some (.slice C x.items.length f) ∧ w'.cell? ⟨K, 5, none⟩ = some (.slice C' x.keys.length f')) ∧ (w'.cell? ⟨L, 0, none⟩ = some (.int .i64 x.kind) ∧ w'.cell? ⟨L, 1, none⟩ = some (.bool x.tr) ∧ w'.cell? ⟨L, 2, none⟩ = some (.int .i64 x.num) ∧ w'.cell? ⟨L, 3, none⟩ = some (.string x.str) ∧ w'.cell? ⟨L, 4, none⟩ = some (.slice D x.items.length f2) ∧ w'.cell? ⟨L, 5, none⟩ = some (.slice D' x.keys.length f2'))) (by kernel_rfl) ?_ (fun hHeld => ?_)
      · exact HSS.out _ (Below.refl _ _).drew
      refine wpAnyH_take (i := 0) (v := ?_) rfl (by kernel_rfl) (by kernel_rfl) (by kernel_rfl) (fun _ _ _ h => h) (Or.inl ⟨by rfl, ?_⟩) (by assumption) ?_
      rotate_left
      · intro wq hSw
        try dsimp only at hSw
        go_simp
        try (with_reducible rfl)
      try simp only [Act.put, List.getElem_toArray, List.getElem_cons_zero, List.setIfInBounds_toArray, List.set_cons_zero, List.set_cons_succ]
      refine wpAnyH_take (i := 1) (v := ?_) rfl (by kernel_rfl) (by kernel_rfl) (by kernel_rfl) (fun _ _ _ h => h) (Or.inl ⟨by rfl, ?_⟩) (by assumption) ?_
      rotate_left
      · intro wq hSw
        try dsimp only at hSw
        go_simp
        try (with_reducible rfl)
      try simp only [Act.put, List.getElem_toArray, List.getElem_cons_succ, List.getElem_cons_zero, List.setIfInBounds_toArray, List.set_cons_zero, List.set_cons_succ]
      refine wpAnyH_take (i := 2) (v := ?_) rfl (by kernel_rfl) (by kernel_rfl) (by kernel_rfl) (fun _ _ _ h => h) (Or.inl ⟨by rfl, ?_⟩) (by assumption) ?_
      rotate_left
      · intro wq hSw
        try dsimp only at hSw
        go_simp
        try (with_reducible rfl)
      try simp only [Act.put, List.getElem_toArray, List.getElem_cons_succ, List.getElem_cons_zero, List.setIfInBounds_toArray, List.set_cons_zero, List.set_cons_succ]
      refine wpAnyH_take (i := 3) (v := ?_) rfl (by kernel_rfl) (by kernel_rfl) (by kernel_rfl) (fun _ _ _ h => h) (Or.inl ⟨by rfl, ?_⟩) (by assumption) ?_
      rotate_left
      · intro wq hSw
        try dsimp only at hSw
        go_simp
        try (with_reducible rfl)
      try simp only [Act.put, List.getElem_toArray, List.getElem_cons_succ, List.getElem_cons_zero, List.setIfInBounds_toArray, List.set_cons_zero, List.set_cons_succ]
      refine wpAnyH_take (i := 4) (v := ?_) rfl (by kernel_rfl) (by kernel_rfl) (by kernel_rfl) (fun _ _ _ h => h) (Or.inl ⟨by rfl, ?_⟩) (by assumption) ?_
      rotate_left
      · intro wq hSw
        try dsimp only at hSw
        go_simp
        try (with_reducible rfl)
      try simp only [Act.put, List.getElem_toArray, List.getElem_cons_succ, List.getElem_cons_zero, List.setIfInBounds_toArray, List.set_cons_zero, List.set_cons_succ]
      refine wpAnyH_take (i := 5) (v := ?_) rfl (by kernel_rfl) (by kernel_rfl) (by kernel_rfl) (fun _ _ _ h => h) (Or.inl ⟨by rfl, ?_⟩) (by assumption) ?_
      rotate_left
      · intro wq hSw
        try dsimp only at hSw
        go_simp
        try (with_reducible rfl)
      try simp only [Act.put, List.getElem_toArray, List.getElem_cons_succ, List.getElem_cons_zero, List.setIfInBounds_toArray, List.set_cons_zero, List.set_cons_succ]
      refine wpAnyH_take (i := 6) (v := ?_) rfl (by kernel_rfl) (by kernel_rfl) (by kernel_rfl) (fun _ _ _ h => h) (Or.inl ⟨by rfl, ?_⟩) (by assumption) ?_
      rotate_left
      · intro wq hSw
        try dsimp only at hSw
        go_simp
        try (with_reducible rfl)
      try simp only [Act.put, List.getElem_toArray, List.getElem_cons_succ, List.getElem_cons_zero, List.setIfInBounds_toArray, List.set_cons_zero, List.set_cons_succ]
      refine wpAnyH_take (i := 7) rfl (by kernel_rfl) (by kernel_rfl) (by kernel_rfl) (fun _ _ _ h => h) (Or.inr ⟨by rfl, rfl⟩) (by assumption) ?_
      try simp only [Act.put, List.getElem_toArray, List.getElem_cons_succ, List.getElem_cons_zero, List.setIfInBounds_toArray, List.set_cons_zero, List.set_cons_succ]
      refine wpAnyH_take (i := 8) rfl (by kernel_rfl) (by kernel_rfl) (by kernel_rfl) (fun _ _ _ h => h) (Or.inr ⟨by rfl, rfl⟩) (by assumption) ?_
      try simp only [Act.put, List.getElem_toArray, List.getElem_cons_succ, List.getElem_cons_zero, List.setIfInBounds_toArray, List.set_cons_zero, List.set_cons_succ]
      refine wpAnyH_take (i := 9) (v := ?_) rfl (by kernel_rfl) (by kernel_rfl) (by kernel_rfl) (fun _ _ _ h => h) (Or.inl ⟨by rfl, ?_⟩) (by assumption) ?_
      rotate_left
      · intro wq hSw
        try dsimp only at hSw
        go_simp
        try (with_reducible rfl)
      try simp only [Act.put, List.getElem_toArray, List.getElem_cons_succ, List.getElem_cons_zero, List.setIfInBounds_toArray, List.set_cons_zero, List.set_cons_succ]
      refine wpAnyH_take (i := 10) (v := ?_) rfl (by kernel_rfl) (by kernel_rfl) (by kernel_rfl) (fun _ _ _ h => h) (Or.inl ⟨by rfl, ?_⟩) (by assumption) ?_
      rotate_left
      · intro wq hSw
        try dsimp only at hSw
        go_simp
        try (with_reducible rfl)
      try simp only [Act.put, List.getElem_toArray, List.getElem_cons_succ, List.getElem_cons_zero, List.setIfInBounds_toArray, List.set_cons_zero, List.set_cons_succ]
      refine wpAnyH_take (i := 11) (v := ?_) rfl (by kernel_rfl) (by kernel_rfl) (by kernel_rfl) (fun _ _ _ h => h) (Or.inl ⟨by rfl, ?_⟩) (by assumption) ?_
      rotate_left
      · intro wq hSw
        try dsimp only at hSw
        go_simp
        try (with_reducible rfl)
      try simp only [Act.put, List.getElem_toArray, List.getElem_cons_succ, List.getElem_cons_zero, List.setIfInBounds_toArray, List.set_cons_zero, List.set_cons_succ]
      refine wpAnyH_take (i := 12) (v := ?_) rfl (by kernel_rfl) (by kernel_rfl) (by kernel_rfl) (fun _ _ _ h => h) (Or.inl ⟨by rfl, ?_⟩) (by assumption) ?_
      rotate_left
      · intro wq hSw
        try dsimp only at hSw
        go_simp
        try (with_reducible rfl)
      try simp only [Act.put, List.getElem_toArray, List.getElem_cons_succ, List.getElem_cons_zero, List.setIfInBounds_toArray, List.set_cons_zero, List.set_cons_succ]
      refine wpAnyH_take (i := 14) (v := ?_) rfl (by kernel_rfl) (by kernel_rfl) (by kernel_rfl) (fun _ _ _ h => h) (Or.inl ⟨by rfl, ?_⟩) (by assumption) ?_
      rotate_left
      · intro wq hSw
        try dsimp only at hSw
        go_simp
        try (with_reducible rfl)
      try simp only [Act.put, List.getElem_toArray, List.getElem_cons_succ, List.getElem_cons_zero, List.setIfInBounds_toArray, List.set_cons_zero, List.set_cons_succ]
      refine wpAnyH_ready (rs := [13]) (by kernel_rfl) (by simp) ?_
      refine AllReadyH.cons rfl (fun K0 hK => ?_) ?_
      rotate_left
      · exact AllReadyH.nil
      go_simp
      refine (ref_cells _ x C f C' f' _ HXN.out.le (Nat.le_refl _) (HTX.out.on (Below.refl _ _).drew)).mono ?_
      rintro e9 w9 ⟨U, f3, U', f3', rfl, hU, hb9⟩
      unfold T.agg
      have HBc := Lib.hid (show Below W8.heap.size W8 w9 from (Below.refl W8.heap.size W8).drew.trans hb9)
      have HU := Lib.hid (show TV w9 (· < w9.heap.size) x U f3 U' f3' from hU.wide fun b hb => by
        have h1 := hb9.size
        rcases hb with hb | hb
        · have hb : b < W8.drew.heap.size := hb
          show b < w9.heap.size
          exact Nat.lt_of_lt_of_le hb h1
        · exact hb.2)
      clear hb9 hU
      go_wp2_with fail
      refine hK.out _ _ ?_ (fun hHeld => ?_)
      · exact HSS.out _ HBc.out
      clear hK K0
      try simp only [Act.put, List.getElem_toArray, List.getElem_cons_succ, List.getElem_cons_zero, List.setIfInBounds_toArray, List.set_cons_zero, List.set_cons_succ]
      refine wpAnyH_ready (rs := [15]) (by kernel_rfl) (by simp) ?_
      refine AllReadyH.cons rfl (fun K0 hK => ?_) ?_
      rotate_left
      · exact AllReadyH.nil
      go_simp
      refine (ret_same _ HXN.out U f3 U' f3' D f2 D' f2' HU.out (HTY.out.on HBc.out)).mono ?_
      rintro e10 w10 ⟨rfl, hb10⟩
      have HBd := Lib.hid (HBc.out.trans (hb10.mono HBc.out.size))
      clear hb10
      go_wp2_with fail
      refine hK.out _ _ ?_ (fun hHeld => ?_)
      · exact HSS.out _ HBd.out
      clear hK K0
      try simp only [Act.put, List.getElem_toArray, List.getElem_cons_succ, List.getElem_cons_zero, List.setIfInBounds_toArray, List.set_cons_zero, List.set_cons_succ]
      refine wpAnyH_take (i := 16) (v := ?_) rfl (by kernel_rfl) (by kernel_rfl) (by kernel_rfl) (fun _ _ _ h => h) (Or.inl ⟨by rfl, ?_⟩) (by assumption) ?_
      rotate_left
      · intro wq hSw
        try dsimp only at hSw
        go_simp
        try (with_reducible rfl)
      try simp only [Act.put, List.getElem_toArray, List.getElem_cons_succ, List.getElem_cons_zero, List.setIfInBounds_toArray, List.set_cons_zero, List.set_cons_succ]
      refine wpAnyH_take (i := 17) (v := ?_) rfl (by kernel_rfl) (by kernel_rfl) (by kernel_rfl) (fun _ _ _ h => h) (Or.inl ⟨by rfl, ?_⟩) (by assumption) ?_
      rotate_left
      · intro wq hSw
        try dsimp only at hSw
        go_simp
        try (with_reducible rfl)
      try simp only [Act.put, List.getElem_toArray, List.getElem_cons_succ, List.getElem_cons_zero, List.setIfInBounds_toArray, List.set_cons_zero, List.set_cons_succ]
      refine wpAnyH_done (by kernel_rfl) ?_ _
      go_wp2_with fail
      go_ret
      exact ⟨rfl, HW8.out.trans (HBd.out.mono HW8.out.size)⟩
    · skip
      have H5 := Lib.hid (H4.out.trans (hb5.mono H4.out.size))
      have HNO := Lib.hid hno
      clear hb5 hno HR HW4 H4 a0 a1 a2 a3 a4 a5
      go_upto_region 5 with fail
      have hb6 : Below W.heap.size W (w5.alloc (.cells #[.int .i64 0, .bool false, .int .i64 0, .string ⟨#[]⟩, .slice none 0 0, .slice none 0 0] 32)) := H5.out.alloc H5.out.size _
      have hX6 : Blk (w5.alloc (.cells #[.int .i64 0, .bool false, .int .i64 0, .string ⟨#[]⟩, .slice none 0 0, .slice none 0 0] 32)) w5.heap.size 32 #[.int .i64 0, .bool false, .int .i64 0, .string ⟨#[]⟩, .slice none 0 0, .slice none 0 0] := Blk.new w5 _ _
      change Code.wp _ _ _ _ (w5.alloc (.cells #[.int .i64 0, .bool false, .int .i64 0, .string ⟨#[]⟩, .slice none 0 0, .slice none 0 0] 32))
      generalize (w5.alloc (.cells #[.int .i64 0, .bool false, .int .i64 0, .string ⟨#[]⟩, .slice none 0 0, .slice none 0 0] 32)) = W6 at *
      clear H5
      generalize w5.heap.size = K at *
      clear w5
      have H6 := Lib.hid hb6
      have HX6 := Lib.hid hX6
      have hB6 := HB.out.onto hb6
      obtain ⟨a0, a1, a2, a3, a4, a5⟩ : W6.cell? ⟨G, 0, none⟩ = some (.int .i64 t.kind) ∧ W6.cell? ⟨G, 1, none⟩ = some (.bool t.tr) ∧ W6.cell? ⟨G, 2, none⟩ = some (.int .i64 t.num) ∧ W6.cell? ⟨G, 3, none⟩ = some (.string t.str) ∧ W6.cell? ⟨G, 4, none⟩ = some (.slice B t.items.length d) ∧ W6.cell? ⟨G, 5, none⟩ = some (.slice B' t.keys.length d') := ⟨hB6.cell 0, hB6.cell 1, hB6.cell 2, hB6.cell 3, hB6.cell 4, hB6.cell 5⟩
      have HW6 := Lib.hid (HW.out.trans (hb6.mono HW.out.size))
      clear hb6 hX6 hB6
      go_wp2_with fail
      refine (rget_any t p P cp B d B' d' _ HNI.out.fine (by omega) (HP.out.on HW6.out) (HT.out.on H6.out)).mono ?_
      rintro e w7 (⟨y, hy, _⟩ | ⟨_, rfl, hb7⟩)
      · exact absurd hy (HNO.out y)
      have H7 := Lib.hid hb7
      clear hb7 a0 a1 a2 a3 a4 a5
      go_upto_region 6 with fail
      have hb8 : Below W6.heap.size W6 (w7.alloc (.cells #[.int .i64 0, .bool false, .int .i64 0, .string ⟨#[]⟩, .slice none 0 0, .slice none 0 0] 28)) := H7.out.alloc H7.out.size _
      have hY8 : Blk (w7.alloc (.cells #[.int .i64 0, .bool false, .int .i64 0, .string ⟨#[]⟩, .slice none 0 0, .slice none 0 0] 28)) w7.heap.size 28 #[.int .i64 0, .bool false, .int .i64 0, .string ⟨#[]⟩, .slice none 0 0, .slice none 0 0] := Blk.new w7 _ _
      change Code.wp _ _ _ _ (w7.alloc (.cells #[.int .i64 0, .bool false, .int .i64 0, .string ⟨#[]⟩, .slice none 0 0, .slice none 0 0] 28))
      generalize (w7.alloc (.cells #[.int .i64 0, .bool false, .int .i64 0, .string ⟨#[]⟩, .slice none 0 0, .slice none 0 0] 28)) = W8 at *
      clear H7
      generalize w7.heap.size = L at *
      clear w7
      have HW8 := Lib.hid (HW6.out.trans (hb8.mono HW6.out.size))
      have HX8 := Lib.hid (HX6.out.onto hb8)
      have HY8 := Lib.hid hY8
      clear hb8 hY8 H6 HX6 HW6
      have HSS := Lib.hid (show ∀ w', Below W8.heap.size W8 w' → (w'.cell? ⟨K, 0, none⟩ = some (.int .i64 T.zero.kind) ∧ w'.cell? ⟨K, 1, none⟩ = some (.bool T.zero.tr) ∧ w'.cell? ⟨K, 2, none⟩ = some (.int .i64 T.zero.num) ∧ w'.cell? ⟨K, 3, none⟩ = some (.string T.zero.str) ∧ w'.cell? ⟨K, 4, none⟩ = some (.slice none T.zero.items.length 0) ∧ w'.cell? ⟨K, 5, none⟩ = some (.slice none T.zero.keys.length 0)) ∧ (w'.cell? ⟨L, 0, none⟩ = some (.int .i64 T.zero.kind) ∧ w'.cell? ⟨L, 1, none⟩ = some (.bool T.zero.tr) ∧ w'.cell? ⟨L, 2, none⟩ = some (.int .i64 T.zero.num) ∧ w'.cell? ⟨L, 3, none⟩ = some (.string T.zero.str) ∧ w'.cell? ⟨L, 4, none⟩ = some (.slice none T.zero.items.length 0) ∧ w'.cell? ⟨L, 5, none⟩ = some (.slice none T.zero.keys.length 0)) from fun w' hb => by
        have h1 := HX8.out.onto hb
        have h2 := HY8.out.onto hb
        exact ⟨⟨h1.cell 0, h1.cell 1, h1.cell 2, h1.cell 3, h1.cell 4, h1.cell 5⟩, ⟨h2.cell 0, h2.cell 1, h2.cell 2, h2.cell 3, h2.cell 4, h2.cell 5⟩⟩)
      have HBc := Lib.hid (Below.refl W8.heap.size W8)
      go_region_held3 (fun w' => (w'.cell? ⟨K, 0, none⟩ = some (.int .i64 0) ∧ w'.cell? ⟨K, 1, none⟩ = some (.bool false) ∧ w'.cell? ⟨K, 2, none⟩ = some (.int .i64 0) ∧ w'.cell? ⟨K, 3, none⟩ = some (.string ⟨#[]⟩) ∧ w'.cell? ⟨K, 4, none⟩ = some (.slice none 0 0) ∧ w'.cell? ⟨K, 5, none⟩ = some (.slice none 0 0)) ∧ (w'.cell? ⟨L, 0, none⟩ = some (.int .i64 0) ∧ w'.cell? ⟨L, 1, none⟩ = some (.bool false) ∧ w'.cell? ⟨L, 2, none⟩ = some (.int .i64 0) ∧ w'.cell? ⟨L, 3, none⟩ = some (.string ⟨#[]⟩) ∧ w'.cell? ⟨L, 4, none⟩ = some (.slice none 0 0) ∧ w'.cell? ⟨L, 5, none⟩ = some (.slice none 0 0)))
        (first
          | exact HSS.out _ HBc.out
          | exact HSS.out _ (below_drewN HBc.out _)
          | exact HSS.out _ HBc.out.drew
          | go_keep)
        (first
          | (go_at_call 13
             with_reducible refine (ref_zero _).mono ?_
             rintro e9 w9 ⟨U, f3, U', f3', rfl, hU, hb9⟩
             have HBc := Lib.hid (show Below W8.heap.size W8 w9 from by first | with_reducible exact HBc.out.trans (hb9.mono HBc.out.size) | with_reducible exact (below_drewN HBc.out _).trans (hb9.mono HBc.out.size) | exact HBc.out.drew.trans (hb9.mono HBc.out.size))
             have HU := Lib.hid hU
             have HBr := Lib.hid (Below.refl w9.heap.size w9)
             clear hb9 hU)
          | (go_at_call 12
             with_reducible refine (rsame_zero U f3 U' f3' _ (HU.out.on ?_)).mono ?_
             · exact (by first | with_reducible exact HBr.out | with_reducible exact below_drewN HBr.out _ | exact HBr.out.drew)
             rintro e8 w10 ⟨rfl, hb10⟩
             have HBc := Lib.hid (show Below W8.heap.size W8 w10 from by first | with_reducible exact HBc.out.trans (hb10.mono HBc.out.size) | with_reducible exact (below_drewN HBc.out _).trans (hb10.mono HBc.out.size) | exact HBc.out.drew.trans (hb10.mono HBc.out.size))
             clear hb10))
      all_goals
        go_wp2_with fail
        go_ret
        exact ⟨rfl, HW8.out.trans (HBc.out.mono HW8.out.size)⟩

/-- the door's own heap meets the condition -/
theorem door_met (os : Os) (args : Array Value) : laidMetH Tryd.prog Rows.pathGetsRow.laid ((World.doorLaid Tryd.prog 4000 os).forCall (fun _ _ => 0) ⟨#[], args, []⟩).memory :=
  laidMetH_of_parts3 (fuel := 8) (laidMet_of_run' 8 (by kernel_rfl) (by kernel_rfl)) (by kernel_rfl) (by kernel_rfl)

set_option maxRecDepth 100000 in
theorem lifted (os : Os) (started : os.Started) (H : Type) (enc : TypeId × Value → H) :
    ReturnsInHanded {} Tryd.checked os 3 .any (fun w args => (Rows.pathGetsSpec.pre enc Tryd.prog Tryd.f3 [] false w args ∧ laidMetH Tryd.prog Rows.pathGetsRow.laid w) ∧ sizedMet enc Tryd.prog Tryd.f3 (OpenSpec.ofChange Rows.pathGetsSpec) false w args)
      (Rows.pathGetsSpec.post enc Tryd.prog Tryd.f3 false true false false) := by
  refine returnsInHanded_of_change_and (C := Tryd.checked) (X := fun w _ => laidMetH Tryd.prog Rows.pathGetsRow.laid w) (fun _ _ _ hh h => h.of_heap hh) own started (by kernel_rfl) Tryd.func3
    (ChangeSpec.witness_shaped (enc := enc) (C := Tryd.checked) (os := os) (X := fun w _ => laidMetH Tryd.prog Rows.pathGetsRow.laid w) false (World.doorLaid Tryd.prog 4000 os) #[.slice none 0 0, .slice none 0 0] 8 rfl (World.shaped_of_RefB (by kernel_rfl) (by kernel_rfl)) (by kernel_rfl) (by kernel_rfl) (by kernel_rfl) (door_met os _)) ?_
  intro W base args ds gs before hval0 hW _ _ hL _
  have hval : ∀ (j : Nat) t v, Tryd.f3.params[j]? = some t → args[j]? = some v → Value.okWide Tryd.prog W .any base t v := hval0
  have hW' := hW
  obtain ⟨p, q, hA0, hV, rfl, hfz, hnd⟩ := hW
  have hA : DataW.TrodAll enc Tryd.prog W 0 (fun _ => true) true Tryd.f3.params.toList args.toList ds p := hA0
  rw [Tryd.params3] at hA hval
  obtain ⟨v0, vs0, d0, ds0, p0, q0, hargs, rfl, rfl, h0, r0⟩ := trodAll_cons hA
  obtain ⟨v1, vs1, d1, ds1, p1, q1, rfl, rfl, rfl, h1, r1⟩ := trodAll_cons r0
  obtain ⟨rfl, rfl, rfl⟩ := trodAll_nil r1
  obtain rfl : args = #[v0, v1] := by cases args; simp_all
  obtain ⟨rfl, rfl⟩ := trodVars_none hV
  obtain ⟨a0, n0, c0, rfl⟩ := okWide_slice Tryd.underlying22 (hval 0 22 v0 rfl rfl)
  have k0 := h0
  have lt0 : ∀ x ∈ p0, x.block < W.heap.size := by obtain ⟨m, hm⟩ := k0; exact DataW.trod_lt m _ _ _ hm
  obtain ⟨f0, hf0⟩ := h0
  obtain ⟨hnc0, hcm0, hN0⟩ := nodes_open (show DataW.trod enc Tryd.prog W 0 _ _ f0 22 [.slice a0 n0 c0] = some (d0, p0) from hf0)
  obtain ⟨a1, n1, c1, rfl⟩ := okWide_slice Tryd.underlying23 (hval 1 23 v1 rfl rfl)
  have k1 := h1
  have lt1 : ∀ x ∈ p1, x.block < W.heap.size := by obtain ⟨m, hm⟩ := k1; exact DataW.trod_lt m _ _ _ hm
  obtain ⟨f1, hf1⟩ := h1
  obtain ⟨hnc1, hcm1, l1, rfl, hr1, hz1⟩ := strs_open (show DataW.trod enc Tryd.prog W 0 _ _ f1 23 [.slice a1 n1 c1] = some (d1, p1) from hf1)
  clear hA0 hval0
  refine (walk a0 n0 c0 l1 a1 c1 W hnc0 hcm0 hN0 hnc1 hcm1 hr1 hz1 (errs hL)).mono fun e W' ⟨he, bel⟩ => ?_
  subst he
  exact ⟨_, rfl, _, _, _, [], _, [], hW', trodAll_mk1 (shut_bool Tryd.underlying4 _), (trodAll_cons_mk (Below.trod laidOut (by kernel_rfl) (of_decide_eq_true (by kernel_rfl)) k0 bel lt0) (trodAll_cons_mk (Below.trod laidOut (by kernel_rfl) (of_decide_eq_true (by kernel_rfl)) k1 bel lt1) trodAll_mk0)), rfl, bel.frame _, fun h => by cases h⟩

theorem said : Rows.PathGetsSaid :=
  OpenClaim.holds_of_wide 3 Tryd.f3 rfl rfl rfl rfl rfl rfl rfl ⟨rfl, rfl, rfl, rfl, rfl⟩ rfl rfl rfl rfl rfl (by kernel_rfl) Tryd.func3 (by kernel_rfl)
    (of_decide_eq_true (by kernel_rfl)) (by unfold Func.isWrapper; first | (rw [if_pos (by decide +kernel)]; kernel_rfl) | (rw [if_neg (by decide +kernel)]; exact ⟨rfl, rfl⟩))
    (fun os started H enc _ => lifted os started H enc)

/-- no parameter wants a stand-in -/
theorem plain (f : FuncId) (fn : Func) (hf : Tryd.pinned.checked.prog.funcNamed "cheval/chevallaw04.PathGets" = some f) (hfn : Tryd.pinned.checked.prog.funcs[f]? = some fn) :
    true = Tryd.pinned.checked.prog.looks [] ∧ ∀ (j : Nat) t, fn.params[j]? = some t → Tryd.pinned.checked.prog.wantsStandIn t = false := by
  obtain rfl : f = 3 := Option.some.inj ((show Tryd.prog.funcNamed "cheval/chevallaw04.PathGets" = some 3 by kernel_rfl).symm.trans hf) |>.symm
  obtain rfl : fn = Tryd.f3 := (Option.some.inj (Tryd.func3.symm.trans hfn)).symm
  refine ⟨by kernel_rfl, fun j t ht => ?_⟩
  rw [Tryd.params3] at ht
  have hm := Array.mem_of_getElem? ht
  simp only [List.mem_toArray, List.mem_cons, List.not_mem_nil, or_false] at hm
  rcases hm with rfl | rfl
  · exact (show Tryd.prog.wantsStandIn 22 = false by kernel_rfl)
  · exact (show Tryd.prog.wantsStandIn 23 = false by kernel_rfl)

/-- The statement: the tied card. -/
theorem card : Rows.PathGetsCardSaid :=
  Claim7.holds_tied_plain_at .later [] _ _ _ _ said (fun _ h => by cases h) (by kernel_rfl) (fun _ h => by cases h) pathGets_row_tie rfl ⟨rfl, rfl⟩ (by kernel_rfl) rfl plain (by kernel_rfl)
end Go.Proofs.YthkpeomdklcnmaaDoor.pathGets
