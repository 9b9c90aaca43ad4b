/- Contract of the reference's Parse. -/
import Derived.Test.YteoaapjejhjknaaDoorNumber
namespace Go.Proofs.YteoaapjejhjknaaDoor
open Go.RowKit
open Fg De

theorem fits_true {x : Value} {z : Int} {w : World} (hx : Nz w w.heap.size x z) (hz : Sm 100 z) (h : In64 z) :
    Calls Tryd.prog 19 #[x] w fun e w' => e = .returned (.bool true) ∧ Below w.heap.size w w' := by
  have := fits_any x z w hx hz; rwa [fits_yes h] at this
theorem fits_false {x : Value} {z : Int} {w : World} (hx : Nz w w.heap.size x z) (hz : Sm 100 z) (h : ¬ In64 z) :
    Calls Tryd.prog 19 #[x] w fun e w' => e = .returned (.bool false) ∧ Below w.heap.size w w' := by
  have := fits_any x z w hx hz; rwa [fits_no h] at this
theorem form_f {s : ByteArray} {w : World} (hs : s.size ≤ 1000) (b : Bool) (h : form s.data.toList = b) :
    Calls Tryd.prog 16 #[.string s] w fun e w' => e = .returned (.bool b) ∧ w = w' := by
  have := form_any s w hs; rwa [h] at this

/-- how Parse ends where the text has the number z -/
def GivesP (z : Int) (w : World) (e : Ending) (w' : World) : Prop :=
  ∃ b A n c, e = .returned (.tuple #[.agg #[.bool b, .slice A n c], .int .i64 0]) ∧ Nz w' w'.heap.size (.agg #[.bool b, .slice A n c]) z ∧ Below w.heap.size w w'
theorem gives_p {z : Int} {w W : World} {b : Bool} {A : Option Addr} {n c : Nat} (h : GivesN z w (.returned (.agg #[.bool b, .slice A n c])) W) : GivesP z w (.returned (.tuple #[.agg #[.bool b, .slice A n c], .int .i64 0])) W := by
  obtain ⟨v, e, h1, h2⟩ := h
  injection e with e
  subst e
  exact ⟨b, A, n, c, rfl, h1, h2⟩

set_option maxRecDepth 100000 in
set_option maxHeartbeats 2000000 in
theorem rparse_bad (s : ByteArray) (w : World) (hs : s.size ≤ 1000) (hf : form s.data.toList = false) :
    Calls Tryd.prog 7 #[.string s] w fun e w' => e = .returned (.tuple #[.agg #[.bool false, .slice none 0 0], .int .i64 1]) ∧ Below w.heap.size w w' := by
  have Hf := Lib.hid hf
  clear hf
  go_enter Tryd.func7, Tryd.ntmps7
  go_wp2_with fail
  refine (form_f hs false Hf.out).mono ?_
  rintro e w' ⟨rfl, rfl⟩
  go_wp2_with fail
  exact bodyPost_ret (v := .tuple #[.agg #[.bool false, .slice none 0 0], .int .i64 1]) (by simp [results, Tryd.results7, go_sem]) rfl ⟨rfl, (Below.refl _ _).alloc (Nat.le_refl _) _⟩

set_option maxRecDepth 100000 in
set_option maxHeartbeats 4000000 in
theorem rparse_ok1 (s : ByteArray) (w : World) (hs : s.size ≤ 60) (hf : form s.data.toList = true) (hi : In64 (numL s.data.toList)) (hsg : s.data.toList.head? = some 45) :
    Calls Tryd.prog 7 #[.string s] w (GivesP (numL s.data.toList) w) := by
  have hL : s.data.toList.length = s.size := Array.length_toList
  obtain ⟨hne, hdig⟩ := form_digs hf
  obtain ⟨D, hD⟩ : ∃ D, s.data.toList = 45 :: D := by
    cases h : s.data.toList with
    | nil => rw [h] at hsg; cases hsg
    | cons c D => rw [h] at hsg; simp at hsg; exact ⟨D, by rw [hsg]⟩
  have hg : digs s.data.toList = D := by rw [hD]; rfl
  have hDl : D.length + 1 = s.size := by rw [← hL, hD]; rfl
  have hs0 : 0 < s.size := by omega
  have e0 : ∀ h, (s[0]'h).toNat = 45 := by intro h; rw [byte_at, hD]; rfl
  have hnum : numL s.data.toList = -(decF 0 D : Int) := by unfold numL; rw [if_pos hsg, hg]
  have Hx := Lib.hid (show (s.extract 1 s.size).data.toList = D by rw [Lib.extract_data, hD, List.drop_succ_cons, List.drop_zero, List.take_of_length_le (by omega)])
  rw [hg] at hdig
  have hs0i : (0 : Int) < (s.size : Int) := by omega
  have Hdig := Lib.hid hdig
  have Hf := Lib.hid hf
  have Hi := Lib.hid (show In64 (-(decF 0 D : Int)) by rw [← hnum]; exact hi)
  have Hnum := Lib.hid hnum
  have Hsm := Lib.hid (sm_dec hdig (by omega))
  clear hL hne hdig hsg hD hg hnum hf hi
  go_enter Tryd.func7, Tryd.ntmps7
  go_wp2_with fail
  refine (form_f (by omega) true Hf.out).mono ?_
  rintro e w' ⟨rfl, rfl⟩
  go_wp2_with fail
  have h3 := two w #[.bool false, .slice none 0 0] #[.bool false, .slice none 0 0]
  generalize (w.alloc (Obj.cells #[.bool false, .slice none 0 0] 28)).alloc (Obj.cells #[.bool false, .slice none 0 0] 28) = W at h3 ⊢
  generalize w.heap.size + 1 = g1 at h3 ⊢
  obtain ⟨b0, b1, hbw, hz1, hz2⟩ := h3
  have B0 := Lib.hid b0
  have B1 := Lib.hid b1
  have HBW := Lib.hid hbw
  clear b0 b1 hbw
  refine (number_any _ D _ Hx.out Hdig.out (by omega)).mono ?_
  rintro e w2 h2
  obtain ⟨b2, A2, n2, c2, rfl, hn2, hb2, _⟩ := nz_of h2
  have V2 := Lib.hid hb2
  have N2 := Lib.hid hn2
  have T2 := Lib.hid (B1.out.on hb2 hz2)
  have U2 := Lib.hid (B0.out.on hb2 (by omega))
  have hz3 : g1 < w2.heap.size := T2.out.lt
  clear h2 hn2 hb2
  go_wp2_with fail
  refine (neg_any _ (decF 0 D : Int) _ N2.out (Hsm.out.mono (by decide))).mono ?_
  rintro e w3 h3
  obtain ⟨b3, A3, n3, c3, rfl, hn3, hb3, _⟩ := nz_of h3
  have V3 := Lib.hid (V2.out.trans (hb3.mono V2.out.size))
  have N3 := Lib.hid hn3
  have T3 := Lib.hid (B1.out.on V3.out hz2)
  have U3 := Lib.hid (B0.out.on V3.out (by omega))
  have Hsm3 := Lib.hid (Hsm.out.neg.mono (by decide : 15 ≤ 100))
  have hz4 : g1 < w3.heap.size := T3.out.lt
  clear h3 hn3 hb3
  have x0 : w3.cell? ⟨g1, 0, none⟩ = some (.bool false) := T3.out.cell 0
  have x1 : w3.cell? ⟨g1, 1, none⟩ = some (.slice none 0 0) := T3.out.cell 1
  have x2 : w3.frozen? ⟨g1, 0, none⟩ = false := T3.out.free 0
  have x3 : w3.frozen? ⟨g1, 1, none⟩ = false := T3.out.free 1
  have F1 := Lib.hid ((T3.out.set_ 0 (.bool b3)).set_ 1 (.slice A3 n3 c3))
  have F0 := Lib.hid ((U3.out.far (p := ⟨g1, 0, none⟩) (by show w.heap.size ≠ g1; omega) (.bool b3)).far (p := ⟨g1, 1, none⟩) (by show w.heap.size ≠ g1; omega) (.slice A3 n3 c3))
  have FN := Lib.hid (((N3.out.set T3.out (by decide) 0 (.bool b3)).set (T3.out.set_ 0 (.bool b3)) (by decide) 1 (.slice A3 n3 c3)).more (show w3.heap.size ≤ ((w3.setCell ⟨g1, 0, none⟩ (.bool b3)).setCell ⟨g1, 1, none⟩ (.slice A3 n3 c3)).heap.size by simp [World.setCell]))
  have FB := Lib.hid (((HBW.out.trans (V3.out.mono HBW.out.size)).setCell (p := ⟨g1, 0, none⟩) (by show w.heap.size ≤ g1; omega) (.bool b3)).setCell (p := ⟨g1, 1, none⟩) (by show w.heap.size ≤ g1; omega) (.slice A3 n3 c3))
  go_wp2_with fail
  generalize (w3.setCell ⟨g1, 0, none⟩ (.bool b3)).setCell ⟨g1, 1, none⟩ (.slice A3 n3 c3) = Y at F0 F1 FN FB ⊢
  refine (fits_true FN.out Hsm3.out Hi.out).mono ?_
  rintro e w5 ⟨rfl, hb5⟩
  have G0 := Lib.hid (F0.out.on hb5 F0.out.lt)
  have G1 := Lib.hid (F1.out.on hb5 F1.out.lt)
  have GN := Lib.hid (FN.out.on hb5)
  have GB := Lib.hid (FB.out.trans (hb5.mono FB.out.size))
  have y0 : w5.cell? ⟨w.heap.size, 0, none⟩ = some (.bool false) := G0.out.cell 0
  have y1 : w5.cell? ⟨w.heap.size, 1, none⟩ = some (.slice none 0 0) := G0.out.cell 1
  have y2 : w5.frozen? ⟨w.heap.size, 0, none⟩ = false := G0.out.free 0
  have y3 : w5.frozen? ⟨w.heap.size, 1, none⟩ = false := G0.out.free 1
  have z0 : w5.cell? ⟨g1, 0, none⟩ = some (.bool b3) := G1.out.cell 0
  have z1 : w5.cell? ⟨g1, 1, none⟩ = some (.slice A3 n3 c3) := G1.out.cell 1
  clear hb5
  have HG := Lib.hid (gives_p (gives_set GN.out GB.out G0.out (Nat.le_refl _) (.bool b3) (.slice A3 n3 c3)))
  go_wp2_with fail
  refine bodyPost_ret (v := .tuple #[.agg #[.bool b3, .slice A3 n3 c3], .int .i64 0]) (by simp [results, Tryd.results7, go_sem, y0, y1]) rfl ?_
  rw [Hnum.out]
  exact HG.out

set_option maxRecDepth 100000 in
set_option maxHeartbeats 4000000 in
theorem rparse_far1 (s : ByteArray) (w : World) (hs : s.size ≤ 60) (hf : form s.data.toList = true) (hi : ¬ In64 (numL s.data.toList)) (hsg : s.data.toList.head? = some 45) :
    Calls Tryd.prog 7 #[.string s] w fun e w' => e = .returned (.tuple #[.agg #[.bool false, .slice none 0 0], .int .i64 4]) ∧ Below w.heap.size w w' := by
  have hL : s.data.toList.length = s.size := Array.length_toList
  obtain ⟨hne, hdig⟩ := form_digs hf
  obtain ⟨D, hD⟩ : ∃ D, s.data.toList = 45 :: D := by
    cases h : s.data.toList with
    | nil => rw [h] at hsg; cases hsg
    | cons c D => rw [h] at hsg; simp at hsg; exact ⟨D, by rw [hsg]⟩
  have hg : digs s.data.toList = D := by rw [hD]; rfl
  have hDl : D.length + 1 = s.size := by rw [← hL, hD]; rfl
  have hs0 : 0 < s.size := by omega
  have e0 : ∀ h, (s[0]'h).toNat = 45 := by intro h; rw [byte_at, hD]; rfl
  have hnum : numL s.data.toList = -(decF 0 D : Int) := by unfold numL; rw [if_pos hsg, hg]
  have Hx := Lib.hid (show (s.extract 1 s.size).data.toList = D by rw [Lib.extract_data, hD, List.drop_succ_cons, List.drop_zero, List.take_of_length_le (by omega)])
  rw [hg] at hdig
  have hs0i : (0 : Int) < (s.size : Int) := by omega
  have Hdig := Lib.hid hdig
  have Hf := Lib.hid hf
  have Hi := Lib.hid (show ¬ In64 (-(decF 0 D : Int)) by rw [← hnum]; exact hi)
  have Hnum := Lib.hid hnum
  have Hsm := Lib.hid (sm_dec hdig (by omega))
  clear hL hne hdig hsg hD hg hnum hf hi
  go_enter Tryd.func7, Tryd.ntmps7
  go_wp2_with fail
  refine (form_f (by omega) true Hf.out).mono ?_
  rintro e w' ⟨rfl, rfl⟩
  go_wp2_with fail
  have h3 := two w #[.bool false, .slice none 0 0] #[.bool false, .slice none 0 0]
  generalize (w.alloc (Obj.cells #[.bool false, .slice none 0 0] 28)).alloc (Obj.cells #[.bool false, .slice none 0 0] 28) = W at h3 ⊢
  generalize w.heap.size + 1 = g1 at h3 ⊢
  obtain ⟨b0, b1, hbw, hz1, hz2⟩ := h3
  have B0 := Lib.hid b0
  have B1 := Lib.hid b1
  have HBW := Lib.hid hbw
  clear b0 b1 hbw
  refine (number_any _ D _ Hx.out Hdig.out (by omega)).mono ?_
  rintro e w2 h2
  obtain ⟨b2, A2, n2, c2, rfl, hn2, hb2, _⟩ := nz_of h2
  have V2 := Lib.hid hb2
  have N2 := Lib.hid hn2
  have T2 := Lib.hid (B1.out.on hb2 hz2)
  have U2 := Lib.hid (B0.out.on hb2 (by omega))
  have hz3 : g1 < w2.heap.size := T2.out.lt
  clear h2 hn2 hb2
  go_wp2_with fail
  refine (neg_any _ (decF 0 D : Int) _ N2.out (Hsm.out.mono (by decide))).mono ?_
  rintro e w3 h3
  obtain ⟨b3, A3, n3, c3, rfl, hn3, hb3, _⟩ := nz_of h3
  have V3 := Lib.hid (V2.out.trans (hb3.mono V2.out.size))
  have N3 := Lib.hid hn3
  have T3 := Lib.hid (B1.out.on V3.out hz2)
  have U3 := Lib.hid (B0.out.on V3.out (by omega))
  have Hsm3 := Lib.hid (Hsm.out.neg.mono (by decide : 15 ≤ 100))
  have hz4 : g1 < w3.heap.size := T3.out.lt
  clear h3 hn3 hb3
  have x0 : w3.cell? ⟨g1, 0, none⟩ = some (.bool false) := T3.out.cell 0
  have x1 : w3.cell? ⟨g1, 1, none⟩ = some (.slice none 0 0) := T3.out.cell 1
  have x2 : w3.frozen? ⟨g1, 0, none⟩ = false := T3.out.free 0
  have x3 : w3.frozen? ⟨g1, 1, none⟩ = false := T3.out.free 1
  have F1 := Lib.hid ((T3.out.set_ 0 (.bool b3)).set_ 1 (.slice A3 n3 c3))
  have F0 := Lib.hid ((U3.out.far (p := ⟨g1, 0, none⟩) (by show w.heap.size ≠ g1; omega) (.bool b3)).far (p := ⟨g1, 1, none⟩) (by show w.heap.size ≠ g1; omega) (.slice A3 n3 c3))
  have FN := Lib.hid (((N3.out.set T3.out (by decide) 0 (.bool b3)).set (T3.out.set_ 0 (.bool b3)) (by decide) 1 (.slice A3 n3 c3)).more (show w3.heap.size ≤ ((w3.setCell ⟨g1, 0, none⟩ (.bool b3)).setCell ⟨g1, 1, none⟩ (.slice A3 n3 c3)).heap.size by simp [World.setCell]))
  have FB := Lib.hid (((HBW.out.trans (V3.out.mono HBW.out.size)).setCell (p := ⟨g1, 0, none⟩) (by show w.heap.size ≤ g1; omega) (.bool b3)).setCell (p := ⟨g1, 1, none⟩) (by show w.heap.size ≤ g1; omega) (.slice A3 n3 c3))
  go_wp2_with fail
  generalize (w3.setCell ⟨g1, 0, none⟩ (.bool b3)).setCell ⟨g1, 1, none⟩ (.slice A3 n3 c3) = Y at F0 F1 FN FB ⊢
  refine (fits_false FN.out Hsm3.out Hi.out).mono ?_
  rintro e w5 ⟨rfl, hb5⟩
  have G0 := Lib.hid (F0.out.on hb5 F0.out.lt)
  have G1 := Lib.hid (F1.out.on hb5 F1.out.lt)
  have GN := Lib.hid (FN.out.on hb5)
  have GB := Lib.hid (FB.out.trans (hb5.mono FB.out.size))
  have y0 : w5.cell? ⟨w.heap.size, 0, none⟩ = some (.bool false) := G0.out.cell 0
  have y1 : w5.cell? ⟨w.heap.size, 1, none⟩ = some (.slice none 0 0) := G0.out.cell 1
  have y2 : w5.frozen? ⟨w.heap.size, 0, none⟩ = false := G0.out.free 0
  have y3 : w5.frozen? ⟨w.heap.size, 1, none⟩ = false := G0.out.free 1
  have z0 : w5.cell? ⟨g1, 0, none⟩ = some (.bool b3) := G1.out.cell 0
  have z1 : w5.cell? ⟨g1, 1, none⟩ = some (.slice A3 n3 c3) := G1.out.cell 1
  clear hb5
  have HG := Lib.hid ((GB.out.setCell (p := ⟨w.heap.size, 0, none⟩) (Nat.le_refl _) (.bool false)).setCell (p := ⟨w.heap.size, 1, none⟩) (Nat.le_refl _) (.slice none 0 0))
  go_wp2_with fail
  refine bodyPost_ret (v := .tuple #[.agg #[.bool false, .slice none 0 0], .int .i64 4]) (by simp [results, Tryd.results7, go_sem, y0, y1]) rfl ?_
  exact ⟨rfl, HG.out⟩

set_option maxRecDepth 100000 in
set_option maxHeartbeats 4000000 in
theorem rparse_ok0 (s : ByteArray) (w : World) (hs : s.size ≤ 60) (hf : form s.data.toList = true) (hi : In64 (numL s.data.toList)) (hsg : s.data.toList.head? ≠ some 45) :
    Calls Tryd.prog 7 #[.string s] w (GivesP (numL s.data.toList) w) := by
  have hL : s.data.toList.length = s.size := Array.length_toList
  obtain ⟨hne, hdig⟩ := form_digs hf
  obtain ⟨D, hD⟩ : ∃ D, s.data.toList = D := ⟨_, rfl⟩
  have hg : digs s.data.toList = D := by unfold digs; rw [if_neg hsg]; exact hD
  have hDl : D.length = s.size := by rw [← hL, hD]
  have hnum : numL s.data.toList = (decF 0 D : Int) := by unfold numL; rw [if_neg hsg, hg]
  rw [hg] at hne
  have hs0 : 0 < s.size := by have := List.length_pos_iff.2 hne; omega
  have e0 : ∀ h, (s[0]'h).toNat = (D.getD 0 0).toNat := by intro h; rw [byte_at, hD]
  have t0 : (((D.getD 0 0).toNat : Int) == 45) = false := by
    have : (D.getD 0 0).toNat ≠ 45 := by
      intro h
      cases D with
      | nil => exact hne rfl
      | cons c D => rw [hD] at hsg; simp at h hsg; exact hsg (UInt8.toNat_inj.1 (by rw [h]; rfl))
    rw [beq_eq_false_iff_ne]; omega
  have Hx := Lib.hid hD
  generalize (D.getD 0 0).toNat = x at *
  rw [hg] at hdig
  have hs0i : (0 : Int) < (s.size : Int) := by omega
  have Hdig := Lib.hid hdig
  have Hf := Lib.hid hf
  have Hi := Lib.hid (show In64 ((decF 0 D : Int)) by rw [← hnum]; exact hi)
  have Hnum := Lib.hid hnum
  have Hsm := Lib.hid (sm_dec hdig (by omega))
  clear hL hne hdig hsg hD hg hnum hf hi
  go_enter Tryd.func7, Tryd.ntmps7
  go_wp2_with fail
  refine (form_f (by omega) true Hf.out).mono ?_
  rintro e w' ⟨rfl, rfl⟩
  go_wp2_with fail
  have h3 := two w #[.bool false, .slice none 0 0] #[.bool false, .slice none 0 0]
  generalize (w.alloc (Obj.cells #[.bool false, .slice none 0 0] 28)).alloc (Obj.cells #[.bool false, .slice none 0 0] 28) = W at h3 ⊢
  generalize w.heap.size + 1 = g1 at h3 ⊢
  obtain ⟨b0, b1, hbw, hz1, hz2⟩ := h3
  have B0 := Lib.hid b0
  have B1 := Lib.hid b1
  have HBW := Lib.hid hbw
  clear b0 b1 hbw
  refine (number_any _ D _ Hx.out Hdig.out (by omega)).mono ?_
  rintro e w2 h2
  obtain ⟨b2, A2, n2, c2, rfl, hn2, hb2, _⟩ := nz_of h2
  have V2 := Lib.hid hb2
  have N2 := Lib.hid hn2
  have T2 := Lib.hid (B1.out.on hb2 hz2)
  have U2 := Lib.hid (B0.out.on hb2 (by omega))
  have hz3 : g1 < w2.heap.size := T2.out.lt
  clear h2 hn2 hb2
  have Hsm2 := Lib.hid (Hsm.out.mono (by decide : 15 ≤ 100))
  have x0 : w2.cell? ⟨g1, 0, none⟩ = some (.bool false) := T2.out.cell 0
  have x1 : w2.cell? ⟨g1, 1, none⟩ = some (.slice none 0 0) := T2.out.cell 1
  have x2 : w2.frozen? ⟨g1, 0, none⟩ = false := T2.out.free 0
  have x3 : w2.frozen? ⟨g1, 1, none⟩ = false := T2.out.free 1
  have F1 := Lib.hid ((T2.out.set_ 0 (.bool b2)).set_ 1 (.slice A2 n2 c2))
  have F0 := Lib.hid ((U2.out.far (p := ⟨g1, 0, none⟩) (by show w.heap.size ≠ g1; omega) (.bool b2)).far (p := ⟨g1, 1, none⟩) (by show w.heap.size ≠ g1; omega) (.slice A2 n2 c2))
  have FN := Lib.hid (((N2.out.set T2.out (by decide) 0 (.bool b2)).set (T2.out.set_ 0 (.bool b2)) (by decide) 1 (.slice A2 n2 c2)).more (show w2.heap.size ≤ ((w2.setCell ⟨g1, 0, none⟩ (.bool b2)).setCell ⟨g1, 1, none⟩ (.slice A2 n2 c2)).heap.size by simp [World.setCell]))
  have FB := Lib.hid (((HBW.out.trans (V2.out.mono HBW.out.size)).setCell (p := ⟨g1, 0, none⟩) (by show w.heap.size ≤ g1; omega) (.bool b2)).setCell (p := ⟨g1, 1, none⟩) (by show w.heap.size ≤ g1; omega) (.slice A2 n2 c2))
  go_wp2_with fail
  generalize (w2.setCell ⟨g1, 0, none⟩ (.bool b2)).setCell ⟨g1, 1, none⟩ (.slice A2 n2 c2) = Y at F0 F1 FN FB ⊢
  refine (fits_true FN.out Hsm2.out Hi.out).mono ?_
  rintro e w5 ⟨rfl, hb5⟩
  have G0 := Lib.hid (F0.out.on hb5 F0.out.lt)
  have G1 := Lib.hid (F1.out.on hb5 F1.out.lt)
  have GN := Lib.hid (FN.out.on hb5)
  have GB := Lib.hid (FB.out.trans (hb5.mono FB.out.size))
  have y0 : w5.cell? ⟨w.heap.size, 0, none⟩ = some (.bool false) := G0.out.cell 0
  have y1 : w5.cell? ⟨w.heap.size, 1, none⟩ = some (.slice none 0 0) := G0.out.cell 1
  have y2 : w5.frozen? ⟨w.heap.size, 0, none⟩ = false := G0.out.free 0
  have y3 : w5.frozen? ⟨w.heap.size, 1, none⟩ = false := G0.out.free 1
  have z0 : w5.cell? ⟨g1, 0, none⟩ = some (.bool b2) := G1.out.cell 0
  have z1 : w5.cell? ⟨g1, 1, none⟩ = some (.slice A2 n2 c2) := G1.out.cell 1
  clear hb5
  have HG := Lib.hid (gives_p (gives_set GN.out GB.out G0.out (Nat.le_refl _) (.bool b2) (.slice A2 n2 c2)))
  go_wp2_with fail
  refine bodyPost_ret (v := .tuple #[.agg #[.bool b2, .slice A2 n2 c2], .int .i64 0]) (by simp [results, Tryd.results7, go_sem, y0, y1]) rfl ?_
  rw [Hnum.out]
  exact HG.out

set_option maxRecDepth 100000 in
set_option maxHeartbeats 4000000 in
theorem rparse_far0 (s : ByteArray) (w : World) (hs : s.size ≤ 60) (hf : form s.data.toList = true) (hi : ¬ In64 (numL s.data.toList)) (hsg : s.data.toList.head? ≠ some 45) :
    Calls Tryd.prog 7 #[.string s] w fun e w' => e = .returned (.tuple #[.agg #[.bool false, .slice none 0 0], .int .i64 4]) ∧ Below w.heap.size w w' := by
  have hL : s.data.toList.length = s.size := Array.length_toList
  obtain ⟨hne, hdig⟩ := form_digs hf
  obtain ⟨D, hD⟩ : ∃ D, s.data.toList = D := ⟨_, rfl⟩
  have hg : digs s.data.toList = D := by unfold digs; rw [if_neg hsg]; exact hD
  have hDl : D.length = s.size := by rw [← hL, hD]
  have hnum : numL s.data.toList = (decF 0 D : Int) := by unfold numL; rw [if_neg hsg, hg]
  rw [hg] at hne
  have hs0 : 0 < s.size := by have := List.length_pos_iff.2 hne; omega
  have e0 : ∀ h, (s[0]'h).toNat = (D.getD 0 0).toNat := by intro h; rw [byte_at, hD]
  have t0 : (((D.getD 0 0).toNat : Int) == 45) = false := by
    have : (D.getD 0 0).toNat ≠ 45 := by
      intro h
      cases D with
      | nil => exact hne rfl
      | cons c D => rw [hD] at hsg; simp at h hsg; exact hsg (UInt8.toNat_inj.1 (by rw [h]; rfl))
    rw [beq_eq_false_iff_ne]; omega
  have Hx := Lib.hid hD
  generalize (D.getD 0 0).toNat = x at *
  rw [hg] at hdig
  have hs0i : (0 : Int) < (s.size : Int) := by omega
  have Hdig := Lib.hid hdig
  have Hf := Lib.hid hf
  have Hi := Lib.hid (show ¬ In64 ((decF 0 D : Int)) by rw [← hnum]; exact hi)
  have Hnum := Lib.hid hnum
  have Hsm := Lib.hid (sm_dec hdig (by omega))
  clear hL hne hdig hsg hD hg hnum hf hi
  go_enter Tryd.func7, Tryd.ntmps7
  go_wp2_with fail
  refine (form_f (by omega) true Hf.out).mono ?_
  rintro e w' ⟨rfl, rfl⟩
  go_wp2_with fail
  have h3 := two w #[.bool false, .slice none 0 0] #[.bool false, .slice none 0 0]
  generalize (w.alloc (Obj.cells #[.bool false, .slice none 0 0] 28)).alloc (Obj.cells #[.bool false, .slice none 0 0] 28) = W at h3 ⊢
  generalize w.heap.size + 1 = g1 at h3 ⊢
  obtain ⟨b0, b1, hbw, hz1, hz2⟩ := h3
  have B0 := Lib.hid b0
  have B1 := Lib.hid b1
  have HBW := Lib.hid hbw
  clear b0 b1 hbw
  refine (number_any _ D _ Hx.out Hdig.out (by omega)).mono ?_
  rintro e w2 h2
  obtain ⟨b2, A2, n2, c2, rfl, hn2, hb2, _⟩ := nz_of h2
  have V2 := Lib.hid hb2
  have N2 := Lib.hid hn2
  have T2 := Lib.hid (B1.out.on hb2 hz2)
  have U2 := Lib.hid (B0.out.on hb2 (by omega))
  have hz3 : g1 < w2.heap.size := T2.out.lt
  clear h2 hn2 hb2
  have Hsm2 := Lib.hid (Hsm.out.mono (by decide : 15 ≤ 100))
  have x0 : w2.cell? ⟨g1, 0, none⟩ = some (.bool false) := T2.out.cell 0
  have x1 : w2.cell? ⟨g1, 1, none⟩ = some (.slice none 0 0) := T2.out.cell 1
  have x2 : w2.frozen? ⟨g1, 0, none⟩ = false := T2.out.free 0
  have x3 : w2.frozen? ⟨g1, 1, none⟩ = false := T2.out.free 1
  have F1 := Lib.hid ((T2.out.set_ 0 (.bool b2)).set_ 1 (.slice A2 n2 c2))
  have F0 := Lib.hid ((U2.out.far (p := ⟨g1, 0, none⟩) (by show w.heap.size ≠ g1; omega) (.bool b2)).far (p := ⟨g1, 1, none⟩) (by show w.heap.size ≠ g1; omega) (.slice A2 n2 c2))
  have FN := Lib.hid (((N2.out.set T2.out (by decide) 0 (.bool b2)).set (T2.out.set_ 0 (.bool b2)) (by decide) 1 (.slice A2 n2 c2)).more (show w2.heap.size ≤ ((w2.setCell ⟨g1, 0, none⟩ (.bool b2)).setCell ⟨g1, 1, none⟩ (.slice A2 n2 c2)).heap.size by simp [World.setCell]))
  have FB := Lib.hid (((HBW.out.trans (V2.out.mono HBW.out.size)).setCell (p := ⟨g1, 0, none⟩) (by show w.heap.size ≤ g1; omega) (.bool b2)).setCell (p := ⟨g1, 1, none⟩) (by show w.heap.size ≤ g1; omega) (.slice A2 n2 c2))
  go_wp2_with fail
  generalize (w2.setCell ⟨g1, 0, none⟩ (.bool b2)).setCell ⟨g1, 1, none⟩ (.slice A2 n2 c2) = Y at F0 F1 FN FB ⊢
  refine (fits_false FN.out Hsm2.out Hi.out).mono ?_
  rintro e w5 ⟨rfl, hb5⟩
  have G0 := Lib.hid (F0.out.on hb5 F0.out.lt)
  have G1 := Lib.hid (F1.out.on hb5 F1.out.lt)
  have GN := Lib.hid (FN.out.on hb5)
  have GB := Lib.hid (FB.out.trans (hb5.mono FB.out.size))
  have y0 : w5.cell? ⟨w.heap.size, 0, none⟩ = some (.bool false) := G0.out.cell 0
  have y1 : w5.cell? ⟨w.heap.size, 1, none⟩ = some (.slice none 0 0) := G0.out.cell 1
  have y2 : w5.frozen? ⟨w.heap.size, 0, none⟩ = false := G0.out.free 0
  have y3 : w5.frozen? ⟨w.heap.size, 1, none⟩ = false := G0.out.free 1
  have z0 : w5.cell? ⟨g1, 0, none⟩ = some (.bool b2) := G1.out.cell 0
  have z1 : w5.cell? ⟨g1, 1, none⟩ = some (.slice A2 n2 c2) := G1.out.cell 1
  clear hb5
  have HG := Lib.hid ((GB.out.setCell (p := ⟨w.heap.size, 0, none⟩) (Nat.le_refl _) (.bool false)).setCell (p := ⟨w.heap.size, 1, none⟩) (Nat.le_refl _) (.slice none 0 0))
  go_wp2_with fail
  refine bodyPost_ret (v := .tuple #[.agg #[.bool false, .slice none 0 0], .int .i64 4]) (by simp [results, Tryd.results7, go_sem, y0, y1]) rfl ?_
  exact ⟨rfl, HG.out⟩

theorem rparse_ok (s : ByteArray) (w : World) (hs : s.size ≤ 60) (hf : form s.data.toList = true) (hi : In64 (numL s.data.toList)) :
    Calls Tryd.prog 7 #[.string s] w (GivesP (numL s.data.toList) w) := by
  by_cases h : s.data.toList.head? = some 45
  · exact rparse_ok1 s w hs hf hi h
  · exact rparse_ok0 s w hs hf hi h
theorem rparse_far (s : ByteArray) (w : World) (hs : s.size ≤ 60) (hf : form s.data.toList = true) (hi : ¬ In64 (numL s.data.toList)) :
    Calls Tryd.prog 7 #[.string s] w fun e w' => e = .returned (.tuple #[.agg #[.bool false, .slice none 0 0], .int .i64 4]) ∧ Below w.heap.size w w' := by
  by_cases h : s.data.toList.head? = some 45
  · exact rparse_far1 s w hs hf hi h
  · exact rparse_far0 s w hs hf hi h
end Go.Proofs.YteoaapjejhjknaaDoor
