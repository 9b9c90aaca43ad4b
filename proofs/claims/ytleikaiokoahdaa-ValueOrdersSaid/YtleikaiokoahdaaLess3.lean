/- The reference's Less of good values: contract. -/
import Derived.Test.YtleikaiokoahdaaOrder3
import Derived.Deep.DeepCutAuto
namespace Go.Proofs.Ytleikaiokoahdaa
open Go.RowKit
set_option linter.unusedVariables false

/-- is a comparison's answer that the first one is ahead? -/
def ltB (a : Int) : Bool := a == -1
theorem ltB_lex {a b : Int} (h : a ≠ 0) : ltB (lex2 a b) = ltB a := by unfold lex2; rw [if_neg h]
theorem ltB_cI (a b : Int) : ltB (cI a b) = decide (a < b) := by unfold ltB cI; split <;> rename_i h <;> simp [h]; split <;> simp
theorem ltB_cS (a b : ByteArray) : ltB (cS a b) = sl a b := by
  rcases cS_range a b with h | h | h
  · rw [h, cS_lt.1 h]; rfl
  · rw [cS_eq.1 h, sl_irrefl, cS_self]; rfl
  · rw [h, sl_asymm (cS_gt.1 h)]; rfl
def LessAt (n : Nat) : Prop := ∀ (t u : T) (A : Option Addr) (c : Nat) (A' : Option Addr) (c' : Nat) (B : Option Addr) (d : Nat) (B' : Option Addr) (d' : Nat) (w : World), t.size ≤ n → n ≤ 100000 → u.size ≤ 100000 → t.Small → u.Small → t.Good → u.Good → TV w (· < w.heap.size) t A c A' c' → TV w (· < w.heap.size) u B d B' d' →
    Calls Try.prog 10 #[.agg #[.int .i64 t.kind, .bool t.tr, .int .i64 t.num, .string t.str, .slice A t.items.length c, .slice A' t.keys.length c'], .agg #[.int .i64 u.kind, .bool u.tr, .int .i64 u.num, .string u.str, .slice B u.items.length d, .slice B' u.keys.length d']] w fun e w' => e = .returned (.bool (ltB (ord t u))) ∧ Below w.heap.size w w'
theorem rsame_eq' {t u : T} (hu : t = u) (A : Option Addr) (c : Nat) (A' : Option Addr) (c' : Nat) (B : Option Addr) (d : Nat) (B' : Option Addr) (d' : Nat) (w : World) (ht : t.size ≤ 100000) (hs : t.Small) (hv : TV w (· < w.heap.size) t A c A' c') (hw : TV w (· < w.heap.size) u B d B' d') :
    Calls Try.prog 13 #[.agg #[.int .i64 t.kind, .bool t.tr, .int .i64 t.num, .string t.str, .slice A t.items.length c, .slice A' t.keys.length c'], .agg #[.int .i64 u.kind, .bool u.tr, .int .i64 u.num, .string u.str, .slice B u.items.length d, .slice B' u.keys.length d']] w fun e w' => e = .returned (.bool true) ∧ Below w.heap.size w w' := by
  subst hu
  exact rsame_cells t A c A' c' B d B' d' w ht hs hv hw
theorem ret_b {a b : Bool} (h : a = b) : Ending.returned (.bool a) = .returned (.bool b) := by rw [h]
set_option maxRecDepth 100000 in
set_option maxHeartbeats 16000000 in
theorem less_at (n : Nat) : LessAt n := by
  induction n with
  | zero => intro t u _ _ _ _ _ _ _ _ _ h; have := t.size_pos; omega
  | succ n ih =>
  intro t u A c A' c' B d B' d' w ht hn hus hs hs' hg hg' hv hu
  have IH := Lib.hid ih
  have HS := Lib.hid hs
  have HS' := Lib.hid hs'
  have HG := Lib.hid hg
  have HG' := Lib.hid hg'
  have hkl := hs.here
  have hkl' := hs'.here
  have hls := t.len_size
  have hul := u.len_size
  have HV0 := Lib.hid hv
  have HU0 := Lib.hid hu
  clear ih hs hs' hg hg' hv hu
  go_enter Try.func10, Try.ntmps10
  go_upto_region 1 with fail
  have hW : Below w.heap.size w ((w.alloc (.cells #[.int .i64 t.kind, .bool t.tr, .int .i64 t.num, .string t.str, .slice A t.items.length c, .slice A' t.keys.length c'] 30)).alloc (.cells #[.int .i64 u.kind, .bool u.tr, .int .i64 u.num, .string u.str, .slice B u.items.length d, .slice B' u.keys.length d'] 30)) := ((Below.refl w.heap.size w).alloc (Nat.le_refl _) _).alloc (by simp) _
  have hB1 : Blk ((w.alloc (.cells #[.int .i64 t.kind, .bool t.tr, .int .i64 t.num, .string t.str, .slice A t.items.length c, .slice A' t.keys.length c'] 30)).alloc (.cells #[.int .i64 u.kind, .bool u.tr, .int .i64 u.num, .string u.str, .slice B u.items.length d, .slice B' u.keys.length d'] 30)) w.heap.size 30 #[.int .i64 t.kind, .bool t.tr, .int .i64 t.num, .string t.str, .slice A t.items.length c, .slice A' t.keys.length c'] := (Blk.new w _ _).alloc _
  have hB2 : Blk ((w.alloc (.cells #[.int .i64 t.kind, .bool t.tr, .int .i64 t.num, .string t.str, .slice A t.items.length c, .slice A' t.keys.length c'] 30)).alloc (.cells #[.int .i64 u.kind, .bool u.tr, .int .i64 u.num, .string u.str, .slice B u.items.length d, .slice B' u.keys.length d'] 30)) (w.heap.size + 1) 30 #[.int .i64 u.kind, .bool u.tr, .int .i64 u.num, .string u.str, .slice B u.items.length d, .slice B' u.keys.length d'] := by
    have := Blk.new (w.alloc (.cells #[.int .i64 t.kind, .bool t.tr, .int .i64 t.num, .string t.str, .slice A t.items.length c, .slice A' t.keys.length c'] 30)) 30 #[.int .i64 u.kind, .bool u.tr, .int .i64 u.num, .string u.str, .slice B u.items.length d, .slice B' u.keys.length d']
    simpa using this
  change Code.wp _ _ _ _ ((w.alloc (.cells #[.int .i64 t.kind, .bool t.tr, .int .i64 t.num, .string t.str, .slice A t.items.length c, .slice A' t.keys.length c'] 30)).alloc (.cells #[.int .i64 u.kind, .bool u.tr, .int .i64 u.num, .string u.str, .slice B u.items.length d, .slice B' u.keys.length d'] 30))
  generalize ((w.alloc (.cells #[.int .i64 t.kind, .bool t.tr, .int .i64 t.num, .string t.str, .slice A t.items.length c, .slice A' t.keys.length c'] 30)).alloc (.cells #[.int .i64 u.kind, .bool u.tr, .int .i64 u.num, .string u.str, .slice B u.items.length d, .slice B' u.keys.length d'] 30)) = W at *
  have HW := Lib.hid hW
  have HB1 := Lib.hid hB1
  have HB2 := Lib.hid hB2
  have HV := Lib.hid (HV0.out.on hW)
  have HU := Lib.hid (HU0.out.on hW)
  have hl1 := hB1.lt
  have hl2 := hB2.lt
  have a0 : W.cell? ⟨w.heap.size, 0, none⟩ = some (.int .i64 t.kind) := hB1.cell 0
  have a1 : W.cell? ⟨w.heap.size, 1, none⟩ = some (.bool t.tr) := hB1.cell 1
  have a2 : W.cell? ⟨w.heap.size, 2, none⟩ = some (.int .i64 t.num) := hB1.cell 2
  have a3 : W.cell? ⟨w.heap.size, 3, none⟩ = some (.string t.str) := hB1.cell 3
  have b0 : W.cell? ⟨w.heap.size + 1, 0, none⟩ = some (.int .i64 u.kind) := hB2.cell 0
  have b1 : W.cell? ⟨w.heap.size + 1, 1, none⟩ = some (.bool u.tr) := hB2.cell 1
  have b2 : W.cell? ⟨w.heap.size + 1, 2, none⟩ = some (.int .i64 u.num) := hB2.cell 2
  have b3 : W.cell? ⟨w.heap.size + 1, 3, none⟩ = some (.string u.str) := hB2.cell 3
  clear hW hB1 hB2 HV0 HU0
  by_cases h0 : t.kind = u.kind
  · have v0 : (t.kind != u.kind) = false := by rw [h0]; simp
    have H0 := Lib.hid h0
    clear h0
    by_cases h1 : t.tr = u.tr
    · have v1 : (t.tr == u.tr) = true := by rw [h1]; simp
      have v1' : (!(t.tr == u.tr)) = false := by rw [v1]; rfl
      have H1 := Lib.hid h1
      clear h1
      by_cases h2 : t.num = u.num
      · have v2 : (t.num != u.num) = false := by rw [h2]; simp
        have H2 := Lib.hid h2
        clear h2
        by_cases h3 : t.str = u.str
        · have v3 : (t.str.toList == u.str.toList) = true := by rw [h3]; simp
          have v3' : (!(t.str.toList == u.str.toList)) = false := by rw [v3]; rfl
          have v3'' : (t.str.toList != u.str.toList) = false := by rw [h3]; simp
          have H3 := Lib.hid h3
          clear h3
          have HO0 := Lib.hid (show ord t u = ords t.items t.keys 0 u.items u.keys by rw [ord_eq, H0.out, H1.out, H2.out, H3.out, cI_self, cB_self, cI_self, cS_self]; rfl)
          go_wp2_with fail
          go_loopw [5] (fun i wr => ∃ k : Nat, k ≤ t.items.length ∧ k ≤ u.items.length ∧ i = .int .i64 k ∧ Hid (ord t u = ords (t.items.drop k) t.keys k (u.items.drop k) u.keys) ∧ Below W.heap.size W wr) (fun i _ => t.items.length - (intOf i).toNat)
          case atStart => exact ⟨0, Nat.zero_le _, Nat.zero_le _, rfl, Lib.hid (by rw [List.drop_zero, List.drop_zero]; exact HO0.out), Below.refl _ _⟩
          case round =>
            clear a0 a1 a2 a3 b0 b1 b2 b3 HO0 v0 v1 v1' v2 v3 v3' v3''
            obtain ⟨k, hk, hk', rfl, HO, hbel⟩ := hrel
            have Hbel := Lib.hid hbel
            have hz := hbel.size
            have HSS := Lib.hid (show ∀ w', Below wr.heap.size wr w' → (w'.cell? ⟨w.heap.size, 0, none⟩ = some (.int .i64 t.kind) ∧ w'.cell? ⟨w.heap.size, 1, none⟩ = some (.bool t.tr) ∧ w'.cell? ⟨w.heap.size, 2, none⟩ = some (.int .i64 t.num) ∧ w'.cell? ⟨w.heap.size, 3, none⟩ = some (.string t.str) ∧ w'.cell? ⟨w.heap.size, 4, none⟩ = some (.slice A t.items.length c) ∧ w'.cell? ⟨w.heap.size, 5, none⟩ = some (.slice A' t.keys.length c')) ∧ w'.cell? ⟨w.heap.size + 1, 0, none⟩ = some (.int .i64 u.kind) ∧ w'.cell? ⟨w.heap.size + 1, 1, none⟩ = some (.bool u.tr) ∧ w'.cell? ⟨w.heap.size + 1, 2, none⟩ = some (.int .i64 u.num) ∧ w'.cell? ⟨w.heap.size + 1, 3, none⟩ = some (.string u.str) ∧ w'.cell? ⟨w.heap.size + 1, 4, none⟩ = some (.slice B u.items.length d) ∧ w'.cell? ⟨w.heap.size + 1, 5, none⟩ = some (.slice B' u.keys.length d') from fun w' hb => by
              have k1 := HB1.out.onto (hbel.trans (hb.mono hz))
              have k2 := HB2.out.onto (hbel.trans (hb.mono hz))
              exact ⟨⟨k1.cell 0, k1.cell 1, k1.cell 2, k1.cell 3, k1.cell 4, k1.cell 5⟩, k2.cell 0, k2.cell 1, k2.cell 2, k2.cell 3, k2.cell 4, k2.cell 5⟩)
            obtain ⟨⟨a0, _, _, _, a4, a5⟩, b0, _, _, _, b4, b5⟩ := HSS.out wr (Below.refl _ _)
            have HVr := Lib.hid (HV.out.on hbel)
            have HUr := Lib.hid (HU.out.on hbel)
            have HBc := Lib.hid (Below.refl wr.heap.size wr)
            clear hbel
            by_cases hlt : k < t.items.length
            · have v1 : decide (k < t.items.length) = true := decide_eq_true hlt
              by_cases hlt' : k < u.items.length
              · have v2 : decide (k < u.items.length) = true := decide_eq_true hlt'
                obtain ⟨bE, oE, x, E, e1, E', e1', rfl, hbE, hx, h6, hX⟩ := HVr.out.at_ hlt
                obtain ⟨bF, oF, y, F, f1, F', f1', rfl, hbF, hy, g6, hY⟩ := HUr.out.at_ hlt'
                have HXX := Lib.hid hx
                have HYY := Lib.hid hy
                have HOA := Lib.hid (HO.out.trans (ords_at hx hy))
                have HX6 := Lib.hid h6
                have HY6 := Lib.hid g6
                have HXT := Lib.hid hX
                have HYT := Lib.hid hY
                have hxs := T.at_size hx
                have hys := T.at_size hy
                clear hx hy h6 g6 hX hY HO
                have n0 : (0 : Int) ≤ (k : Int) := by omega
                have n1 : (k : Int) < (t.items.length : Int) := by omega
                have n2 : (k : Int) < (u.items.length : Int) := by omega
                have KEY : (t.kind = 5 ∧ ∃ (bK oK bL oL : Nat) (r s : ByteArray), A' = some ⟨bK, oK, none⟩ ∧ B' = some ⟨bL, oL, none⟩ ∧ k < t.keys.length ∧ k < u.keys.length ∧ keyAt t.keys k = r ∧ keyAt u.keys k = s ∧ wr.cell? ⟨bK, oK + k, none⟩ = some (.string r) ∧ wr.cell? ⟨bL, oL + k, none⟩ = some (.string s)) ∨ (t.kind ≠ 5 ∧ cS (keyAt t.keys k) (keyAt u.keys k) = 0) := by
                  by_cases h5 : t.kind = 5
                  · have hk1 : k < t.keys.length := by rw [HG.out.here.lens h5]; exact hlt
                    have hk2 : k < u.keys.length := by rw [HG'.out.here.lens (H0.out.symm.trans h5)]; exact hlt'
                    obtain ⟨bK, oK, r, eK, _, hr, hcr⟩ := HVr.out.keys.at_ hk1
                    obtain ⟨bL, oL, s, eL, _, hs, hcs⟩ := HUr.out.keys.at_ hk2
                    exact .inl ⟨h5, bK, oK, bL, oL, r, s, eK, eL, hk1, hk2, by unfold keyAt; rw [hr]; rfl, by unfold keyAt; rw [hs]; rfl, hcr, hcs⟩
                  · exact .inr ⟨h5, by rw [HG.out.here.keys h5, HG'.out.here.keys (fun e => h5 (H0.out.trans e))]; exact cS_self _⟩
                have KEY := Lib.hid KEY
                by_cases hcs : cS (keyAt t.keys k) (keyAt u.keys k) = 0
                · have HC := Lib.hid hcs
                  clear hcs
                  go_upto_region 12 with fail
                  go_cut [72] (fun s72 wy => s72 = .bool false ∧ Below wr.heap.size wr wy)
                  case first =>
                    rcases KEY.out with ⟨h5, bK, oK, bL, oL, r, s, rfl, rfl, hk1, hk2, hr, hs, c1, c2⟩ | ⟨h5, _⟩
                    · have q5 : (t.kind == 5) = true := by rw [h5]; rfl
                      have hrs : r = s := by have := cS_eq.1 HC.out; rw [hr, hs] at this; exact this
                      subst hrs
                      have m0 : (k : Int) < (t.keys.length : Int) := by omega
                      have m1 : (k : Int) < (u.keys.length : Int) := by omega
                      clear h5 hr hs
                      go_quiet (fail)
                      all_goals
                        go_wp2_with fail
                        go_meet
                        exact ⟨rfl, by first | exact Below.refl _ _ | exact (Below.refl _ _).drew | exact below_drewN (Below.refl _ _) _⟩
                    · have q5 : (t.kind == 5) = false := by rw [beq_eq_false_iff_ne]; exact h5
                      clear h5
                      go_quiet (fail)
                      all_goals
                        go_wp2_with fail
                        go_meet
                        exact ⟨rfl, by first | exact Below.refl _ _ | exact (Below.refl _ _).drew | exact below_drewN (Below.refl _ _) _⟩
                  case rest =>
                    obtain ⟨rfl, hb72⟩ := hcut
                    have HBc := Lib.hid hb72
                    clear hb72 a0 a4 a5 b0 b4 b5
                    have HSS2 := Lib.hid (show ∀ w', Below wr.heap.size wr w' → w'.cell? ⟨w.heap.size, 4, none⟩ = some (.slice (some ⟨bE, oE, none⟩) t.items.length c) ∧ w'.cell? ⟨w.heap.size + 1, 4, none⟩ = some (.slice (some ⟨bF, oF, none⟩) u.items.length d) ∧ (w'.cell? ⟨bE, oE + k * 6, none⟩ = some (.int .i64 x.kind) ∧ w'.cell? ⟨bE, oE + k * 6 + 1, none⟩ = some (.bool x.tr) ∧ w'.cell? ⟨bE, oE + k * 6 + 2, none⟩ = some (.int .i64 x.num) ∧ w'.cell? ⟨bE, oE + k * 6 + 3, none⟩ = some (.string x.str) ∧ w'.cell? ⟨bE, oE + k * 6 + 4, none⟩ = some (.slice E x.items.length e1) ∧ w'.cell? ⟨bE, oE + k * 6 + 5, none⟩ = some (.slice E' x.keys.length e1')) ∧ w'.cell? ⟨bF, oF + k * 6, none⟩ = some (.int .i64 y.kind) ∧ w'.cell? ⟨bF, oF + k * 6 + 1, none⟩ = some (.bool y.tr) ∧ w'.cell? ⟨bF, oF + k * 6 + 2, none⟩ = some (.int .i64 y.num) ∧ w'.cell? ⟨bF, oF + k * 6 + 3, none⟩ = some (.string y.str) ∧ w'.cell? ⟨bF, oF + k * 6 + 4, none⟩ = some (.slice F y.items.length f1) ∧ w'.cell? ⟨bF, oF + k * 6 + 5, none⟩ = some (.slice F' y.keys.length f1') from fun w' hb => by
                      obtain ⟨⟨_, _, _, _, p4, _⟩, _, _, _, _, q4, _⟩ := HSS.out w' hb
                      exact ⟨p4, q4, HX6.out.keep (S := (· < wr.heap.size)) hbE (.of_below hb), HY6.out.keep (S := (· < wr.heap.size)) hbF (.of_below hb)⟩)
                    have HT := Lib.hid (show ltB (ord t u) = ltB (lex2 (ord x y) (ords (t.items.drop (k + 1)) t.keys (k + 1) (u.items.drop (k + 1)) u.keys)) by rw [HOA.out, HC.out, zero_lex2])
                    by_cases hlo : ltB (ord x y) = true
                    · have HE := Lib.hid (show ltB (ord t u) = true by rw [HT.out, ltB_lex (fun e => by rw [e] at hlo; cases hlo)]; exact hlo)
                      have HLE := Lib.hid (fun (wq : World) (hq : Below wr.heap.size wr wq) => by
                        have h := IH.out x y E e1 E' e1' F f1 F' f1' wq (by omega) (by omega) (by omega) (HS.out.at_ HXX.out) (HS'.out.at_ HYY.out) (HG.out.at_ HXX.out) (HG'.out.at_ HYY.out) (HXT.out.on hq) (HYT.out.on hq)
                        rw [hlo] at h
                        exact h)
                      clear hlo
                      obtain ⟨a4, b4, ⟨x0, x1, x2, x3, x4, x5⟩, y0, y1, y2, y3, y4, y5⟩ := HSS2.out _ HBc.out
                      go_wp2_with fail
                      go_region_held3 (fun w' => w'.cell? ⟨w.heap.size, 4, none⟩ = some (.slice (some ⟨bE, oE, none⟩) t.items.length c) ∧ w'.cell? ⟨w.heap.size + 1, 4, none⟩ = some (.slice (some ⟨bF, oF, none⟩) u.items.length d) ∧ (w'.cell? ⟨bE, oE + k * 6, none⟩ = some (.int .i64 x.kind) ∧ w'.cell? ⟨bE, oE + k * 6 + 1, none⟩ = some (.bool x.tr) ∧ w'.cell? ⟨bE, oE + k * 6 + 2, none⟩ = some (.int .i64 x.num) ∧ w'.cell? ⟨bE, oE + k * 6 + 3, none⟩ = some (.string x.str) ∧ w'.cell? ⟨bE, oE + k * 6 + 4, none⟩ = some (.slice E x.items.length e1) ∧ w'.cell? ⟨bE, oE + k * 6 + 5, none⟩ = some (.slice E' x.keys.length e1')) ∧ w'.cell? ⟨bF, oF + k * 6, none⟩ = some (.int .i64 y.kind) ∧ w'.cell? ⟨bF, oF + k * 6 + 1, none⟩ = some (.bool y.tr) ∧ w'.cell? ⟨bF, oF + k * 6 + 2, none⟩ = some (.int .i64 y.num) ∧ w'.cell? ⟨bF, oF + k * 6 + 3, none⟩ = some (.string y.str) ∧ w'.cell? ⟨bF, oF + k * 6 + 4, none⟩ = some (.slice F y.items.length f1) ∧ w'.cell? ⟨bF, oF + k * 6 + 5, none⟩ = some (.slice F' y.keys.length f1'))
                        (first
                          | with_reducible exact HSS2.out _ HBc.out
                          | with_reducible exact HSS2.out _ (below_drewN HBc.out _)
                          | exact HSS2.out _ HBc.out.drew
                          | go_keep)
                        (first
                          | (go_at_call 10
                             with_reducible refine (HLE.out _ ?_).mono ?_
                             · exact (by first | with_reducible exact HBc.out | with_reducible exact below_drewN HBc.out _ | exact HBc.out.drew)
                             rintro e8 w8 ⟨rfl, hb8⟩
                             have HBc := Lib.hid (show Below wr.heap.size wr w8 from by first | with_reducible exact HBc.out.trans (hb8.mono HBc.out.size) | with_reducible exact (below_drewN HBc.out _).trans (hb8.mono HBc.out.size) | exact HBc.out.drew.trans (hb8.mono HBc.out.size))
                             clear hb8))
                      all_goals
                        go_wp2_with fail
                        go_ret
                        exact ⟨ret_b (by rw [HE.out]), HW.out.trans ((Hbel.out.trans (HBc.out.mono hz)).mono HW.out.size)⟩
                    · have hlo' : ltB (ord x y) = false := by simpa using hlo
                      have HLO := Lib.hid hlo'
                      have HLE := Lib.hid (fun (wq : World) (hq : Below wr.heap.size wr wq) => by
                        have h := IH.out x y E e1 E' e1' F f1 F' f1' wq (by omega) (by omega) (by omega) (HS.out.at_ HXX.out) (HS'.out.at_ HYY.out) (HG.out.at_ HXX.out) (HG'.out.at_ HYY.out) (HXT.out.on hq) (HYT.out.on hq)
                        rw [hlo'] at h
                        exact h)
                      clear hlo hlo'
                      obtain ⟨a4, b4, ⟨x0, x1, x2, x3, x4, x5⟩, y0, y1, y2, y3, y4, y5⟩ := HSS2.out _ HBc.out
                      go_wp2_with fail
                      go_region_held3 (fun w' => w'.cell? ⟨w.heap.size, 4, none⟩ = some (.slice (some ⟨bE, oE, none⟩) t.items.length c) ∧ w'.cell? ⟨w.heap.size + 1, 4, none⟩ = some (.slice (some ⟨bF, oF, none⟩) u.items.length d) ∧ (w'.cell? ⟨bE, oE + k * 6, none⟩ = some (.int .i64 x.kind) ∧ w'.cell? ⟨bE, oE + k * 6 + 1, none⟩ = some (.bool x.tr) ∧ w'.cell? ⟨bE, oE + k * 6 + 2, none⟩ = some (.int .i64 x.num) ∧ w'.cell? ⟨bE, oE + k * 6 + 3, none⟩ = some (.string x.str) ∧ w'.cell? ⟨bE, oE + k * 6 + 4, none⟩ = some (.slice E x.items.length e1) ∧ w'.cell? ⟨bE, oE + k * 6 + 5, none⟩ = some (.slice E' x.keys.length e1')) ∧ w'.cell? ⟨bF, oF + k * 6, none⟩ = some (.int .i64 y.kind) ∧ w'.cell? ⟨bF, oF + k * 6 + 1, none⟩ = some (.bool y.tr) ∧ w'.cell? ⟨bF, oF + k * 6 + 2, none⟩ = some (.int .i64 y.num) ∧ w'.cell? ⟨bF, oF + k * 6 + 3, none⟩ = some (.string y.str) ∧ w'.cell? ⟨bF, oF + k * 6 + 4, none⟩ = some (.slice F y.items.length f1) ∧ w'.cell? ⟨bF, oF + k * 6 + 5, none⟩ = some (.slice F' y.keys.length f1'))
                        (first
                          | with_reducible exact HSS2.out _ HBc.out
                          | with_reducible exact HSS2.out _ (below_drewN HBc.out _)
                          | exact HSS2.out _ HBc.out.drew
                          | go_keep)
                        (first
                          | (go_at_call 10
                             with_reducible refine (HLE.out _ ?_).mono ?_
                             · exact (by first | with_reducible exact HBc.out | with_reducible exact below_drewN HBc.out _ | exact HBc.out.drew)
                             rintro e8 w8 ⟨rfl, hb8⟩
                             have HBc := Lib.hid (show Below wr.heap.size wr w8 from by first | with_reducible exact HBc.out.trans (hb8.mono HBc.out.size) | with_reducible exact (below_drewN HBc.out _).trans (hb8.mono HBc.out.size) | exact HBc.out.drew.trans (hb8.mono HBc.out.size))
                             clear hb8))
                      all_goals
                        obtain ⟨z4, z4', ⟨z0, z1, z2, z3, z5, z6⟩, t0, t1, t2, t3, t4, t5⟩ := HSS2.out _ HBc.out
                        by_cases hxy : x = y
                        · have HXY := Lib.hid hxy
                          have HSA := Lib.hid (fun (wq : World) (hq : Below wr.heap.size wr wq) => rsame_eq' HXY.out E e1 E' e1' F f1 F' f1' wq (by omega) (HS.out.at_ HXX.out) (HXT.out.on hq) (HYT.out.on hq))
                          clear hxy
                          go_wp2_with fail
                          go_region_held3 (fun w' => w'.cell? ⟨w.heap.size, 4, none⟩ = some (.slice (some ⟨bE, oE, none⟩) t.items.length c) ∧ w'.cell? ⟨w.heap.size + 1, 4, none⟩ = some (.slice (some ⟨bF, oF, none⟩) u.items.length d) ∧ (w'.cell? ⟨bE, oE + k * 6, none⟩ = some (.int .i64 x.kind) ∧ w'.cell? ⟨bE, oE + k * 6 + 1, none⟩ = some (.bool x.tr) ∧ w'.cell? ⟨bE, oE + k * 6 + 2, none⟩ = some (.int .i64 x.num) ∧ w'.cell? ⟨bE, oE + k * 6 + 3, none⟩ = some (.string x.str) ∧ w'.cell? ⟨bE, oE + k * 6 + 4, none⟩ = some (.slice E x.items.length e1) ∧ w'.cell? ⟨bE, oE + k * 6 + 5, none⟩ = some (.slice E' x.keys.length e1')) ∧ w'.cell? ⟨bF, oF + k * 6, none⟩ = some (.int .i64 y.kind) ∧ w'.cell? ⟨bF, oF + k * 6 + 1, none⟩ = some (.bool y.tr) ∧ w'.cell? ⟨bF, oF + k * 6 + 2, none⟩ = some (.int .i64 y.num) ∧ w'.cell? ⟨bF, oF + k * 6 + 3, none⟩ = some (.string y.str) ∧ w'.cell? ⟨bF, oF + k * 6 + 4, none⟩ = some (.slice F y.items.length f1) ∧ w'.cell? ⟨bF, oF + k * 6 + 5, none⟩ = some (.slice F' y.keys.length f1'))
                            (first
                              | with_reducible exact HSS2.out _ HBc.out
                              | with_reducible exact HSS2.out _ (below_drewN HBc.out _)
                              | exact HSS2.out _ HBc.out.drew
                              | go_keep)
                            (first
                              | (go_at_call 13
                                 with_reducible refine (HSA.out _ ?_).mono ?_
                                 · exact (by first | with_reducible exact HBc.out | with_reducible exact below_drewN HBc.out _ | exact HBc.out.drew)
                                 rintro e9 w9 ⟨rfl, hb9⟩
                                 have HBc := Lib.hid (show Below wr.heap.size wr w9 from by first | with_reducible exact HBc.out.trans (hb9.mono HBc.out.size) | with_reducible exact (below_drewN HBc.out _).trans (hb9.mono HBc.out.size) | exact HBc.out.drew.trans (hb9.mono HBc.out.size))
                                 clear hb9))
                          all_goals
                            have HE := Lib.hid (show ord t u = ords (t.items.drop (k + 1)) t.keys (k + 1) (u.items.drop (k + 1)) u.keys by rw [HOA.out, HC.out, HXY.out, ord_self]; rfl)
                            go_wp2_with fail
                            go_roundw
                            case rel => exact ⟨k + 1, hlt, hlt', by go_num, Lib.hid HE.out, Hbel.out.trans (HBc.out.mono hz)⟩
                            case measure => simp [intOf]; omega
                        · have HXY := Lib.hid hxy
                          have HSA := Lib.hid (fun (wq : World) (hq : Below wr.heap.size wr wq) => rsame_not x y E e1 E' e1' F f1 F' f1' wq HXY.out (by omega) (HS.out.at_ HXX.out) (HXT.out.on hq) (HYT.out.on hq))
                          have HE := Lib.hid (show ltB (ord t u) = false by rw [HT.out, ltB_lex (fun e => HXY.out (ord_zero x y (HG.out.at_ HXX.out) (HG'.out.at_ HYY.out) e))]; exact HLO.out)
                          clear hxy
                          go_wp2_with fail
                          go_region_held3 (fun w' => w'.cell? ⟨w.heap.size, 4, none⟩ = some (.slice (some ⟨bE, oE, none⟩) t.items.length c) ∧ w'.cell? ⟨w.heap.size + 1, 4, none⟩ = some (.slice (some ⟨bF, oF, none⟩) u.items.length d) ∧ (w'.cell? ⟨bE, oE + k * 6, none⟩ = some (.int .i64 x.kind) ∧ w'.cell? ⟨bE, oE + k * 6 + 1, none⟩ = some (.bool x.tr) ∧ w'.cell? ⟨bE, oE + k * 6 + 2, none⟩ = some (.int .i64 x.num) ∧ w'.cell? ⟨bE, oE + k * 6 + 3, none⟩ = some (.string x.str) ∧ w'.cell? ⟨bE, oE + k * 6 + 4, none⟩ = some (.slice E x.items.length e1) ∧ w'.cell? ⟨bE, oE + k * 6 + 5, none⟩ = some (.slice E' x.keys.length e1')) ∧ w'.cell? ⟨bF, oF + k * 6, none⟩ = some (.int .i64 y.kind) ∧ w'.cell? ⟨bF, oF + k * 6 + 1, none⟩ = some (.bool y.tr) ∧ w'.cell? ⟨bF, oF + k * 6 + 2, none⟩ = some (.int .i64 y.num) ∧ w'.cell? ⟨bF, oF + k * 6 + 3, none⟩ = some (.string y.str) ∧ w'.cell? ⟨bF, oF + k * 6 + 4, none⟩ = some (.slice F y.items.length f1) ∧ w'.cell? ⟨bF, oF + k * 6 + 5, none⟩ = some (.slice F' y.keys.length f1'))
                            (first
                              | with_reducible exact HSS2.out _ HBc.out
                              | with_reducible exact HSS2.out _ (below_drewN HBc.out _)
                              | exact HSS2.out _ HBc.out.drew
                              | go_keep)
                            (first
                              | (go_at_call 13
                                 with_reducible refine (HSA.out _ ?_).mono ?_
                                 · exact (by first | with_reducible exact HBc.out | with_reducible exact below_drewN HBc.out _ | exact HBc.out.drew)
                                 rintro e9 w9 ⟨rfl, hb9⟩
                                 have HBc := Lib.hid (show Below wr.heap.size wr w9 from by first | with_reducible exact HBc.out.trans (hb9.mono HBc.out.size) | with_reducible exact (below_drewN HBc.out _).trans (hb9.mono HBc.out.size) | exact HBc.out.drew.trans (hb9.mono HBc.out.size))
                                 clear hb9))
                          all_goals
                            go_wp2_with fail
                            go_ret
                            exact ⟨ret_b (by rw [HE.out]), HW.out.trans ((Hbel.out.trans (HBc.out.mono hz)).mono HW.out.size)⟩
                · obtain ⟨h5, bK, oK, bL, oL, r, s, rfl, rfl, hk1, hk2, hr, hs, c1, c2⟩ : t.kind = 5 ∧ ∃ (bK oK bL oL : Nat) (r s : ByteArray), A' = some ⟨bK, oK, none⟩ ∧ B' = some ⟨bL, oL, none⟩ ∧ k < t.keys.length ∧ k < u.keys.length ∧ keyAt t.keys k = r ∧ keyAt u.keys k = s ∧ wr.cell? ⟨bK, oK + k, none⟩ = some (.string r) ∧ wr.cell? ⟨bL, oL + k, none⟩ = some (.string s) := by
                    rcases KEY.out with h | ⟨_, h⟩
                    · exact h
                    · exact absurd h hcs
                  have q5 : (t.kind == 5) = true := by rw [h5]; rfl
                  have HE := Lib.hid (show ltB (ord t u) = sl r s by rw [HOA.out, ltB_lex hcs, ltB_cS, hr, hs])
                  have hne : r ≠ s := fun e => hcs (by rw [hr, hs, e]; exact cS_self _)
                  have q6 : (r.toList == s.toList) = false := by rw [beq_eq_false_iff_ne]; exact fun e => hne (bytes_eq e)
                  have q6' : (!(r.toList == s.toList)) = true := by rw [q6]; rfl
                  have m0 : (k : Int) < (t.keys.length : Int) := by omega
                  have m1 : (k : Int) < (u.keys.length : Int) := by omega
                  clear h5 hcs hne hr hs KEY
                  unfold sl at HE
                  go_wp2_with fail
                  go_quiet (fail)
                  go_wp2_with fail
                  go_quiet (fail)
                  go_wp2_with fail
                  go_ret
                  exact ⟨ret_b (by rw [HE.out]), HW.out.trans ((below_drewN (below_drewN Hbel.out _) _).mono HW.out.size)⟩
              · have v2 : decide (k < u.items.length) = false := decide_eq_false hlt'
                have HE := Lib.hid (show ltB (ord t u) = decide (t.items.length < u.items.length) by rw [HO.out, ords_end (by omega), ltB_cI]; simp)
                have v3 : decide (t.items.length < u.items.length) = false := decide_eq_false (by omega)
                go_wp2_with fail
                go_ret
                exact ⟨ret_b (by rw [HE.out, v3]), HW.out.trans (Hbel.out.mono HW.out.size)⟩
            · have v1 : decide (k < t.items.length) = false := decide_eq_false hlt
              have HE := Lib.hid (show ltB (ord t u) = decide (t.items.length < u.items.length) by rw [HO.out, ords_end (by omega), ltB_cI]; simp)
              go_wp2_with fail
              go_ret
              exact ⟨ret_b (by rw [HE.out]), HW.out.trans (Hbel.out.mono HW.out.size)⟩
        · have v3 : (t.str.toList == u.str.toList) = false := by rw [beq_eq_false_iff_ne]; exact fun e => h3 (bytes_eq e)
          have v3' : (!(t.str.toList == u.str.toList)) = true := by rw [v3]; rfl
          have v3'' : (t.str.toList != u.str.toList) = true := by rw [bne, v3]; rfl
          have HE := Lib.hid (show ltB (ord t u) = sl t.str u.str by rw [ord_eq, H0.out, H1.out, H2.out, cI_self, cB_self, cI_self, zero_lex2, zero_lex2, zero_lex2, ltB_lex (fun e => h3 (cS_eq.1 e)), ltB_cS])
          clear h3
          unfold sl at HE
          go_wp2_with fail
          go_ret
          exact ⟨ret_b (by rw [HE.out]), HW.out⟩
      · have v2 : (t.num != u.num) = true := by simpa using h2
        have HE := Lib.hid (show ltB (ord t u) = decide (t.num < u.num) by rw [ord_eq, H0.out, H1.out, cI_self, cB_self, zero_lex2, zero_lex2, ltB_lex (fun e => h2 (cI_eq.1 e)), ltB_cI])
        clear h2
        go_wp2_with fail
        go_ret
        exact ⟨ret_b (by rw [HE.out]), HW.out⟩
    · have v1 : (t.tr == u.tr) = false := by rw [beq_eq_false_iff_ne]; exact h1
      have v1' : (!(t.tr == u.tr)) = true := by rw [v1]; rfl
      have HE := Lib.hid (show ltB (ord t u) = u.tr by
        rw [ord_eq, H0.out, cI_self, zero_lex2, ltB_lex (fun e => h1 (cB_eq.1 e))]
        revert h1
        cases t.tr <;> cases u.tr <;> simp [cB, ltB])
      clear h1
      go_wp2_with fail
      go_ret
      exact ⟨ret_b (by rw [HE.out]), HW.out⟩
  · have v0 : (t.kind != u.kind) = true := by simpa using h0
    have HE := Lib.hid (show ltB (ord t u) = decide (t.kind < u.kind) by rw [ord_far h0, ltB_cI])
    clear h0
    go_wp2_with fail
    go_ret
    exact ⟨ret_b (by rw [HE.out]), HW.out⟩
end Go.Proofs.Ytleikaiokoahdaa
