/- Good of what is no good value. -/
import Derived.Test.YtleikaiokoahdaaOnlyNo
namespace Go.Proofs.Ytleikaiokoahdaa
open Go.RowKit
theorem good_of {t : T} (h0 : 0 ≤ t.kind) (h5 : t.kind ≤ 5) (ho : Only t.kind t.tr t.num t.str t.items.length t.keys.length) (h1 : okText t.str) (h2 : AllText t.keys) (h3 : Rising t.keys) (hi : ∀ (j : Nat) (x : T), j < t.items.length → t.items[j]? = some x → x.Good) : t.Good := by
  obtain ⟨a, b, c, d, e, f⟩ := ho
  refine .mk t ⟨h0, h5, a, b, c, fun h h' => List.eq_nil_of_length_eq_zero (d h h'), fun h => List.eq_nil_of_length_eq_zero (e h), f, h1, h2, h3⟩ fun x hx => ?_
  obtain ⟨j, hj⟩ := List.mem_iff_getElem?.1 hx
  exact hi j x (lt_of_get hj) hj
set_option maxRecDepth 100000 in
set_option maxHeartbeats 4000000 in
theorem vgood_no_at (n : Nat) : ∀ (t : T) (A : Option Addr) (c : Nat) (A' : Option Addr) (c' : Nat) (w : World), t.size ≤ n → n ≤ 100000 → t.Small → ¬ t.Good → TV w (· < w.heap.size) t A c A' c' →
    Calls Try.prog 8 #[t.agg A c A' c'] w fun e w' => e = .returned (.bool false) ∧ Below w.heap.size w w' := by
  induction n with
  | zero => intro t _ _ _ _ _ h; have := t.size_pos; omega
  | succ n ih =>
    intro t A c A' c' w ht hn hsm hg hv
    have hls := t.len_size
    have hkl : t.keys.length ≤ 100000 := hsm.here
    have IH := Lib.hid ih
    have HV := Lib.hid hv
    have HS := Lib.hid hsm
    have HG := Lib.hid hg
    clear ih hv hg hsm
    unfold T.agg
    by_cases hr : 0 ≤ t.kind ∧ t.kind ≤ 5
    case neg =>
      go_enter Try.func8, Try.ntmps8
      go_wp2_with fail
      all_goals first
        | (exfalso; omega)
        | (go_ret
           exact ⟨rfl, (Below.refl _ _).alloc (Nat.le_refl _) _⟩)
    obtain ⟨h0, h5⟩ := hr
    go_enter Try.func8, Try.ntmps8
    go_wp2_with fail
    have hb0 : Below w.heap.size w (w.alloc (.cells (t.cs A c A' c') 34)) := (Below.refl _ _).alloc (Nat.le_refl _) _
    by_cases ho : Only t.kind t.tr t.num t.str t.items.length t.keys.length
    case neg =>
      refine (only_no t.kind t.tr t.num t.str A t.items.length c A' t.keys.length c' _ ho).mono ?_
      rintro e w9 ⟨rfl, hb9⟩
      go_wp2_with fail
      go_ret
      exact ⟨rfl, hb0.trans (hb9.mono hb0.size)⟩
    have HO := Lib.hid ho
    clear ho
    refine (only_yes t.kind t.tr t.num t.str A t.items.length c A' t.keys.length c' _ h0 h5 HO.out.1 HO.out.2.1 HO.out.2.2.1 HO.out.2.2.2.1 HO.out.2.2.2.2.1 HO.out.2.2.2.2.2).mono ?_
    rintro e w2 ⟨rfl, hb2⟩
    have hB2 : Blk w2 w.heap.size 34 (t.cs A c A' c') := (Blk.new w _ _).onto hb2
    have H2 := Lib.hid (hb0.trans (hb2.mono hb0.size))
    have HB2 := Lib.hid hB2
    have a3 : w2.cell? ⟨w.heap.size, 3, none⟩ = some (.string t.str) := hB2.cell 3
    clear hb0 hb2 hB2
    go_wp2_with fail
    have hs1 : SReads (w2.alloc (.cells #[.string t.str] 9)) (· < (w2.alloc (.cells #[.string t.str] 9)).heap.size) (some ⟨w2.heap.size, 0, none⟩) [t.str] := by
      intro _
      have hb := Blk.new w2 9 #[.string t.str]
      refine ⟨w2.heap.size, 0, rfl, hb.lt, fun i s hi => ?_⟩
      rw [Nat.zero_add, hb.cell]
      match i, hi with
      | 0, hi => injection hi with hi; subst hi; rfl
    have hsb : Below w.heap.size w (w2.alloc (.cells #[.string t.str] 9)) := H2.out.alloc H2.out.size _
    by_cases hst : okText t.str
    case neg =>
      refine (texts_no [t.str] (some ⟨w2.heap.size, 0, none⟩) 1 _ (by simp) (fun hh => hst (hh _ (List.mem_singleton.2 rfl))) hs1).mono ?_
      rintro e w9 ⟨rfl, hb9⟩
      go_wp2_with fail
      go_ret
      exact ⟨rfl, hsb.trans (hb9.mono hsb.size)⟩
    have Hst := Lib.hid hst
    clear hst hsb
    refine (texts_yes [t.str] (some ⟨w2.heap.size, 0, none⟩) 1 _ (by simp) (fun s hs => by obtain rfl := List.mem_singleton.1 hs; exact Hst.out) hs1).mono ?_
    rintro e w3 ⟨rfl, hb3⟩
    have hb23 : Below w2.heap.size w2 w3 := ((Below.refl _ _).alloc (Nat.le_refl _) _).trans (hb3.mono (by simp))
    have H3 := Lib.hid (H2.out.trans (hb23.mono H2.out.size))
    have hB3 := HB2.out.onto hb23
    have HB3 := Lib.hid hB3
    have a5 : w3.cell? ⟨w.heap.size, 5, none⟩ = some (.slice A' t.keys.length c') := hB3.cell 5
    clear hb3 hb23 hB3 hs1 a3
    go_wp2_with fail
    by_cases hkt : AllText t.keys
    case neg =>
      refine (texts_no t.keys A' c' _ hkl hkt (HV.out.keys.on H3.out)).mono ?_
      rintro e w9 ⟨rfl, hb9⟩
      go_wp2_with fail
      go_ret
      exact ⟨rfl, H3.out.trans (hb9.mono H3.out.size)⟩
    have Hkt := Lib.hid hkt
    clear hkt
    refine (texts_yes t.keys A' c' _ hkl Hkt.out (HV.out.keys.on H3.out)).mono ?_
    rintro e w4 ⟨rfl, hb4⟩
    have H4 := Lib.hid (H3.out.trans (hb4.mono H3.out.size))
    have hB4 := HB3.out.onto hb4
    have HB4 := Lib.hid hB4
    have a5' : w4.cell? ⟨w.heap.size, 5, none⟩ = some (.slice A' t.keys.length c') := hB4.cell 5
    clear hb4 hB4 a5
    go_wp2_with fail
    by_cases hri : Rising t.keys
    case neg =>
      refine (rising_no t.keys A' c' _ hkl hri (HV.out.keys.on H4.out)).mono ?_
      rintro e w9 ⟨rfl, hb9⟩
      go_wp2_with fail
      go_ret
      exact ⟨rfl, H4.out.trans (hb9.mono H4.out.size)⟩
    have Hri := Lib.hid hri
    clear hri
    refine (rising_yes t.keys A' c' _ hkl Hri.out (HV.out.keys.on H4.out)).mono ?_
    rintro e w5 ⟨rfl, hb5⟩
    have H5 := Lib.hid (H4.out.trans (hb5.mono H4.out.size))
    have hB5 := HB4.out.onto hb5
    have a4 : w5.cell? ⟨w.heap.size, 4, none⟩ = some (.slice A t.items.length c) := hB5.cell 4
    clear hb5 hB5 a5'
    go_wp2_with fail
    go_loopw [38] (fun i wr => ∃ k : Nat, k ≤ t.items.length ∧ i = .int .i64 k ∧ (∀ (j : Nat) (x : T), j < k → t.items[j]? = some x → x.Good) ∧ Below w.heap.size w wr) (fun i _ => t.items.length - (intOf i).toNat)
    case atStart => exact ⟨0, Nat.zero_le _, rfl, fun j x hj => absurd hj (Nat.not_lt_zero _), H5.out⟩
    case round =>
      obtain ⟨k, hk, rfl, hall, hbel⟩ := hrel
      have Hall := Lib.hid hall
      clear hall
      have Hbel := Lib.hid hbel
      clear hbel a4
      by_cases hlt : k < t.items.length
      · have u1 : decide (k < t.items.length) = true := decide_eq_true hlt
        obtain ⟨b, o, x, B, d, B', d', rfl, hb, hx, h6, hX⟩ := HV.out.at_ hlt
        have hxs := T.at_size hx
        have HX := Lib.hid hX
        have HXS := Lib.hid (show x.Small from HS.out.at_ hx)
        have Hx := Lib.hid hx
        obtain ⟨e0, e1, e2, e3, e4, e5⟩ := h6.keep hb (.of_below Hbel.out)
        clear hX h6 hx
        go_wp2_with fail
        by_cases hxg : x.Good
        case neg =>
          refine (IH.out x B d B' d' _ (by omega) (by omega) HXS.out hxg (HX.out.on (Hbel.out.alloc Hbel.out.size _))).mono ?_
          rintro e w9 ⟨rfl, hb9⟩
          go_wp2_with fail
          go_ret
          exact ⟨rfl, (Hbel.out.alloc Hbel.out.size _).trans (hb9.mono (Hbel.out.alloc Hbel.out.size _).size)⟩
        have HXG := Lib.hid hxg
        clear hxg
        refine (vgood_yes x B d B' d' _ (by omega) HXG.out (HX.out.on (Hbel.out.alloc Hbel.out.size _))).mono ?_
        rintro e w7 ⟨rfl, hb7⟩
        have Hb7 := Lib.hid ((Hbel.out.alloc Hbel.out.size _).trans (hb7.mono (Hbel.out.alloc Hbel.out.size _).size))
        clear hb7
        go_wp2_with fail
        go_roundw
        case rel => exact ⟨k + 1, hlt, by go_num, fun j y hj hy => by
          rcases Nat.lt_or_ge j k with h | h
          · exact Hall.out j y h hy
          · obtain rfl : j = k := by omega
            have e := Hx.out
            rw [hy] at e
            injection e with e
            rw [e]
            exact HXG.out, Hb7.out⟩
        case measure => simp [intOf]; omega
      · obtain rfl : t.items.length = k := by omega
        exact absurd (good_of h0 h5 HO.out Hst.out Hkt.out Hri.out Hall.out) HG.out
theorem vgood_no (t : T) (A : Option Addr) (c : Nat) (A' : Option Addr) (c' : Nat) (w : World) (ht : t.size ≤ 100000) (hs : t.Small) (hg : ¬ t.Good) (hv : TV w (· < w.heap.size) t A c A' c') :
    Calls Try.prog 8 #[t.agg A c A' c'] w fun e w' => e = .returned (.bool false) ∧ Below w.heap.size w w' := vgood_no_at 100000 t A c A' c' w ht (Nat.le_refl _) hs hg hv
end Go.Proofs.Ytleikaiokoahdaa
