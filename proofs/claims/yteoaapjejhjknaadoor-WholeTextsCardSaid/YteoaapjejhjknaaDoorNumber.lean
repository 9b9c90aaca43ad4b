/- Contract of the reference's Number. -/
import Derived.Test.YteoaapjejhjknaaDoorForm
import Derived.Test.YteoaapjejhjknaaDoorMul
namespace Go.Proofs.YteoaapjejhjknaaDoor
open Go.RowKit
open Fg De
attribute [local go_sem ↓] Go.wp_at_zero Go.wp_at_succ

theorem sm_dec {D : List UInt8} (h : ∀ c ∈ D, isDig c = true) (hl : D.length ≤ 60) : Sm 15 (decF 0 D : Int) := by
  have h1 := decF_lt D h
  have h2 : 10 ^ D.length ≤ 10 ^ 60 := Nat.pow_le_pow_right (by decide) hl
  have h3 : 10 ^ 60 ≤ 10000 ^ 15 := by decide
  unfold Sm
  rw [Int.natAbs_natCast]
  omega
theorem decF_take (D : List UInt8) (k : Nat) (h : k < D.length) : decF 0 (D.take (k + 1)) = 10 * decF 0 (D.take k) + ((D.getD k 0).toNat - 48) := by
  rw [List.take_succ_eq_append_getElem h, decF_snoc]
  simp [List.getElem?_eq_getElem h]

set_option maxRecDepth 100000 in
set_option maxHeartbeats 8000000 in
theorem number_any (S : ByteArray) (D : List UInt8) (w : World) (hS : S.data.toList = D) (hD : ∀ c ∈ D, isDig c = true) (hl : D.length ≤ 60) :
    Calls Tryd.prog 18 #[.string S] w (GivesN (decF 0 D) w) := by
  have hsz : S.size = D.length := by rw [← hS, Array.length_toList]; rfl
  have HD := Lib.hid hD
  have Hat := Lib.hid (show ∀ i (h : i < S.size), (S[i]'h).toNat = (D.getD i 0).toNat by intro i h; rw [byte_at, hS])
  clear hS hD
  go_enter Tryd.func18, Tryd.ntmps18
  go_wp2_with fail
  have h3 := two w #[.bool false, .slice none 0 0] #[.bool false, .slice none 0 0]
  generalize (w.alloc (Obj.cells #[.bool false, .slice none 0 0] 28)).alloc (Obj.cells #[.bool false, .slice none 0 0] 28) = W at h3 ⊢
  generalize w.heap.size + 1 = g1 at h3 ⊢
  obtain ⟨b0, b1, hbw, hz1, hz2⟩ := h3
  have B0 := Lib.hid b0
  have B1 := Lib.hid b1
  have HBW := Lib.hid hbw
  have I10 := Lib.hid (show In64 10 by constructor <;> decide)
  have S10 := Lib.hid ((sm_in I10.out).mono (by decide : 5 ≤ 40))
  clear b0 b1 hbw
  go_loopw [4] (fun iv wr => ∃ (k : Nat) (b : Bool) (A' : Option Addr) (n' c' : Nat), k ≤ D.length ∧ iv = .int .i64 k ∧ Blk wr w.heap.size 28 #[.bool false, .slice none 0 0] ∧ Blk wr g1 28 #[.bool b, .slice A' n' c'] ∧ Nz wr wr.heap.size (.agg #[.bool b, .slice A' n' c']) (decF 0 (D.take k)) ∧ Below w.heap.size w wr) (fun iv _ => D.length - (intOf iv).toNat)
  case atStart => exact ⟨0, false, none, 0, 0, Nat.zero_le _, rfl, B0.out, B1.out, by simpa [decF] using nz_zero W, HBW.out⟩
  case round =>
    obtain ⟨k, b, A', n', c', hk, rfl, k0, k1, kn, hbel⟩ := hrel
    have K0 := Lib.hid k0
    have K1 := Lib.hid k1
    have KN := Lib.hid kn
    have Hbel := Lib.hid hbel
    have hg1 : g1 < wr.heap.size := k1.lt
    have d0 : wr.cell? ⟨g1, 0, none⟩ = some (.bool b) := k1.cell 0
    have d1 : wr.cell? ⟨g1, 1, none⟩ = some (.slice A' n' c') := k1.cell 1
    clear k0 k1 kn hbel
    by_cases hlt : k < D.length
    · have hj : k < S.size := by omega
      have u1 : decide (k < S.size) = true := decide_eq_true hj
      have e1 : ∀ h, (S[k]'h).toNat = (D.getD k 0).toNat := Hat.out k
      have hc := (dig_iff _).1 (HD.out _ (show D.getD k 0 ∈ D by rw [List.getD_eq_getElem?_getD, List.getElem?_eq_getElem hlt]; exact List.getElem_mem hlt))
      have hnx := decF_take D k hlt
      have hsm := sm_dec (D := D.take k) (fun c hc => HD.out c (List.mem_of_mem_take hc)) (by rw [List.length_take]; omega)
      generalize (D.getD k 0).toNat = x at *
      generalize decF 0 (D.take k) = y at *
      have Hnx := Lib.hid (show ((decF 0 (D.take (k + 1)) : Nat) : Int) = (y : Int) * 10 + ((x : Int) - 48) by rw [hnx]; omega)
      have Hsm := Lib.hid hsm
      have Sp := Lib.hid ((Sm.mul hsm (sm_in I10.out)).mono (by decide : 15 + 5 ≤ 200))
      have hw1 : IntKind.u8.wrap ((x : Int) - 48) = (x : Int) - 48 := by rw [IntKind.wrap_u8]; omega
      have hw2 : IntKind.i64.wrap ((x : Int) - 48) = (x : Int) - 48 := IntWalk.i64_in _ (by omega)
      have Id := Lib.hid (show In64 ((x : Int) - 48) by constructor <;> omega)
      have tok : True := trivial
      clear hnx hsm hc
      go_wp2_with fail
      go_region_with (first
        | (go_at_call 11
           have _t := tok
           refine (of_any 10 _ I10.out).mono ?_
           rintro e w2 h2
           obtain ⟨b2, A2, n2, c2, rfl, hn2, hb2, _⟩ := nz_of h2
           have HV := Lib.hid ((Below.refl wr.heap.size wr).drew.trans (hb2.mono (Nat.le_refl _)))
           have T := Lib.hid (K1.out.on HV.out hg1)
           have x0 : w2.cell? ⟨g1, 0, none⟩ = some (.bool b) := T.out.cell 0
           have x1 : w2.cell? ⟨g1, 1, none⟩ = some (.slice A' n' c') := T.out.cell 1
           have N2 := Lib.hid hn2
           clear h2 hn2 hb2 _t tok)
        | (go_at_call 27
           refine (mul_any _ _ y 10 _ (KN.out.on HV.out) N2.out (Hsm.out.mono (by decide)) S10.out).mono ?_
           rintro e w3 h3
           obtain ⟨b3, A3, n3, c3, rfl, hn3, hb3, _⟩ := nz_of h3
           have HV3 := Lib.hid (HV.out.trans (hb3.mono HV.out.size))
           have N3 := Lib.hid hn3
           clear h3 hn3 hb3)
        | (go_at_call 11
           refine (of_any ((x : Int) - 48) _ Id.out).mono ?_
           rintro e w4 h4
           obtain ⟨b4, A4, n4, c4, rfl, hn4, hb4, _⟩ := nz_of h4
           have HV4 := Lib.hid (HV3.out.trans (hb4.mono HV3.out.size))
           have N4 := Lib.hid hn4
           have M4 := Lib.hid (N3.out.on hb4)
           clear h4 hn4 hb4)
        | (go_at_call 26
           refine (add_any _ _ ((y : Int) * 10) ((x : Int) - 48) _ M4.out N4.out Sp.out ((sm_in Id.out).mono (by decide))).mono ?_
           rintro e w5 h5
           obtain ⟨b5, A5, n5, c5, rfl, hn5, hb5, _⟩ := nz_of h5
           have HV5 := Lib.hid (HV4.out.trans (hb5.mono HV4.out.size))
           have T5 := Lib.hid (K1.out.on HV5.out hg1)
           have y0 : w5.cell? ⟨g1, 0, none⟩ = some (.bool b) := T5.out.cell 0
           have y1 : w5.cell? ⟨g1, 1, none⟩ = some (.slice A' n' c') := T5.out.cell 1
           have y2 : w5.frozen? ⟨g1, 0, none⟩ = false := T5.out.free 0
           have y3 : w5.frozen? ⟨g1, 1, none⟩ = false := T5.out.free 1
           have N5 := Lib.hid hn5
           clear h5 hn5 hb5))
      all_goals
        have F0 := Lib.hid ((((K0.out.on HV5.out K0.out.lt).far (p := ⟨g1, 0, none⟩) (by show w.heap.size ≠ g1; omega) (.bool b5))).far (p := ⟨g1, 1, none⟩) (by show w.heap.size ≠ g1; omega) (.slice A5 n5 c5))
        have F1 := Lib.hid ((T5.out.set_ 0 (.bool b5)).set_ 1 (.slice A5 n5 c5))
        have FN := Lib.hid (((N5.out.set T5.out (by decide) 0 (.bool b5)).set (T5.out.set_ 0 (.bool b5)) (by decide) 1 (.slice A5 n5 c5)).more (show w5.heap.size ≤ ((w5.setCell ⟨g1, 0, none⟩ (.bool b5)).setCell ⟨g1, 1, none⟩ (.slice A5 n5 c5)).heap.size by simp [World.setCell]))
        have FB := Lib.hid (((Hbel.out.trans (HV5.out.mono Hbel.out.size)).setCell (p := ⟨g1, 0, none⟩) (by show w.heap.size ≤ g1; omega) (.bool b5)).setCell (p := ⟨g1, 1, none⟩) (by show w.heap.size ≤ g1; omega) (.slice A5 n5 c5))
        go_wp2_with fail
        go_roundw
        case rel => exact ⟨k + 1, b5, A5, n5, c5, by omega, by go_num, F0.out, F1.out, by rw [Hnx.out]; exact FN.out, FB.out⟩
        case measure => simp [intOf]; omega
    · obtain rfl : D.length = k := by omega
      have u1 : decide (D.length < S.size) = false := decide_eq_false (by omega)
      rw [List.take_length] at KN
      have p0 : wr.cell? ⟨w.heap.size, 0, none⟩ = some (.bool false) := K0.out.cell 0
      have p1 : wr.cell? ⟨w.heap.size, 1, none⟩ = some (.slice none 0 0) := K0.out.cell 1
      have p2 : wr.frozen? ⟨w.heap.size, 0, none⟩ = false := K0.out.free 0
      have p3 : wr.frozen? ⟨w.heap.size, 1, none⟩ = false := K0.out.free 1
      have HK := Lib.hid (gives_set KN.out Hbel.out K0.out (Nat.le_refl _) (.bool b) (.slice A' n' c'))
      go_wp2_with fail
      refine bodyPost_ret (v := .agg #[.bool b, .slice A' n' c']) (by simp [results, Tryd.results18, go_sem, p0, p1]) rfl ?_
      exact HK.out
end Go.Proofs.YteoaapjejhjknaaDoor
