/- A path's text, in the program and in the reference; the same steps: contracts. -/
import Derived.Test.YtmcacmhjhejfeaaGreatDoorPthA
import Derived.Test.YtmcacmhjhejfeaaGreatDoorShelfW
import Derived.Test.YtmcacmhjhejfeaaGreatDoorAppS
import Derived.Test.YtmcacmhjhejfeaaGreatDoorOwn
import Derived.Test.YtmcacmhjhejfeaaGreatDoorTexts
import Derived.Test.YtmcacmhjhejfeaaGreatDoorWay
import Derived.Lib.FrozenHead
import Derived.Outline
namespace Go.Proofs.YtmcacmhjhejfeaaGreatDoor
open Go.RowKit
open Tk
set_option linter.unusedVariables false

theorem bld_keep {T e : TypeId} {B b : Nat} {l : List Value} {W W' : World} (h : Lib.IsBuilderF T e B b l W) (hb : Below W.heap.size W W') : Lib.IsBuilderF T e B b l W' := by
  have go : ∀ p, Lib.BuilderAtF T e B b p l W → Lib.BuilderAtF T e B b p l W' := by
    rintro p ⟨h0, v, hv, ho, hn⟩
    have hlt : b < W.heap.size := (Array.getElem?_eq_some_iff.1 hv).1
    refine ⟨h0, v, (hb.block b hlt).trans hv, ?_, hn⟩
    exact World.ownsRowF.kept ho (row := none) ⟨hb.os, hb.tape, hb.output, hb.size, fun k hk _ => hb.block k hk⟩ (Classical.em _)
  exact h.imp (go _) (go _)
def lists (p : List ByteArray) : List (List UInt8) := p.map (·.data.toList)
theorem txt_snoc (l : List (List UInt8)) (x : List UInt8) : Sl.txt (l ++ [x]) = Sl.txt l ++ 47 :: Sl.esc x := by
  induction l with
  | nil => simp [Sl.txt]
  | cons y r ih => rw [List.cons_append, Sl.txt, Sl.txt, ih]; simp
theorem lists_take {p : List ByteArray} {j : Nat} {q : ByteArray} (h : p[j]? = some q) : lists (p.take (j + 1)) = lists (p.take j) ++ [q.data.toList] := by
  have hl := lt_of_get h
  have hx : p[j] = q := by rw [List.getElem?_eq_getElem hl] at h; injection h
  unfold lists
  rw [List.take_succ_eq_append_getElem hl, List.map_append, hx]; rfl
theorem lists_len (p : List ByteArray) (h : ∀ q ∈ p, q.size ≤ 1000) (j : Nat) (hpl : p.length ≤ 1000) : (Sl.txt (lists (p.take j))).length ≤ 2001000 := by
  have h1 := Sl.txt_len 1000 (lists (p.take j)) (fun s hs => by
    obtain ⟨q, hq, rfl⟩ := List.mem_map.1 hs
    exact h q (List.mem_of_mem_take hq))
  have h2 : (lists (p.take j)).length ≤ 1000 := by unfold lists; rw [List.length_map, List.length_take]; omega
  have h3 : (2 * 1000 + 1) * (lists (p.take j)).length ≤ (2 * 1000 + 1) * 1000 := Nat.mul_le_mul_left _ h2
  omega
theorem esc_len1 (l : List UInt8) (h : l.length ≤ 1000) : (Sl.esc l).length ≤ 2000 := by have := Sl.esc_len l; omega
set_option maxRecDepth 100000 in
set_option maxHeartbeats 8000000 in
theorem print_any4 (p : List ByteArray) (P : Option Addr) (cp : Nat) (w : World) (hpl : p.length ≤ 1000) (h60 : ∀ q ∈ p, q.size ≤ 1000) (hp : SReads w (· < w.heap.size) P p) (hm : MaxLen w) :
    Calls Tryz.prog 11 #[.slice P p.length cp] w fun e w' => e = .returned (.string (Sl.mk (Sl.txt (lists p)))) ∧ Below w.heap.size w w' := by
  have HP := Lib.hid hp
  have H60 := Lib.hid h60
  have HM := Lib.hid hm
  have HLen := Lib.hid (fun j => lists_len p h60 j hpl)
  clear hp h60 hm
  go_enter Tryz.func11, Tryz.ntmps11
  go_upto_region 2 with fail
  have hI := Lib.IsBuilderF.of (Lib.fresh_isBuilder 65 5 w)
  have hW : Below w.heap.size w (w.alloc (.cells #[.pointer none, .slice none 0 0] 65)) := (Below.refl _ _).alloc (Nat.le_refl _) _
  generalize (w.alloc (.cells #[.pointer none, .slice none 0 0] 65)) = W at *
  have HI := Lib.hid hI
  have HW := Lib.hid hW
  clear hI hW
  go_wp2_with fail
  go_loopw [8] (fun x wr => ∃ j : Nat, j ≤ p.length ∧ x = .int .i64 j ∧ Lib.IsBuilderF 65 5 w.heap.size w.heap.size (Lib.byteCells (Sl.txt (lists (p.take j)))) wr ∧ Below w.heap.size w wr) (fun x _ => p.length - (intOf x).toNat)
  case atStart => exact ⟨0, Nat.zero_le _, rfl, HI.out, HW.out⟩
  case round =>
    obtain ⟨j, hj, rfl, hI, hbel⟩ := hrel
    have HI := Lib.hid hI
    have HBl := Lib.hid hbel
    have hsz := hbel.size
    clear hI hbel
    by_cases hlt : j < p.length
    · have u1 : decide (j < p.length) = true := decide_eq_true hlt
      have u2 : decide ((j : Int) < (p.length : Int)) = true := decide_eq_true (by omega)
      obtain ⟨bp, op, rfl, hbp, hcp⟩ := (HP.out) (by intro hz; rw [hz] at hlt; simp at hlt)
      obtain ⟨q, hq⟩ : ∃ q, p[j]? = some q := ⟨_, List.getElem?_eq_getElem hlt⟩
      have ep : wr.cell? ⟨bp, op + j, none⟩ = some (.string q) := (HBl.out.cell (p := ⟨bp, op + j, none⟩) hbp).trans (hcp j q hq)
      have HQ := Lib.hid (lists_take hq)
      have hq60 := H60.out q (List.mem_of_getElem? hq)
      have hlen := HLen.out j
      have hel : (Sl.mk (Sl.esc q.data.toList)).size ≤ 2000 := esc_len1 q.data.toList hq60
      clear hcp hq
      go_wp2_with fail
      refine (Tryz.Builder_WriteString_k w.heap.size w.heap.size _ ⟨#[47]⟩ _ HI.out (by rw [Lib.byteCells_length, show (⟨#[47]⟩ : ByteArray).size = 1 from rfl]; omega) hsz).mono ?_
      rintro e w2 ⟨rfl, hI2, hb2, _⟩
      have HI2 := Lib.hid (show Lib.IsBuilderF 65 5 w.heap.size w.heap.size (Lib.byteCells (Sl.txt (lists (p.take j)) ++ [47])) w2 from .inr (by rw [Lib.byteCells_append]; exact hI2))
      have H2 := Lib.hid (HBl.out.trans hb2)
      clear hI2 hb2 ep HI
      go_wp2_with fail
      refine (written_any q (by omega) _ (HM.out.on H2.out)).mono ?_
      rintro e w3 ⟨rfl, hb3⟩
      have HI3 := Lib.hid (bld_keep HI2.out hb3)
      have H3 := Lib.hid (H2.out.trans (hb3.mono H2.out.size))
      have hsz3 := H3.out.size
      clear hb3 HI2
      go_wp2_with fail
      refine (Tryz.Builder_WriteString_k w.heap.size w.heap.size _ (Sl.mk (Sl.esc q.data.toList)) _ HI3.out (by rw [Lib.byteCells_length, List.length_append, List.length_singleton]; omega) hsz3).mono ?_
      rintro e w4 ⟨rfl, hI4, hb4, _⟩
      have HI4 := Lib.hid (show Lib.IsBuilderF 65 5 w.heap.size w.heap.size (Lib.byteCells (Sl.txt (lists (p.take (j + 1))))) w4 from .inr (by
        rw [HQ.out, txt_snoc, List.append_cons, Lib.byteCells_append]; exact hI4))
      have H4 := Lib.hid (H3.out.trans hb4)
      clear hI4 hb4 HI3
      go_wp2_with fail
      go_roundw
      case rel => exact ⟨j + 1, hlt, by go_num, HI4.out, H4.out⟩
      case measure => simp [intOf]; omega
    · obtain rfl : j = p.length := by omega
      have u1 : decide (p.length < p.length) = false := decide_eq_false hlt
      have u2 : decide ((p.length : Int) < (p.length : Int)) = false := decide_eq_false (by omega)
      rw [List.take_length] at HI
      go_wp2_with fail
      refine (Tryz.Builder_String_any_k w.heap.size w.heap.size (Sl.txt (lists p)) _ HI.out hsz).mono ?_
      rintro e w2 ⟨rfl, _, hb2, _⟩
      have H2 := Lib.hid (HBl.out.trans hb2)
      clear hb2
      go_wp2_with fail
      go_ret
      exact ⟨rfl, H2.out⟩
theorem esc_take {q : ByteArray} {k : Nat} (h : k < q.size) : Sl.esc (q.data.toList.take (k + 1)) = Sl.esc (q.data.toList.take k) ++ Sl.esc [q[k]] := by
  have h2 : k < q.data.toList.length := h
  rw [List.take_succ_eq_append_getElem h2, Sl.esc_app]; rfl
theorem esc_t {b : UInt8} (h : b = 126) : Sl.esc [b] = [126, 48] := by rw [h]; rfl
theorem esc_s {b : UInt8} (h : b = 47) : Sl.esc [b] = [126, 49] := by rw [h]; rfl
theorem esc_o {b : UInt8} (h : b ≠ 126) (h2 : b ≠ 47) : Sl.esc [b] = [b] := by simp [Sl.esc, h, h2]
set_option maxRecDepth 100000 in
set_option maxHeartbeats 8000000 in
theorem rprint_any4 (p : List ByteArray) (P : Option Addr) (cp : Nat) (w : World) (hpl : p.length ≤ 100) (h60 : ∀ q ∈ p, q.size ≤ 1000) (hp : SReads w (· < w.heap.size) P p) :
    Calls Tryz.prog 12 #[.slice P p.length cp] w fun e w' => e = .returned (.string (Sl.mk (Sl.txt (lists p)))) ∧ Below w.heap.size w w' := by
  have HP := Lib.hid hp
  have H60 := Lib.hid h60
  have HLen := Lib.hid (show ∀ j, (Sl.txt (lists (p.take j))).length ≤ 200100 from fun j => by
    have h1 := Sl.txt_len 1000 (lists (p.take j)) (fun s hs => by
      obtain ⟨q, hq, rfl⟩ := List.mem_map.1 hs
      exact h60 q (List.mem_of_mem_take hq))
    have h2 : (lists (p.take j)).length ≤ 100 := by unfold lists; rw [List.length_map, List.length_take]; omega
    have h3 : (2 * 1000 + 1) * (lists (p.take j)).length ≤ (2 * 1000 + 1) * 100 := Nat.mul_le_mul_left _ h2
    omega)
  clear hp h60
  go_enter Tryz.func12, Tryz.ntmps12
  go_wp2_with fail
  go_loopw [3, 8] (fun v x wr => ∃ j : Nat, j ≤ p.length ∧ x = .int .i64 j ∧ wr.ownsRow w.heap.size 5 1 v (Sl.txt (lists (p.take j))).length (Lib.byteCells (Sl.txt (lists (p.take j)))) ∧ Below w.heap.size w wr) (fun _ x _ => p.length - (intOf x).toNat)
  case atStart => exact ⟨0, Nat.zero_le _, rfl, World.ownsRow_nil _ _ _ _, Below.refl _ _⟩
  case round =>
    obtain ⟨j, hj, rfl, hown, hbel⟩ := hrel
    have Hown := Lib.hid hown
    have HBl := Lib.hid hbel
    have hsz := hbel.size
    clear hown hbel
    by_cases hlt : j < p.length
    · have u1 : decide (j < p.length) = true := decide_eq_true hlt
      have u2 : decide ((j : Int) < (p.length : Int)) = true := decide_eq_true (by omega)
      have i1 : (j : Int) < (p.length : Int) := by omega
      have i2 : (0 : Int) ≤ (j : Int) := by omega
      obtain ⟨bp, op, rfl, hbp, hcp⟩ := (HP.out) (by intro hz; rw [hz] at hlt; simp at hlt)
      obtain ⟨q, hq⟩ : ∃ q, p[j]? = some q := ⟨_, List.getElem?_eq_getElem hlt⟩
      have HQ := Lib.hid (lists_take hq)
      have hq60 := H60.out q (List.mem_of_getElem? hq)
      have hlen := HLen.out j
      have HC := Lib.hid (show ∀ W, Below w.heap.size w W → W.cell? ⟨bp, op + j, none⟩ = some (.string q) from fun W hb => (hb.cell (p := ⟨bp, op + j, none⟩) hbp).trans (hcp j q hq))
      clear hcp hq
      go_wp2_with (at_builtin; refine app_u8 rfl (.tmp 11) (.tmp 12) rfl w.heap.size _ _ 47 47 rfl rfl rfl Hown.out (by omega) hsz ?_; intro v' w3 hown3 hb3)
      have HO3 := Lib.hid hown3
      have HB3 := Lib.hid (hb3 _ HBl.out)
      clear hown3 hb3
      go_wp2_with fail
      go_loopw [3, 5] (fun v x wi => ∃ k : Nat, k ≤ q.size ∧ x = .int .i64 k ∧ wi.ownsRow w.heap.size 5 1 v (Sl.txt (lists (p.take j)) ++ [47] ++ Sl.esc (q.data.toList.take k)).length (Lib.byteCells (Sl.txt (lists (p.take j)) ++ [47] ++ Sl.esc (q.data.toList.take k))) ∧ Below w.heap.size w wi) (fun _ x _ => q.size - (intOf x).toNat)
      case atStart => exact ⟨0, Nat.zero_le _, rfl, by rw [List.take_zero, Sl.esc, List.append_nil]; exact HO3.out, HB3.out⟩
      case round =>
        obtain ⟨k, hk, rfl, hown2, hbel2⟩ := hrel
        have Hown2 := Lib.hid hown2
        have HB2 := Lib.hid hbel2
        have hsz2 := hbel2.size
        have ep := HC.out _ hbel2
        clear hown2 hbel2
        by_cases hkl : k < q.size
        · have w1 : decide ((k : Int) < (q.size : Int)) = true := decide_eq_true (by omega)
          have w2 : decide (k < q.size) = true := decide_eq_true hkl
          have g1 : (k : Int) < (q.size : Int) := by omega
          have g2 : (0 : Int) ≤ (k : Int) := by omega
          have hx := bt_at q k hkl
          have HE := Lib.hid (esc_take hkl)
          have hlk : (Sl.txt (lists (p.take j)) ++ [47] ++ Sl.esc (q.data.toList.take k)).length ≤ 500000 := by
            have := Sl.esc_len (q.data.toList.take k)
            rw [List.length_take] at this
            rw [List.length_append, List.length_append, List.length_singleton]
            have : q.data.toList.length = q.size := rfl
            omega
          by_cases h126 : q[k] = 126
          · have v1 : ((q[k].toNat : Int) == 126) = true := by rw [h126]; rfl
            have v2 : (q[k].toNat : Int) = 126 := by rw [h126]; rfl
            have HE2 := Lib.hid (HE.out.trans (congrArg _ (esc_t h126)))
            clear h126 hx HE
            go_wp2_with (at_builtin; refine app_u82 rfl (.tmp 40) (.tmp 41) rfl w.heap.size _ _ 126 48 126 48 rfl rfl rfl rfl Hown2.out (by omega) hsz2 ?_; intro v' w3 hown3 hb3)
            have HO4 := Lib.hid hown3
            have HB4 := Lib.hid (hb3 _ HB2.out)
            clear hown3 hb3
            go_wp2_with fail
            go_roundw
            case rel => exact ⟨k + 1, hkl, by go_num, by rw [HE2.out, ← List.append_assoc]; exact HO4.out, HB4.out⟩
            case measure => simp [intOf]; omega
          · have v1 : ((q[k].toNat : Int) == 126) = false := by rw [beq_eq_false_iff_ne]; intro e; exact h126 (UInt8.toNat_inj.1 (by have e2 : (126 : UInt8).toNat = 126 := rfl; omega))
            have v2 : ¬ (q[k].toNat : Int) = 126 := beq_eq_false_iff_ne.1 v1
            by_cases h47 : q[k] = 47
            · have v3 : ((q[k].toNat : Int) == 47) = true := by rw [h47]; rfl
              have v4 : (q[k].toNat : Int) = 47 := by rw [h47]; rfl
              have HE2 := Lib.hid (HE.out.trans (congrArg _ (esc_s h47)))
              clear h126 h47 hx HE
              go_wp2_with (at_builtin; refine app_u82 rfl (.tmp 45) (.tmp 46) rfl w.heap.size _ _ 126 49 126 49 rfl rfl rfl rfl Hown2.out (by omega) hsz2 ?_; intro v' w3 hown3 hb3)
              have HO4 := Lib.hid hown3
              have HB4 := Lib.hid (hb3 _ HB2.out)
              clear hown3 hb3
              go_wp2_with fail
              go_roundw
              case rel => exact ⟨k + 1, hkl, by go_num, by rw [HE2.out, ← List.append_assoc]; exact HO4.out, HB4.out⟩
              case measure => simp [intOf]; omega
            · have v3 : ((q[k].toNat : Int) == 47) = false := by rw [beq_eq_false_iff_ne]; intro e; exact h47 (UInt8.toNat_inj.1 (by have e2 : (47 : UInt8).toNat = 47 := rfl; omega))
              have v4 : ¬ (q[k].toNat : Int) = 47 := beq_eq_false_iff_ne.1 v3
              have HE2 := Lib.hid (HE.out.trans (congrArg _ (esc_o h126 h47)))
              clear h126 h47 hx HE
              go_wp2_with (at_builtin; refine app_u8 rfl (.tmp 29) (.tmp 36) rfl w.heap.size _ _ q[k] _ rfl rfl rfl Hown2.out (by omega) hsz2 ?_; intro v' w3 hown3 hb3)
              have HO4 := Lib.hid hown3
              have HB4 := Lib.hid (hb3 _ HB2.out)
              clear hown3 hb3
              go_wp2_with fail
              go_roundw
              case rel => exact ⟨k + 1, hkl, by go_num, by rw [HE2.out, ← List.append_assoc]; exact HO4.out, HB4.out⟩
              case measure => simp [intOf]; omega
        · obtain rfl : k = q.size := by omega
          have w1 : decide ((q.size : Int) < (q.size : Int)) = false := decide_eq_false (by omega)
          have w2 : decide (q.size < q.size) = false := decide_eq_false (by omega)
          have hfin : Sl.txt (lists (p.take (j + 1))) = Sl.txt (lists (p.take j)) ++ [47] ++ Sl.esc (q.data.toList.take q.size) := by
            rw [HQ.out, txt_snoc, List.take_of_length_le (show q.data.toList.length ≤ q.size from Nat.le_refl _), List.append_cons]
          have HF := Lib.hid hfin
          clear hfin
          go_wp2_with fail
          go_roundw
          case rel => exact ⟨j + 1, hlt, by go_num, by rw [HF.out]; exact Hown2.out, HB2.out⟩
          case measure => simp [intOf]; omega
    · obtain rfl : j = p.length := by omega
      have u1 : decide (p.length < p.length) = false := decide_eq_false hlt
      have u2 : decide ((p.length : Int) < (p.length : Int)) = false := decide_eq_false (by omega)
      rw [List.take_length] at Hown
      have hcv := conv_owned Hown.out
      go_wp2_with fail
      go_ret
      exact ⟨rfl, HBl.out⟩
set_option maxRecDepth 100000 in
set_option maxHeartbeats 4000000 in
theorem same_yes4 (p : List ByteArray) (P : Option Addr) (cp : Nat) (Q : Option Addr) (cq : Nat) (w : World) (hpl : p.length ≤ 1000000) (hp : SReads w (· < w.heap.size) P p) (hq : SReads w (· < w.heap.size) Q p) :
    Calls Tryz.prog 9 #[.slice P p.length cp, .slice Q p.length cq] w fun e w' => e = .returned (.bool true) ∧ Below w.heap.size w w' := by
  have HP := Lib.hid hp
  have HQ := Lib.hid hq
  have n1 : ((p.length : Int) != (p.length : Int)) = false := by simp
  clear hp hq
  go_enter Tryz.func9, Tryz.ntmps9
  go_wp2_with fail
  go_loopw [13] (fun x wr => ∃ j : Nat, j ≤ p.length ∧ x = .int .i64 j ∧ Below w.heap.size w wr) (fun x _ => p.length - (intOf x).toNat)
  case atStart => exact ⟨0, Nat.zero_le _, rfl, Below.refl _ _⟩
  case round =>
    obtain ⟨j, hj, rfl, hbel⟩ := hrel
    have HBl := Lib.hid hbel
    clear hbel
    by_cases hlt : j < p.length
    · have u1 : decide (j < p.length) = true := decide_eq_true hlt
      have u2 : decide ((j : Int) < (p.length : Int)) = true := decide_eq_true (by omega)
      have i1 : (j : Int) < (p.length : Int) := by omega
      have i2 : (0 : Int) ≤ (j : Int) := by omega
      obtain ⟨x, hx⟩ : ∃ x, p[j]? = some x := ⟨_, List.getElem?_eq_getElem hlt⟩
      obtain ⟨bp, op, rfl, hbp, hcp⟩ := (HP.out) (by intro hz; rw [hz] at hlt; simp at hlt)
      obtain ⟨bq, oq, rfl, hbq, hcq⟩ := (HQ.out) (by intro hz; rw [hz] at hlt; simp at hlt)
      have ep : wr.cell? ⟨bp, op + j, none⟩ = some (.string x) := (HBl.out.cell (p := ⟨bp, op + j, none⟩) hbp).trans (hcp j x hx)
      have eq : wr.cell? ⟨bq, oq + j, none⟩ = some (.string x) := (HBl.out.cell (p := ⟨bq, oq + j, none⟩) hbq).trans (hcq j x hx)
      have hxx : (x.toList == x.toList) = true := beq_self_eq_true _
      clear hcp hcq hx
      go_wp2_with fail
      go_quiet (fail)
      go_wp2_with fail
      go_roundw
      case rel => exact ⟨j + 1, hlt, by go_num, below_drewN HBl.out _⟩
      case measure => simp [intOf]; omega
    · obtain rfl : j = p.length := by omega
      have u1 : decide (p.length < p.length) = false := decide_eq_false hlt
      have u2 : decide ((p.length : Int) < (p.length : Int)) = false := decide_eq_false (by omega)
      go_wp2_with fail
      go_ret
      exact ⟨rfl, HBl.out⟩
end Go.Proofs.YtmcacmhjhejfeaaGreatDoor
