/- The reference's Quote: contract. A text's text: contract. The reference's text of a value: contract. A value's text, its width, and the reference's text: contracts. -/
import Derived.Test.YtaeimlfehlbiiaaGreatDoorOA
import Derived.Test.YtaeimlfehlbiiaaGreatDoorMJ
import Derived.Lib.RuneBytes
import Derived.Outline
import Derived.Test.YtaeimlfehlbiiaaGreatDoorOI
import Derived.Test.YtaeimlfehlbiiaaGreatDoorNA
import Derived.Test.YtaeimlfehlbiiaaGreatDoorOF
namespace Go.Proofs.YtaeimlfehlbiiaaGreatDoor
open Go.RowKit
set_option linter.unusedVariables false
def Row8 (B : Nat) (l : List UInt8) (v : Value) (w : World) : Prop := w.ownsRow B 5 1 v l.length (Lib.byteCells l) ∧ B ≤ w.heap.size
theorem Row8.on {B : Nat} {l : List UInt8} {v : Value} {w w' : World} (h : Row8 B l v w) (hb : Below w.heap.size w w') : Row8 B l v w' := ⟨own_keptS h.1 hb, Nat.le_trans h.2 hb.size⟩
theorem escK_len (c : UInt8) (k : Nat) (hk : k ≤ 7) : (Q.escK c k).length ≤ 14 := by
 unfold Q.escK
 have : ∀ (l : List (UInt8 × UInt8)), (l.flatMap fun pq => if pq.1 = c then [92, pq.2] else []).length ≤ 2 * l.length := by
  intro l
  induction l with
  | nil => simp
  | cons a l ih => simp only [List.flatMap_cons, List.length_append, List.length_cons]; split <;> (simp only [List.length_cons, List.length_nil]; omega)
 have h := this (Q.P7.take k)
 have h2 : (Q.P7.take k).length ≤ 7 := by rw [List.length_take]; exact Nat.min_le_right _ _
 omega
theorem src6 {w : World} {a b c d e f : UInt8} : Src (w.alloc (.cells #[.int .u8 a.toNat, .int .u8 b.toNat, .int .u8 c.toNat, .int .u8 d.toNat, .int .u8 e.toNat, .int .u8 f.toNat] 5)).drew (some ⟨w.heap.size, 0, none⟩) 6 1 (Lib.byteCells [a, b, c, d, e, f]) := by
 refine ⟨rfl, fun _ => ⟨⟨w.heap.size, 0, none⟩, rfl, fun j u hu => ?_⟩⟩
 rw [add_lit]
 have hb : Blk (w.alloc (.cells #[.int .u8 a.toNat, .int .u8 b.toNat, .int .u8 c.toNat, .int .u8 d.toNat, .int .u8 e.toNat, .int .u8 f.toNat] 5)) w.heap.size 5 #[.int .u8 a.toNat, .int .u8 b.toNat, .int .u8 c.toNat, .int .u8 d.toNat, .int .u8 e.toNat, .int .u8 f.toNat] := Blk.new w _ _
 have h := hb.cell (0 + j)
 rw [Nat.zero_add] at h ⊢
 exact h.trans (by rw [← hu]; simp [Lib.byteCells])
theorem grown_size {w w' : World} {o : Obj} {row : Option Nat} (h : ((w.alloc o).drew).grownBy w' row) : w.heap.size ≤ w'.heap.size := by
 have h1 := h.size
 have h2 : ((w.alloc o).drew).heap.size = w.heap.size + 1 := by show (w.heap.push o).size = _; rw [Array.size_push]
 omega
theorem alloc_size {w : World} {o : Obj} {B : Nat} (h : B ≤ w.heap.size) : B ≤ ((w.alloc o).drew).heap.size := by
 have h2 : ((w.alloc o).drew).heap.size = w.heap.size + 1 := by show (w.heap.push o).size = _; rw [Array.size_push]
 omega
set_option maxRecDepth 100000 in
set_option maxHeartbeats 200000000 in
theorem rquote_any (s : ByteArray) (w : World) (hs : s.size ≤ 1000) :
 Calls Tryz.prog 52 #[.string s] w fun e w' => e = .returned (.string (mkB (Q.quo s.data.toList))) ∧ Below w.heap.size w w' := by
 obtain ⟨i0, hi, hz0, hz1, hz2⟩ := info_parts info5
 go_enter Tryz.func52, Tryz.ntmps52
 go_upto_region 3 with fail
 have hA : Below w.heap.size w (w.alloc (.cells #[.int .u8 34] 5)) := (Below.refl _ _).alloc (Nat.le_refl _) _
 have hR : Row8 w.heap.size [34] (.slice (some ⟨w.heap.size, 0, none⟩) 1 1) (w.alloc (.cells #[.int .u8 34] 5)) := ⟨World.ownsRow_lit (base := w.heap.size) (e := 5) (size := 1) w #[.int .u8 34] 1 (Nat.le_refl _) (by unfold maxLen; omega) rfl, by simp⟩
 have HA := Lib.hid hA
 have HR0 := Lib.hid hR
 clear hA hR
 change Code.wp _ _ _ _ (w.alloc (.cells #[.int .u8 34] 5))
 generalize (w.alloc (.cells #[.int .u8 34] 5)) = W at *
 go_wp2_with fail
 go_loopw [6, 3] (fun x y wr => ∃ j : Nat, j ≤ s.size ∧ x = .int .i64 j ∧ Row8 w.heap.size (34 :: (s.data.toList.take j).flatMap Q.esc) y wr ∧ Below w.heap.size w wr) (fun x _ _ => s.size - (intOf x).toNat)
 case atStart => exact ⟨0, Nat.zero_le _, rfl, by simpa using HR0.out, HA.out⟩
 case round =>
  obtain ⟨j, hj, rfl, hrow, hbel⟩ := hrel
  have HR := Lib.hid hrow
  have HBl := Lib.hid hbel
  have hfl := flat_take_len s.data.toList j s.size (by simp)
  clear hrow hbel
  by_cases hlt : j < s.size
  ·
   have u1 : decide (j < s.size) = true := decide_eq_true hlt
   have u2 : decide ((j : Int) < (s.size : Int)) = true := decide_eq_true (by omega)
   have i1 : (j : Int) < (s.size : Int) := by omega
   have i2 : (0 : Int) ≤ (j : Int) := by omega
   have HTF := Lib.hid (take_flat hlt)
   go_upto_region 7 with fail
   generalize s[j] = ch at *
   have HEK := Lib.hid (Q.esc_K ch)
   go_wp2_with fail
   go_loopw [9, 3, 8] (fun x y z wq => ∃ m : Int, 0 ≤ m ∧ m ≤ 7 ∧ x = .int .i64 m ∧ Row8 w.heap.size ((34 :: (s.data.toList.take j).flatMap Q.esc) ++ Q.escK ch m.toNat) y wq ∧ z = .bool (!(Q.escK ch m.toNat).isEmpty) ∧ Below w.heap.size w wq) (fun x _ _ _ => 7 - (intOf x).toNat)
   case atStart => exact ⟨0, Int.le_refl _, by omega, rfl, by simpa [Q.escK] using HR.out, rfl, HBl.out⟩
   case round =>
    obtain ⟨m, hm0, hm7, rfl, hrow, rfl, hbel⟩ := hrel
    have HQ := Lib.hid hrow
    have HBq := Lib.hid hbel
    clear hrow hbel
    have hek := escK_len ch m.toNat (by omega)
    have hq0 := HQ.out.2
    rcases (by omega : m = 0 ∨ m = 1 ∨ m = 2 ∨ m = 3 ∨ m = 4 ∨ m = 5 ∨ m = 6 ∨ m = 7) with rfl | rfl | rfl | rfl | rfl | rfl | rfl | rfl
    ·
     by_cases hc : ch.toNat = 34
     ·
      have he : ch = 34 := UInt8.toNat_inj.1 hc
      have u3 : ((ch.toNat : Int) == 34) = true := by rw [beq_iff_eq, hc]; rfl
      have u4 : ((ch.toNat : Int) == ((((⟨#[34, 92, 8, 12, 10, 13, 9]⟩ : ByteArray)[0]'(by decide)).toNat : Nat) : Int)) = true := u3
      have HS := Lib.hid (show Q.escK ch 1 = Q.escK ch 0 ++ [92, 34] from by rw [Q.escK_succ ch (k := 0) (p := (34, 34)) rfl, he]; rfl)
      clear hc he
      go_wp2_with (
       at_builtin
       go_loud (refine app_u82 rfl (.tmp 31) (.tmp 35) rfl w.heap.size _ ((34 :: (s.data.toList.take j).flatMap Q.esc) ++ Q.escK ch 0) 92 34 _ _ rfl rfl rfl rfl HQ.out.1 (by simp only [List.length_append, List.length_cons]; simp at hek; omega) HQ.out.2 ?_)
       intro v2 w2 ho2 hb2
       have HO2 := Lib.hid ho2
       have H2 := Lib.hid (hb2 w HBq.out)
       clear ho2 hb2)
      go_roundw
      case rel => exact ⟨1, by omega, by omega, rfl, by rw [show (1 : Int).toNat = 1 from rfl, HS.out, ← List.append_assoc]; exact ⟨HO2.out, H2.out.size⟩, by rw [show (1 : Int).toNat = 1 from rfl, HS.out]; simp, H2.out⟩
      case measure => simp [intOf]
     ·
      have u3 : ((ch.toNat : Int) == 34) = false := by rw [beq_eq_false_iff_ne]; omega
      have u4 : ((ch.toNat : Int) == ((((⟨#[34, 92, 8, 12, 10, 13, 9]⟩ : ByteArray)[0]'(by decide)).toNat : Nat) : Int)) = false := u3
      have HS := Lib.hid (show Q.escK ch 1 = Q.escK ch 0 from by rw [Q.escK_succ ch (k := 0) (p := (34, 34)) rfl, if_neg (fun e => hc (by rw [← e]; rfl)), List.append_nil])
      clear hc
      go_wp2_with fail
      go_roundw
      case rel => exact ⟨1, by omega, by omega, rfl, by rw [show (1 : Int).toNat = 1 from rfl, HS.out]; exact HQ.out, by rw [show (1 : Int).toNat = 1 from rfl, HS.out]; rfl, HBq.out⟩
      case measure => simp [intOf]
    ·
     by_cases hc : ch.toNat = 92
     ·
      have he : ch = 92 := UInt8.toNat_inj.1 hc
      have u3 : ((ch.toNat : Int) == 92) = true := by rw [beq_iff_eq, hc]; rfl
      have u4 : ((ch.toNat : Int) == ((((⟨#[34, 92, 8, 12, 10, 13, 9]⟩ : ByteArray)[1]'(by decide)).toNat : Nat) : Int)) = true := u3
      have HS := Lib.hid (show Q.escK ch 2 = Q.escK ch 1 ++ [92, 92] from by rw [Q.escK_succ ch (k := 1) (p := (92, 92)) rfl, he]; rfl)
      clear hc he
      go_wp2_with (
       at_builtin
       go_loud (refine app_u82 rfl (.tmp 31) (.tmp 35) rfl w.heap.size _ ((34 :: (s.data.toList.take j).flatMap Q.esc) ++ Q.escK ch 1) 92 92 _ _ rfl rfl rfl rfl HQ.out.1 (by simp only [List.length_append, List.length_cons]; simp at hek; omega) HQ.out.2 ?_)
       intro v2 w2 ho2 hb2
       have HO2 := Lib.hid ho2
       have H2 := Lib.hid (hb2 w HBq.out)
       clear ho2 hb2)
      go_roundw
      case rel => exact ⟨2, by omega, by omega, rfl, by rw [show (2 : Int).toNat = 2 from rfl, HS.out, ← List.append_assoc]; exact ⟨HO2.out, H2.out.size⟩, by rw [show (2 : Int).toNat = 2 from rfl, HS.out]; simp, H2.out⟩
      case measure => simp [intOf]
     ·
      have u3 : ((ch.toNat : Int) == 92) = false := by rw [beq_eq_false_iff_ne]; omega
      have u4 : ((ch.toNat : Int) == ((((⟨#[34, 92, 8, 12, 10, 13, 9]⟩ : ByteArray)[1]'(by decide)).toNat : Nat) : Int)) = false := u3
      have HS := Lib.hid (show Q.escK ch 2 = Q.escK ch 1 from by rw [Q.escK_succ ch (k := 1) (p := (92, 92)) rfl, if_neg (fun e => hc (by rw [← e]; rfl)), List.append_nil])
      clear hc
      go_wp2_with fail
      go_roundw
      case rel => exact ⟨2, by omega, by omega, rfl, by rw [show (2 : Int).toNat = 2 from rfl, HS.out]; exact HQ.out, by rw [show (2 : Int).toNat = 2 from rfl, HS.out]; rfl, HBq.out⟩
      case measure => simp [intOf]
    ·
     by_cases hc : ch.toNat = 8
     ·
      have he : ch = 8 := UInt8.toNat_inj.1 hc
      have u3 : ((ch.toNat : Int) == 8) = true := by rw [beq_iff_eq, hc]; rfl
      have u4 : ((ch.toNat : Int) == ((((⟨#[34, 92, 8, 12, 10, 13, 9]⟩ : ByteArray)[2]'(by decide)).toNat : Nat) : Int)) = true := u3
      have HS := Lib.hid (show Q.escK ch 3 = Q.escK ch 2 ++ [92, 98] from by rw [Q.escK_succ ch (k := 2) (p := (8, 98)) rfl, he]; rfl)
      clear hc he
      go_wp2_with (
       at_builtin
       go_loud (refine app_u82 rfl (.tmp 31) (.tmp 35) rfl w.heap.size _ ((34 :: (s.data.toList.take j).flatMap Q.esc) ++ Q.escK ch 2) 92 98 _ _ rfl rfl rfl rfl HQ.out.1 (by simp only [List.length_append, List.length_cons]; simp at hek; omega) HQ.out.2 ?_)
       intro v2 w2 ho2 hb2
       have HO2 := Lib.hid ho2
       have H2 := Lib.hid (hb2 w HBq.out)
       clear ho2 hb2)
      go_roundw
      case rel => exact ⟨3, by omega, by omega, rfl, by rw [show (3 : Int).toNat = 3 from rfl, HS.out, ← List.append_assoc]; exact ⟨HO2.out, H2.out.size⟩, by rw [show (3 : Int).toNat = 3 from rfl, HS.out]; simp, H2.out⟩
      case measure => simp [intOf]
     ·
      have u3 : ((ch.toNat : Int) == 8) = false := by rw [beq_eq_false_iff_ne]; omega
      have u4 : ((ch.toNat : Int) == ((((⟨#[34, 92, 8, 12, 10, 13, 9]⟩ : ByteArray)[2]'(by decide)).toNat : Nat) : Int)) = false := u3
      have HS := Lib.hid (show Q.escK ch 3 = Q.escK ch 2 from by rw [Q.escK_succ ch (k := 2) (p := (8, 98)) rfl, if_neg (fun e => hc (by rw [← e]; rfl)), List.append_nil])
      clear hc
      go_wp2_with fail
      go_roundw
      case rel => exact ⟨3, by omega, by omega, rfl, by rw [show (3 : Int).toNat = 3 from rfl, HS.out]; exact HQ.out, by rw [show (3 : Int).toNat = 3 from rfl, HS.out]; rfl, HBq.out⟩
      case measure => simp [intOf]
    ·
     by_cases hc : ch.toNat = 12
     ·
      have he : ch = 12 := UInt8.toNat_inj.1 hc
      have u3 : ((ch.toNat : Int) == 12) = true := by rw [beq_iff_eq, hc]; rfl
      have u4 : ((ch.toNat : Int) == ((((⟨#[34, 92, 8, 12, 10, 13, 9]⟩ : ByteArray)[3]'(by decide)).toNat : Nat) : Int)) = true := u3
      have HS := Lib.hid (show Q.escK ch 4 = Q.escK ch 3 ++ [92, 102] from by rw [Q.escK_succ ch (k := 3) (p := (12, 102)) rfl, he]; rfl)
      clear hc he
      go_wp2_with (
       at_builtin
       go_loud (refine app_u82 rfl (.tmp 31) (.tmp 35) rfl w.heap.size _ ((34 :: (s.data.toList.take j).flatMap Q.esc) ++ Q.escK ch 3) 92 102 _ _ rfl rfl rfl rfl HQ.out.1 (by simp only [List.length_append, List.length_cons]; simp at hek; omega) HQ.out.2 ?_)
       intro v2 w2 ho2 hb2
       have HO2 := Lib.hid ho2
       have H2 := Lib.hid (hb2 w HBq.out)
       clear ho2 hb2)
      go_roundw
      case rel => exact ⟨4, by omega, by omega, rfl, by rw [show (4 : Int).toNat = 4 from rfl, HS.out, ← List.append_assoc]; exact ⟨HO2.out, H2.out.size⟩, by rw [show (4 : Int).toNat = 4 from rfl, HS.out]; simp, H2.out⟩
      case measure => simp [intOf]
     ·
      have u3 : ((ch.toNat : Int) == 12) = false := by rw [beq_eq_false_iff_ne]; omega
      have u4 : ((ch.toNat : Int) == ((((⟨#[34, 92, 8, 12, 10, 13, 9]⟩ : ByteArray)[3]'(by decide)).toNat : Nat) : Int)) = false := u3
      have HS := Lib.hid (show Q.escK ch 4 = Q.escK ch 3 from by rw [Q.escK_succ ch (k := 3) (p := (12, 102)) rfl, if_neg (fun e => hc (by rw [← e]; rfl)), List.append_nil])
      clear hc
      go_wp2_with fail
      go_roundw
      case rel => exact ⟨4, by omega, by omega, rfl, by rw [show (4 : Int).toNat = 4 from rfl, HS.out]; exact HQ.out, by rw [show (4 : Int).toNat = 4 from rfl, HS.out]; rfl, HBq.out⟩
      case measure => simp [intOf]
    ·
     by_cases hc : ch.toNat = 10
     ·
      have he : ch = 10 := UInt8.toNat_inj.1 hc
      have u3 : ((ch.toNat : Int) == 10) = true := by rw [beq_iff_eq, hc]; rfl
      have u4 : ((ch.toNat : Int) == ((((⟨#[34, 92, 8, 12, 10, 13, 9]⟩ : ByteArray)[4]'(by decide)).toNat : Nat) : Int)) = true := u3
      have HS := Lib.hid (show Q.escK ch 5 = Q.escK ch 4 ++ [92, 110] from by rw [Q.escK_succ ch (k := 4) (p := (10, 110)) rfl, he]; rfl)
      clear hc he
      go_wp2_with (
       at_builtin
       go_loud (refine app_u82 rfl (.tmp 31) (.tmp 35) rfl w.heap.size _ ((34 :: (s.data.toList.take j).flatMap Q.esc) ++ Q.escK ch 4) 92 110 _ _ rfl rfl rfl rfl HQ.out.1 (by simp only [List.length_append, List.length_cons]; simp at hek; omega) HQ.out.2 ?_)
       intro v2 w2 ho2 hb2
       have HO2 := Lib.hid ho2
       have H2 := Lib.hid (hb2 w HBq.out)
       clear ho2 hb2)
      go_roundw
      case rel => exact ⟨5, by omega, by omega, rfl, by rw [show (5 : Int).toNat = 5 from rfl, HS.out, ← List.append_assoc]; exact ⟨HO2.out, H2.out.size⟩, by rw [show (5 : Int).toNat = 5 from rfl, HS.out]; simp, H2.out⟩
      case measure => simp [intOf]
     ·
      have u3 : ((ch.toNat : Int) == 10) = false := by rw [beq_eq_false_iff_ne]; omega
      have u4 : ((ch.toNat : Int) == ((((⟨#[34, 92, 8, 12, 10, 13, 9]⟩ : ByteArray)[4]'(by decide)).toNat : Nat) : Int)) = false := u3
      have HS := Lib.hid (show Q.escK ch 5 = Q.escK ch 4 from by rw [Q.escK_succ ch (k := 4) (p := (10, 110)) rfl, if_neg (fun e => hc (by rw [← e]; rfl)), List.append_nil])
      clear hc
      go_wp2_with fail
      go_roundw
      case rel => exact ⟨5, by omega, by omega, rfl, by rw [show (5 : Int).toNat = 5 from rfl, HS.out]; exact HQ.out, by rw [show (5 : Int).toNat = 5 from rfl, HS.out]; rfl, HBq.out⟩
      case measure => simp [intOf]
    ·
     by_cases hc : ch.toNat = 13
     ·
      have he : ch = 13 := UInt8.toNat_inj.1 hc
      have u3 : ((ch.toNat : Int) == 13) = true := by rw [beq_iff_eq, hc]; rfl
      have u4 : ((ch.toNat : Int) == ((((⟨#[34, 92, 8, 12, 10, 13, 9]⟩ : ByteArray)[5]'(by decide)).toNat : Nat) : Int)) = true := u3
      have HS := Lib.hid (show Q.escK ch 6 = Q.escK ch 5 ++ [92, 114] from by rw [Q.escK_succ ch (k := 5) (p := (13, 114)) rfl, he]; rfl)
      clear hc he
      go_wp2_with (
       at_builtin
       go_loud (refine app_u82 rfl (.tmp 31) (.tmp 35) rfl w.heap.size _ ((34 :: (s.data.toList.take j).flatMap Q.esc) ++ Q.escK ch 5) 92 114 _ _ rfl rfl rfl rfl HQ.out.1 (by simp only [List.length_append, List.length_cons]; simp at hek; omega) HQ.out.2 ?_)
       intro v2 w2 ho2 hb2
       have HO2 := Lib.hid ho2
       have H2 := Lib.hid (hb2 w HBq.out)
       clear ho2 hb2)
      go_roundw
      case rel => exact ⟨6, by omega, by omega, rfl, by rw [show (6 : Int).toNat = 6 from rfl, HS.out, ← List.append_assoc]; exact ⟨HO2.out, H2.out.size⟩, by rw [show (6 : Int).toNat = 6 from rfl, HS.out]; simp, H2.out⟩
      case measure => simp [intOf]
     ·
      have u3 : ((ch.toNat : Int) == 13) = false := by rw [beq_eq_false_iff_ne]; omega
      have u4 : ((ch.toNat : Int) == ((((⟨#[34, 92, 8, 12, 10, 13, 9]⟩ : ByteArray)[5]'(by decide)).toNat : Nat) : Int)) = false := u3
      have HS := Lib.hid (show Q.escK ch 6 = Q.escK ch 5 from by rw [Q.escK_succ ch (k := 5) (p := (13, 114)) rfl, if_neg (fun e => hc (by rw [← e]; rfl)), List.append_nil])
      clear hc
      go_wp2_with fail
      go_roundw
      case rel => exact ⟨6, by omega, by omega, rfl, by rw [show (6 : Int).toNat = 6 from rfl, HS.out]; exact HQ.out, by rw [show (6 : Int).toNat = 6 from rfl, HS.out]; rfl, HBq.out⟩
      case measure => simp [intOf]
    ·
     by_cases hc : ch.toNat = 9
     ·
      have he : ch = 9 := UInt8.toNat_inj.1 hc
      have u3 : ((ch.toNat : Int) == 9) = true := by rw [beq_iff_eq, hc]; rfl
      have u4 : ((ch.toNat : Int) == ((((⟨#[34, 92, 8, 12, 10, 13, 9]⟩ : ByteArray)[6]'(by decide)).toNat : Nat) : Int)) = true := u3
      have HS := Lib.hid (show Q.escK ch 7 = Q.escK ch 6 ++ [92, 116] from by rw [Q.escK_succ ch (k := 6) (p := (9, 116)) rfl, he]; rfl)
      clear hc he
      go_wp2_with (
       at_builtin
       go_loud (refine app_u82 rfl (.tmp 31) (.tmp 35) rfl w.heap.size _ ((34 :: (s.data.toList.take j).flatMap Q.esc) ++ Q.escK ch 6) 92 116 _ _ rfl rfl rfl rfl HQ.out.1 (by simp only [List.length_append, List.length_cons]; simp at hek; omega) HQ.out.2 ?_)
       intro v2 w2 ho2 hb2
       have HO2 := Lib.hid ho2
       have H2 := Lib.hid (hb2 w HBq.out)
       clear ho2 hb2)
      go_roundw
      case rel => exact ⟨7, by omega, by omega, rfl, by rw [show (7 : Int).toNat = 7 from rfl, HS.out, ← List.append_assoc]; exact ⟨HO2.out, H2.out.size⟩, by rw [show (7 : Int).toNat = 7 from rfl, HS.out]; simp, H2.out⟩
      case measure => simp [intOf]
     ·
      have u3 : ((ch.toNat : Int) == 9) = false := by rw [beq_eq_false_iff_ne]; omega
      have u4 : ((ch.toNat : Int) == ((((⟨#[34, 92, 8, 12, 10, 13, 9]⟩ : ByteArray)[6]'(by decide)).toNat : Nat) : Int)) = false := u3
      have HS := Lib.hid (show Q.escK ch 7 = Q.escK ch 6 from by rw [Q.escK_succ ch (k := 6) (p := (9, 116)) rfl, if_neg (fun e => hc (by rw [← e]; rfl)), List.append_nil])
      clear hc
      go_wp2_with fail
      go_roundw
      case rel => exact ⟨7, by omega, by omega, rfl, by rw [show (7 : Int).toNat = 7 from rfl, HS.out]; exact HQ.out, by rw [show (7 : Int).toNat = 7 from rfl, HS.out]; rfl, HBq.out⟩
      case measure => simp [intOf]
    ·
     have h7 : (7 : Int).toNat = 7 := rfl
     rw [h7] at HQ hek ⊢
     clear h7
     obtain ⟨db, hdb⟩ : ∃ db, (!(Q.escK ch 7).isEmpty) = db := ⟨_, rfl⟩
     rw [hdb]
     cases db with
     | true =>
      have hesc := Lib.hid (show Q.esc ch = Q.escK ch 7 from by rw [HEK.out, if_neg (by intro e; rw [e] at hdb; simp at hdb)])
      clear hdb HEK
      go_wp2_with fail
      go_roundw
      case rel => exact ⟨j + 1, hlt, by go_num, by rw [HTF.out, hesc.out, ← List.cons_append]; exact HQ.out, HBq.out⟩
      case measure => simp [intOf]; omega
     | false =>
      have h7 : Q.escK ch 7 = [] := by simpa using hdb
      have HQ2 := Lib.hid (show Row8 w.heap.size (34 :: (s.data.toList.take j).flatMap Q.esc) _ wr from by have := HQ.out; rw [h7, List.append_nil] at this; exact this)
      clear HQ
      by_cases h32 : ch.toNat < 32
      ·
       have he : ∀ d : UInt8, ch.toNat = d.toNat → ch = d := fun d h => UInt8.toNat_inj.1 h
       have hn7 : ch.toNat ≠ 8 ∧ ch.toNat ≠ 9 ∧ ch.toNat ≠ 10 ∧ ch.toNat ≠ 12 ∧ ch.toNat ≠ 13 := by
        refine ⟨?_, ?_, ?_, ?_, ?_⟩ <;> intro e
        · cases he 8 e; revert h7; decide
        · cases he 9 e; revert h7; decide
        · cases he 10 e; revert h7; decide
        · cases he 12 e; revert h7; decide
        · cases he 13 e; revert h7; decide
       obtain ⟨dh, hdh⟩ : ∃ dh : Nat, dh = ch.toNat / 16 := ⟨_, rfl⟩
       obtain ⟨dl, hdl⟩ : ∃ dl : Nat, dl = ch.toNat % 16 := ⟨_, rfl⟩
       have dh16 : dh < 16 := by omega
       have dl16 : dl < 16 := by omega
       have hesc0 : Q.esc ch = [92, 117, 48, 48, (⟨#[48, 49, 50, 51, 52, 53, 54, 55, 56, 57, 97, 98, 99, 100, 101, 102]⟩ : ByteArray)[dh]'(dig_lt dh16), (⟨#[48, 49, 50, 51, 52, 53, 54, 55, 56, 57, 97, 98, 99, 100, 101, 102]⟩ : ByteArray)[dl]'(dig_lt dl16)] := by
        have := esc_hex ⟨ch.toNat, h32⟩ hn7.1 hn7.2.1 hn7.2.2.1 hn7.2.2.2.1 hn7.2.2.2.2
        rw [dig_at, dig_at, hdh, hdl]
        rw [show ch.toNat.toUInt8 = ch by simp] at this
        exact this
       have hesc := Lib.hid hesc0
       have u1 : decide ((ch.toNat : Int) < 32) = true := decide_eq_true (by omega)
       have u2 : decide (ch.toNat < 32) = true := decide_eq_true (by omega)
       have e1 : (ch.toNat : Int).tdiv 16 = (dh : Int) := by rw [Int.tdiv_eq_ediv_of_nonneg (by omega)]; omega
       have e2 : (ch.toNat : Int).tmod 16 = (dl : Int) := by rw [Int.tmod_eq_emod_of_nonneg (by omega)]; omega
       have e1' : (ch.toNat : Int) / 16 = (dh : Int) := by omega
       have e2' : (ch.toNat : Int) % 16 = (dl : Int) := by omega
       have q1 : IntKind.u8.wrap (dh : Int) = (dh : Int) := IntWalk.u8_in _ (by omega)
       have q2 : IntKind.u8.wrap (dl : Int) = (dl : Int) := IntWalk.u8_in _ (by omega)
       have b1 : (dh : Int) < 16 := by omega
       have b2 : (dl : Int) < 16 := by omega
       have b3 : (0 : Int) ≤ (dh : Int) := by omega
       have b4 : (0 : Int) ≤ (dl : Int) := by omega
       clear h7 h32 hn7 HEK hdb hesc0 hdh hdl he
       obtain ⟨N, hN⟩ : ∃ N, ((34 :: (s.data.toList.take j).flatMap Q.esc) ++ [92, 117, 48, 48, (⟨#[48, 49, 50, 51, 52, 53, 54, 55, 56, 57, 97, 98, 99, 100, 101, 102]⟩ : ByteArray)[dh]'(dig_lt dh16), (⟨#[48, 49, 50, 51, 52, 53, 54, 55, 56, 57, 97, 98, 99, 100, 101, 102]⟩ : ByteArray)[dl]'(dig_lt dl16)]).length = N := ⟨_, rfl⟩
       have HN := Lib.hid hN
       clear hN
       go_wp2_with fail
       refine wp_region_held_drew (S := fun _ => True) (by kernel_rfl) ?_ (fun hHeld => ?_)
       · trivial
       refine wpAnyH_take (i := 0) (v := ?_) rfl (by kernel_rfl) (by kernel_rfl) (by kernel_rfl) (fun _ _ _ h => h) (Or.inl ⟨by rfl, ?_⟩) (by assumption) ?_
       rotate_left
       ·
        intro wq hSw
        try dsimp only at hSw
        go_simp
        try (with_reducible rfl)
       try simp only [Act.put, List.getElem_toArray, List.getElem_cons_zero, List.setIfInBounds_toArray, List.set_cons_zero, List.set_cons_succ]
       refine wpAnyH_take (i := 1) (v := ?_) rfl (by kernel_rfl) (by kernel_rfl) (by kernel_rfl) (fun _ _ _ h => h) (Or.inl ⟨by rfl, ?_⟩) (by assumption) ?_
       rotate_left
       ·
        intro wq hSw
        try dsimp only at hSw
        go_simp
        try (with_reducible rfl)
       try simp only [Act.put, List.getElem_toArray, List.getElem_cons_succ, List.getElem_cons_zero, List.setIfInBounds_toArray, List.set_cons_zero, List.set_cons_succ]
       refine wpAnyH_take (i := 2) (v := ?_) rfl (by kernel_rfl) (by kernel_rfl) (by kernel_rfl) (fun _ _ _ h => h) (Or.inl ⟨by rfl, ?_⟩) (by assumption) ?_
       rotate_left
       ·
        intro wq hSw
        try dsimp only at hSw
        go_simp
        try (with_reducible rfl)
       try simp only [Act.put, List.getElem_toArray, List.getElem_cons_succ, List.getElem_cons_zero, List.setIfInBounds_toArray, List.set_cons_zero, List.set_cons_succ]
       refine wpAnyH_take (i := 3) (v := ?_) rfl (by kernel_rfl) (by kernel_rfl) (by kernel_rfl) (fun _ _ _ h => h) (Or.inl ⟨by rfl, ?_⟩) (by assumption) ?_
       rotate_left
       ·
        intro wq hSw
        try dsimp only at hSw
        go_simp
        try (with_reducible rfl)
       try simp only [Act.put, List.getElem_toArray, List.getElem_cons_succ, List.getElem_cons_zero, List.setIfInBounds_toArray, List.set_cons_zero, List.set_cons_succ]
       refine wpAnyH_take (i := 4) (v := ?_) rfl (by kernel_rfl) (by kernel_rfl) (by kernel_rfl) (fun _ _ _ h => h) (Or.inl ⟨by rfl, ?_⟩) (by assumption) ?_
       rotate_left
       ·
        intro wq hSw
        try dsimp only at hSw
        go_simp
        try (with_reducible rfl)
       try simp only [Act.put, List.getElem_toArray, List.getElem_cons_succ, List.getElem_cons_zero, List.setIfInBounds_toArray, List.set_cons_zero, List.set_cons_succ]
       refine wpAnyH_take (i := 5) (v := ?_) rfl (by kernel_rfl) (by kernel_rfl) (by kernel_rfl) (fun _ _ _ h => h) (Or.inl ⟨by rfl, ?_⟩) (by assumption) ?_
       rotate_left
       ·
        intro wq hSw
        try dsimp only at hSw
        go_simp
        try (with_reducible rfl)
       try simp only [Act.put, List.getElem_toArray, List.getElem_cons_succ, List.getElem_cons_zero, List.setIfInBounds_toArray, List.set_cons_zero, List.set_cons_succ]
       refine wpAnyH_take (i := 6) (v := ?_) rfl (by kernel_rfl) (by kernel_rfl) (by kernel_rfl) (fun _ _ _ h => h) (Or.inl ⟨by rfl, ?_⟩) (by assumption) ?_
       rotate_left
       ·
        intro wq hSw
        try dsimp only at hSw
        go_simp
        try (with_reducible rfl)
       try simp only [Act.put, List.getElem_toArray, List.getElem_cons_succ, List.getElem_cons_zero, List.setIfInBounds_toArray, List.set_cons_zero, List.set_cons_succ]
       refine wpAnyH_ready (rs := [7]) (by kernel_rfl) (by simp) ?_
       refine AllReadyH.cons rfl (fun K0 hK => ?_) ?_
       rotate_left
       · exact AllReadyH.nil
       go_simp
       refine hK.out _ _ ?_ (fun hHeld => ?_)
       · trivial
       clear hK K0
       try simp only [Act.put, List.getElem_toArray, List.getElem_cons_succ, List.getElem_cons_zero, List.setIfInBounds_toArray, List.set_cons_zero, List.set_cons_succ]
       refine wpAnyH_ready (rs := [8]) (by kernel_rfl) (by simp) ?_
       refine AllReadyH.cons rfl (fun K0 hK => ?_) ?_
       rotate_left
       · exact AllReadyH.nil
       refine app_step rfl (.tmp 43) (.tmp 50) 42 rfl w.heap.size 5 i0 (.int .u8 0) 1 1 Tryz.underlying42 hi hz0 hz1 hz2 rfl (by decide) _ _ _ rfl (HQ2.out.1.alloc _).drew (some ⟨wr.heap.size, 0, none⟩) 6 6 (Lib.byteCells [92, 117, 48, 48, (⟨#[48, 49, 50, 51, 52, 53, 54, 55, 56, 57, 97, 98, 99, 100, 101, 102]⟩ : ByteArray)[dh]'(dig_lt dh16), (⟨#[48, 49, 50, 51, 52, 53, 54, 55, 56, 57, 97, 98, 99, 100, 101, 102]⟩ : ByteArray)[dl]'(dig_lt dl16)]) rfl (src6 (a := 92) (b := 117) (c := 48) (d := 48) (e := (⟨#[48, 49, 50, 51, 52, 53, 54, 55, 56, 57, 97, 98, 99, 100, 101, 102]⟩ : ByteArray)[dh]'(dig_lt dh16)) (f := (⟨#[48, 49, 50, 51, 52, 53, 54, 55, 56, 57, 97, 98, 99, 100, 101, 102]⟩ : ByteArray)[dl]'(dig_lt dl16))) (by intro u hu; simp [Lib.byteCells] at hu; rcases hu with rfl | rfl | rfl | rfl | rfl | rfl <;> rfl) (by unfold maxLen; simp only [List.length_cons]; omega) (by simp only [List.length_cons]; omega) (alloc_size HQ2.out.2) N (by have := HN.out; simp only [List.length_append, List.length_cons, List.length_nil] at this ⊢; omega) ?_
       intro B5 d5 w5 ho5 hg5 hat5
       have HO5 := Lib.hid (show Row8 w.heap.size ((34 :: (s.data.toList.take j).flatMap Q.esc) ++ [92, 117, 48, 48, (⟨#[48, 49, 50, 51, 52, 53, 54, 55, 56, 57, 97, 98, 99, 100, 101, 102]⟩ : ByteArray)[dh]'(dig_lt dh16), (⟨#[48, 49, 50, 51, 52, 53, 54, 55, 56, 57, 97, 98, 99, 100, 101, 102]⟩ : ByteArray)[dl]'(dig_lt dl16)]) (.slice B5 N d5) w5 from ⟨by rw [Lib.byteCells_append, HN.out]; exact ho5, Nat.le_trans HQ2.out.2 (grown_size hg5)⟩)
       have HB5 := Lib.hid (((HBq.out.alloc hq0 _).drew).grown hg5 (alloc_size HQ2.out.2) (fun k hk => (HQ2.out.1.lt k hk).1))
       clear ho5 hg5 hat5
       refine hK.out _ _ ?_ (fun hHeld => ?_)
       · trivial
       clear hK K0
       try simp only [Act.put, List.getElem_toArray, List.getElem_cons_succ, List.getElem_cons_zero, List.setIfInBounds_toArray, List.set_cons_zero, List.set_cons_succ]
       refine wpAnyH_take (i := 9) (v := ?_) rfl (by kernel_rfl) (by kernel_rfl) (by kernel_rfl) (fun _ _ _ h => h) (Or.inl ⟨by rfl, ?_⟩) (by assumption) ?_
       rotate_left
       ·
        intro wq hSw
        try dsimp only at hSw
        go_simp
        try (with_reducible rfl)
       try simp only [Act.put, List.getElem_toArray, List.getElem_cons_succ, List.getElem_cons_zero, List.setIfInBounds_toArray, List.set_cons_zero, List.set_cons_succ]
       refine wpAnyH_done (by kernel_rfl) ?_ _
       go_wp2_with fail
       go_roundw
       case rel => exact ⟨j + 1, hlt, by go_num, by rw [HTF.out, hesc.out, ← List.cons_append]; exact HO5.out, HB5.out⟩
       case measure => simp [intOf]; omega
      ·
       have hesc := Lib.hid (show Q.esc ch = [ch] from by rw [HEK.out, if_pos h7, if_neg (fun (e : ch < 32) => h32 e)])
       have v1 : decide ((ch.toNat : Int) < 32) = false := decide_eq_false (by omega)
       have v2 : decide (ch.toNat < 32) = false := decide_eq_false h32
       clear h7 hdb HEK h32
       go_wp2_with (
        at_builtin
        go_loud (refine app_u8 rfl (.tmp 54) (.tmp 56) rfl w.heap.size _ (34 :: (s.data.toList.take j).flatMap Q.esc) ch _ rfl rfl rfl HQ2.out.1 (by simp only [List.length_cons]; omega) HQ2.out.2 ?_)
        intro v2 w2 ho2 hb2
        have HO2 := Lib.hid ho2
        have H2 := Lib.hid (hb2 w HBq.out)
        clear ho2 hb2)
       go_roundw
       case rel => exact ⟨j + 1, hlt, by go_num, by rw [HTF.out, hesc.out, ← List.cons_append]; exact ⟨HO2.out, H2.out.size⟩, H2.out⟩
       case measure => simp [intOf]; omega
  ·
   have u1 : decide (j < s.size) = false := decide_eq_false hlt
   have u2 : decide ((j : Int) < (s.size : Int)) = false := decide_eq_false (by omega)
   have hfull : s.data.toList.take j = s.data.toList := List.take_of_length_le (by simp; omega)
   have HF := Lib.hid (show Row8 w.heap.size (34 :: s.data.toList.flatMap Q.esc) _ _ from hfull ▸ HR.out)
   rw [hfull] at hfl
   clear hfull HR
   go_wp2_with (
    at_builtin
    go_loud (refine app_u8 rfl (.tmp 58) (.tmp 59) rfl w.heap.size _ (34 :: s.data.toList.flatMap Q.esc) 34 _ rfl rfl rfl HF.out.1 (by simp only [List.length_cons]; omega) HF.out.2 ?_)
    intro v2 w2 ho2 hb2
    have HO2 := Lib.hid ho2
    have H2 := Lib.hid (hb2 w HBl.out)
    have hcv := conv_owned HO2.out
    clear ho2 hb2)
   go_ret
   exact ⟨rfl, H2.out⟩
end Go.Proofs.YtaeimlfehlbiiaaGreatDoor
namespace Go.Proofs.YtaeimlfehlbiiaaGreatDoor
open Go.RowKit
set_option linter.unusedVariables false
end Go.Proofs.YtaeimlfehlbiiaaGreatDoor
namespace Go.Proofs.YtaeimlfehlbiiaaGreatDoor
open Go.RowKit
set_option linter.unusedVariables false
theorem dl_app (a b : ByteArray) : (a ++ b).data.toList = a.data.toList ++ b.data.toList := by simp
theorem mk_of {s : ByteArray} {l : List UInt8} (h : s.data.toList = l) : s = mkB l := ba_ext (by rw [h]; rfl)
theorem sm_of {z : Int} (h0 : -9223372036854775808 ≤ z) (h1 : z ≤ 9223372036854775807) : W2.Sm 100 z := by
 unfold W2.Sm
 have : (10000 : Nat) ^ 5 ≤ 10000 ^ 100 := Nat.pow_le_pow_right (by decide) (by decide)
 have h5 : (10000 : Nat) ^ 5 = 100000000000000000000 := by decide
 omega
end Go.Proofs.YtaeimlfehlbiiaaGreatDoor
namespace Go.Proofs.YtaeimlfehlbiiaaGreatDoor
open Go.RowKit
open Pl
set_option linter.unusedVariables false
theorem mkB_size (L : List UInt8) : (mkB L).size = L.length := by unfold mkB; simp [ByteArray.size]
theorem mkB_data (L : List UInt8) : (mkB L).data.toList = L := by unfold mkB; simp
end Go.Proofs.YtaeimlfehlbiiaaGreatDoor
