/- The reference's Quote: contract. A text's text: contract. The reference's text of a value: contract. A value's text, its width, and the reference's text: contracts. -/
import Derived.Test.YthfhlblpjjniiaaGreatDoorOA
import Derived.Test.YthfhlblpjjniiaaGreatDoorPJ
import Derived.Lib.RuneBytes
import Derived.Outline
import Derived.Test.YthfhlblpjjniiaaGreatDoorOB
import Derived.Test.YthfhlblpjjniiaaGreatDoorQA
namespace Go.Proofs.YthfhlblpjjniiaaGreatDoor
open Go.RowKit
set_option linter.unusedVariables false
def Row8 (B : Nat) (l : List UInt8) (v : Value) (w : World) : Prop := w.ownsRow B 5 1 v l.length (Lib.byteCells l) ∧ B ≤ w.heap.size
theorem Row8.on {B : Nat} {l : List UInt8} {v : Value} {w w' : World} (h : Row8 B l v w) (hb : Below w.heap.size w w') : Row8 B l v w' := ⟨own_keptS h.1 hb, Nat.le_trans h.2 hb.size⟩
theorem escK_len (c : UInt8) (k : Nat) (hk : k ≤ 7) : (Q.escK c k).length ≤ 14 := by
 unfold Q.escK
 have : ∀ (l : List (UInt8 × UInt8)), (l.flatMap fun pq => if pq.1 = c then [92, pq.2] else []).length ≤ 2 * l.length := by
  intro l
  induction l with
  | nil => simp
  | cons a l ih => simp only [List.flatMap_cons, List.length_append, List.length_cons]; split <;> (simp only [List.length_cons, List.length_nil]; omega)
 have h := this (Q.P7.take k)
 have h2 : (Q.P7.take k).length ≤ 7 := by rw [List.length_take]; exact Nat.min_le_right _ _
 omega
theorem src6 {w : World} {a b c d e f : UInt8} : Src (w.alloc (.cells #[.int .u8 a.toNat, .int .u8 b.toNat, .int .u8 c.toNat, .int .u8 d.toNat, .int .u8 e.toNat, .int .u8 f.toNat] 5)).drew (some ⟨w.heap.size, 0, none⟩) 6 1 (Lib.byteCells [a, b, c, d, e, f]) := by
 refine ⟨rfl, fun _ => ⟨⟨w.heap.size, 0, none⟩, rfl, fun j u hu => ?_⟩⟩
 rw [add_lit]
 have hb : Blk (w.alloc (.cells #[.int .u8 a.toNat, .int .u8 b.toNat, .int .u8 c.toNat, .int .u8 d.toNat, .int .u8 e.toNat, .int .u8 f.toNat] 5)) w.heap.size 5 #[.int .u8 a.toNat, .int .u8 b.toNat, .int .u8 c.toNat, .int .u8 d.toNat, .int .u8 e.toNat, .int .u8 f.toNat] := Blk.new w _ _
 have h := hb.cell (0 + j)
 rw [Nat.zero_add] at h ⊢
 exact h.trans (by rw [← hu]; simp [Lib.byteCells])
theorem grown_size {w w' : World} {o : Obj} {row : Option Nat} (h : ((w.alloc o).drew).grownBy w' row) : w.heap.size ≤ w'.heap.size := by
 have h1 := h.size
 have h2 : ((w.alloc o).drew).heap.size = w.heap.size + 1 := by show (w.heap.push o).size = _; rw [Array.size_push]
 omega
theorem alloc_size {w : World} {o : Obj} {B : Nat} (h : B ≤ w.heap.size) : B ≤ ((w.alloc o).drew).heap.size := by
 have h2 : ((w.alloc o).drew).heap.size = w.heap.size + 1 := by show (w.heap.push o).size = _; rw [Array.size_push]
 omega
set_option maxRecDepth 100000 in
set_option maxHeartbeats 200000000 in
theorem rquote_any (s : ByteArray) (w : World) (hs : s.size ≤ 1000) :
 Calls Tryz.prog 90 #[.string s] w fun e w' => e = .returned (.string (mkB (Q.quo s.data.toList))) ∧ Below w.heap.size w w' := by
 obtain ⟨i0, hi, hz0, hz1, hz2⟩ := info_parts info5
 go_enter Tryz.func90, Tryz.ntmps90
 go_upto_region 3 with fail
 have hA : Below w.heap.size w (w.alloc (.cells #[.int .u8 34] 5)) := (Below.refl _ _).alloc (Nat.le_refl _) _
 have hR : Row8 w.heap.size [34] (.slice (some ⟨w.heap.size, 0, none⟩) 1 1) (w.alloc (.cells #[.int .u8 34] 5)) := ⟨World.ownsRow_lit (base := w.heap.size) (e := 5) (size := 1) w #[.int .u8 34] 1 (Nat.le_refl _) (by unfold maxLen; omega) rfl, by simp⟩
 have HA := Lib.hid hA
 have HR0 := Lib.hid hR
 clear hA hR
 change Code.wp _ _ _ _ (w.alloc (.cells #[.int .u8 34] 5))
 generalize (w.alloc (.cells #[.int .u8 34] 5)) = W at *
 go_wp2_with fail
 go_loopw [6, 3] (fun x y wr => ∃ j : Nat, j ≤ s.size ∧ x = .int .i64 j ∧ Row8 w.heap.size (34 :: (s.data.toList.take j).flatMap Q.esc) y wr ∧ Below w.heap.size w wr) (fun x _ _ => s.size - (intOf x).toNat)
 case atStart => exact ⟨0, Nat.zero_le _, rfl, by simpa using HR0.out, HA.out⟩
 case round =>
  obtain ⟨j, hj, rfl, hrow, hbel⟩ := hrel
  have HR := Lib.hid hrow
  have HBl := Lib.hid hbel
  have hfl := flat_take_len s.data.toList j s.size (by simp)
  clear hrow hbel
  by_cases hlt : j < s.size
  ·
   have u1 : decide (j < s.size) = true := decide_eq_true hlt
   have u2 : decide ((j : Int) < (s.size : Int)) = true := decide_eq_true (by omega)
   have i1 : (j : Int) < (s.size : Int) := by omega
   have i2 : (0 : Int) ≤ (j : Int) := by omega
   have HTF := Lib.hid (take_flat hlt)
   go_upto_region 7 with fail
   generalize s[j] = ch at *
   have HEK := Lib.hid (Q.esc_K ch)
   go_wp2_with fail
   go_loopw [9, 3, 8] (fun x y z wq => ∃ m : Int, 0 ≤ m ∧ m ≤ 7 ∧ x = .int .i64 m ∧ Row8 w.heap.size ((34 :: (s.data.toList.take j).flatMap Q.esc) ++ Q.escK ch m.toNat) y wq ∧ z = .bool (!(Q.escK ch m.toNat).isEmpty) ∧ Below w.heap.size w wq) (fun x _ _ _ => 7 - (intOf x).toNat)
   case atStart => exact ⟨0, Int.le_refl _, by omega, rfl, by simpa [Q.escK] using HR.out, rfl, HBl.out⟩
   case round =>
    obtain ⟨m, hm0, hm7, rfl, hrow, rfl, hbel⟩ := hrel
    have HQ := Lib.hid hrow
    have HBq := Lib.hid hbel
    clear hrow hbel
    have hek := escK_len ch m.toNat (by omega)
    have hq0 := HQ.out.2
    rcases (by omega : m = 0 ∨ m = 1 ∨ m = 2 ∨ m = 3 ∨ m = 4 ∨ m = 5 ∨ m = 6 ∨ m = 7) with rfl | rfl | rfl | rfl | rfl | rfl | rfl | rfl
    ·
     by_cases hc : ch.toNat = 34
     ·
      have he : ch = 34 := UInt8.toNat_inj.1 hc
      have u3 : ((ch.toNat : Int) == 34) = true := by rw [beq_iff_eq, hc]; rfl
      have u4 : ((ch.toNat : Int) == ((((⟨#[34, 92, 8, 12, 10, 13, 9]⟩ : ByteArray)[0]'(by decide)).toNat : Nat) : Int)) = true := u3
      have HS := Lib.hid (show Q.escK ch 1 = Q.escK ch 0 ++ [92, 34] from by rw [Q.escK_succ ch (k := 0) (p := (34, 34)) rfl, he]; rfl)
      clear hc he
      go_wp2_with (
       at_builtin
       go_loud (refine app_u82 rfl (.tmp 31) (.tmp 35) rfl w.heap.size _ ((34 :: (s.data.toList.take j).flatMap Q.esc) ++ Q.escK ch 0) 92 34 _ _ rfl rfl rfl rfl HQ.out.1 (by simp only [List.length_append, List.length_cons]; simp at hek; omega) HQ.out.2 ?_)
       intro v2 w2 ho2 hb2
       have HO2 := Lib.hid ho2
       have H2 := Lib.hid (hb2 w HBq.out)
       clear ho2 hb2)
      go_roundw
      case rel => exact ⟨1, by omega, by omega, rfl, by rw [show (1 : Int).toNat = 1 from rfl, HS.out, ← List.append_assoc]; exact ⟨HO2.out, H2.out.size⟩, by rw [show (1 : Int).toNat = 1 from rfl, HS.out]; simp, H2.out⟩
      case measure => simp [intOf]
     ·
      have u3 : ((ch.toNat : Int) == 34) = false := by rw [beq_eq_false_iff_ne]; omega
      have u4 : ((ch.toNat : Int) == ((((⟨#[34, 92, 8, 12, 10, 13, 9]⟩ : ByteArray)[0]'(by decide)).toNat : Nat) : Int)) = false := u3
      have HS := Lib.hid (show Q.escK ch 1 = Q.escK ch 0 from by rw [Q.escK_succ ch (k := 0) (p := (34, 34)) rfl, if_neg (fun e => hc (by rw [← e]; rfl)), List.append_nil])
      clear hc
      go_wp2_with fail
      go_roundw
      case rel => exact ⟨1, by omega, by omega, rfl, by rw [show (1 : Int).toNat = 1 from rfl, HS.out]; exact HQ.out, by rw [show (1 : Int).toNat = 1 from rfl, HS.out]; rfl, HBq.out⟩
      case measure => simp [intOf]
    ·
     by_cases hc : ch.toNat = 92
     ·
      have he : ch = 92 := UInt8.toNat_inj.1 hc
      have u3 : ((ch.toNat : Int) == 92) = true := by rw [beq_iff_eq, hc]; rfl
      have u4 : ((ch.toNat : Int) == ((((⟨#[34, 92, 8, 12, 10, 13, 9]⟩ : ByteArray)[1]'(by decide)).toNat : Nat) : Int)) = true := u3
      have HS := Lib.hid (show Q.escK ch 2 = Q.escK ch 1 ++ [92, 92] from by rw [Q.escK_succ ch (k := 1) (p := (92, 92)) rfl, he]; rfl)
      clear hc he
      go_wp2_with (
       at_builtin
       go_loud (refine app_u82 rfl (.tmp 31) (.tmp 35) rfl w.heap.size _ ((34 :: (s.data.toList.take j).flatMap Q.esc) ++ Q.escK ch 1) 92 92 _ _ rfl rfl rfl rfl HQ.out.1 (by simp only [List.length_append, List.length_cons]; simp at hek; omega) HQ.out.2 ?_)
       intro v2 w2 ho2 hb2
       have HO2 := Lib.hid ho2
       have H2 := Lib.hid (hb2 w HBq.out)
       clear ho2 hb2)
      go_roundw
      case rel => exact ⟨2, by omega, by omega, rfl, by rw [show (2 : Int).toNat = 2 from rfl, HS.out, ← List.append_assoc]; exact ⟨HO2.out, H2.out.size⟩, by rw [show (2 : Int).toNat = 2 from rfl, HS.out]; simp, H2.out⟩
      case measure => simp [intOf]
     ·
      have u3 : ((ch.toNat : Int) == 92) = false := by rw [beq_eq_false_iff_ne]; omega
      have u4 : ((ch.toNat : Int) == ((((⟨#[34, 92, 8, 12, 10, 13, 9]⟩ : ByteArray)[1]'(by decide)).toNat : Nat) : Int)) = false := u3
      have HS := Lib.hid (show Q.escK ch 2 = Q.escK ch 1 from by rw [Q.escK_succ ch (k := 1) (p := (92, 92)) rfl, if_neg (fun e => hc (by rw [← e]; rfl)), List.append_nil])
      clear hc
      go_wp2_with fail
      go_roundw
      case rel => exact ⟨2, by omega, by omega, rfl, by rw [show (2 : Int).toNat = 2 from rfl, HS.out]; exact HQ.out, by rw [show (2 : Int).toNat = 2 from rfl, HS.out]; rfl, HBq.out⟩
      case measure => simp [intOf]
    ·
     by_cases hc : ch.toNat = 8
     ·
      have he : ch = 8 := UInt8.toNat_inj.1 hc
      have u3 : ((ch.toNat : Int) == 8) = true := by rw [beq_iff_eq, hc]; rfl
      have u4 : ((ch.toNat : Int) == ((((⟨#[34, 92, 8, 12, 10, 13, 9]⟩ : ByteArray)[2]'(by decide)).toNat : Nat) : Int)) = true := u3
      have HS := Lib.hid (show Q.escK ch 3 = Q.escK ch 2 ++ [92, 98] from by rw [Q.escK_succ ch (k := 2) (p := (8, 98)) rfl, he]; rfl)
      clear hc he
      go_wp2_with (
       at_builtin
       go_loud (refine app_u82 rfl (.tmp 31) (.tmp 35) rfl w.heap.size _ ((34 :: (s.data.toList.take j).flatMap Q.esc) ++ Q.escK ch 2) 92 98 _ _ rfl rfl rfl rfl HQ.out.1 (by simp only [List.length_append, List.length_cons]; simp at hek; omega) HQ.out.2 ?_)
       intro v2 w2 ho2 hb2
       have HO2 := Lib.hid ho2
       have H2 := Lib.hid (hb2 w HBq.out)
       clear ho2 hb2)
      go_roundw
      case rel => exact ⟨3, by omega, by omega, rfl, by rw [show (3 : Int).toNat = 3 from rfl, HS.out, ← List.append_assoc]; exact ⟨HO2.out, H2.out.size⟩, by rw [show (3 : Int).toNat = 3 from rfl, HS.out]; simp, H2.out⟩
      case measure => simp [intOf]
     ·
      have u3 : ((ch.toNat : Int) == 8) = false := by rw [beq_eq_false_iff_ne]; omega
      have u4 : ((ch.toNat : Int) == ((((⟨#[34, 92, 8, 12, 10, 13, 9]⟩ : ByteArray)[2]'(by decide)).toNat : Nat) : Int)) = false := u3
      have HS := Lib.hid (show Q.escK ch 3 = Q.escK ch 2 from by rw [Q.escK_succ ch (k := 2) (p := (8, 98)) rfl, if_neg (fun e => hc (by rw [← e]; rfl)), List.append_nil])
      clear hc
      go_wp2_with fail
      go_roundw
      case rel => exact ⟨3, by omega, by omega, rfl, by rw [show (3 : Int).toNat = 3 from rfl, HS.out]; exact HQ.out, by rw [show (3 : Int).toNat = 3 from rfl, HS.out]; rfl, HBq.out⟩
      case measure => simp [intOf]
    ·
     by_cases hc : ch.toNat = 12
     ·
      have he : ch = 12 := UInt8.toNat_inj.1 hc
      have u3 : ((ch.toNat : Int) == 12) = true := by rw [beq_iff_eq, hc]; rfl
      have u4 : ((ch.toNat : Int) == ((((⟨#[34, 92, 8, 12, 10, 13, 9]⟩ : ByteArray)[3]'(by decide)).toNat : Nat) : Int)) = true := u3
      have HS := Lib.hid (show Q.escK ch 4 = Q.escK ch 3 ++ [92, 102] from by rw [Q.escK_succ ch (k := 3) (p := (12, 102)) rfl, he]; rfl)
      clear hc he
      go_wp2_with (
       at_builtin
       go_loud (refine app_u82 rfl (.tmp 31) (.tmp 35) rfl w.heap.size _ ((34 :: (s.data.toList.take j).flatMap Q.esc) ++ Q.escK ch 3) 92 102 _ _ rfl rfl rfl rfl HQ.out.1 (by simp only [List.length_append, List.length_cons]; simp at hek; omega) HQ.out.2 ?_)
       intro v2 w2 ho2 hb2
       have HO2 := Lib.hid ho2
       have H2 := Lib.hid (hb2 w HBq.out)
       clear ho2 hb2)
      go_roundw
      case rel => exact ⟨4, by omega, by omega, rfl, by rw [show (4 : Int).toNat = 4 from rfl, HS.out, ← List.append_assoc]; exact ⟨HO2.out, H2.out.size⟩, by rw [show (4 : Int).toNat = 4 from rfl, HS.out]; simp, H2.out⟩
      case measure => simp [intOf]
     ·
      have u3 : ((ch.toNat : Int) == 12) = false := by rw [beq_eq_false_iff_ne]; omega
      have u4 : ((ch.toNat : Int) == ((((⟨#[34, 92, 8, 12, 10, 13, 9]⟩ : ByteArray)[3]'(by decide)).toNat : Nat) : Int)) = false := u3
      have HS := Lib.hid (show Q.escK ch 4 = Q.escK ch 3 from by rw [Q.escK_succ ch (k := 3) (p := (12, 102)) rfl, if_neg (fun e => hc (by rw [← e]; rfl)), List.append_nil])
      clear hc
      go_wp2_with fail
      go_roundw
      case rel => exact ⟨4, by omega, by omega, rfl, by rw [show (4 : Int).toNat = 4 from rfl, HS.out]; exact HQ.out, by rw [show (4 : Int).toNat = 4 from rfl, HS.out]; rfl, HBq.out⟩
      case measure => simp [intOf]
    ·
     by_cases hc : ch.toNat = 10
     ·
      have he : ch = 10 := UInt8.toNat_inj.1 hc
      have u3 : ((ch.toNat : Int) == 10) = true := by rw [beq_iff_eq, hc]; rfl
      have u4 : ((ch.toNat : Int) == ((((⟨#[34, 92, 8, 12, 10, 13, 9]⟩ : ByteArray)[4]'(by decide)).toNat : Nat) : Int)) = true := u3
      have HS := Lib.hid (show Q.escK ch 5 = Q.escK ch 4 ++ [92, 110] from by rw [Q.escK_succ ch (k := 4) (p := (10, 110)) rfl, he]; rfl)
      clear hc he
      go_wp2_with (
       at_builtin
       go_loud (refine app_u82 rfl (.tmp 31) (.tmp 35) rfl w.heap.size _ ((34 :: (s.data.toList.take j).flatMap Q.esc) ++ Q.escK ch 4) 92 110 _ _ rfl rfl rfl rfl HQ.out.1 (by simp only [List.length_append, List.length_cons]; simp at hek; omega) HQ.out.2 ?_)
       intro v2 w2 ho2 hb2
       have HO2 := Lib.hid ho2
       have H2 := Lib.hid (hb2 w HBq.out)
       clear ho2 hb2)
      go_roundw
      case rel => exact ⟨5, by omega, by omega, rfl, by rw [show (5 : Int).toNat = 5 from rfl, HS.out, ← List.append_assoc]; exact ⟨HO2.out, H2.out.size⟩, by rw [show (5 : Int).toNat = 5 from rfl, HS.out]; simp, H2.out⟩
      case measure => simp [intOf]
     ·
      have u3 : ((ch.toNat : Int) == 10) = false := by rw [beq_eq_false_iff_ne]; omega
      have u4 : ((ch.toNat : Int) == ((((⟨#[34, 92, 8, 12, 10, 13, 9]⟩ : ByteArray)[4]'(by decide)).toNat : Nat) : Int)) = false := u3
      have HS := Lib.hid (show Q.escK ch 5 = Q.escK ch 4 from by rw [Q.escK_succ ch (k := 4) (p := (10, 110)) rfl, if_neg (fun e => hc (by rw [← e]; rfl)), List.append_nil])
      clear hc
      go_wp2_with fail
      go_roundw
      case rel => exact ⟨5, by omega, by omega, rfl, by rw [show (5 : Int).toNat = 5 from rfl, HS.out]; exact HQ.out, by rw [show (5 : Int).toNat = 5 from rfl, HS.out]; rfl, HBq.out⟩
      case measure => simp [intOf]
    ·
     by_cases hc : ch.toNat = 13
     ·
      have he : ch = 13 := UInt8.toNat_inj.1 hc
      have u3 : ((ch.toNat : Int) == 13) = true := by rw [beq_iff_eq, hc]; rfl
      have u4 : ((ch.toNat : Int) == ((((⟨#[34, 92, 8, 12, 10, 13, 9]⟩ : ByteArray)[5]'(by decide)).toNat : Nat) : Int)) = true := u3
      have HS := Lib.hid (show Q.escK ch 6 = Q.escK ch 5 ++ [92, 114] from by rw [Q.escK_succ ch (k := 5) (p := (13, 114)) rfl, he]; rfl)
      clear hc he
      go_wp2_with (
       at_builtin
       go_loud (refine app_u82 rfl (.tmp 31) (.tmp 35) rfl w.heap.size _ ((34 :: (s.data.toList.take j).flatMap Q.esc) ++ Q.escK ch 5) 92 114 _ _ rfl rfl rfl rfl HQ.out.1 (by simp only [List.length_append, List.length_cons]; simp at hek; omega) HQ.out.2 ?_)
       intro v2 w2 ho2 hb2
       have HO2 := Lib.hid ho2
       have H2 := Lib.hid (hb2 w HBq.out)
       clear ho2 hb2)
      go_roundw
      case rel => exact ⟨6, by omega, by omega, rfl, by rw [show (6 : Int).toNat = 6 from rfl, HS.out, ← List.append_assoc]; exact ⟨HO2.out, H2.out.size⟩, by rw [show (6 : Int).toNat = 6 from rfl, HS.out]; simp, H2.out⟩
      case measure => simp [intOf]
     ·
      have u3 : ((ch.toNat : Int) == 13) = false := by rw [beq_eq_false_iff_ne]; omega
      have u4 : ((ch.toNat : Int) == ((((⟨#[34, 92, 8, 12, 10, 13, 9]⟩ : ByteArray)[5]'(by decide)).toNat : Nat) : Int)) = false := u3
      have HS := Lib.hid (show Q.escK ch 6 = Q.escK ch 5 from by rw [Q.escK_succ ch (k := 5) (p := (13, 114)) rfl, if_neg (fun e => hc (by rw [← e]; rfl)), List.append_nil])
      clear hc
      go_wp2_with fail
      go_roundw
      case rel => exact ⟨6, by omega, by omega, rfl, by rw [show (6 : Int).toNat = 6 from rfl, HS.out]; exact HQ.out, by rw [show (6 : Int).toNat = 6 from rfl, HS.out]; rfl, HBq.out⟩
      case measure => simp [intOf]
    ·
     by_cases hc : ch.toNat = 9
     ·
      have he : ch = 9 := UInt8.toNat_inj.1 hc
      have u3 : ((ch.toNat : Int) == 9) = true := by rw [beq_iff_eq, hc]; rfl
      have u4 : ((ch.toNat : Int) == ((((⟨#[34, 92, 8, 12, 10, 13, 9]⟩ : ByteArray)[6]'(by decide)).toNat : Nat) : Int)) = true := u3
      have HS := Lib.hid (show Q.escK ch 7 = Q.escK ch 6 ++ [92, 116] from by rw [Q.escK_succ ch (k := 6) (p := (9, 116)) rfl, he]; rfl)
      clear hc he
      go_wp2_with (
       at_builtin
       go_loud (refine app_u82 rfl (.tmp 31) (.tmp 35) rfl w.heap.size _ ((34 :: (s.data.toList.take j).flatMap Q.esc) ++ Q.escK ch 6) 92 116 _ _ rfl rfl rfl rfl HQ.out.1 (by simp only [List.length_append, List.length_cons]; simp at hek; omega) HQ.out.2 ?_)
       intro v2 w2 ho2 hb2
       have HO2 := Lib.hid ho2
       have H2 := Lib.hid (hb2 w HBq.out)
       clear ho2 hb2)
      go_roundw
      case rel => exact ⟨7, by omega, by omega, rfl, by rw [show (7 : Int).toNat = 7 from rfl, HS.out, ← List.append_assoc]; exact ⟨HO2.out, H2.out.size⟩, by rw [show (7 : Int).toNat = 7 from rfl, HS.out]; simp, H2.out⟩
      case measure => simp [intOf]
     ·
      have u3 : ((ch.toNat : Int) == 9) = false := by rw [beq_eq_false_iff_ne]; omega
      have u4 : ((ch.toNat : Int) == ((((⟨#[34, 92, 8, 12, 10, 13, 9]⟩ : ByteArray)[6]'(by decide)).toNat : Nat) : Int)) = false := u3
      have HS := Lib.hid (show Q.escK ch 7 = Q.escK ch 6 from by rw [Q.escK_succ ch (k := 6) (p := (9, 116)) rfl, if_neg (fun e => hc (by rw [← e]; rfl)), List.append_nil])
      clear hc
      go_wp2_with fail
      go_roundw
      case rel => exact ⟨7, by omega, by omega, rfl, by rw [show (7 : Int).toNat = 7 from rfl, HS.out]; exact HQ.out, by rw [show (7 : Int).toNat = 7 from rfl, HS.out]; rfl, HBq.out⟩
      case measure => simp [intOf]
    ·
     have h7 : (7 : Int).toNat = 7 := rfl
     rw [h7] at HQ hek ⊢
     clear h7
     obtain ⟨db, hdb⟩ : ∃ db, (!(Q.escK ch 7).isEmpty) = db := ⟨_, rfl⟩
     rw [hdb]
     cases db with
     | true =>
      have hesc := Lib.hid (show Q.esc ch = Q.escK ch 7 from by rw [HEK.out, if_neg (by intro e; rw [e] at hdb; simp at hdb)])
      clear hdb HEK
      go_wp2_with fail
      go_roundw
      case rel => exact ⟨j + 1, hlt, by go_num, by rw [HTF.out, hesc.out, ← List.cons_append]; exact HQ.out, HBq.out⟩
      case measure => simp [intOf]; omega
     | false =>
      have h7 : Q.escK ch 7 = [] := by simpa using hdb
      have HQ2 := Lib.hid (show Row8 w.heap.size (34 :: (s.data.toList.take j).flatMap Q.esc) _ wr from by have := HQ.out; rw [h7, List.append_nil] at this; exact this)
      clear HQ
      by_cases h32 : ch.toNat < 32
      ·
       have he : ∀ d : UInt8, ch.toNat = d.toNat → ch = d := fun d h => UInt8.toNat_inj.1 h
       have hn7 : ch.toNat ≠ 8 ∧ ch.toNat ≠ 9 ∧ ch.toNat ≠ 10 ∧ ch.toNat ≠ 12 ∧ ch.toNat ≠ 13 := by
        refine ⟨?_, ?_, ?_, ?_, ?_⟩ <;> intro e
        · cases he 8 e; revert h7; decide
        · cases he 9 e; revert h7; decide
        · cases he 10 e; revert h7; decide
        · cases he 12 e; revert h7; decide
        · cases he 13 e; revert h7; decide
       obtain ⟨dh, hdh⟩ : ∃ dh : Nat, dh = ch.toNat / 16 := ⟨_, rfl⟩
       obtain ⟨dl, hdl⟩ : ∃ dl : Nat, dl = ch.toNat % 16 := ⟨_, rfl⟩
       have dh16 : dh < 16 := by omega
       have dl16 : dl < 16 := by omega
       have hesc0 : Q.esc ch = [92, 117, 48, 48, (⟨#[48, 49, 50, 51, 52, 53, 54, 55, 56, 57, 97, 98, 99, 100, 101, 102]⟩ : ByteArray)[dh]'(dig_lt dh16), (⟨#[48, 49, 50, 51, 52, 53, 54, 55, 56, 57, 97, 98, 99, 100, 101, 102]⟩ : ByteArray)[dl]'(dig_lt dl16)] := by
        have := esc_hex ⟨ch.toNat, h32⟩ hn7.1 hn7.2.1 hn7.2.2.1 hn7.2.2.2.1 hn7.2.2.2.2
        rw [dig_at, dig_at, hdh, hdl]
        rw [show ch.toNat.toUInt8 = ch by simp] at this
        exact this
       have hesc := Lib.hid hesc0
       have u1 : decide ((ch.toNat : Int) < 32) = true := decide_eq_true (by omega)
       have u2 : decide (ch.toNat < 32) = true := decide_eq_true (by omega)
       have e1 : (ch.toNat : Int).tdiv 16 = (dh : Int) := by rw [Int.tdiv_eq_ediv_of_nonneg (by omega)]; omega
       have e2 : (ch.toNat : Int).tmod 16 = (dl : Int) := by rw [Int.tmod_eq_emod_of_nonneg (by omega)]; omega
       have e1' : (ch.toNat : Int) / 16 = (dh : Int) := by omega
       have e2' : (ch.toNat : Int) % 16 = (dl : Int) := by omega
       have q1 : IntKind.u8.wrap (dh : Int) = (dh : Int) := IntWalk.u8_in _ (by omega)
       have q2 : IntKind.u8.wrap (dl : Int) = (dl : Int) := IntWalk.u8_in _ (by omega)
       have b1 : (dh : Int) < 16 := by omega
       have b2 : (dl : Int) < 16 := by omega
       have b3 : (0 : Int) ≤ (dh : Int) := by omega
       have b4 : (0 : Int) ≤ (dl : Int) := by omega
       clear h7 h32 hn7 HEK hdb hesc0 hdh hdl he
       obtain ⟨N, hN⟩ : ∃ N, ((34 :: (s.data.toList.take j).flatMap Q.esc) ++ [92, 117, 48, 48, (⟨#[48, 49, 50, 51, 52, 53, 54, 55, 56, 57, 97, 98, 99, 100, 101, 102]⟩ : ByteArray)[dh]'(dig_lt dh16), (⟨#[48, 49, 50, 51, 52, 53, 54, 55, 56, 57, 97, 98, 99, 100, 101, 102]⟩ : ByteArray)[dl]'(dig_lt dl16)]).length = N := ⟨_, rfl⟩
       have HN := Lib.hid hN
       clear hN
       go_wp2_with fail
       refine wp_region_held_drew (S := fun _ => True) (by kernel_rfl) ?_ (fun hHeld => ?_)
       · trivial
       refine wpAnyH_take (i := 0) (v := ?_) rfl (by kernel_rfl) (by kernel_rfl) (by kernel_rfl) (fun _ _ _ h => h) (Or.inl ⟨by rfl, ?_⟩) (by assumption) ?_
       rotate_left
       ·
        intro wq hSw
        try dsimp only at hSw
        go_simp
        try (with_reducible rfl)
       try simp only [Act.put, List.getElem_toArray, List.getElem_cons_zero, List.setIfInBounds_toArray, List.set_cons_zero, List.set_cons_succ]
       refine wpAnyH_take (i := 1) (v := ?_) rfl (by kernel_rfl) (by kernel_rfl) (by kernel_rfl) (fun _ _ _ h => h) (Or.inl ⟨by rfl, ?_⟩) (by assumption) ?_
       rotate_left
       ·
        intro wq hSw
        try dsimp only at hSw
        go_simp
        try (with_reducible rfl)
       try simp only [Act.put, List.getElem_toArray, List.getElem_cons_succ, List.getElem_cons_zero, List.setIfInBounds_toArray, List.set_cons_zero, List.set_cons_succ]
       refine wpAnyH_take (i := 2) (v := ?_) rfl (by kernel_rfl) (by kernel_rfl) (by kernel_rfl) (fun _ _ _ h => h) (Or.inl ⟨by rfl, ?_⟩) (by assumption) ?_
       rotate_left
       ·
        intro wq hSw
        try dsimp only at hSw
        go_simp
        try (with_reducible rfl)
       try simp only [Act.put, List.getElem_toArray, List.getElem_cons_succ, List.getElem_cons_zero, List.setIfInBounds_toArray, List.set_cons_zero, List.set_cons_succ]
       refine wpAnyH_take (i := 3) (v := ?_) rfl (by kernel_rfl) (by kernel_rfl) (by kernel_rfl) (fun _ _ _ h => h) (Or.inl ⟨by rfl, ?_⟩) (by assumption) ?_
       rotate_left
       ·
        intro wq hSw
        try dsimp only at hSw
        go_simp
        try (with_reducible rfl)
       try simp only [Act.put, List.getElem_toArray, List.getElem_cons_succ, List.getElem_cons_zero, List.setIfInBounds_toArray, List.set_cons_zero, List.set_cons_succ]
       refine wpAnyH_take (i := 4) (v := ?_) rfl (by kernel_rfl) (by kernel_rfl) (by kernel_rfl) (fun _ _ _ h => h) (Or.inl ⟨by rfl, ?_⟩) (by assumption) ?_
       rotate_left
       ·
        intro wq hSw
        try dsimp only at hSw
        go_simp
        try (with_reducible rfl)
       try simp only [Act.put, List.getElem_toArray, List.getElem_cons_succ, List.getElem_cons_zero, List.setIfInBounds_toArray, List.set_cons_zero, List.set_cons_succ]
       refine wpAnyH_take (i := 5) (v := ?_) rfl (by kernel_rfl) (by kernel_rfl) (by kernel_rfl) (fun _ _ _ h => h) (Or.inl ⟨by rfl, ?_⟩) (by assumption) ?_
       rotate_left
       ·
        intro wq hSw
        try dsimp only at hSw
        go_simp
        try (with_reducible rfl)
       try simp only [Act.put, List.getElem_toArray, List.getElem_cons_succ, List.getElem_cons_zero, List.setIfInBounds_toArray, List.set_cons_zero, List.set_cons_succ]
       refine wpAnyH_take (i := 6) (v := ?_) rfl (by kernel_rfl) (by kernel_rfl) (by kernel_rfl) (fun _ _ _ h => h) (Or.inl ⟨by rfl, ?_⟩) (by assumption) ?_
       rotate_left
       ·
        intro wq hSw
        try dsimp only at hSw
        go_simp
        try (with_reducible rfl)
       try simp only [Act.put, List.getElem_toArray, List.getElem_cons_succ, List.getElem_cons_zero, List.setIfInBounds_toArray, List.set_cons_zero, List.set_cons_succ]
       refine wpAnyH_ready (rs := [7]) (by kernel_rfl) (by simp) ?_
       refine AllReadyH.cons rfl (fun K0 hK => ?_) ?_
       rotate_left
       · exact AllReadyH.nil
       go_simp
       refine hK.out _ _ ?_ (fun hHeld => ?_)
       · trivial
       clear hK K0
       try simp only [Act.put, List.getElem_toArray, List.getElem_cons_succ, List.getElem_cons_zero, List.setIfInBounds_toArray, List.set_cons_zero, List.set_cons_succ]
       refine wpAnyH_ready (rs := [8]) (by kernel_rfl) (by simp) ?_
       refine AllReadyH.cons rfl (fun K0 hK => ?_) ?_
       rotate_left
       · exact AllReadyH.nil
       refine app_step rfl (.tmp 43) (.tmp 50) 39 rfl w.heap.size 5 i0 (.int .u8 0) 1 1 Tryz.underlying39 hi hz0 hz1 hz2 rfl (by decide) _ _ _ rfl (HQ2.out.1.alloc _).drew (some ⟨wr.heap.size, 0, none⟩) 6 6 (Lib.byteCells [92, 117, 48, 48, (⟨#[48, 49, 50, 51, 52, 53, 54, 55, 56, 57, 97, 98, 99, 100, 101, 102]⟩ : ByteArray)[dh]'(dig_lt dh16), (⟨#[48, 49, 50, 51, 52, 53, 54, 55, 56, 57, 97, 98, 99, 100, 101, 102]⟩ : ByteArray)[dl]'(dig_lt dl16)]) rfl (src6 (a := 92) (b := 117) (c := 48) (d := 48) (e := (⟨#[48, 49, 50, 51, 52, 53, 54, 55, 56, 57, 97, 98, 99, 100, 101, 102]⟩ : ByteArray)[dh]'(dig_lt dh16)) (f := (⟨#[48, 49, 50, 51, 52, 53, 54, 55, 56, 57, 97, 98, 99, 100, 101, 102]⟩ : ByteArray)[dl]'(dig_lt dl16))) (by intro u hu; simp [Lib.byteCells] at hu; rcases hu with rfl | rfl | rfl | rfl | rfl | rfl <;> rfl) (by unfold maxLen; simp only [List.length_cons]; omega) (by simp only [List.length_cons]; omega) (alloc_size HQ2.out.2) N (by have := HN.out; simp only [List.length_append, List.length_cons, List.length_nil] at this ⊢; omega) ?_
       intro B5 d5 w5 ho5 hg5 hat5
       have HO5 := Lib.hid (show Row8 w.heap.size ((34 :: (s.data.toList.take j).flatMap Q.esc) ++ [92, 117, 48, 48, (⟨#[48, 49, 50, 51, 52, 53, 54, 55, 56, 57, 97, 98, 99, 100, 101, 102]⟩ : ByteArray)[dh]'(dig_lt dh16), (⟨#[48, 49, 50, 51, 52, 53, 54, 55, 56, 57, 97, 98, 99, 100, 101, 102]⟩ : ByteArray)[dl]'(dig_lt dl16)]) (.slice B5 N d5) w5 from ⟨by rw [Lib.byteCells_append, HN.out]; exact ho5, Nat.le_trans HQ2.out.2 (grown_size hg5)⟩)
       have HB5 := Lib.hid (((HBq.out.alloc hq0 _).drew).grown hg5 (alloc_size HQ2.out.2) (fun k hk => (HQ2.out.1.lt k hk).1))
       clear ho5 hg5 hat5
       refine hK.out _ _ ?_ (fun hHeld => ?_)
       · trivial
       clear hK K0
       try simp only [Act.put, List.getElem_toArray, List.getElem_cons_succ, List.getElem_cons_zero, List.setIfInBounds_toArray, List.set_cons_zero, List.set_cons_succ]
       refine wpAnyH_take (i := 9) (v := ?_) rfl (by kernel_rfl) (by kernel_rfl) (by kernel_rfl) (fun _ _ _ h => h) (Or.inl ⟨by rfl, ?_⟩) (by assumption) ?_
       rotate_left
       ·
        intro wq hSw
        try dsimp only at hSw
        go_simp
        try (with_reducible rfl)
       try simp only [Act.put, List.getElem_toArray, List.getElem_cons_succ, List.getElem_cons_zero, List.setIfInBounds_toArray, List.set_cons_zero, List.set_cons_succ]
       refine wpAnyH_done (by kernel_rfl) ?_ _
       go_wp2_with fail
       go_roundw
       case rel => exact ⟨j + 1, hlt, by go_num, by rw [HTF.out, hesc.out, ← List.cons_append]; exact HO5.out, HB5.out⟩
       case measure => simp [intOf]; omega
      ·
       have hesc := Lib.hid (show Q.esc ch = [ch] from by rw [HEK.out, if_pos h7, if_neg (fun (e : ch < 32) => h32 e)])
       have v1 : decide ((ch.toNat : Int) < 32) = false := decide_eq_false (by omega)
       have v2 : decide (ch.toNat < 32) = false := decide_eq_false h32
       clear h7 hdb HEK h32
       go_wp2_with (
        at_builtin
        go_loud (refine app_u8 rfl (.tmp 54) (.tmp 56) rfl w.heap.size _ (34 :: (s.data.toList.take j).flatMap Q.esc) ch _ rfl rfl rfl HQ2.out.1 (by simp only [List.length_cons]; omega) HQ2.out.2 ?_)
        intro v2 w2 ho2 hb2
        have HO2 := Lib.hid ho2
        have H2 := Lib.hid (hb2 w HBq.out)
        clear ho2 hb2)
       go_roundw
       case rel => exact ⟨j + 1, hlt, by go_num, by rw [HTF.out, hesc.out, ← List.cons_append]; exact ⟨HO2.out, H2.out.size⟩, H2.out⟩
       case measure => simp [intOf]; omega
  ·
   have u1 : decide (j < s.size) = false := decide_eq_false hlt
   have u2 : decide ((j : Int) < (s.size : Int)) = false := decide_eq_false (by omega)
   have hfull : s.data.toList.take j = s.data.toList := List.take_of_length_le (by simp; omega)
   have HF := Lib.hid (show Row8 w.heap.size (34 :: s.data.toList.flatMap Q.esc) _ _ from hfull ▸ HR.out)
   rw [hfull] at hfl
   clear hfull HR
   go_wp2_with (
    at_builtin
    go_loud (refine app_u8 rfl (.tmp 58) (.tmp 59) rfl w.heap.size _ (34 :: s.data.toList.flatMap Q.esc) 34 _ rfl rfl rfl HF.out.1 (by simp only [List.length_cons]; omega) HF.out.2 ?_)
    intro v2 w2 ho2 hb2
    have HO2 := Lib.hid ho2
    have H2 := Lib.hid (hb2 w HBl.out)
    have hcv := conv_owned HO2.out
    clear ho2 hb2)
   go_ret
   exact ⟨rfl, H2.out⟩
end Go.Proofs.YthfhlblpjjniiaaGreatDoor
namespace Go.Proofs.YthfhlblpjjniiaaGreatDoor
open Go.RowKit
set_option linter.unusedVariables false
end Go.Proofs.YthfhlblpjjniiaaGreatDoor
namespace Go.Proofs.YthfhlblpjjniiaaGreatDoor
open Go.RowKit
set_option linter.unusedVariables false
theorem dl_app (a b : ByteArray) : (a ++ b).data.toList = a.data.toList ++ b.data.toList := by simp
theorem mk_of {s : ByteArray} {l : List UInt8} (h : s.data.toList = l) : s = mkB l := ba_ext (by rw [h]; rfl)
def WriteAt (n : Nat) : Prop := ∀ (t : T) (A : Option Addr) (c : Nat) (A' : Option Addr) (c' : Nat) (d : Int) (w : World), t.size ≤ n → t.Fine → 0 ≤ d → d + t.size ≤ 1000 → TV w (· < w.heap.size) t A c A' c' →
 Calls Tryz.prog 62 #[.agg #[.int .i64 t.kind, .bool t.tr, .int .i64 t.num, .string t.str, .slice A t.items.length c, .slice A' t.keys.length c'], .int .i64 d, .int .i64 0, .bool false] w fun e w' => e = .returned (.string (mkB t.txt)) ∧ Below w.heap.size w w'
theorem sm_of {z : Int} (h0 : -9223372036854775808 ≤ z) (h1 : z ≤ 9223372036854775807) : W2.Sm 100 z := by
 unfold W2.Sm
 have : (10000 : Nat) ^ 5 ≤ 10000 ^ 100 := Nat.pow_le_pow_right (by decide) (by decide)
 have h5 : (10000 : Nat) ^ 5 = 100000000000000000000 := by decide
 omega
set_option maxRecDepth 100000 in
set_option maxHeartbeats 16000000 in
theorem write_at (n : Nat) : WriteAt n := by
 induction n with
 | zero => intro t A c A' c' d w h; have := t.size_pos; omega
 | succ n ih =>
  intro t A c A' c' d w hsz hn hd0 hd hv
  have hg := hn.good.here
  have hf := hn.fit.here
  have hi80 := hn.items80
  have hsizes := T.size_eq t
  have hB0 : Blk (w.alloc (.cells #[.int .i64 t.kind, .bool t.tr, .int .i64 t.num, .string t.str, .slice A t.items.length c, .slice A' t.keys.length c'] 32)) w.heap.size 32 #[.int .i64 t.kind, .bool t.tr, .int .i64 t.num, .string t.str, .slice A t.items.length c, .slice A' t.keys.length c'] := Blk.new w _ _
  have hbb : Below w.heap.size w (w.alloc (.cells #[.int .i64 t.kind, .bool t.tr, .int .i64 t.num, .string t.str, .slice A t.items.length c, .slice A' t.keys.length c'] 32)) := (Below.refl _ _).alloc (Nat.le_refl _) _
  have HN := Lib.hid hn
  have HV := Lib.hid hv
  have htx := T.txt_eq t
  have hk0 := hg.k0
  have hk5 := hg.k5
  have hn0 := hf.n0
  have hn1 := hf.n1
  have hs60 := hf.str
  have hkeys := hf.keys
  clear hn hv hg hf
  rcases (by omega : t.kind = 0 ∨ t.kind = 1 ∨ t.kind = 2 ∨ t.kind = 3 ∨ t.kind = 4 ∨ t.kind = 5) with hk | hk | hk | hk | hk | hk
  ·
   have k0 : (t.kind == 0) = true := by rw [beq_iff_eq]; exact hk
   have k1 : (t.kind == 1) = false := by rw [beq_eq_false_iff_ne]; omega
   have k2 : (t.kind == 2) = false := by rw [beq_eq_false_iff_ne]; omega
   have k3 : (t.kind == 3) = false := by rw [beq_eq_false_iff_ne]; omega
   have k4 : (t.kind == 4) = false := by rw [beq_eq_false_iff_ne]; omega
   have k5 : (t.kind == 5) = false := by rw [beq_eq_false_iff_ne]; omega
   have htxt : t.txt = [110, 117, 108, 108] := by rw [htx]; rw [if_neg (by omega)]; rw [if_neg (by omega)]; rw [if_neg (by omega)]; rw [if_neg (by omega)]; rw [if_neg (by omega)]
   have HX := Lib.hid htxt
   clear htxt
   clear hk htx
   go_enter Tryz.func62, Tryz.ntmps62
   go_upto_region 1 with fail
   change Code.wp _ _ _ _ (w.alloc (.cells #[.int .i64 t.kind, .bool t.tr, .int .i64 t.num, .string t.str, .slice A t.items.length c, .slice A' t.keys.length c'] 32))
   generalize (w.alloc (.cells #[.int .i64 t.kind, .bool t.tr, .int .i64 t.num, .string t.str, .slice A t.items.length c, .slice A' t.keys.length c'] 32)) = W at *
   have HB0 := Lib.hid hB0
   have HBB := Lib.hid hbb
   obtain ⟨a0, a1, a2, a3, a4, a5⟩ : W.cell? ⟨w.heap.size, 0, none⟩ = some (.int .i64 t.kind) ∧ W.cell? ⟨w.heap.size, 1, none⟩ = some (.bool t.tr) ∧ W.cell? ⟨w.heap.size, 2, none⟩ = some (.int .i64 t.num) ∧ W.cell? ⟨w.heap.size, 3, none⟩ = some (.string t.str) ∧ W.cell? ⟨w.heap.size, 4, none⟩ = some (.slice A t.items.length c) ∧ W.cell? ⟨w.heap.size, 5, none⟩ = some (.slice A' t.keys.length c') := ⟨HB0.out.cell 0, HB0.out.cell 1, HB0.out.cell 2, HB0.out.cell 3, HB0.out.cell 4, HB0.out.cell 5⟩
   clear hB0 hbb
   go_wp2_with fail
   go_ret
   exact ⟨by rw [HX.out]; rfl, HBB.out⟩
  ·
   have k0 : (t.kind == 0) = false := by rw [beq_eq_false_iff_ne]; omega
   have k1 : (t.kind == 1) = true := by rw [beq_iff_eq]; exact hk
   have k2 : (t.kind == 2) = false := by rw [beq_eq_false_iff_ne]; omega
   have k3 : (t.kind == 3) = false := by rw [beq_eq_false_iff_ne]; omega
   have k4 : (t.kind == 4) = false := by rw [beq_eq_false_iff_ne]; omega
   have k5 : (t.kind == 5) = false := by rw [beq_eq_false_iff_ne]; omega
   have htxt : t.txt = if t.tr then [116, 114, 117, 101] else [102, 97, 108, 115, 101] := by rw [htx]; rw [if_pos hk]
   have HX := Lib.hid htxt
   clear htxt
   clear hk htx
   go_enter Tryz.func62, Tryz.ntmps62
   go_upto_region 1 with fail
   change Code.wp _ _ _ _ (w.alloc (.cells #[.int .i64 t.kind, .bool t.tr, .int .i64 t.num, .string t.str, .slice A t.items.length c, .slice A' t.keys.length c'] 32))
   generalize (w.alloc (.cells #[.int .i64 t.kind, .bool t.tr, .int .i64 t.num, .string t.str, .slice A t.items.length c, .slice A' t.keys.length c'] 32)) = W at *
   have HB0 := Lib.hid hB0
   have HBB := Lib.hid hbb
   obtain ⟨a0, a1, a2, a3, a4, a5⟩ : W.cell? ⟨w.heap.size, 0, none⟩ = some (.int .i64 t.kind) ∧ W.cell? ⟨w.heap.size, 1, none⟩ = some (.bool t.tr) ∧ W.cell? ⟨w.heap.size, 2, none⟩ = some (.int .i64 t.num) ∧ W.cell? ⟨w.heap.size, 3, none⟩ = some (.string t.str) ∧ W.cell? ⟨w.heap.size, 4, none⟩ = some (.slice A t.items.length c) ∧ W.cell? ⟨w.heap.size, 5, none⟩ = some (.slice A' t.keys.length c') := ⟨HB0.out.cell 0, HB0.out.cell 1, HB0.out.cell 2, HB0.out.cell 3, HB0.out.cell 4, HB0.out.cell 5⟩
   clear hB0 hbb
   cases htr : t.tr with
   | true =>
    rw [htr] at a1
    go_wp2_with fail
    go_ret
    exact ⟨by rw [HX.out, htr]; rfl, HBB.out⟩
   | false =>
    rw [htr] at a1
    go_wp2_with fail
    go_ret
    exact ⟨by rw [HX.out, htr]; rfl, HBB.out⟩
  ·
   have k0 : (t.kind == 0) = false := by rw [beq_eq_false_iff_ne]; omega
   have k1 : (t.kind == 1) = false := by rw [beq_eq_false_iff_ne]; omega
   have k2 : (t.kind == 2) = true := by rw [beq_iff_eq]; exact hk
   have k3 : (t.kind == 3) = false := by rw [beq_eq_false_iff_ne]; omega
   have k4 : (t.kind == 4) = false := by rw [beq_eq_false_iff_ne]; omega
   have k5 : (t.kind == 5) = false := by rw [beq_eq_false_iff_ne]; omega
   have htxt : t.txt = Lib.itoa t.num := by rw [htx]; rw [if_neg (by omega)]; rw [if_pos hk]
   have HX := Lib.hid htxt
   clear htxt
   clear hk htx
   go_enter Tryz.func62, Tryz.ntmps62
   go_upto_region 1 with fail
   change Code.wp _ _ _ _ (w.alloc (.cells #[.int .i64 t.kind, .bool t.tr, .int .i64 t.num, .string t.str, .slice A t.items.length c, .slice A' t.keys.length c'] 32))
   generalize (w.alloc (.cells #[.int .i64 t.kind, .bool t.tr, .int .i64 t.num, .string t.str, .slice A t.items.length c, .slice A' t.keys.length c'] 32)) = W at *
   have HB0 := Lib.hid hB0
   have HBB := Lib.hid hbb
   obtain ⟨a0, a1, a2, a3, a4, a5⟩ : W.cell? ⟨w.heap.size, 0, none⟩ = some (.int .i64 t.kind) ∧ W.cell? ⟨w.heap.size, 1, none⟩ = some (.bool t.tr) ∧ W.cell? ⟨w.heap.size, 2, none⟩ = some (.int .i64 t.num) ∧ W.cell? ⟨w.heap.size, 3, none⟩ = some (.string t.str) ∧ W.cell? ⟨w.heap.size, 4, none⟩ = some (.slice A t.items.length c) ∧ W.cell? ⟨w.heap.size, 5, none⟩ = some (.slice A' t.keys.length c') := ⟨HB0.out.cell 0, HB0.out.cell 1, HB0.out.cell 2, HB0.out.cell 3, HB0.out.cell 4, HB0.out.cell 5⟩
   clear hB0 hbb
   go_wp2_with fail
   refine (W2.of_any t.num _ ⟨hn0, hn1⟩).mono ?_
   rintro e w2 ⟨v, rfl, hnz, hb2⟩
   have H2 := Lib.hid (HBB.out.trans (hb2.mono HBB.out.size))
   have HNZ := Lib.hid hnz
   clear hb2 hnz
   go_wp2_with fail
   refine (W2.rtext_any v t.num _ HNZ.out (sm_of hn0 hn1)).mono ?_
   rintro e w3 ⟨rfl, hb3⟩
   have H3 := Lib.hid (H2.out.trans (hb3.mono H2.out.size))
   clear hb3
   go_wp2_with fail
   go_ret
   exact ⟨by rw [HX.out]; rfl, H3.out⟩
  ·
   have k0 : (t.kind == 0) = false := by rw [beq_eq_false_iff_ne]; omega
   have k1 : (t.kind == 1) = false := by rw [beq_eq_false_iff_ne]; omega
   have k2 : (t.kind == 2) = false := by rw [beq_eq_false_iff_ne]; omega
   have k3 : (t.kind == 3) = true := by rw [beq_iff_eq]; exact hk
   have k4 : (t.kind == 4) = false := by rw [beq_eq_false_iff_ne]; omega
   have k5 : (t.kind == 5) = false := by rw [beq_eq_false_iff_ne]; omega
   have htxt : t.txt = Q.quo t.str.data.toList := by rw [htx]; rw [if_neg (by omega)]; rw [if_neg (by omega)]; rw [if_pos hk, ByteArray.toList_eq]
   have HX := Lib.hid htxt
   clear htxt
   clear hk htx
   go_enter Tryz.func62, Tryz.ntmps62
   go_upto_region 1 with fail
   change Code.wp _ _ _ _ (w.alloc (.cells #[.int .i64 t.kind, .bool t.tr, .int .i64 t.num, .string t.str, .slice A t.items.length c, .slice A' t.keys.length c'] 32))
   generalize (w.alloc (.cells #[.int .i64 t.kind, .bool t.tr, .int .i64 t.num, .string t.str, .slice A t.items.length c, .slice A' t.keys.length c'] 32)) = W at *
   have HB0 := Lib.hid hB0
   have HBB := Lib.hid hbb
   obtain ⟨a0, a1, a2, a3, a4, a5⟩ : W.cell? ⟨w.heap.size, 0, none⟩ = some (.int .i64 t.kind) ∧ W.cell? ⟨w.heap.size, 1, none⟩ = some (.bool t.tr) ∧ W.cell? ⟨w.heap.size, 2, none⟩ = some (.int .i64 t.num) ∧ W.cell? ⟨w.heap.size, 3, none⟩ = some (.string t.str) ∧ W.cell? ⟨w.heap.size, 4, none⟩ = some (.slice A t.items.length c) ∧ W.cell? ⟨w.heap.size, 5, none⟩ = some (.slice A' t.keys.length c') := ⟨HB0.out.cell 0, HB0.out.cell 1, HB0.out.cell 2, HB0.out.cell 3, HB0.out.cell 4, HB0.out.cell 5⟩
   clear hB0 hbb
   go_wp2_with fail
   refine (rquote_any t.str _ (by omega)).mono ?_
   rintro e w2 ⟨rfl, hb2⟩
   have H2 := Lib.hid (HBB.out.trans (hb2.mono HBB.out.size))
   clear hb2
   go_wp2_with fail
   go_ret
   exact ⟨by rw [HX.out]; rfl, H2.out⟩
  ·
   have k0 : (t.kind == 0) = false := by rw [beq_eq_false_iff_ne]; omega
   have k1 : (t.kind == 1) = false := by rw [beq_eq_false_iff_ne]; omega
   have k2 : (t.kind == 2) = false := by rw [beq_eq_false_iff_ne]; omega
   have k3 : (t.kind == 3) = false := by rw [beq_eq_false_iff_ne]; omega
   have k4 : (t.kind == 4) = true := by rw [beq_iff_eq]; exact hk
   have k5 : (t.kind == 5) = false := by rw [beq_eq_false_iff_ne]; omega
   have hkz : t.keys = [] := HN.out.good.here.keys (by omega)
   have HK0 := Lib.hid hkz
   clear hkz
   have htxt : t.txt = 91 :: (T.txts t.keys t.items 0 ++ [93]) := by rw [htx]; rw [if_neg (by omega)]; rw [if_neg (by omega)]; rw [if_neg (by omega)]; rw [if_pos hk]
   have HX := Lib.hid htxt
   clear htxt
   clear hk htx
   go_enter Tryz.func62, Tryz.ntmps62
   go_upto_region 1 with fail
   change Code.wp _ _ _ _ (w.alloc (.cells #[.int .i64 t.kind, .bool t.tr, .int .i64 t.num, .string t.str, .slice A t.items.length c, .slice A' t.keys.length c'] 32))
   generalize (w.alloc (.cells #[.int .i64 t.kind, .bool t.tr, .int .i64 t.num, .string t.str, .slice A t.items.length c, .slice A' t.keys.length c'] 32)) = W at *
   have HB0 := Lib.hid hB0
   have HBB := Lib.hid hbb
   obtain ⟨a0, a1, a2, a3, a4, a5⟩ : W.cell? ⟨w.heap.size, 0, none⟩ = some (.int .i64 t.kind) ∧ W.cell? ⟨w.heap.size, 1, none⟩ = some (.bool t.tr) ∧ W.cell? ⟨w.heap.size, 2, none⟩ = some (.int .i64 t.num) ∧ W.cell? ⟨w.heap.size, 3, none⟩ = some (.string t.str) ∧ W.cell? ⟨w.heap.size, 4, none⟩ = some (.slice A t.items.length c) ∧ W.cell? ⟨w.heap.size, 5, none⟩ = some (.slice A' t.keys.length c') := ⟨HB0.out.cell 0, HB0.out.cell 1, HB0.out.cell 2, HB0.out.cell 3, HB0.out.cell 4, HB0.out.cell 5⟩
   clear hB0 hbb
   have hsW := HBB.out.size
   clear a0 a1 a2 a3 a4 a5
   obtain ⟨a0, a4⟩ : W.cell? ⟨w.heap.size, 0, none⟩ = some (.int .i64 t.kind) ∧ W.cell? ⟨w.heap.size, 4, none⟩ = some (.slice A t.items.length c) := ⟨HB0.out.cell 0, HB0.out.cell 4⟩
   go_wp2_with fail
   go_loopw [33, 9] (fun x y wr => ∃ (j : Nat) (S : ByteArray), j ≤ t.items.length ∧ x = .int .i64 j ∧ y = .string S ∧ S.data.toList = T.txts t.keys (t.items.take j) 0 ∧ Below W.heap.size W wr) (fun x _ _ => t.items.length - (intOf x).toNat)
   case atStart => exact ⟨0, ⟨#[]⟩, Nat.zero_le _, rfl, rfl, by simp [T.txts], Below.refl _ _⟩
   case round =>
    obtain ⟨j, S, hj, rfl, rfl, hS, hbel⟩ := hrel
    have hpre := txts_len hkeys (t.items.take j) 0 (fun x hx => txt_len x (HN.out.fit.mem (List.mem_of_mem_take hx)))
    have hst := T.sizes_take t.items j
    have hSz : S.size ≤ 64000 := by
     have h1 : S.size = S.data.toList.length := by simp
     have h2 := HN.out.size
     rw [h1, hS]; omega
    have HS := Lib.hid hS
    have HBl := Lib.hid hbel
    have HWr := Lib.hid (show Below w.heap.size w wr from HBB.out.trans (hbel.mono hsW))
    have hBr := HB0.out.onto hbel
    have r0 : wr.cell? ⟨w.heap.size, 0, none⟩ = some (.int .i64 t.kind) := hBr.cell 0
    have r4 : wr.cell? ⟨w.heap.size, 4, none⟩ = some (.slice A t.items.length c) := hBr.cell 4
    have r5 : wr.cell? ⟨w.heap.size, 5, none⟩ = some (.slice A' t.keys.length c') := hBr.cell 5
    clear hS hbel hBr a0 a4
    by_cases hlt : j < t.items.length
    ·
     have u1 : decide (j < t.items.length) = true := decide_eq_true hlt
     have u2 : decide ((j : Int) < (t.items.length : Int)) = true := decide_eq_true (by omega)
     have i1 : (j : Int) < (t.items.length : Int) := by omega
     have i2 : (0 : Int) ≤ (j : Int) := by omega
     obtain ⟨bI, oI, x, D, f, D', f', rfl, hbI, hx, h6, hX⟩ := HV.out.at_ hlt
     have hxs := T.sizes_snoc hx
     have hst2 := T.sizes_take t.items (j + 1)
     have HI := Lib.hid (show ∀ w', Below w.heap.size w w' → w'.cell? ⟨bI, oI + j * 6, none⟩ = some (.int .i64 x.kind) ∧ w'.cell? ⟨bI, oI + j * 6 + 1, none⟩ = some (.bool x.tr) ∧ w'.cell? ⟨bI, oI + j * 6 + 2, none⟩ = some (.int .i64 x.num) ∧ w'.cell? ⟨bI, oI + j * 6 + 3, none⟩ = some (.string x.str) ∧ w'.cell? ⟨bI, oI + j * 6 + 4, none⟩ = some (.slice D x.items.length f) ∧ w'.cell? ⟨bI, oI + j * 6 + 5, none⟩ = some (.slice D' x.keys.length f') from fun w' h => h6.keep hbI (.of_below h))
     have HXV := Lib.hid hX
     have HX2 := Lib.hid hx
     clear hX h6 hx
     have HKP := Lib.hid (show keyPart t.keys j = [] from by unfold keyPart; rw [HK0.out]; rfl)
     obtain ⟨e0, e1, e2, e3, e4, e5⟩ := HI.out wr HWr.out
     by_cases hj0 : j = 0
     ·
      have c0 : decide ((0 : Int) < (j : Int)) = false := decide_eq_false (by omega)
      have c1 : decide (0 < j) = false := decide_eq_false (by omega)
      have HCM := Lib.hid (show comma j = [] from by unfold comma; rw [if_pos hj0])
      clear hj0
      have hzl := txt_len x (HN.out.fit.at_ HX2.out)
      have hxle := (HN.out.at_ HX2.out).size
      obtain ⟨Z, hZ⟩ : ∃ Z, mkB x.txt = Z := ⟨_, rfl⟩
      have hZs : Z.size ≤ 64000 := by rw [← hZ]; show x.txt.toArray.size ≤ _; simp; omega
      have HZ := Lib.hid hZ
      clear hZ
      have zs2a : ¬ ((9223372036854775807 : Int) < (S.size : Int) + (Z.size : Int)) := by omega
      have zs2b : ¬ (9223372036854775807 < S.size + Z.size) := by omega
      have zs2c : S.size + Z.size ≤ 9223372036854775807 := by omega
      have zs2d : (S.size : Int) + (Z.size : Int) ≤ (9223372036854775807 : Int) := by omega
      go_wp2_with fail
      refine (ih x D f D' f' (d + 1) _ (by omega) (HN.out.at_ HX2.out) (by omega) (by omega) ((HXV.out.under HWr.out).wide fun b hb => Nat.lt_of_lt_of_le hb HWr.out.size)).mono ?_
      rintro e w9 ⟨rfl, hb9⟩
      rw [HZ.out]
      have HB9 := Lib.hid (HBl.out.trans (hb9.mono HBl.out.size))
      clear hb9
      go_wp2_with fail
      go_roundw
      case rel => exact ⟨j + 1, _, hlt, by go_num, rfl, by rw [txts_take HX2.out, HCM.out, HKP.out]; simp only [dl_app, HS.out, ← HZ.out]; simp [mkB], HB9.out⟩
      case measure => simp [intOf]; omega
     ·
      have c0 : decide ((0 : Int) < (j : Int)) = true := decide_eq_true (by omega)
      have c1 : decide (0 < j) = true := decide_eq_true (by omega)
      have HCM := Lib.hid (show comma j = [44] from by unfold comma; rw [if_neg hj0])
      clear hj0
      have hzl := txt_len x (HN.out.fit.at_ HX2.out)
      have hxle := (HN.out.at_ HX2.out).size
      obtain ⟨Z, hZ⟩ : ∃ Z, mkB x.txt = Z := ⟨_, rfl⟩
      have hZs : Z.size ≤ 64000 := by rw [← hZ]; show x.txt.toArray.size ≤ _; simp; omega
      have HZ := Lib.hid hZ
      clear hZ
      have zs2a : ¬ ((9223372036854775807 : Int) < (S.size : Int) + 1) := by omega
      have zs2b : ¬ (9223372036854775807 < S.size + 1) := by omega
      have zs2c : S.size + 1 ≤ 9223372036854775807 := by omega
      have zs2d : (S.size : Int) + 1 ≤ (9223372036854775807 : Int) := by omega
      have zs3a : ¬ ((9223372036854775807 : Int) < (S.size : Int) + 1 + (Z.size : Int)) := by omega
      have zs3b : ¬ (9223372036854775807 < S.size + 1 + Z.size) := by omega
      have zs3c : S.size + 1 + Z.size ≤ 9223372036854775807 := by omega
      have zs3d : (S.size : Int) + 1 + (Z.size : Int) ≤ (9223372036854775807 : Int) := by omega
      go_wp2_with fail
      refine (ih x D f D' f' (d + 1) _ (by omega) (HN.out.at_ HX2.out) (by omega) (by omega) ((HXV.out.under HWr.out).wide fun b hb => Nat.lt_of_lt_of_le hb HWr.out.size)).mono ?_
      rintro e w9 ⟨rfl, hb9⟩
      rw [HZ.out]
      have HB9 := Lib.hid (HBl.out.trans (hb9.mono HBl.out.size))
      clear hb9
      go_wp2_with fail
      go_roundw
      case rel => exact ⟨j + 1, _, hlt, by go_num, rfl, by rw [txts_take HX2.out, HCM.out, HKP.out]; simp only [dl_app, HS.out, ← HZ.out]; simp [mkB], HB9.out⟩
      case measure => simp [intOf]; omega
    ·
     have u1 : decide (j < t.items.length) = false := decide_eq_false hlt
     have u2 : decide ((j : Int) < (t.items.length : Int)) = false := decide_eq_false (by omega)
     have hfull : t.items.take j = t.items := List.take_of_length_le (by omega)
     have HSF := Lib.hid (show S.data.toList = T.txts t.keys t.items 0 from hfull ▸ HS.out)
     clear hfull
     have zz2a : ¬ ((9223372036854775807 : Int) < 1 + (S.size : Int)) := by omega
     have zz2b : ¬ (9223372036854775807 < 1 + S.size) := by omega
     have zz2c : 1 + S.size ≤ 9223372036854775807 := by omega
     have zz2d : 1 + (S.size : Int) ≤ (9223372036854775807 : Int) := by omega
     have zz3a : ¬ ((9223372036854775807 : Int) < 1 + (S.size : Int) + 1) := by omega
     have zz3b : ¬ (9223372036854775807 < 1 + S.size + 1) := by omega
     have zz3c : 1 + S.size + 1 ≤ 9223372036854775807 := by omega
     have zz3d : 1 + (S.size : Int) + 1 ≤ (9223372036854775807 : Int) := by omega
     go_wp2_with fail
     go_ret
     exact ⟨congrArg (fun q => Ending.returned (.string q)) (mk_of (by rw [HX.out, dl_app, dl_app, HSF.out]; rfl)), HWr.out⟩
  ·
   have k0 : (t.kind == 0) = false := by rw [beq_eq_false_iff_ne]; omega
   have k1 : (t.kind == 1) = false := by rw [beq_eq_false_iff_ne]; omega
   have k2 : (t.kind == 2) = false := by rw [beq_eq_false_iff_ne]; omega
   have k3 : (t.kind == 3) = false := by rw [beq_eq_false_iff_ne]; omega
   have k4 : (t.kind == 4) = false := by rw [beq_eq_false_iff_ne]; omega
   have k5 : (t.kind == 5) = true := by rw [beq_iff_eq]; exact hk
   have hll : t.items.length ≤ t.keys.length := by have := HN.out.good.here.lens hk; omega
   have htxt : t.txt = 123 :: (T.txts t.keys t.items 0 ++ [125]) := by rw [htx]; rw [if_neg (by omega)]; rw [if_neg (by omega)]; rw [if_neg (by omega)]; rw [if_neg (by omega)]; rw [if_pos hk]
   have HX := Lib.hid htxt
   clear htxt
   clear hk htx
   go_enter Tryz.func62, Tryz.ntmps62
   go_upto_region 1 with fail
   change Code.wp _ _ _ _ (w.alloc (.cells #[.int .i64 t.kind, .bool t.tr, .int .i64 t.num, .string t.str, .slice A t.items.length c, .slice A' t.keys.length c'] 32))
   generalize (w.alloc (.cells #[.int .i64 t.kind, .bool t.tr, .int .i64 t.num, .string t.str, .slice A t.items.length c, .slice A' t.keys.length c'] 32)) = W at *
   have HB0 := Lib.hid hB0
   have HBB := Lib.hid hbb
   obtain ⟨a0, a1, a2, a3, a4, a5⟩ : W.cell? ⟨w.heap.size, 0, none⟩ = some (.int .i64 t.kind) ∧ W.cell? ⟨w.heap.size, 1, none⟩ = some (.bool t.tr) ∧ W.cell? ⟨w.heap.size, 2, none⟩ = some (.int .i64 t.num) ∧ W.cell? ⟨w.heap.size, 3, none⟩ = some (.string t.str) ∧ W.cell? ⟨w.heap.size, 4, none⟩ = some (.slice A t.items.length c) ∧ W.cell? ⟨w.heap.size, 5, none⟩ = some (.slice A' t.keys.length c') := ⟨HB0.out.cell 0, HB0.out.cell 1, HB0.out.cell 2, HB0.out.cell 3, HB0.out.cell 4, HB0.out.cell 5⟩
   clear hB0 hbb
   have hsW := HBB.out.size
   clear a0 a1 a2 a3 a4 a5
   obtain ⟨a0, a4⟩ : W.cell? ⟨w.heap.size, 0, none⟩ = some (.int .i64 t.kind) ∧ W.cell? ⟨w.heap.size, 4, none⟩ = some (.slice A t.items.length c) := ⟨HB0.out.cell 0, HB0.out.cell 4⟩
   go_wp2_with fail
   go_loopw [33, 9] (fun x y wr => ∃ (j : Nat) (S : ByteArray), j ≤ t.items.length ∧ x = .int .i64 j ∧ y = .string S ∧ S.data.toList = T.txts t.keys (t.items.take j) 0 ∧ Below W.heap.size W wr) (fun x _ _ => t.items.length - (intOf x).toNat)
   case atStart => exact ⟨0, ⟨#[]⟩, Nat.zero_le _, rfl, rfl, by simp [T.txts], Below.refl _ _⟩
   case round =>
    obtain ⟨j, S, hj, rfl, rfl, hS, hbel⟩ := hrel
    have hpre := txts_len hkeys (t.items.take j) 0 (fun x hx => txt_len x (HN.out.fit.mem (List.mem_of_mem_take hx)))
    have hst := T.sizes_take t.items j
    have hSz : S.size ≤ 64000 := by
     have h1 : S.size = S.data.toList.length := by simp
     have h2 := HN.out.size
     rw [h1, hS]; omega
    have HS := Lib.hid hS
    have HBl := Lib.hid hbel
    have HWr := Lib.hid (show Below w.heap.size w wr from HBB.out.trans (hbel.mono hsW))
    have hBr := HB0.out.onto hbel
    have r0 : wr.cell? ⟨w.heap.size, 0, none⟩ = some (.int .i64 t.kind) := hBr.cell 0
    have r4 : wr.cell? ⟨w.heap.size, 4, none⟩ = some (.slice A t.items.length c) := hBr.cell 4
    have r5 : wr.cell? ⟨w.heap.size, 5, none⟩ = some (.slice A' t.keys.length c') := hBr.cell 5
    clear hS hbel hBr a0 a4
    by_cases hlt : j < t.items.length
    ·
     have u1 : decide (j < t.items.length) = true := decide_eq_true hlt
     have u2 : decide ((j : Int) < (t.items.length : Int)) = true := decide_eq_true (by omega)
     have i1 : (j : Int) < (t.items.length : Int) := by omega
     have i2 : (0 : Int) ≤ (j : Int) := by omega
     obtain ⟨bI, oI, x, D, f, D', f', rfl, hbI, hx, h6, hX⟩ := HV.out.at_ hlt
     have hxs := T.sizes_snoc hx
     have hst2 := T.sizes_take t.items (j + 1)
     have HI := Lib.hid (show ∀ w', Below w.heap.size w w' → w'.cell? ⟨bI, oI + j * 6, none⟩ = some (.int .i64 x.kind) ∧ w'.cell? ⟨bI, oI + j * 6 + 1, none⟩ = some (.bool x.tr) ∧ w'.cell? ⟨bI, oI + j * 6 + 2, none⟩ = some (.int .i64 x.num) ∧ w'.cell? ⟨bI, oI + j * 6 + 3, none⟩ = some (.string x.str) ∧ w'.cell? ⟨bI, oI + j * 6 + 4, none⟩ = some (.slice D x.items.length f) ∧ w'.cell? ⟨bI, oI + j * 6 + 5, none⟩ = some (.slice D' x.keys.length f') from fun w' h => h6.keep hbI (.of_below h))
     have HXV := Lib.hid hX
     have HX2 := Lib.hid hx
     clear hX h6 hx
     obtain ⟨q, hq⟩ : ∃ q, t.keys[j]? = some q := ⟨_, List.getElem?_eq_getElem (by omega)⟩
     have hq60 := hkeys q (List.mem_of_getElem? hq)
     have HKP := Lib.hid (show keyPart t.keys j = Q.quo q.data.toList ++ [58] from by unfold keyPart; rw [hq]; show Q.quo q.toList ++ [58] = _; rw [ByteArray.toList_eq])
     obtain ⟨bK, oK, rfl, hbK, hcK⟩ := HV.out.keys (by intro e; rw [e] at hq; simp at hq)
     have ek : wr.cell? ⟨bK, oK + j, none⟩ = some (.string q) := (HWr.out.cell (p := ⟨bK, oK + j, none⟩) hbK).trans (hcK j q hq)
     have v3 : (j : Int) < (t.keys.length : Int) := by omega
     have hql := Q.quo_len q.data.toList
     have hqs : q.data.toList.length = q.size := by simp
     clear hq hcK
     by_cases hj0 : j = 0
     ·
      have c0 : decide ((0 : Int) < (j : Int)) = false := decide_eq_false (by omega)
      have c1 : decide (0 < j) = false := decide_eq_false (by omega)
      have HCM := Lib.hid (show comma j = [] from by unfold comma; rw [if_pos hj0])
      clear hj0
      have hzl := txt_len x (HN.out.fit.at_ HX2.out)
      have hxle := (HN.out.at_ HX2.out).size
      obtain ⟨Z, hZ⟩ : ∃ Z, mkB x.txt = Z := ⟨_, rfl⟩
      have hZs : Z.size ≤ 64000 := by rw [← hZ]; show x.txt.toArray.size ≤ _; simp; omega
      have HZ := Lib.hid hZ
      clear hZ
      obtain ⟨KQ, hKQ⟩ : ∃ KQ, mkB (Q.quo q.data.toList) = KQ := ⟨_, rfl⟩
      have hKs : KQ.size ≤ 400 := by rw [← hKQ]; show (Q.quo q.data.toList).toArray.size ≤ _; simp; omega
      have HKQ := Lib.hid hKQ
      clear hKQ
      have zs2a : ¬ ((9223372036854775807 : Int) < (S.size : Int) + (KQ.size : Int)) := by omega
      have zs2b : ¬ (9223372036854775807 < S.size + KQ.size) := by omega
      have zs2c : S.size + KQ.size ≤ 9223372036854775807 := by omega
      have zs2d : (S.size : Int) + (KQ.size : Int) ≤ (9223372036854775807 : Int) := by omega
      have zs3a : ¬ ((9223372036854775807 : Int) < (S.size : Int) + (KQ.size : Int) + 1) := by omega
      have zs3b : ¬ (9223372036854775807 < S.size + KQ.size + 1) := by omega
      have zs3c : S.size + KQ.size + 1 ≤ 9223372036854775807 := by omega
      have zs3d : (S.size : Int) + (KQ.size : Int) + 1 ≤ (9223372036854775807 : Int) := by omega
      have zs4a : ¬ ((9223372036854775807 : Int) < (S.size : Int) + (KQ.size : Int) + 1 + (Z.size : Int)) := by omega
      have zs4b : ¬ (9223372036854775807 < S.size + KQ.size + 1 + Z.size) := by omega
      have zs4c : S.size + KQ.size + 1 + Z.size ≤ 9223372036854775807 := by omega
      have zs4d : (S.size : Int) + (KQ.size : Int) + 1 + (Z.size : Int) ≤ (9223372036854775807 : Int) := by omega
      go_wp2_with fail
      refine (rquote_any q _ (by omega)).mono ?_
      rintro e w7 ⟨rfl, hb7⟩
      rw [HKQ.out]
      have HW7 := Lib.hid (HWr.out.trans (hb7.mono HWr.out.size))
      have HB7 := Lib.hid (HBl.out.trans (hb7.mono HBl.out.size))
      have hB7 := HB0.out.onto HB7.out
      have s4 : w7.cell? ⟨w.heap.size, 4, none⟩ = some (.slice (some ⟨bI, oI, none⟩) t.items.length c) := hB7.cell 4
      obtain ⟨e0, e1, e2, e3, e4, e5⟩ := HI.out w7 HW7.out
      clear hb7 ek hB7 r0 r4 r5
      go_wp2_with fail
      refine (ih x D f D' f' (d + 1) _ (by omega) (HN.out.at_ HX2.out) (by omega) (by omega) ((HXV.out.under HW7.out).wide fun b hb => Nat.lt_of_lt_of_le hb HW7.out.size)).mono ?_
      rintro e w9 ⟨rfl, hb9⟩
      rw [HZ.out]
      have HB9 := Lib.hid (HB7.out.trans (hb9.mono HB7.out.size))
      clear hb9
      go_wp2_with fail
      go_roundw
      case rel => exact ⟨j + 1, _, hlt, by go_num, rfl, by rw [txts_take HX2.out, HCM.out, HKP.out]; simp only [dl_app, HS.out, ← HZ.out, ← HKQ.out]; simp [mkB], HB9.out⟩
      case measure => simp [intOf]; omega
     ·
      have c0 : decide ((0 : Int) < (j : Int)) = true := decide_eq_true (by omega)
      have c1 : decide (0 < j) = true := decide_eq_true (by omega)
      have HCM := Lib.hid (show comma j = [44] from by unfold comma; rw [if_neg hj0])
      clear hj0
      have hzl := txt_len x (HN.out.fit.at_ HX2.out)
      have hxle := (HN.out.at_ HX2.out).size
      obtain ⟨Z, hZ⟩ : ∃ Z, mkB x.txt = Z := ⟨_, rfl⟩
      have hZs : Z.size ≤ 64000 := by rw [← hZ]; show x.txt.toArray.size ≤ _; simp; omega
      have HZ := Lib.hid hZ
      clear hZ
      obtain ⟨KQ, hKQ⟩ : ∃ KQ, mkB (Q.quo q.data.toList) = KQ := ⟨_, rfl⟩
      have hKs : KQ.size ≤ 400 := by rw [← hKQ]; show (Q.quo q.data.toList).toArray.size ≤ _; simp; omega
      have HKQ := Lib.hid hKQ
      clear hKQ
      have zs2a : ¬ ((9223372036854775807 : Int) < (S.size : Int) + 1) := by omega
      have zs2b : ¬ (9223372036854775807 < S.size + 1) := by omega
      have zs2c : S.size + 1 ≤ 9223372036854775807 := by omega
      have zs2d : (S.size : Int) + 1 ≤ (9223372036854775807 : Int) := by omega
      have zs3a : ¬ ((9223372036854775807 : Int) < (S.size : Int) + 1 + (KQ.size : Int)) := by omega
      have zs3b : ¬ (9223372036854775807 < S.size + 1 + KQ.size) := by omega
      have zs3c : S.size + 1 + KQ.size ≤ 9223372036854775807 := by omega
      have zs3d : (S.size : Int) + 1 + (KQ.size : Int) ≤ (9223372036854775807 : Int) := by omega
      have zs4a : ¬ ((9223372036854775807 : Int) < (S.size : Int) + 1 + (KQ.size : Int) + 1) := by omega
      have zs4b : ¬ (9223372036854775807 < S.size + 1 + KQ.size + 1) := by omega
      have zs4c : S.size + 1 + KQ.size + 1 ≤ 9223372036854775807 := by omega
      have zs4d : (S.size : Int) + 1 + (KQ.size : Int) + 1 ≤ (9223372036854775807 : Int) := by omega
      have zs5a : ¬ ((9223372036854775807 : Int) < (S.size : Int) + 1 + (KQ.size : Int) + 1 + (Z.size : Int)) := by omega
      have zs5b : ¬ (9223372036854775807 < S.size + 1 + KQ.size + 1 + Z.size) := by omega
      have zs5c : S.size + 1 + KQ.size + 1 + Z.size ≤ 9223372036854775807 := by omega
      have zs5d : (S.size : Int) + 1 + (KQ.size : Int) + 1 + (Z.size : Int) ≤ (9223372036854775807 : Int) := by omega
      go_wp2_with fail
      refine (rquote_any q _ (by omega)).mono ?_
      rintro e w7 ⟨rfl, hb7⟩
      rw [HKQ.out]
      have HW7 := Lib.hid (HWr.out.trans (hb7.mono HWr.out.size))
      have HB7 := Lib.hid (HBl.out.trans (hb7.mono HBl.out.size))
      have hB7 := HB0.out.onto HB7.out
      have s4 : w7.cell? ⟨w.heap.size, 4, none⟩ = some (.slice (some ⟨bI, oI, none⟩) t.items.length c) := hB7.cell 4
      obtain ⟨e0, e1, e2, e3, e4, e5⟩ := HI.out w7 HW7.out
      clear hb7 ek hB7 r0 r4 r5
      go_wp2_with fail
      refine (ih x D f D' f' (d + 1) _ (by omega) (HN.out.at_ HX2.out) (by omega) (by omega) ((HXV.out.under HW7.out).wide fun b hb => Nat.lt_of_lt_of_le hb HW7.out.size)).mono ?_
      rintro e w9 ⟨rfl, hb9⟩
      rw [HZ.out]
      have HB9 := Lib.hid (HB7.out.trans (hb9.mono HB7.out.size))
      clear hb9
      go_wp2_with fail
      go_roundw
      case rel => exact ⟨j + 1, _, hlt, by go_num, rfl, by rw [txts_take HX2.out, HCM.out, HKP.out]; simp only [dl_app, HS.out, ← HZ.out, ← HKQ.out]; simp [mkB], HB9.out⟩
      case measure => simp [intOf]; omega
    ·
     have u1 : decide (j < t.items.length) = false := decide_eq_false hlt
     have u2 : decide ((j : Int) < (t.items.length : Int)) = false := decide_eq_false (by omega)
     have hfull : t.items.take j = t.items := List.take_of_length_le (by omega)
     have HSF := Lib.hid (show S.data.toList = T.txts t.keys t.items 0 from hfull ▸ HS.out)
     clear hfull
     have zz2a : ¬ ((9223372036854775807 : Int) < 1 + (S.size : Int)) := by omega
     have zz2b : ¬ (9223372036854775807 < 1 + S.size) := by omega
     have zz2c : 1 + S.size ≤ 9223372036854775807 := by omega
     have zz2d : 1 + (S.size : Int) ≤ (9223372036854775807 : Int) := by omega
     have zz3a : ¬ ((9223372036854775807 : Int) < 1 + (S.size : Int) + 1) := by omega
     have zz3b : ¬ (9223372036854775807 < 1 + S.size + 1) := by omega
     have zz3c : 1 + S.size + 1 ≤ 9223372036854775807 := by omega
     have zz3d : 1 + (S.size : Int) + 1 ≤ (9223372036854775807 : Int) := by omega
     go_wp2_with fail
     go_ret
     exact ⟨congrArg (fun q => Ending.returned (.string q)) (mk_of (by rw [HX.out, dl_app, dl_app, HSF.out]; rfl)), HWr.out⟩
end Go.Proofs.YthfhlblpjjniiaaGreatDoor
namespace Go.Proofs.YthfhlblpjjniiaaGreatDoor
open Go.RowKit
open Pl
set_option linter.unusedVariables false
theorem rtext7_any (t : T) (A : Option Addr) (c : Nat) (A' : Option Addr) (c' : Nat) (w : World) (hn : t.Fine) (hv : TV w (· < w.heap.size) t A c A' c') :
 Calls Tryz.prog 29 #[.agg #[.int .i64 t.kind, .bool t.tr, .int .i64 t.num, .string t.str, .slice A t.items.length c, .slice A' t.keys.length c']] w fun e w' => e = .returned (.string (mkB t.txt)) ∧ Below w.heap.size w w' := by
 have hsz := hn.size
 have hb : Below w.heap.size w (w.alloc (.cells #[.int .i64 t.kind, .bool t.tr, .int .i64 t.num, .string t.str, .slice A t.items.length c, .slice A' t.keys.length c'] 32)) := (Below.refl _ _).alloc (Nat.le_refl _) _
 have HC := Lib.hid (write_at 80 t A c A' c' 0 (w.alloc (.cells #[.int .i64 t.kind, .bool t.tr, .int .i64 t.num, .string t.str, .slice A t.items.length c, .slice A' t.keys.length c'] 32)) hsz hn (Int.le_refl _) (by omega) (hv.on hb))
 have HB := Lib.hid hb
 clear hv hn hb
 go_enter Tryz.func29, Tryz.ntmps29
 go_wp2_with fail
 refine HC.out.mono ?_
 rintro e w2 ⟨rfl, hb2⟩
 have H2 := Lib.hid (HB.out.trans (hb2.mono HB.out.size))
 clear hb2
 go_wp2_with fail
 go_ret
 exact ⟨rfl, H2.out⟩
theorem mkB_size (L : List UInt8) : (mkB L).size = L.length := by unfold mkB; simp [ByteArray.size]
theorem mkB_data (L : List UInt8) : (mkB L).data.toList = L := by unfold mkB; simp
set_option maxRecDepth 100000 in
theorem width_any (t : T) (A : Option Addr) (c : Nat) (A' : Option Addr) (c' : Nat) (w : World) (hn : t.Fine) (ht : Lib.TabIs Tryz.prog w "internal/strconv.uint64pow10" .u64 Lib.pow10Tab) (hv : TV w (· < w.heap.size) t A c A' c') :
 Calls Tryz.prog 30 #[.agg #[.int .i64 t.kind, .bool t.tr, .int .i64 t.num, .string t.str, .slice A t.items.length c, .slice A' t.keys.length c']] w fun e w' => e = .returned (.int .i64 t.txt.length) ∧ Below w.heap.size w w' := by
 have hb : Below w.heap.size w (w.alloc (.cells #[.int .i64 t.kind, .bool t.tr, .int .i64 t.num, .string t.str, .slice A t.items.length c, .slice A' t.keys.length c'] 26)) := (Below.refl _ _).alloc (Nat.le_refl _) _
 have HX := Lib.hid (Blk.new w 26 #[.int .i64 t.kind, .bool t.tr, .int .i64 t.num, .string t.str, .slice A t.items.length c, .slice A' t.keys.length c'])
 have HT := Lib.hid (rntext_any t A c A' c' (w.alloc (.cells #[.int .i64 t.kind, .bool t.tr, .int .i64 t.num, .string t.str, .slice A t.items.length c, .slice A' t.keys.length c'] 26)) hn ((tab_of ht).on hb).2 (hv.on hb))
 have HB := Lib.hid hb
 have HS := Lib.hid (mkB_size t.txt)
 have hl := txt_len t hn.fit
 have hs := hn.size
 clear hv hn hb ht
 generalize mkB t.txt = S at *
 go_enter Tryz.func30, Tryz.ntmps30
 go_wp2_with fail
 refine HT.out.mono ?_
 rintro e w2 ⟨rfl, hb2⟩
 have H2 := Lib.hid (HB.out.trans (hb2.mono HB.out.size))
 clear hb2
 go_wp2_with fail
 go_ret
 exact ⟨by rw [← HS.out]; rfl, H2.out⟩
end Go.Proofs.YthfhlblpjjniiaaGreatDoor
