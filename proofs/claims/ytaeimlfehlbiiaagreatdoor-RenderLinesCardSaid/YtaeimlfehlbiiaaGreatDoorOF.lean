/- Further declarations of the bundles. -/
import Derived.Test.YtaeimlfehlbiiaaGreatDoorMA
import Derived.Lib.RuneBytes
import Derived.Laws.RangeAny
import Derived.Laws.Runes
import Derived.Test.YtaeimlfehlbiiaaGreatDoorNA
import Derived.Test.YtaeimlfehlbiiaaGreatDoorMM
import Derived.Lib.ItoaNum
import Derived.Lib.Bytealg
import Derived.Test.YtaeimlfehlbiiaaGreatDoorMJ
import Derived.Test.YtaeimlfehlbiiaaGreatDoorMG
import Derived.Test.YtaeimlfehlbiiaaGreatDoorMH
import Derived.Test.YtaeimlfehlbiiaaGreatDoorML
import Derived.Test.YtaeimlfehlbiiaaGreatDoorNJ
import Derived.Test.YtaeimlfehlbiiaaGreatDoorOA
import Derived.Test.YtaeimlfehlbiiaaGreatDoorME
import Derived.Test.YtaeimlfehlbiiaaGreatDoorShelf3
import Derived.Lib.OthersKept
import Derived.Lib.AppendStr
import Derived.Shelf.Strings.Builder1
import Derived.Outline
import Derived.Lib.UnsafeStr
import Derived.Test.YtaeimlfehlbiiaaGreatDoorShelfP
import Derived.Lib.LaidTab
namespace Go.Proofs.YtaeimlfehlbiiaaGreatDoor.Tk
end Go.Proofs.YtaeimlfehlbiiaaGreatDoor.Tk
namespace Go.Proofs.YtaeimlfehlbiiaaGreatDoor.Pl
end Go.Proofs.YtaeimlfehlbiiaaGreatDoor.Pl
namespace Go.Proofs.YtaeimlfehlbiiaaGreatDoor.Pl
section
variable {s : ByteArray} {l : List Int} {R : List UInt8}
end
end Go.Proofs.YtaeimlfehlbiiaaGreatDoor.Pl
namespace Go.Proofs.YtaeimlfehlbiiaaGreatDoor.Tk
open Pl
end Go.Proofs.YtaeimlfehlbiiaaGreatDoor.Tk
namespace Go.Proofs.YtaeimlfehlbiiaaGreatDoor.Tk
open Pl
end Go.Proofs.YtaeimlfehlbiiaaGreatDoor.Tk
namespace Go.Proofs.YtaeimlfehlbiiaaGreatDoor.Tk
open Pl
end Go.Proofs.YtaeimlfehlbiiaaGreatDoor.Tk
namespace Go.Proofs.YtaeimlfehlbiiaaGreatDoor
namespace T
theorem depths_snoc {l : List T} {k : Nat} {x : T} (h : l[k]? = some x) : depths (l.take (k + 1)) = max (depths (l.take k)) x.depth := by
 rw [take_snoc h, depths_append]; simp [depths]
theorem depths_take (l : List T) (k : Nat) : depths (l.take k) ≤ depths l := by
 have := depths_append (l.take k) (l.drop k)
 rw [List.take_append_drop] at this; omega
theorem depths_le_of {l : List T} {n : Nat} (h : ∀ x ∈ l, x.depth ≤ n) : depths l ≤ n := by
 induction l with
 | nil => simp [depths]
 | cons y r ih =>
  simp only [depths]
  have h1 := h y (by simp)
  have h2 := ih (fun x hx => h x (by simp [hx]))
  omega
theorem depth_le (t : T) : t.depth ≤ t.size := by
 induction t using T.ind with
 | h t ih =>
  rw [depth_eq]
  split
  ·
   have h1 : depths t.items ≤ sizes t.items := depths_le_of fun x hx => by
    have := ih x hx; have := mem_size hx; omega
   have h2 := size_eq t
   omega
  · omega
def Kinds : T → Prop := All fun t => 0 ≤ t.kind ∧ t.kind ≤ 5
end T
end Go.Proofs.YtaeimlfehlbiiaaGreatDoor
namespace Go.Proofs.YtaeimlfehlbiiaaGreatDoor.Rd
open Tk
end Go.Proofs.YtaeimlfehlbiiaaGreatDoor.Rd
namespace Go.Proofs.YtaeimlfehlbiiaaGreatDoor.Rd
open Tk
set_option linter.unusedVariables false
end Go.Proofs.YtaeimlfehlbiiaaGreatDoor.Rd
namespace Go.Proofs.YtaeimlfehlbiiaaGreatDoor.Rd
open Tk
end Go.Proofs.YtaeimlfehlbiiaaGreatDoor.Rd
namespace Go.Proofs.YtaeimlfehlbiiaaGreatDoor
set_option linter.unusedVariables false
namespace Q
end Q
namespace T
end T
end Go.Proofs.YtaeimlfehlbiiaaGreatDoor
namespace Go.Proofs.YtaeimlfehlbiiaaGreatDoor
namespace Q
def P7 : List (UInt8 × UInt8) := [(34, 34), (92, 92), (8, 98), (12, 102), (10, 110), (13, 114), (9, 116)]
def escK (c : UInt8) (k : Nat) : List UInt8 := (P7.take k).flatMap fun pq => if pq.1 = c then [92, pq.2] else []
theorem escK_succ (c : UInt8) {k : Nat} {p : UInt8 × UInt8} (h : P7[k]? = some p) : escK c (k + 1) = escK c k ++ (if p.1 = c then [92, p.2] else []) := by
 unfold escK
 rw [List.take_add_one, h, List.flatMap_append]
 simp
theorem escK_all : ∀ n : Fin 256, esc (UInt8.ofNat n.val) = if escK (UInt8.ofNat n.val) 7 = [] then (if UInt8.ofNat n.val < 32 then [92, 117, 48, 48, hex (UInt8.ofNat n.val / 16), hex (UInt8.ofNat n.val % 16)] else [UInt8.ofNat n.val]) else escK (UInt8.ofNat n.val) 7 := by decide +kernel
theorem esc_K (c : UInt8) : esc c = if escK c 7 = [] then (if c < 32 then [92, 117, 48, 48, hex (c / 16), hex (c % 16)] else [c]) else escK c 7 := by
 have := escK_all ⟨c.toNat, c.toNat_lt⟩
 simpa using this
end Q
end Go.Proofs.YtaeimlfehlbiiaaGreatDoor
namespace Go.Proofs.YtaeimlfehlbiiaaGreatDoor
open Go.RowKit
theorem T.Good.kinds {t : T} (h : t.Good) : t.Kinds := h.imp fun _ g => ⟨g.k0, g.k5⟩
end Go.Proofs.YtaeimlfehlbiiaaGreatDoor
namespace Go.Proofs.YtaeimlfehlbiiaaGreatDoor
open Go.RowKit
end Go.Proofs.YtaeimlfehlbiiaaGreatDoor
namespace Go.Proofs.YtaeimlfehlbiiaaGreatDoor
open Go.RowKit
end Go.Proofs.YtaeimlfehlbiiaaGreatDoor
namespace Go.Proofs.YtaeimlfehlbiiaaGreatDoor
end Go.Proofs.YtaeimlfehlbiiaaGreatDoor
namespace Go.Proofs.YtaeimlfehlbiiaaGreatDoor
set_option linter.unusedVariables false
end Go.Proofs.YtaeimlfehlbiiaaGreatDoor
namespace Go.Proofs.YtaeimlfehlbiiaaGreatDoor
open Go.RowKit
end Go.Proofs.YtaeimlfehlbiiaaGreatDoor
namespace Go.Proofs.YtaeimlfehlbiiaaGreatDoor
open Go.RowKit
set_option maxRecDepth 100000 in
set_option maxHeartbeats 2000000 in
theorem rdepth_any (n : Nat) : ∀ (t : T) (A : Option Addr) (c : Nat) (A' : Option Addr) (c' : Nat) (w : World), t.size ≤ n → n ≤ 100000 → t.Kinds → TV w (· < w.heap.size) t A c A' c' →
 Calls Tryz.prog 11 #[t.agg A c A' c'] w fun e w' => e = .returned (.int .i64 t.depth) ∧ Below w.heap.size w w' := by
 induction n with
 | zero => intro t _ _ _ _ _ h; have := t.size_pos; omega
 | succ n ih =>
  intro t A c A' c' w ht hn hks hv
  have hl := hv.lens.1
  have hls := t.len_size
  have hse := t.size_eq
  have hss : T.sizes t.items < t.size := by omega
  have hdt := t.depth_le
  have hk0 := hks.here.1
  have hk5 := hks.here.2
  have IH := Lib.hid ih
  have HV := Lib.hid hv
  have HK := Lib.hid hks
  have HE := Lib.hid t.depth_eq
  clear ih hv hse hks
  unfold T.agg
  by_cases h45 : t.kind < 4
  ·
   have HE2 := Lib.hid (show t.depth = 0 by rw [HE.out, if_neg (by omega)])
   go_enter Tryz.func11, Tryz.ntmps11
   go_wp2_with fail
   go_ret
   exact ⟨ret_int (by rw [HE2.out]; rfl), (Below.refl _ _).alloc (Nat.le_refl _) _⟩
  ·
   have HE2 := Lib.hid (show t.depth = 1 + T.depths t.items by rw [HE.out, if_pos (by omega)])
   have hdd : T.depths t.items ≤ 100000 := by have := HE2.out; omega
   go_enter Tryz.func11, Tryz.ntmps11
   go_wp2_with fail
   go_loopw [3, 11] (fun s i wr => ∃ k : Nat, k ≤ t.items.length ∧ i = .int .i64 k ∧ s = .int .i64 ((1 + T.depths (t.items.take k) : Nat) : Int) ∧ Blk wr w.heap.size 27 (t.cs A c A' c') ∧ Below w.heap.size w wr) (fun _ i _ => t.items.length - (intOf i).toNat)
   case atStart => exact ⟨0, Nat.zero_le _, rfl, by simp [T.depths], Blk.new _ _ _, (Below.refl _ _).alloc (Nat.le_refl _) _⟩
   case round =>
    obtain ⟨k, hk, rfl, rfl, hbx, hbel⟩ := hrel
    have Hbel := Lib.hid hbel
    have Hbx := Lib.hid hbx
    have hlw := hbx.lt
    have d4 : wr.cell? ⟨w.heap.size, 4, none⟩ = some (.slice A t.items.length c) := hbx.cell 4
    clear hbel hbx
    have hsz := T.depths_take t.items k
    by_cases hlt : k < t.items.length
    ·
     have u1 : decide (k < t.items.length) = true := decide_eq_true hlt
     obtain ⟨b, o, x, B, d, B', d', rfl, hb, hx, h6, hX⟩ := HV.out.at_ hlt
     have hxs := T.at_size hx
     have hxd := x.depth_le
     have HS := Lib.hid (T.depths_snoc hx)
     have HX := Lib.hid hX
     have HXK := Lib.hid (HK.out.at_ hx)
     obtain ⟨e0, e1, e2, e3, e4, e5⟩ := h6.keep hb (.of_below Hbel.out)
     clear hX h6 hx
     go_wp2_with fail
     refine (IH.out x B d B' d' _ (by omega) (by omega) HXK.out (HX.out.on Hbel.out)).mono ?_
     rintro e w2 ⟨rfl, hb2⟩
     have Hb2 := Lib.hid (Hbel.out.trans (hb2.mono Hbel.out.size))
     have Hbx2 := Lib.hid (Hbx.out.onto hb2)
     clear hb2
     go_wp2_with fail
     go_roundw
     case rel => exact ⟨k + 1, hlt, by go_num, by rw [HS.out]; simp; omega, Hbx2.out, Hb2.out⟩
     case measure => simp [intOf]; omega
    ·
     obtain rfl : t.items.length = k := by omega
     clear hsz
     go_wp2_with fail
     go_ret
     exact ⟨ret_int (by rw [List.take_length, HE2.out]), Hbel.out⟩
end Go.Proofs.YtaeimlfehlbiiaaGreatDoor
namespace Go.Proofs.YtaeimlfehlbiiaaGreatDoor
open Go.RowKit
end Go.Proofs.YtaeimlfehlbiiaaGreatDoor
namespace Go.Proofs.YtaeimlfehlbiiaaGreatDoor
open Go.RowKit
set_option linter.unusedVariables false
theorem app_u8 {ops : Array Oper} {rest : List Oper} {o : Oper} {a : Act} {Q : Exit → Act → World → Prop} {w : World} (hgd : o.guard = none) (s x : Operand)
 (ho : o.op = .call { callee := .builtin .append, args := #[s, x], argTypes := #[42, 42] })
 (base : Nat) (v : Value) (l : List UInt8) (y : UInt8) (z : Int) (hz : z = (y.toNat : Int)) (hs : a.eval s = v) (hx : a.eval x = .slice (some ⟨w.heap.size, 0, none⟩) 1 1)
 (hown : w.ownsRow base 5 1 v l.length (Lib.byteCells l)) (hn : l.length ≤ 1000000) (hbase : base ≤ w.heap.size)
 (h : ∀ (v' : Value) (w' : World), w'.ownsRow base 5 1 v' (l ++ [y]).length (Lib.byteCells (l ++ [y])) → (∀ W, Below base W w → Below base W w') → wpList Tryz.prog ops Q rest (a.put o.dst v') w') :
 wpList Tryz.prog ops Q (o :: rest) a (w.alloc (.cells #[.int .u8 z] 5)) := by
 subst hz
 obtain ⟨i0, hi, hz0, hz1, hz2⟩ := info_parts info5
 refine wpList_append_own _ hgd s x 42 ho base 5 i0 (.int .u8 0) 1 1 Tryz.underlying42 hi hz0 hz1 hz2 rfl (by decide) v _ _ hs (hown.alloc _) ⟨w.heap.size, 0, none⟩ 1 1 [.int .u8 y.toNat] hx rfl ?_ ?_ ?_ ?_ ?_ ?_
 ·
  intro j u hu
  match j, hu with
  | 0, hu => simp at hu; subst hu; simp [Addr.add]
 · intro u hu; simp at hu; subst hu; rfl
 · unfold maxLen; omega
 · omega
 · simp; omega
 ·
  intro v' w' h1 h2 _
  refine h v' w' ?_ (fun W hW => ?_)
  · rw [List.length_append, Lib.byteCells_append]; exact h1
  · exact (hW.alloc hbase _).grown h2 (by simp; omega) (fun k hk => (hown.lt k hk).1)
theorem app_u82 {ops : Array Oper} {rest : List Oper} {o : Oper} {a : Act} {Q : Exit → Act → World → Prop} {w : World} (hgd : o.guard = none) (s x : Operand)
 (ho : o.op = .call { callee := .builtin .append, args := #[s, x], argTypes := #[42, 42] })
 (base : Nat) (v : Value) (l : List UInt8) (y y2 : UInt8) (z z2 : Int) (hz : z = (y.toNat : Int)) (hz2 : z2 = (y2.toNat : Int)) (hs : a.eval s = v) (hx : a.eval x = .slice (some ⟨w.heap.size, 0, none⟩) 2 2)
 (hown : w.ownsRow base 5 1 v l.length (Lib.byteCells l)) (hn : l.length ≤ 1000000) (hbase : base ≤ w.heap.size)
 (h : ∀ (v' : Value) (w' : World), w'.ownsRow base 5 1 v' (l ++ [y, y2]).length (Lib.byteCells (l ++ [y, y2])) → (∀ W, Below base W w → Below base W w') → wpList Tryz.prog ops Q rest (a.put o.dst v') w') :
 wpList Tryz.prog ops Q (o :: rest) a (w.alloc (.cells #[.int .u8 z, .int .u8 z2] 5)) := by
 subst hz hz2
 obtain ⟨i0, hi, hz0, hz1, hz2⟩ := info_parts info5
 refine wpList_append_own _ hgd s x 42 ho base 5 i0 (.int .u8 0) 1 1 Tryz.underlying42 hi hz0 hz1 hz2 rfl (by decide) v _ _ hs (hown.alloc _) ⟨w.heap.size, 0, none⟩ 2 2 [.int .u8 y.toNat, .int .u8 y2.toNat] hx rfl ?_ ?_ ?_ ?_ ?_ ?_
 ·
  intro j u hu
  match j, hu with
  | 0, hu => simp at hu; subst hu; simp [Addr.add]
  | 1, hu => simp at hu; subst hu; simp [Addr.add]
 · intro u hu; simp at hu; rcases hu with rfl | rfl <;> rfl
 · unfold maxLen; omega
 · omega
 · simp; omega
 ·
  intro v' w' h1 h2 _
  refine h v' w' ?_ (fun W hW => ?_)
  · rw [List.length_append, Lib.byteCells_append]; exact h1
  · exact (hW.alloc hbase _).grown h2 (by simp; omega) (fun k hk => (hown.lt k hk).1)
end Go.Proofs.YtaeimlfehlbiiaaGreatDoor
namespace Go.Proofs.YtaeimlfehlbiiaaGreatDoor
open Go.RowKit
set_option linter.unusedVariables false
end Go.Proofs.YtaeimlfehlbiiaaGreatDoor
namespace Go.Proofs.YtaeimlfehlbiiaaGreatDoor
open Go.RowKit
set_option linter.unusedVariables false
end Go.Proofs.YtaeimlfehlbiiaaGreatDoor
namespace Go.Proofs.YtaeimlfehlbiiaaGreatDoor
open Go.RowKit
set_option linter.unusedVariables false
end Go.Proofs.YtaeimlfehlbiiaaGreatDoor
namespace Go.Proofs.YtaeimlfehlbiiaaGreatDoor
open Go.RowKit
set_option linter.unusedVariables false
end Go.Proofs.YtaeimlfehlbiiaaGreatDoor
namespace Go.Proofs.YtaeimlfehlbiiaaGreatDoor
open Go.RowKit
set_option linter.unusedVariables false
end Go.Proofs.YtaeimlfehlbiiaaGreatDoor
