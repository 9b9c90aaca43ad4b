/- Find and Item: contracts. -/
import Derived.Test.YthfhlblpjjniiaaGreatDoorMG
namespace Go.Proofs.YthfhlblpjjniiaaGreatDoor
open Go.RowKit
theorem bytes_eq {a b : ByteArray} (h : a.toList = b.toList) : a = b := by
 rcases sl_tri a b with h1 | h1 | h1
 · unfold sl at h1; rw [h] at h1; have := sl_irrefl b; unfold sl at this; rw [this] at h1; cases h1
 · exact h1
 · unfold sl at h1; rw [h] at h1; have := sl_irrefl b; unfold sl at this; rw [this] at h1; cases h1
set_option maxRecDepth 100000 in
set_option maxHeartbeats 2000000 in
theorem rfind_any (t : T) (A : Option Addr) (c : Nat) (A' : Option Addr) (c' : Nat) (q : ByteArray) (p : Nat) (w : World) (hl : t.keys.length ≤ 100000) (hr : SReads w (· < w.heap.size) A' t.keys) (hp : p ≤ t.keys.length) (hb : ∀ (i : Nat) (x : ByteArray), i < p → t.keys[i]? = some x → x ≠ q) (he : p < t.keys.length → t.keys[p]? = some q) (r : Int) (h1 : p < t.keys.length → r = p) (h2 : p = t.keys.length → r = -1) :
 Calls Tryz.prog 101 #[t.agg A c A' c', .string q] w fun e w' => e = .returned (.int .i64 r) ∧ Below w.heap.size w w' := by
 have HR := Lib.hid hr
 have HB := Lib.hid hb
 have HE := Lib.hid he
 clear hr hb he
 unfold T.agg
 go_enter Tryz.func101, Tryz.ntmps101
 go_wp2_with fail
 have hb0 : Blk (w.alloc (.cells (t.cs A c A' c') 32)) w.heap.size 32 (t.cs A c A' c') := Blk.new w _ _
 have hW : Below w.heap.size w (w.alloc (.cells (t.cs A c A' c') 32)) := (Below.refl _ _).alloc (Nat.le_refl _) _
 go_loopw [9] (fun i wr => ∃ k : Nat, k ≤ p ∧ i = .int .i64 k ∧ Blk wr w.heap.size 32 (t.cs A c A' c') ∧ Below w.heap.size w wr) (fun i _ => t.keys.length - (intOf i).toNat)
 case atStart => exact ⟨0, Nat.zero_le _, rfl, hb0, hW⟩
 case round =>
  clear hb0 hW
  obtain ⟨k, hk, rfl, hb0, hbel⟩ := hrel
  have HB0 := Lib.hid hb0
  have Hbel := Lib.hid hbel
  have a5 : wr.cell? ⟨w.heap.size, 5, none⟩ = some (.slice A' t.keys.length c') := hb0.cell 5
  clear hb0 hbel
  by_cases hlt : k < t.keys.length
  ·
   have u1 : decide (k < t.keys.length) = true := decide_eq_true hlt
   obtain ⟨b, o, s, rfl, hb, hx, hc⟩ := HR.out.at_ hlt
   have e0 := ((Keeps.of_below Hbel.out).cell hb (o + k)).trans hc
   have i1 : (k : Int) < t.keys.length := by omega
   have i2 : (0 : Int) ≤ k := by omega
   by_cases hkp : k < p
   ·
    have hne := HB.out k s hkp hx
    have hd : (s.toList == q.toList) = false := by
     rw [beq_eq_false_iff_ne]; intro h; exact hne (bytes_eq h)
    clear hc
    go_wp2_with fail
    go_roundw
    case rel => exact ⟨k + 1, hkp, by go_num, HB0.out, Hbel.out⟩
    case measure => simp [intOf]; omega
   ·
    obtain rfl : k = p := by omega
    obtain rfl : s = q := by have := HE.out hlt; rw [hx] at this; injection this
    obtain rfl := h1 hlt
    clear hc h1 h2
    go_wp2_with fail
    go_ret
    exact ⟨rfl, Hbel.out⟩
  ·
   obtain rfl : t.keys.length = k := by omega
   obtain rfl : p = t.keys.length := by omega
   obtain rfl := h2 rfl
   clear h1 h2
   go_wp2_with fail
   go_ret
   exact ⟨rfl, Hbel.out⟩
end Go.Proofs.YthfhlblpjjniiaaGreatDoor
