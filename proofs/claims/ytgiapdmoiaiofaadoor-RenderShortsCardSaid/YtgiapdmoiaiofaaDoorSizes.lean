/- Sizes and depths: contracts of the program's and the reference's. -/
import Derived.Test.YtgiapdmoiaiofaaDoorMem3
namespace Go.Proofs.YtgiapdmoiaiofaaDoor
open Go.RowKit

set_option maxRecDepth 100000 in
set_option maxHeartbeats 2000000 in
theorem rsize_any (n : Nat) : ∀ (t : T) (A : Option Addr) (c : Nat) (A' : Option Addr) (c' : Nat) (w : World), t.size ≤ n → n ≤ 100000 → TV w (· < w.heap.size) t A c A' c' →
    Calls Tryd.prog 24 #[t.agg A c A' c'] w fun e w' => e = .returned (.int .i64 t.size) ∧ Below w.heap.size w w' := by
  induction n with
  | zero => intro t _ _ _ _ _ h; have := t.size_pos; omega
  | succ n ih =>
    intro t A c A' c' w ht hn hv
    have hl := hv.lens.1
    have hls := t.len_size
    have hse := t.size_eq
    have hss : T.sizes t.items < t.size := by omega
    have IH := Lib.hid ih
    have HV := Lib.hid hv
    have HE := Lib.hid hse
    clear ih hv hse
    unfold T.agg
    go_enter Tryd.func24, Tryd.ntmps24
    go_wp2_with fail
    go_loopw [3, 8] (fun s i wr => ∃ k : Nat, k ≤ t.items.length ∧ i = .int .i64 k ∧ s = .int .i64 ((1 + T.sizes (t.items.take k) : Nat) : Int) ∧ Blk wr w.heap.size 35 (t.cs A c A' c') ∧ Below w.heap.size w wr) (fun _ i _ => t.items.length - (intOf i).toNat)
    case atStart => exact ⟨0, Nat.zero_le _, rfl, by simp [T.sizes], Blk.new _ _ _, (Below.refl _ _).alloc (Nat.le_refl _) _⟩
    case round =>
      obtain ⟨k, hk, rfl, rfl, hbx, hbel⟩ := hrel
      have Hbel := Lib.hid hbel
      have Hbx := Lib.hid hbx
      have hlw := hbx.lt
      have d4 : wr.cell? ⟨w.heap.size, 4, none⟩ = some (.slice A t.items.length c) := hbx.cell 4
      clear hbel hbx
      have hsz := T.sizes_take t.items k
      by_cases hlt : k < t.items.length
      · have u1 : decide (k < t.items.length) = true := decide_eq_true hlt
        obtain ⟨b, o, x, B, d, B', d', rfl, hb, hx, h6, hX⟩ := HV.out.at_ hlt
        have hxs := T.at_size hx
        have HS := Lib.hid (T.sizes_snoc hx)
        have HX := Lib.hid hX
        have hszn := T.sizes_take t.items (k + 1)
        rw [HS.out] at hszn
        obtain ⟨e0, e1, e2, e3, e4, e5⟩ := h6.keep hb (.of_below Hbel.out)
        clear hX h6 hx
        go_wp2_with fail
        refine (IH.out x B d B' d' _ (by omega) (by omega) (HX.out.on Hbel.out)).mono ?_
        rintro e w2 ⟨rfl, hb2⟩
        have Hb2 := Lib.hid (Hbel.out.trans (hb2.mono Hbel.out.size))
        have Hbx2 := Lib.hid (Hbx.out.onto hb2)
        clear hb2
        go_wp2_with fail
        go_roundw
        case rel => exact ⟨k + 1, hlt, by go_num, by rw [HS.out]; go_num, Hbx2.out, Hb2.out⟩
        case measure => simp [intOf]; omega
      · obtain rfl : t.items.length = k := by omega
        clear hsz
        go_wp2_with fail
        go_ret
        exact ⟨ret_int (by rw [List.take_length, HE.out]), Hbel.out⟩

theorem four_or {k : Int} (h : ¬ (k = 4 ∨ k = 5)) : (k != 4) = true ∧ (k != 5) = true := by
  constructor <;> simp <;> omega

end Go.Proofs.YtgiapdmoiaiofaaDoor
