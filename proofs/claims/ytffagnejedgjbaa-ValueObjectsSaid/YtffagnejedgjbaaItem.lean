/- Find and Item: contracts. -/
import Derived.Test.YtffagnejedgjbaaCopy
import Derived.Test.YtffagnejedgjbaaTexts
import Derived.Test.YtffagnejedgjbaaSorted
import Derived.Test.YtffagnejedgjbaaObject
namespace Go.Proofs.Ytffagnejedgjbaa
open Go.RowKit

theorem bytes_eq {a b : ByteArray} (h : a.toList = b.toList) : a = b := by
  rcases sl_tri a b with h1 | h1 | h1
  · unfold sl at h1; rw [h] at h1; have := sl_irrefl b; unfold sl at this; rw [this] at h1; cases h1
  · exact h1
  · unfold sl at h1; rw [h] at h1; have := sl_irrefl b; unfold sl at this; rw [this] at h1; cases h1
theorem search_no (l : List ByteArray) (g o c : Nat) (s : ByteArray) (w : World) (hl : l.length ≤ 100000) (hn : ∀ (i : Nat) (x : ByteArray), l[i]? = some x → x ≠ s) (hc : ∀ (i : Nat) (x : ByteArray), l[i]? = some x → w.cell? ⟨g, o + i, none⟩ = some (.string x)) :
    Calls Try.prog 37 #[.slice (some ⟨g, o, none⟩) l.length c, .string s] w fun e w' => (∃ p : Nat, e = .returned (.tuple #[.int .i64 p, .bool false])) ∧ ∃ q, w' = w.drewN q := by
  have hget : ∀ (i : Nat) (x : ByteArray), l[i]? = some x → l.getD i s = x := fun i x hi => by rw [List.getD_eq_getElem?_getD, hi]; rfl
  have := Try.slices_BinarySearch_string g o l.length c (fun t => l.getD t s) s w (by omega) (fun j hj => by rw [hget j _ (List.getElem?_eq_getElem hj)]; exact hc j _ (List.getElem?_eq_getElem hj))
  generalize Lib.bsGo (fun t => Op.bytesLess (l.getD t s).toList s.toList) l.length 0 l.length = k at this
  have hf : ¬ (k < l.length ∧ l.getD k s = s) := by
    rintro ⟨h1, h2⟩
    exact hn _ _ (List.getElem?_eq_getElem h1) ((hget _ _ (List.getElem?_eq_getElem h1)).symm.trans h2)
  refine this.mono fun e w' ⟨he, hw⟩ => ⟨⟨k, ?_⟩, hw⟩
  rw [he, decide_eq_false hf]
set_option maxRecDepth 100000 in
set_option maxHeartbeats 2000000 in
theorem search_nil (A : Option Addr) (c : Nat) (s : ByteArray) (w : World) :
    Calls Try.prog 37 #[.slice A 0 c, .string s] w fun e w' => (∃ p : Nat, e = .returned (.tuple #[.int .i64 p, .bool false])) ∧ ∃ q, w' = w.drewN q := by
  go_enter Try.func37, Try.ntmps37
  go_wp2_with fail
  go_loopw [7, 8] (fun i j wr => i = .int .i64 0 ∧ j = .int .i64 0 ∧ wr = w) (fun _ _ _ => 0)
  case atStart => exact ⟨rfl, rfl, rfl⟩
  case round =>
    obtain ⟨rfl, rfl, rfl⟩ := hrel
    go_wp2_with fail
    exact bodyPost_ret (v := .tuple #[.int .i64 0, .bool false]) (by simp [results, Try.results37, go_sem]) rfl ⟨⟨0, rfl⟩, 0, rfl⟩
set_option maxRecDepth 100000 in
set_option maxHeartbeats 2000000 in
theorem rfind_any (t : T) (A : Option Addr) (c : Nat) (A' : Option Addr) (c' : Nat) (q : ByteArray) (p : Nat) (w : World) (hl : t.keys.length ≤ 100000) (hr : SReads w (· < w.heap.size) A' t.keys) (hp : p ≤ t.keys.length) (hb : ∀ (i : Nat) (x : ByteArray), i < p → t.keys[i]? = some x → x ≠ q) (he : p < t.keys.length → t.keys[p]? = some q) (r : Int) (h1 : p < t.keys.length → r = p) (h2 : p = t.keys.length → r = -1) :
    Calls Try.prog 27 #[t.agg A c A' c', .string q] w fun e w' => e = .returned (.int .i64 r) ∧ Below w.heap.size w w' := by
  have HR := Lib.hid hr
  have HB := Lib.hid hb
  have HE := Lib.hid he
  clear hr hb he
  unfold T.agg
  go_enter Try.func27, Try.ntmps27
  go_wp2_with fail
  have hb0 : Blk (w.alloc (.cells (t.cs A c A' c') 30)) w.heap.size 30 (t.cs A c A' c') := Blk.new w _ _
  have hW : Below w.heap.size w (w.alloc (.cells (t.cs A c A' c') 30)) := (Below.refl _ _).alloc (Nat.le_refl _) _
  go_loopw [9] (fun i wr => ∃ k : Nat, k ≤ p ∧ i = .int .i64 k ∧ Blk wr w.heap.size 30 (t.cs A c A' c') ∧ Below w.heap.size w wr) (fun i _ => t.keys.length - (intOf i).toNat)
  case atStart => exact ⟨0, Nat.zero_le _, rfl, hb0, hW⟩
  case round =>
    clear hb0 hW
    obtain ⟨k, hk, rfl, hb0, hbel⟩ := hrel
    have HB0 := Lib.hid hb0
    have Hbel := Lib.hid hbel
    have a5 : wr.cell? ⟨w.heap.size, 5, none⟩ = some (.slice A' t.keys.length c') := hb0.cell 5
    clear hb0 hbel
    by_cases hlt : k < t.keys.length
    · have u1 : decide (k < t.keys.length) = true := decide_eq_true hlt
      obtain ⟨b, o, s, rfl, hb, hx, hc⟩ := HR.out.at_ hlt
      have e0 := ((Keeps.of_below Hbel.out).cell hb (o + k)).trans hc
      have i1 : (k : Int) < t.keys.length := by omega
      have i2 : (0 : Int) ≤ k := by omega
      by_cases hkp : k < p
      · have hne := HB.out k s hkp hx
        have hd : (s.toList == q.toList) = false := by
          rw [beq_eq_false_iff_ne]; intro h; exact hne (bytes_eq h)
        clear hc
        go_wp2_with fail
        go_roundw
        case rel => exact ⟨k + 1, hkp, by go_num, HB0.out, Hbel.out⟩
        case measure => simp [intOf]; omega
      · obtain rfl : k = p := by omega
        obtain rfl : s = q := by have := HE.out hlt; rw [hx] at this; injection this
        obtain rfl := h1 hlt
        clear hc h1 h2
        go_wp2_with fail
        go_ret
        exact ⟨rfl, Hbel.out⟩
    · obtain rfl : t.keys.length = k := by omega
      obtain rfl : p = t.keys.length := by omega
      obtain rfl := h2 rfl
      clear h1 h2
      go_wp2_with fail
      go_ret
      exact ⟨rfl, Hbel.out⟩
set_option maxRecDepth 100000 in
set_option maxHeartbeats 2000000 in
theorem item_no0 (t : T) (A : Option Addr) (c : Nat) (A' : Option Addr) (c' : Nat) (q : ByteArray) (w : World) (h5 : t.kind ≠ 5) :
    Calls Try.prog 26 #[t.agg A c A' c', .string q] w fun e w' => e = .returned (.tuple #[T.zero.agg none 0 none 0, .bool false]) ∧ Below w.heap.size w w' := by
  unfold T.agg
  go_enter Try.func26, Try.ntmps26
  go_wp2_with fail
  exact bodyPost_ret (v := .tuple #[T.zero.agg none 0 none 0, .bool false]) (by simp [results, Try.results26, go_sem, T.zero, T.agg, T.kind, T.tr, T.num, T.str, T.items, T.keys]) rfl ⟨rfl, ((Below.refl _ _).alloc (Nat.le_refl _) _).alloc (by simp) _⟩
set_option maxRecDepth 100000 in
set_option maxHeartbeats 2000000 in
theorem item_no (t : T) (A : Option Addr) (c : Nat) (A' : Option Addr) (c' : Nat) (q : ByteArray) (w : World) (h5 : t.kind = 5) (hl : t.keys.length ≤ 100000) (hr : SReads w (· < w.heap.size) A' t.keys) (hn : ∀ (i : Nat) (x : ByteArray), t.keys[i]? = some x → x ≠ q) :
    Calls Try.prog 26 #[t.agg A c A' c', .string q] w fun e w' => e = .returned (.tuple #[T.zero.agg none 0 none 0, .bool false]) ∧ Below w.heap.size w w' := by
  have hs : ∀ w', Below w.heap.size w w' → Calls Try.prog 37 #[.slice A' t.keys.length c', .string q] w' fun e w'' => (∃ p : Nat, e = .returned (.tuple #[.int .i64 p, .bool false])) ∧ ∃ n, w'' = w'.drewN n := by
    intro w' hb
    by_cases hz : t.keys = []
    · rw [hz]; exact search_nil A' c' q w'
    · obtain ⟨b, o, rfl, hb2, hc⟩ := (hr.on hb) hz
      exact search_no t.keys b o c' q w' hl hn hc
  have HSn := Lib.hid hs
  clear hs hr hn
  unfold T.agg
  go_enter Try.func26, Try.ntmps26
  go_wp2_with fail
  have hW : Below w.heap.size w ((w.alloc (.cells #[.int .i64 5, .bool t.tr, .int .i64 t.num, .string t.str, .slice A t.items.length c, .slice A' t.keys.length c'] 34)).alloc (.cells #[.int .i64 0, .bool false, .int .i64 0, .string ⟨#[]⟩, .slice none 0 0, .slice none 0 0] 34)) := ((Below.refl _ _).alloc (Nat.le_refl _) _).alloc (by simp) _
  have hB0 : Blk ((w.alloc (.cells #[.int .i64 5, .bool t.tr, .int .i64 t.num, .string t.str, .slice A t.items.length c, .slice A' t.keys.length c'] 34)).alloc (.cells #[.int .i64 0, .bool false, .int .i64 0, .string ⟨#[]⟩, .slice none 0 0, .slice none 0 0] 34)) w.heap.size 34 #[.int .i64 5, .bool t.tr, .int .i64 t.num, .string t.str, .slice A t.items.length c, .slice A' t.keys.length c'] := (Blk.new w _ _).alloc _
  have hB1 : Blk ((w.alloc (.cells #[.int .i64 5, .bool t.tr, .int .i64 t.num, .string t.str, .slice A t.items.length c, .slice A' t.keys.length c'] 34)).alloc (.cells #[.int .i64 0, .bool false, .int .i64 0, .string ⟨#[]⟩, .slice none 0 0, .slice none 0 0] 34)) (w.heap.size + 1) 34 #[.int .i64 0, .bool false, .int .i64 0, .string ⟨#[]⟩, .slice none 0 0, .slice none 0 0] := by
    have := Blk.new (w.alloc (.cells #[.int .i64 5, .bool t.tr, .int .i64 t.num, .string t.str, .slice A t.items.length c, .slice A' t.keys.length c'] 34)) 34 #[.int .i64 0, .bool false, .int .i64 0, .string ⟨#[]⟩, .slice none 0 0, .slice none 0 0]
    rwa [show (w.alloc (.cells #[.int .i64 5, .bool t.tr, .int .i64 t.num, .string t.str, .slice A t.items.length c, .slice A' t.keys.length c'] 34)).heap.size = w.heap.size + 1 by simp] at this
  change Calls _ _ _ ((w.alloc (.cells #[.int .i64 5, .bool t.tr, .int .i64 t.num, .string t.str, .slice A t.items.length c, .slice A' t.keys.length c'] 34)).alloc (.cells #[.int .i64 0, .bool false, .int .i64 0, .string ⟨#[]⟩, .slice none 0 0, .slice none 0 0] 34)) _
  generalize ((w.alloc (.cells #[.int .i64 5, .bool t.tr, .int .i64 t.num, .string t.str, .slice A t.items.length c, .slice A' t.keys.length c'] 34)).alloc (.cells #[.int .i64 0, .bool false, .int .i64 0, .string ⟨#[]⟩, .slice none 0 0, .slice none 0 0] 34)) = W at *
  have HW := Lib.hid hW
  have HB0 := Lib.hid hB0
  have HB1 := Lib.hid hB1
  have r0 : W.cell? ⟨w.heap.size + 1, 0, none⟩ = some (.int .i64 0) := hB1.cell 0
  have r1 : W.cell? ⟨w.heap.size + 1, 1, none⟩ = some (.bool false) := hB1.cell 1
  have r2 : W.cell? ⟨w.heap.size + 1, 2, none⟩ = some (.int .i64 0) := hB1.cell 2
  have r3 : W.cell? ⟨w.heap.size + 1, 3, none⟩ = some (.string ⟨#[]⟩) := hB1.cell 3
  have r4 : W.cell? ⟨w.heap.size + 1, 4, none⟩ = some (.slice none 0 0) := hB1.cell 4
  have r5 : W.cell? ⟨w.heap.size + 1, 5, none⟩ = some (.slice none 0 0) := hB1.cell 5
  have x0 := hB1.free 0
  have x1 := hB1.free 1
  have x2 := hB1.free 2
  have x3 := hB1.free 3
  have x4 := hB1.free 4
  have x5 := hB1.free 5
  refine (HSn.out _ hW).mono ?_
  rintro e w1 ⟨⟨p, rfl⟩, n, rfl⟩
  clear hW hB0 hB1
  go_wp2_with fail
  have HWD := Lib.hid (show Below w.heap.size w (W.drewN n) from below_drewN HW.out n)
  have HBD := Lib.hid (show Blk (W.drewN n) (w.heap.size + 1) 34 zeros from HB1.out)
  have hF := res_put (w := (W.drewN n)) (g := w.heap.size + 1) HBD.out rfl T.zero none 0 none 0
  have hL : Below w.heap.size w (((((((W.drewN n).setCell ⟨w.heap.size + 1, 0, none⟩ (.int .i64 0)).setCell ⟨w.heap.size + 1, 1, none⟩ (.bool false)).setCell ⟨w.heap.size + 1, 2, none⟩ (.int .i64 0)).setCell ⟨w.heap.size + 1, 3, none⟩ (.string ⟨#[]⟩)).setCell ⟨w.heap.size + 1, 4, none⟩ (.slice none 0 0)).setCell ⟨w.heap.size + 1, 5, none⟩ (.slice none 0 0)) := (((((HWD.out.setCell (Nat.le_succ _) _).setCell (Nat.le_succ _) _).setCell (Nat.le_succ _) _).setCell (Nat.le_succ _) _).setCell (Nat.le_succ _) _).setCell (Nat.le_succ _) _
  change Blk (((((((W.drewN n).setCell ⟨w.heap.size + 1, 0, none⟩ (.int .i64 0)).setCell ⟨w.heap.size + 1, 1, none⟩ (.bool false)).setCell ⟨w.heap.size + 1, 2, none⟩ (.int .i64 0)).setCell ⟨w.heap.size + 1, 3, none⟩ (.string ⟨#[]⟩)).setCell ⟨w.heap.size + 1, 4, none⟩ (.slice none 0 0)).setCell ⟨w.heap.size + 1, 5, none⟩ (.slice none 0 0)) _ _ _ at hF
  generalize (((((((W.drewN n).setCell ⟨w.heap.size + 1, 0, none⟩ (.int .i64 0)).setCell ⟨w.heap.size + 1, 1, none⟩ (.bool false)).setCell ⟨w.heap.size + 1, 2, none⟩ (.int .i64 0)).setCell ⟨w.heap.size + 1, 3, none⟩ (.string ⟨#[]⟩)).setCell ⟨w.heap.size + 1, 4, none⟩ (.slice none 0 0)).setCell ⟨w.heap.size + 1, 5, none⟩ (.slice none 0 0)) = V at *
  have m0 : V.cell? ⟨w.heap.size + 1, 0, none⟩ = some (.int .i64 0) := hF.cell 0
  have m1 : V.cell? ⟨w.heap.size + 1, 1, none⟩ = some (.bool false) := hF.cell 1
  have m2 : V.cell? ⟨w.heap.size + 1, 2, none⟩ = some (.int .i64 0) := hF.cell 2
  have m3 : V.cell? ⟨w.heap.size + 1, 3, none⟩ = some (.string ⟨#[]⟩) := hF.cell 3
  have m4 : V.cell? ⟨w.heap.size + 1, 4, none⟩ = some (.slice none 0 0) := hF.cell 4
  have m5 : V.cell? ⟨w.heap.size + 1, 5, none⟩ = some (.slice none 0 0) := hF.cell 5
  refine bodyPost_ret (v := .tuple #[T.zero.agg none 0 none 0, .bool false]) (by simp [results, Try.results26, go_sem, T.agg, T.zero, T.kind, T.tr, T.num, T.str, T.items, T.keys, m0, m1, m2, m3, m4, m5]) rfl ?_
  exact ⟨rfl, hL⟩
set_option maxRecDepth 100000 in
set_option maxHeartbeats 2000000 in
theorem item_yes (t : T) (A : Option Addr) (c : Nat) (A' : Option Addr) (c' : Nat) (q : ByteArray) (p : Nat) (x : T) (w : World) (ht : t.size ≤ 100000) (hs : t.Small) (h5 : t.kind = 5) (hl : t.keys.length ≤ 100000) (hri : Rising t.keys) (hv : TV w (· < w.heap.size) t A c A' c') (hk : t.keys[p]? = some q) (hx : t.items[p]? = some x) :
    Calls Try.prog 26 #[t.agg A c A' c', .string q] w fun e w' => (∃ B d B' d', e = .returned (.tuple #[x.agg B d B' d', .bool true]) ∧ TV w' (· < w'.heap.size) x B d B' d') ∧ Below w.heap.size w w' := by
  have hsr : ∀ w', Below w.heap.size w w' → Calls Try.prog 37 #[.slice A' t.keys.length c', .string q] w' fun e w'' => e = .returned (.tuple #[.int .i64 p, .bool true]) ∧ ∃ n, w'' = w'.drewN n := by
    intro w' hb
    obtain ⟨b, o, rfl, hb2, hc⟩ := (hv.keys.on hb) (by intro hz; rw [hz] at hk; simp at hk)
    exact search_any t.keys b o c' p q w' hl hri hk hc
  have HSn := Lib.hid hsr
  obtain ⟨b, o, x', B, d, B', d', rfl, hb, hx', h6, hX⟩ := hv.at_ (lt_of_get hx)
  obtain rfl : x = x' := by rw [hx] at hx'; injection hx'
  have hpl := lt_of_get hx
  have hxs := T.at_size hx
  have HXs := Lib.hid (hs.at_ hx)
  have HX := Lib.hid hX
  have H6 := Lib.hid h6
  have hls := t.len_size
  have i1 : (p : Int) < t.items.length := by omega
  have i2 : (0 : Int) ≤ p := by omega
  have u1 : decide ((t.items.length : Int) ≤ (p : Int)) = false := decide_eq_false (by omega)
  have u2 : decide (t.items.length ≤ p) = false := decide_eq_false (by omega)
  clear hsr hv hri hk hx hs hx' h6 hX
  unfold T.agg
  go_enter Try.func26, Try.ntmps26
  go_wp2_with fail
  have hW : Below w.heap.size w ((w.alloc (.cells #[.int .i64 5, .bool t.tr, .int .i64 t.num, .string t.str, .slice (some ⟨b, o, none⟩) t.items.length c, .slice A' t.keys.length c'] 34)).alloc (.cells #[.int .i64 0, .bool false, .int .i64 0, .string ⟨#[]⟩, .slice none 0 0, .slice none 0 0] 34)) := ((Below.refl _ _).alloc (Nat.le_refl _) _).alloc (by simp) _
  have hB0 : Blk ((w.alloc (.cells #[.int .i64 5, .bool t.tr, .int .i64 t.num, .string t.str, .slice (some ⟨b, o, none⟩) t.items.length c, .slice A' t.keys.length c'] 34)).alloc (.cells #[.int .i64 0, .bool false, .int .i64 0, .string ⟨#[]⟩, .slice none 0 0, .slice none 0 0] 34)) w.heap.size 34 #[.int .i64 5, .bool t.tr, .int .i64 t.num, .string t.str, .slice (some ⟨b, o, none⟩) t.items.length c, .slice A' t.keys.length c'] := (Blk.new w _ _).alloc _
  have hB1 : Blk ((w.alloc (.cells #[.int .i64 5, .bool t.tr, .int .i64 t.num, .string t.str, .slice (some ⟨b, o, none⟩) t.items.length c, .slice A' t.keys.length c'] 34)).alloc (.cells #[.int .i64 0, .bool false, .int .i64 0, .string ⟨#[]⟩, .slice none 0 0, .slice none 0 0] 34)) (w.heap.size + 1) 34 #[.int .i64 0, .bool false, .int .i64 0, .string ⟨#[]⟩, .slice none 0 0, .slice none 0 0] := by
    have := Blk.new (w.alloc (.cells #[.int .i64 5, .bool t.tr, .int .i64 t.num, .string t.str, .slice (some ⟨b, o, none⟩) t.items.length c, .slice A' t.keys.length c'] 34)) 34 #[.int .i64 0, .bool false, .int .i64 0, .string ⟨#[]⟩, .slice none 0 0, .slice none 0 0]
    rwa [show (w.alloc (.cells #[.int .i64 5, .bool t.tr, .int .i64 t.num, .string t.str, .slice (some ⟨b, o, none⟩) t.items.length c, .slice A' t.keys.length c'] 34)).heap.size = w.heap.size + 1 by simp] at this
  change Calls _ _ _ ((w.alloc (.cells #[.int .i64 5, .bool t.tr, .int .i64 t.num, .string t.str, .slice (some ⟨b, o, none⟩) t.items.length c, .slice A' t.keys.length c'] 34)).alloc (.cells #[.int .i64 0, .bool false, .int .i64 0, .string ⟨#[]⟩, .slice none 0 0, .slice none 0 0] 34)) _
  generalize ((w.alloc (.cells #[.int .i64 5, .bool t.tr, .int .i64 t.num, .string t.str, .slice (some ⟨b, o, none⟩) t.items.length c, .slice A' t.keys.length c'] 34)).alloc (.cells #[.int .i64 0, .bool false, .int .i64 0, .string ⟨#[]⟩, .slice none 0 0, .slice none 0 0] 34)) = W at *
  have HW := Lib.hid hW
  have HB0 := Lib.hid hB0
  have HB1 := Lib.hid hB1
  have r0 : W.cell? ⟨w.heap.size + 1, 0, none⟩ = some (.int .i64 0) := hB1.cell 0
  have r1 : W.cell? ⟨w.heap.size + 1, 1, none⟩ = some (.bool false) := hB1.cell 1
  have r2 : W.cell? ⟨w.heap.size + 1, 2, none⟩ = some (.int .i64 0) := hB1.cell 2
  have r3 : W.cell? ⟨w.heap.size + 1, 3, none⟩ = some (.string ⟨#[]⟩) := hB1.cell 3
  have r4 : W.cell? ⟨w.heap.size + 1, 4, none⟩ = some (.slice none 0 0) := hB1.cell 4
  have r5 : W.cell? ⟨w.heap.size + 1, 5, none⟩ = some (.slice none 0 0) := hB1.cell 5
  have x0 := hB1.free 0
  have x1 := hB1.free 1
  have x2 := hB1.free 2
  have x3 := hB1.free 3
  have x4 := hB1.free 4
  have x5 := hB1.free 5
  obtain ⟨p0, p1, p2, p3, p4, p5⟩ := H6.out.keep hb (.of_below HW.out)
  have a4 : W.cell? ⟨w.heap.size, 4, none⟩ = some (.slice (some ⟨b, o, none⟩) t.items.length c) := hB0.cell 4
  refine (HSn.out _ hW).mono ?_
  rintro e w1 ⟨rfl, n, rfl⟩
  have hlw : w.heap.size + 1 < W.heap.size := hB1.lt
  clear hW hB0 hB1 r0 r1 r2 r3 r4 r5 x0 x1 x2 x3 x4 x5
  go_wp2_with fail
  have HWD := Lib.hid (show Below w.heap.size w (W.drewN n) from below_drewN HW.out n)
  have hBD : Blk (W.drewN n) (w.heap.size + 1) 34 zeros := HB1.out
  refine (copy_any x B d B' d' _ (by omega) HXs.out (HX.out.on HWD.out)).mono ?_
  rintro e w5 ⟨B2, d2, B2', d2', rfl, ho, hb5⟩
  have hB5 : Blk w5 (w.heap.size + 1) 34 zeros := hBD.onto hb5
  have HB5 := Lib.hid hB5
  have HO := Lib.hid (show Own w5 W.heap.size w5.heap.size x B2 d2 B2' d2' from ho)
  have H5 := Lib.hid (HWD.out.trans (hb5.mono HWD.out.size))
  have r0 : w5.cell? ⟨w.heap.size + 1, 0, none⟩ = some (.int .i64 0) := hB5.cell 0
  have r1 : w5.cell? ⟨w.heap.size + 1, 1, none⟩ = some (.bool false) := hB5.cell 1
  have r2 : w5.cell? ⟨w.heap.size + 1, 2, none⟩ = some (.int .i64 0) := hB5.cell 2
  have r3 : w5.cell? ⟨w.heap.size + 1, 3, none⟩ = some (.string ⟨#[]⟩) := hB5.cell 3
  have r4 : w5.cell? ⟨w.heap.size + 1, 4, none⟩ = some (.slice none 0 0) := hB5.cell 4
  have r5 : w5.cell? ⟨w.heap.size + 1, 5, none⟩ = some (.slice none 0 0) := hB5.cell 5
  have x0 := hB5.free 0
  have x1 := hB5.free 1
  have x2 := hB5.free 2
  have x3 := hB5.free 3
  have x4 := hB5.free 4
  have x5 := hB5.free 5
  clear hb5 hBD hB5 ho
  rw [show x.agg B2 d2 B2' d2' = .agg #[.int .i64 x.kind, .bool x.tr, .int .i64 x.num, .string x.str, .slice B2 x.items.length d2, .slice B2' x.keys.length d2'] from rfl]
  go_wp2_with fail
  have hF := res_put (w := w5) (g := w.heap.size + 1) HB5.out rfl x B2 d2 B2' d2'
  have hL : Below w.heap.size w ((((((w5.setCell ⟨w.heap.size + 1, 0, none⟩ (.int .i64 x.kind)).setCell ⟨w.heap.size + 1, 1, none⟩ (.bool x.tr)).setCell ⟨w.heap.size + 1, 2, none⟩ (.int .i64 x.num)).setCell ⟨w.heap.size + 1, 3, none⟩ (.string x.str)).setCell ⟨w.heap.size + 1, 4, none⟩ (.slice B2 x.items.length d2)).setCell ⟨w.heap.size + 1, 5, none⟩ (.slice B2' x.keys.length d2')) := (((((H5.out.setCell (Nat.le_succ _) _).setCell (Nat.le_succ _) _).setCell (Nat.le_succ _) _).setCell (Nat.le_succ _) _).setCell (Nat.le_succ _) _).setCell (Nat.le_succ _) _
  have hK : Keeps (fun b => b ≠ w.heap.size + 1) w5 ((((((w5.setCell ⟨w.heap.size + 1, 0, none⟩ (.int .i64 x.kind)).setCell ⟨w.heap.size + 1, 1, none⟩ (.bool x.tr)).setCell ⟨w.heap.size + 1, 2, none⟩ (.int .i64 x.num)).setCell ⟨w.heap.size + 1, 3, none⟩ (.string x.str)).setCell ⟨w.heap.size + 1, 4, none⟩ (.slice B2 x.items.length d2)).setCell ⟨w.heap.size + 1, 5, none⟩ (.slice B2' x.keys.length d2')) := by
    intro b hb
    rw [Below.heap_setCell _ _ _ _ hb, Below.heap_setCell _ _ _ _ hb, Below.heap_setCell _ _ _ _ hb, Below.heap_setCell _ _ _ _ hb, Below.heap_setCell _ _ _ _ hb, Below.heap_setCell _ _ _ _ hb]
  have hZ : (((((((w5.setCell ⟨w.heap.size + 1, 0, none⟩ (.int .i64 x.kind)).setCell ⟨w.heap.size + 1, 1, none⟩ (.bool x.tr)).setCell ⟨w.heap.size + 1, 2, none⟩ (.int .i64 x.num)).setCell ⟨w.heap.size + 1, 3, none⟩ (.string x.str)).setCell ⟨w.heap.size + 1, 4, none⟩ (.slice B2 x.items.length d2)).setCell ⟨w.heap.size + 1, 5, none⟩ (.slice B2' x.keys.length d2'))).heap.size = w5.heap.size := by simp [World.setCell]
  change Blk ((((((w5.setCell ⟨w.heap.size + 1, 0, none⟩ (.int .i64 x.kind)).setCell ⟨w.heap.size + 1, 1, none⟩ (.bool x.tr)).setCell ⟨w.heap.size + 1, 2, none⟩ (.int .i64 x.num)).setCell ⟨w.heap.size + 1, 3, none⟩ (.string x.str)).setCell ⟨w.heap.size + 1, 4, none⟩ (.slice B2 x.items.length d2)).setCell ⟨w.heap.size + 1, 5, none⟩ (.slice B2' x.keys.length d2')) _ _ _ at hF
  generalize ((((((w5.setCell ⟨w.heap.size + 1, 0, none⟩ (.int .i64 x.kind)).setCell ⟨w.heap.size + 1, 1, none⟩ (.bool x.tr)).setCell ⟨w.heap.size + 1, 2, none⟩ (.int .i64 x.num)).setCell ⟨w.heap.size + 1, 3, none⟩ (.string x.str)).setCell ⟨w.heap.size + 1, 4, none⟩ (.slice B2 x.items.length d2)).setCell ⟨w.heap.size + 1, 5, none⟩ (.slice B2' x.keys.length d2')) = V at *
  have m0 : V.cell? ⟨w.heap.size + 1, 0, none⟩ = some (.int .i64 x.kind) := hF.cell 0
  have m1 : V.cell? ⟨w.heap.size + 1, 1, none⟩ = some (.bool x.tr) := hF.cell 1
  have m2 : V.cell? ⟨w.heap.size + 1, 2, none⟩ = some (.int .i64 x.num) := hF.cell 2
  have m3 : V.cell? ⟨w.heap.size + 1, 3, none⟩ = some (.string x.str) := hF.cell 3
  have m4 : V.cell? ⟨w.heap.size + 1, 4, none⟩ = some (.slice B2 x.items.length d2) := hF.cell 4
  have m5 : V.cell? ⟨w.heap.size + 1, 5, none⟩ = some (.slice B2' x.keys.length d2') := hF.cell 5
  refine bodyPost_ret (v := .tuple #[x.agg B2 d2 B2' d2', .bool true]) (by simp [results, Try.results26, go_sem, T.agg, m0, m1, m2, m3, m4, m5]) rfl ⟨⟨B2, d2, B2', d2', rfl, ?_⟩, hL⟩
  exact (HO.out.tv.keep (hK.mono fun b hb => by have := hb.1; show b ≠ w.heap.size + 1; omega)).wide fun b hb => by have := hb.2; show b < V.heap.size; omega
end Go.Proofs.Ytffagnejedgjbaa
