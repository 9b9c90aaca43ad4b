/- The text of an integer: contract of the program's Text. -/
import Derived.Test.YtofgmddlacenhaaGreatDoorEP
import Derived.Lib.LaidTab
import Derived.Deep.DeepCutAuto
import Derived.Outline
set_option linter.unusedVariables false
set_option maxRecDepth 100000
set_option maxHeartbeats 8000000
open Go.Lib (hid)
namespace Go.Proofs.YtofgmddlacenhaaGreatDoor
open Go.RowKit
theorem gPow8 : Tryz.prog.globalNamed "internal/strconv.uint64pow10" = some 3 := by kernel_rfl
def Tab8 (B : Nat) (w : World) : Prop := 3 < B ∧ Lib.TabIs Tryz.prog w "internal/strconv.uint64pow10" .u64 Lib.pow10Tab
theorem Tab8.on {B : Nat} {w w' : World} (h : Tab8 B w) (hb : Below B w w') : Tab8 B w' := by
 obtain ⟨h1, h2⟩ := h
 refine ⟨h1, ?_⟩
 unfold Lib.TabIs World.var? at h2 ⊢
 rw [gPow8] at h2 ⊢
 simp only [Option.bind_some] at h2 ⊢
 rw [hb.block _ h1]
 exact h2
theorem tab_of8 {w : World} (h : Lib.TabIs Tryz.prog w "internal/strconv.uint64pow10" .u64 Lib.pow10Tab) : Tab8 w.heap.size w := by
 refine ⟨?_, h⟩
 unfold Lib.TabIs World.var? at h
 rw [gPow8] at h
 simp only [Option.bind_some] at h
 rcases Nat.lt_or_ge 3 w.heap.size with hl | hl
 · exact hl
 · rw [Array.getElem?_eq_none hl] at h; cases h
theorem Tab8.raise {B B' : Nat} {w : World} (h : Tab8 B w) (hB : B ≤ B') : Tab8 B' w := ⟨Nat.lt_of_lt_of_le h.1 hB, h.2⟩
theorem wtext_any8 (n : Int) (w : World) (h0 : -9223372036854775808 ≤ n) (h1 : n ≤ 9223372036854775807) (ht : Lib.TabIs Tryz.prog w "internal/strconv.uint64pow10" .u64 Lib.pow10Tab) :
 Calls Tryz.prog 131 #[.int .i64 n] w fun e w' => e = .returned (.string ⟨(Lib.itoa n).toArray⟩) ∧ Below w.heap.size w w' := by
 have Ht := hid ht
 clear ht
 go_enter Tryz.func131, Tryz.ntmps131
 go_wp2_with fail
 refine (Tryz.strconv_FormatInt_10 n h0 h1 w Ht.out).mono ?_
 rintro e w2 ⟨rfl, k, os, hw⟩
 have Hb := hid (show Below w.heap.size w w2 by rw [hw]; exact ⟨rfl, rfl, rfl, by show w.heap.size ≤ (w.heap ++ os).size; rw [Array.size_append]; omega, fun j hj => by show (w.heap ++ os)[j]? = w.heap[j]?; exact Array.getElem?_append_left hj⟩)
 clear hw
 go_wp2_with fail
 go_ret
 exact ⟨rfl, Hb.out⟩
theorem wvalue_int (B b : Nat) (l : List UInt8) (c2 c3 c4 c5 : Value) (t : T) (A : Option Addr) (c : Nat) (A' : Option Addr) (c' : Nat) (w : World) (hk : t.kind = 2) (hn0 : -9223372036854775808 ≤ t.num) (hn1 : t.num ≤ 9223372036854775807) (hlen : l.length ≤ 600000) (htab : Tab8 B w) (hw : Wr B b l c2 c3 c4 c5 w) (hBw : B ≤ w.heap.size) :
 Calls Tryz.prog 101 #[.pointer (some ⟨b, 0, none⟩), .agg #[.int .i64 t.kind, .bool t.tr, .int .i64 t.num, .string t.str, .slice A t.items.length c, .slice A' t.keys.length c']] w fun e w' => e = .returned (.tuple #[]) ∧ Wr B b (l ++ Lib.itoa t.num) c2 c3 c4 c5 w' ∧ KeptW B b w w' := by
 have hbl := hw.lt
 have hbb : Below w.heap.size w (w.alloc (.cells #[.int .i64 t.kind, .bool t.tr, .int .i64 t.num, .string t.str, .slice A t.items.length c, .slice A' t.keys.length c'] 35)) := (Below.refl _ _).alloc (Nat.le_refl _) _
 have hB0 : Blk (w.alloc (.cells #[.int .i64 t.kind, .bool t.tr, .int .i64 t.num, .string t.str, .slice A t.items.length c, .slice A' t.keys.length c'] 35)) w.heap.size 35 #[.int .i64 t.kind, .bool t.tr, .int .i64 t.num, .string t.str, .slice A t.items.length c, .slice A' t.keys.length c'] := Blk.new w _ _
 have HW := hid (hw.on hbb)
 have HK := hid (KeptW.of (b := b) hbb hBw)
 have HT := hid (htab.on (hbb.mono hBw))
 have hs1 := Nat.le_trans hBw hbb.size
 clear htab hw
 have k1 : (t.kind == 1) = false := by rw [beq_eq_false_iff_ne]; omega
 have k2 : (t.kind == 2) = true := by rw [beq_iff_eq]; exact hk
 clear hk
 go_enter Tryz.func101, Tryz.ntmps101
 go_upto_region 1 with fail
 change Code.wp _ _ _ _ (w.alloc (.cells #[.int .i64 t.kind, .bool t.tr, .int .i64 t.num, .string t.str, .slice A t.items.length c, .slice A' t.keys.length c'] 35))
 generalize (w.alloc (.cells #[.int .i64 t.kind, .bool t.tr, .int .i64 t.num, .string t.str, .slice A t.items.length c, .slice A' t.keys.length c'] 35)) = W at *
 have HB0 := hid hB0
 generalize w.heap.size = g at *
 obtain ⟨a0, a1, a2, a3, a4, a5⟩ : W.cell? ⟨g, 0, none⟩ = some (.int .i64 t.kind) ∧ W.cell? ⟨g, 1, none⟩ = some (.bool t.tr) ∧ W.cell? ⟨g, 2, none⟩ = some (.int .i64 t.num) ∧ W.cell? ⟨g, 3, none⟩ = some (.string t.str) ∧ W.cell? ⟨g, 4, none⟩ = some (.slice A t.items.length c) ∧ W.cell? ⟨g, 5, none⟩ = some (.slice A' t.keys.length c') := ⟨HB0.out.cell 0, HB0.out.cell 1, HB0.out.cell 2, HB0.out.cell 3, HB0.out.cell 4, HB0.out.cell 5⟩
 clear hB0 hbb
 go_wp2_with fail
 refine wp_region_held_drew (S := fun w' => w'.cell? ⟨g, 2, none⟩ = some (.int .i64 t.num)) (by kernel_rfl) ?_ (fun hHeld => ?_)
 · exact a2
 refine wpAnyH_take (i := 0) (v := ?_) rfl (by kernel_rfl) (by kernel_rfl) (by kernel_rfl) (fun _ _ _ h => h) (Or.inl ⟨by rfl, ?_⟩) (by assumption) ?_
 rotate_left
 ·
  intro wq hSw
  try dsimp only at hSw
  go_simp
  try (with_reducible rfl)
 try simp only [Act.put, List.getElem_toArray, List.getElem_cons_zero, List.setIfInBounds_toArray, List.set_cons_zero, List.set_cons_succ]
 refine wpAnyH_take (i := 1) (v := ?_) rfl (by kernel_rfl) (by kernel_rfl) (by kernel_rfl) (fun _ _ _ h => h) (Or.inl ⟨by rfl, ?_⟩) (by assumption) ?_
 rotate_left
 ·
  intro wq hSw
  try dsimp only at hSw
  go_simp
  try (with_reducible rfl)
 try simp only [Act.put, sqa, sqb, sqc, sqd, sqe, sqf]
 refine wpAnyH_take (i := 2) (v := ?_) rfl (by kernel_rfl) (by kernel_rfl) (by kernel_rfl) (fun _ _ _ h => h) (Or.inl ⟨by rfl, ?_⟩) (by assumption) ?_
 rotate_left
 ·
  intro wq hSw
  try dsimp only at hSw
  go_simp
  try (with_reducible rfl)
 try simp only [Act.put, sqa, sqb, sqc, sqd, sqe, sqf]
 refine wpAnyH_take (i := 3) (v := ?_) rfl (by kernel_rfl) (by kernel_rfl) (by kernel_rfl) (fun _ _ _ h => h) (Or.inl ⟨by rfl, ?_⟩) (by assumption) ?_
 rotate_left
 ·
  intro wq hSw
  try dsimp only at hSw
  go_simp
  try (with_reducible rfl)
 try simp only [Act.put, sqa, sqb, sqc, sqd, sqe, sqf]
 refine wpAnyH_take (i := 4) (v := ?_) rfl (by kernel_rfl) (by kernel_rfl) (by kernel_rfl) (fun _ _ _ h => h) (Or.inl ⟨by rfl, ?_⟩) (by assumption) ?_
 rotate_left
 ·
  intro wq hSw
  try dsimp only at hSw
  go_simp
  try (with_reducible rfl)
 try simp only [Act.put, sqa, sqb, sqc, sqd, sqe, sqf]
 refine wpAnyH_ready (rs := [5]) (by kernel_rfl) (by simp) ?_
 refine AllReadyH.cons rfl (fun K0 hK => ?_) ?_
 rotate_left
 · exact AllReadyH.nil
 go_simp
 refine (wtext_any8 t.num _ hn0 hn1 (HT.out.on (Below.refl B W).drew).2).mono ?_
 rintro e w2 ⟨rfl, hb2⟩
 have hb3 : Below W.heap.size W w2 := (Below.refl W.heap.size W).drew.trans hb2
 have HW2 := hid (HW.out.on hb3)
 have HK2 := hid (HK.out.trans (KeptW.of (b := b) hb3 hs1))
 have hs2 := Nat.le_trans hs1 hb3.size
 have q2 : w2.cell? ⟨g, 2, none⟩ = some (.int .i64 t.num) := (HB0.out.onto hb3).cell 2
 have hnl := De.itoa_len (n := t.num) ⟨hn0, hn1⟩
 have HB2 := hid (HB0.out.onto hb3)
 have hgb : g ≠ b := by omega
 clear hb2 hb3
 go_wp2_with fail
 refine hK.out _ _ ?_ (fun hHeld => ?_)
 · exact q2
 clear hK K0
 try simp only [Act.put, sqa, sqb, sqc, sqd, sqe, sqf]
 refine wpAnyH_ready (rs := [6]) (by kernel_rfl) (by simp) ?_
 refine AllReadyH.cons rfl (fun K0 hK => ?_) ?_
 rotate_left
 · exact AllReadyH.nil
 go_simp
 refine (wstr_any B b l _ _ _ _ ⟨(Lib.itoa t.num).toArray⟩ _ HW2.out (by show l.length + (Lib.itoa t.num).toArray.size ≤ 900000; simp; omega) hs2).mono ?_
 rintro e w9 ⟨rfl, h9, k9⟩
 have H9 := hid (show Wr B b (l ++ Lib.itoa t.num) _ _ _ _ w9 from h9)
 have K9 := hid (HK2.out.trans k9)
 have q9 : w9.cell? ⟨g, 2, none⟩ = some (.int .i64 t.num) := (k9.blk (show Blk w2 g 35 #[.int .i64 t.kind, .bool t.tr, .int .i64 t.num, .string t.str, .slice A t.items.length c, .slice A' t.keys.length c'] from HB2.out) hgb (by decide)).cell 2
 clear h9 k9
 go_wp2_with fail
 refine hK.out _ _ ?_ (fun hHeld => ?_)
 · exact q9
 clear hK K0
 try simp only [Act.put, sqa, sqb, sqc, sqd, sqe, sqf]
 refine wpAnyH_done (by kernel_rfl) ?_ _
 go_wp2_with fail
 go_end0
 exact ⟨rfl, H9.out, K9.out⟩
theorem wr_new2 (c0 : Array Value) (c2 c3 c4 c5 : Value) (w : World) : Wr w.heap.size (w.heap.size + 1) [] c2 c3 c4 c5 ((w.alloc (.cells c0 35)).alloc (.cells #[.pointer none, .slice none 0 0, c2, c3, c4, c5] 163)) := by
 refine ⟨Nat.le_succ _, .pointer none, .slice none 0 0, .inl rfl, ?_, rfl, .inl ⟨rfl, rfl⟩⟩
 have := Blk.new (w.alloc (.cells c0 35)) 163 #[.pointer none, .slice none 0 0, c2, c3, c4, c5]
 simpa using this
theorem itoa_ne8 (n : Int) : Lib.itoa n ≠ [] := by
 intro e
 have h := (De.itoa_form n).1
 rw [e] at h
 revert h
 decide
theorem rntext_int (t : T) (A : Option Addr) (c : Nat) (A' : Option Addr) (c' : Nat) (w : World) (hk : t.kind = 2) (hn0 : -9223372036854775808 ≤ t.num) (hn1 : t.num ≤ 9223372036854775807) (ht : Lib.TabIs Tryz.prog w "internal/strconv.uint64pow10" .u64 Lib.pow10Tab) :
 Calls Tryz.prog 59 #[.agg #[.int .i64 t.kind, .bool t.tr, .int .i64 t.num, .string t.str, .slice A t.items.length c, .slice A' t.keys.length c']] w fun e w' => e = .returned (.string ⟨(Lib.itoa t.num).toArray⟩) ∧ Below w.heap.size w w' := by
 have HT := hid (tab_of8 ht)
 have HK := hid hk
 clear ht hk
 go_enter Tryz.func59, Tryz.ntmps59
 go_upto_region 2 with fail
 have hW := wr_new2 #[.int .i64 t.kind, .bool t.tr, .int .i64 t.num, .string t.str, .slice A t.items.length c, .slice A' t.keys.length c'] (.string ⟨#[58]⟩) (.func (.func 100) #[] #[]) (.int .i64 0) (.int .i64 0) w
 have hB0 : Blk ((w.alloc (.cells #[.int .i64 t.kind, .bool t.tr, .int .i64 t.num, .string t.str, .slice A t.items.length c, .slice A' t.keys.length c'] 35)).alloc (.cells #[.pointer none, .slice none 0 0, .string ⟨#[58]⟩, .func (.func 100) #[] #[], .int .i64 0, .int .i64 0] 163)) w.heap.size 35 #[.int .i64 t.kind, .bool t.tr, .int .i64 t.num, .string t.str, .slice A t.items.length c, .slice A' t.keys.length c'] := (Blk.new w _ _).alloc _
 have hb : Below w.heap.size w ((w.alloc (.cells #[.int .i64 t.kind, .bool t.tr, .int .i64 t.num, .string t.str, .slice A t.items.length c, .slice A' t.keys.length c'] 35)).alloc (.cells #[.pointer none, .slice none 0 0, .string ⟨#[58]⟩, .func (.func 100) #[] #[], .int .i64 0, .int .i64 0] 163)) := ((Below.refl _ _).alloc (Nat.le_refl _) _).alloc (by simp) _
 change Code.wp _ _ _ _ ((w.alloc (.cells #[.int .i64 t.kind, .bool t.tr, .int .i64 t.num, .string t.str, .slice A t.items.length c, .slice A' t.keys.length c'] 35)).alloc (.cells #[.pointer none, .slice none 0 0, .string ⟨#[58]⟩, .func (.func 100) #[] #[], .int .i64 0, .int .i64 0] 163))
 generalize ((w.alloc (.cells #[.int .i64 t.kind, .bool t.tr, .int .i64 t.num, .string t.str, .slice A t.items.length c, .slice A' t.keys.length c'] 35)).alloc (.cells #[.pointer none, .slice none 0 0, .string ⟨#[58]⟩, .func (.func 100) #[] #[], .int .i64 0, .int .i64 0] 163)) = W at *
 obtain ⟨a0, a1, a2, a3, a4, a5⟩ : W.cell? ⟨w.heap.size, 0, none⟩ = some (.int .i64 t.kind) ∧ W.cell? ⟨w.heap.size, 1, none⟩ = some (.bool t.tr) ∧ W.cell? ⟨w.heap.size, 2, none⟩ = some (.int .i64 t.num) ∧ W.cell? ⟨w.heap.size, 3, none⟩ = some (.string t.str) ∧ W.cell? ⟨w.heap.size, 4, none⟩ = some (.slice A t.items.length c) ∧ W.cell? ⟨w.heap.size, 5, none⟩ = some (.slice A' t.keys.length c') := ⟨hB0.cell 0, hB0.cell 1, hB0.cell 2, hB0.cell 3, hB0.cell 4, hB0.cell 5⟩
 have HW := hid hW
 have HB := hid hb
 clear hW hb hB0
 go_wp2_with fail
 refine (wvalue_int w.heap.size (w.heap.size + 1) [] _ _ _ _ t A c A' c' _ HK.out hn0 hn1 (by simp) (HT.out.on HB.out) HW.out HB.out.size).mono ?_
 rintro e w2 ⟨rfl, h2, k2⟩
 have H2 := hid h2
 have K2 := hid k2
 clear h2 k2
 go_wp2_with fail
 refine (string_any w.heap.size (w.heap.size + 1) (Lib.itoa t.num) _ _ _ _ _ H2.out (itoa_ne8 _)).mono ?_
 rintro e w3 ⟨rfl, hb3⟩
 have H3 := hid (HB.out.trans (K2.out.1.trans hb3))
 clear hb3
 go_wp2_with fail
 go_ret
 exact ⟨rfl, H3.out⟩
end Go.Proofs.YtofgmddlacenhaaGreatDoor
