/- The reference's reader: a value where no array and no object begins, and errors: contracts. -/
import Derived.Test.YtgblenoaeanogaaGreatDoorND
import Derived.Test.YtgblenoaeanogaaGreatDoorML
import Derived.Outline
set_option linter.unusedVariables false
set_option maxRecDepth 100000
set_option maxHeartbeats 8000000
open Go.Lib (hid)
namespace Go.Proofs.YtgblenoaeanogaaGreatDoor
open Go.RowKit
open Tk
def AGives (res : Rd.Res) (w : World) (e : Ending) (w' : World) : Prop := match res with
 | .out => False
 | .err p c => e = .returned (.agg #[.int .i64 0, .bool false, .int .i64 0, .string ⟨#[]⟩, .slice none 0 0, .slice none 0 0, .int .i64 p, .int .i64 c]) ∧ Below w.heap.size w w'
 | .val v fin => ∃ A c A' c', e = .returned (.agg #[.int .i64 v.kind, .bool v.tr, .int .i64 v.num, .string v.str, .slice A v.items.length c, .slice A' v.keys.length c', .int .i64 fin, .int .i64 0]) ∧ TV w' (fun q => w.heap.size ≤ q ∧ q < w'.heap.size) v A c A' c' ∧ Below w.heap.size w w'
def Rd.valF (s : ByteArray) (n room a : Nat) : Rd.Res := match next s a with
 | .err p c => .err p c
 | .tok t => Rd.fromF Rd.Ob s n room t
theorem below_put8 {lo g : Nat} {w W : World} (h : Below lo w W) (hg : lo ≤ g) (v0 v1 v2 v3 v4 v5 v6 v7 : Value) : Below lo w ((((((((W.setCell ⟨g, 0, none⟩ v0).setCell ⟨g, 1, none⟩ v1).setCell ⟨g, 2, none⟩ v2).setCell ⟨g, 3, none⟩ v3).setCell ⟨g, 4, none⟩ v4).setCell ⟨g, 5, none⟩ v5).setCell ⟨g, 6, none⟩ v6).setCell ⟨g, 7, none⟩ v7) :=
 (((((((h.setCell hg _).setCell hg _).setCell hg _).setCell hg _).setCell hg _).setCell hg _).setCell hg _).setCell hg _
theorem Rd.sign_no {t : Tok} {c : Nat} (x : ByteArray) (hx : Tk.one c = x) (hx2 : x ≠ Tk.nix) (h : ¬ Rd.isM t c) : ((Rd.signT t).toList == x.toList) = false := by
 rw [tl_eq6, decide_eq_false]
 intro e
 exact h ((Rd.sign_is (by rw [hx]; exact hx2)).1 (by rw [hx]; exact e))
theorem Rd.sign_yes {t : Tok} {c : Nat} (x : ByteArray) (hx : Tk.one c = x) (h : Rd.isM t c) : Rd.signT t = x := by
 unfold Rd.signT
 rw [if_pos h.1, h.2, hx]
theorem box8 {W : World} {g : Nat} (h : Blk W g 80 #[.int .i64 0, .bool false, .int .i64 0, .string ⟨#[]⟩, .slice none 0 0, .slice none 0 0, .int .i64 0, .int .i64 0]) : (W.cell? ⟨g, 0, none⟩ = some (.int .i64 0) ∧ W.cell? ⟨g, 1, none⟩ = some (.bool false) ∧ W.cell? ⟨g, 2, none⟩ = some (.int .i64 0) ∧ W.cell? ⟨g, 3, none⟩ = some (.string ⟨#[]⟩) ∧ W.cell? ⟨g, 4, none⟩ = some (.slice none 0 0) ∧ W.cell? ⟨g, 5, none⟩ = some (.slice none 0 0) ∧ W.cell? ⟨g, 6, none⟩ = some (.int .i64 0) ∧ W.cell? ⟨g, 7, none⟩ = some (.int .i64 0)) ∧
 W.frozen? ⟨g, 0, none⟩ = false ∧ W.frozen? ⟨g, 1, none⟩ = false ∧ W.frozen? ⟨g, 2, none⟩ = false ∧ W.frozen? ⟨g, 3, none⟩ = false ∧ W.frozen? ⟨g, 4, none⟩ = false ∧ W.frozen? ⟨g, 5, none⟩ = false ∧ W.frozen? ⟨g, 6, none⟩ = false ∧ W.frozen? ⟨g, 7, none⟩ = false :=
 ⟨⟨h.cell 0, h.cell 1, h.cell 2, h.cell 3, h.cell 4, h.cell 5, h.cell 6, h.cell 7⟩, h.free 0, h.free 1, h.free 2, h.free 3, h.free 4, h.free 5, h.free 6, h.free 7⟩
theorem box_put8 {w2 : World} {G base : Nat} {V : T} {A : Option Addr} {c : Nat} {A' : Option Addr} {c' : Nat} (hT : TV w2 (fun k => base ≤ k ∧ k < w2.heap.size ∧ k ≠ G) V A c A' c') (v0 v1 v2 v3 v4 v5 v6 v7 : Value) : TV ((((((((w2.setCell ⟨G, 0, none⟩ v0).setCell ⟨G, 1, none⟩ v1).setCell ⟨G, 2, none⟩ v2).setCell ⟨G, 3, none⟩ v3).setCell ⟨G, 4, none⟩ v4).setCell ⟨G, 5, none⟩ v5).setCell ⟨G, 6, none⟩ v6).setCell ⟨G, 7, none⟩ v7) (fun k => base ≤ k ∧ k < (((((((((w2.setCell ⟨G, 0, none⟩ v0).setCell ⟨G, 1, none⟩ v1).setCell ⟨G, 2, none⟩ v2).setCell ⟨G, 3, none⟩ v3).setCell ⟨G, 4, none⟩ v4).setCell ⟨G, 5, none⟩ v5).setCell ⟨G, 6, none⟩ v6).setCell ⟨G, 7, none⟩ v7)).heap.size) V A c A' c' :=
 (hT.keep fun k hk => by rw [Below.heap_setCell _ _ _ _ hk.2.2, Below.heap_setCell _ _ _ _ hk.2.2, putv_heap hk.2.2]).wide fun k hk => ⟨hk.1, by rw [setCell_size, setCell_size, putv_size]; exact hk.2.1⟩
theorem val_err (s : ByteArray) (hs : s.size ≤ 520) (a inn dep : Nat) (w : World) (ha : a ≤ s.size) {p : Nat} {c : Int} (ht : next s a = .err p c) :
 Calls Tryz.prog 33 #[.string s, .int .i64 a, .int .i64 inn, .int .i64 dep] w (AGives (.err p c) w) := by
 have hc := next_code ht
 have uc : (c != 0) = true := by rw [bne_iff_ne]; exact hc
 clear hc
 have hW0 : Below w.heap.size w (w.alloc (.cells #[.int .i64 0, .bool false, .int .i64 0, .string ⟨#[]⟩, .slice none 0 0, .slice none 0 0, .int .i64 0, .int .i64 0] 80)) := (Below.refl _ _).alloc (Nat.le_refl _) _
 have HG0 := hid (Blk.new w 80 #[.int .i64 0, .bool false, .int .i64 0, .string ⟨#[]⟩, .slice none 0 0, .slice none 0 0, .int .i64 0, .int .i64 0])
 have HW0 := hid hW0
 have HNX := hid (rnext_far s a (w.alloc (.cells #[.int .i64 0, .bool false, .int .i64 0, .string ⟨#[]⟩, .slice none 0 0, .slice none 0 0, .int .i64 0, .int .i64 0] 80)) (by omega) (by omega) ha)
 rw [ht] at HNX
 clear hW0
 go_enter Tryz.func33, Tryz.ntmps33
 go_upto_region 1 with fail
 change Code.wp _ _ _ _ (w.alloc (.cells #[.int .i64 0, .bool false, .int .i64 0, .string ⟨#[]⟩, .slice none 0 0, .slice none 0 0, .int .i64 0, .int .i64 0] 80))
 generalize (w.alloc (.cells #[.int .i64 0, .bool false, .int .i64 0, .string ⟨#[]⟩, .slice none 0 0, .slice none 0 0, .int .i64 0, .int .i64 0] 80)) = W0 at *
 have hlt0 := HG0.out.lt
 go_wp2_with fail
 refine HNX.out.mono ?_
 rintro e w1 ⟨rfl, hb1⟩
 clear HNX
 unfold Tk.Ans.val
 have hb1a := hb1.alloc hb1.size (.cells #[.int .i64 0, .string ⟨#[]⟩, .int .i64 0, .int .i64 0, .int .i64 0] 83)
 have HG1 := hid (HG0.out.onto hb1a)
 have HW1 := hid (HW0.out.trans (hb1a.mono HW0.out.size))
 clear hb1 hb1a HG0 HW0
 go_upto_region 2 with fail
 change Code.wp _ _ _ _ (w1.alloc (.cells #[.int .i64 0, .string ⟨#[]⟩, .int .i64 0, .int .i64 0, .int .i64 0] 83))
 generalize (w1.alloc (.cells #[.int .i64 0, .string ⟨#[]⟩, .int .i64 0, .int .i64 0, .int .i64 0] 83)) = W1 at *
 go_wp2_with fail
 refine (wrong_any6 p c W1).mono ?_
 rintro e w2 ⟨rfl, hb2⟩
 have HG2 := hid (HG1.out.onto hb2)
 have HW2 := hid (HW1.out.trans (hb2.mono HW1.out.size))
 obtain ⟨⟨q0, q1, q2, q3, q4, q5, q6, q7⟩, x0, x1, x2, x3, x4, x5, x6, x7⟩ := box8 HG2.out
 clear hb2
 go_wp2_with fail
 try simp only [Exit.inBlock, Exit.then]
 refine bodyPost_ret (v := .agg #[.int .i64 0, .bool false, .int .i64 0, .string ⟨#[]⟩, .slice none 0 0, .slice none 0 0, .int .i64 (p : Int), .int .i64 c]) (by simp [results, Tryz.results33, go_sem, q0, q1, q2, q3, q4, q5, q6, q7]) rfl ?_
 exact ⟨rfl, below_put8 HW2.out (Nat.le_refl _) _ _ _ _ _ _ _ _⟩
theorem val_str (s : ByteArray) (hs : s.size ≤ 520) (a inn dep : Nat) (w : World) (ha : a ≤ s.size) {t : Tok} (ht : next s a = .tok t) (hk : t.kind = 2) :
 Calls Tryz.prog 33 #[.string s, .int .i64 a, .int .i64 inn, .int .i64 dep] w (AGives (.val (Rd.strT t.text) t.fin) w) := by
 have u2 : (t.kind == 2) = true := by rw [hk]; rfl
 have u3 : (t.kind == 3) = false := by rw [hk]; rfl
 have u4 : (t.kind == 4) = false := by rw [hk]; rfl
 have u5 : (t.kind == 5) = false := by rw [hk]; rfl
 have u6 : (t.kind == 6) = false := by rw [hk]; rfl
 clear hk
 have hW0 : Below w.heap.size w (w.alloc (.cells #[.int .i64 0, .bool false, .int .i64 0, .string ⟨#[]⟩, .slice none 0 0, .slice none 0 0, .int .i64 0, .int .i64 0] 80)) := (Below.refl _ _).alloc (Nat.le_refl _) _
 have HG0 := hid (Blk.new w 80 #[.int .i64 0, .bool false, .int .i64 0, .string ⟨#[]⟩, .slice none 0 0, .slice none 0 0, .int .i64 0, .int .i64 0])
 have HW0 := hid hW0
 have HNX := hid (rnext_far s a (w.alloc (.cells #[.int .i64 0, .bool false, .int .i64 0, .string ⟨#[]⟩, .slice none 0 0, .slice none 0 0, .int .i64 0, .int .i64 0] 80)) (by omega) (by omega) ha)
 rw [ht] at HNX
 clear hW0
 go_enter Tryz.func33, Tryz.ntmps33
 go_upto_region 1 with fail
 change Code.wp _ _ _ _ (w.alloc (.cells #[.int .i64 0, .bool false, .int .i64 0, .string ⟨#[]⟩, .slice none 0 0, .slice none 0 0, .int .i64 0, .int .i64 0] 80))
 generalize (w.alloc (.cells #[.int .i64 0, .bool false, .int .i64 0, .string ⟨#[]⟩, .slice none 0 0, .slice none 0 0, .int .i64 0, .int .i64 0] 80)) = W0 at *
 have hlt0 := HG0.out.lt
 go_wp2_with fail
 refine HNX.out.mono ?_
 rintro e w1 ⟨rfl, hb1⟩
 clear HNX
 unfold Tk.Ans.val
 have hb1a := hb1.alloc hb1.size (.cells #[.int .i64 t.kind, .string t.text, .int .i64 t.num, .int .i64 t.at_, .int .i64 t.fin] 83)
 have HF := hid (Blk.new w1 83 #[.int .i64 t.kind, .string t.text, .int .i64 t.num, .int .i64 t.at_, .int .i64 t.fin])
 have HG1 := hid (HG0.out.onto hb1a)
 have HW1 := hid (HW0.out.trans (hb1a.mono HW0.out.size))
 have hGF : w.heap.size < w1.heap.size := by have := hb1.size; omega
 clear hb1 hb1a HG0 HW0
 go_upto_region 2 with fail
 change Code.wp _ _ _ _ (w1.alloc (.cells #[.int .i64 t.kind, .string t.text, .int .i64 t.num, .int .i64 t.at_, .int .i64 t.fin] 83))
 generalize (w1.alloc (.cells #[.int .i64 t.kind, .string t.text, .int .i64 t.num, .int .i64 t.at_, .int .i64 t.fin] 83)) = W1 at *
 generalize w1.heap.size = F at *
 have f0 : W1.cell? ⟨F, 0, none⟩ = some (.int .i64 t.kind) := HF.out.cell 0
 have f1 : W1.cell? ⟨F, 1, none⟩ = some (.string t.text) := HF.out.cell 1
 have f2 : W1.cell? ⟨F, 2, none⟩ = some (.int .i64 t.num) := HF.out.cell 2
 have f3 : W1.cell? ⟨F, 3, none⟩ = some (.int .i64 t.at_) := HF.out.cell 3
 have f4 : W1.cell? ⟨F, 4, none⟩ = some (.int .i64 t.fin) := HF.out.cell 4
 obtain ⟨⟨q0, q1, q2, q3, q4, q5, q6, q7⟩, x0, x1, x2, x3, x4, x5, x6, x7⟩ := box8 HG1.out
 go_wp2_with fail
 try simp only [Exit.inBlock, Exit.then]
 refine bodyPost_ret (v := .agg #[.int .i64 3, .bool false, .int .i64 0, .string t.text, .slice none 0 0, .slice none 0 0, .int .i64 (t.fin : Int), .int .i64 0]) (by simp [results, Tryz.results33, go_sem, q0, q1, q2, q3, q4, q5, q6, q7]) rfl ?_
 exact ⟨none, 0, none, 0, rfl, TV.leaf _ _ rfl rfl, below_put8 HW1.out (Nat.le_refl _) _ _ _ _ _ _ _ _⟩
theorem val_num (s : ByteArray) (hs : s.size ≤ 520) (a inn dep : Nat) (w : World) (ha : a ≤ s.size) {t : Tok} (ht : next s a = .tok t) (hk : t.kind = 3) :
 Calls Tryz.prog 33 #[.string s, .int .i64 a, .int .i64 inn, .int .i64 dep] w (AGives (.val (Rd.numT t.num) t.fin) w) := by
 have u2 : (t.kind == 2) = false := by rw [hk]; rfl
 have u3 : (t.kind == 3) = true := by rw [hk]; rfl
 have u4 : (t.kind == 4) = false := by rw [hk]; rfl
 have u5 : (t.kind == 5) = false := by rw [hk]; rfl
 have u6 : (t.kind == 6) = false := by rw [hk]; rfl
 clear hk
 have hW0 : Below w.heap.size w (w.alloc (.cells #[.int .i64 0, .bool false, .int .i64 0, .string ⟨#[]⟩, .slice none 0 0, .slice none 0 0, .int .i64 0, .int .i64 0] 80)) := (Below.refl _ _).alloc (Nat.le_refl _) _
 have HG0 := hid (Blk.new w 80 #[.int .i64 0, .bool false, .int .i64 0, .string ⟨#[]⟩, .slice none 0 0, .slice none 0 0, .int .i64 0, .int .i64 0])
 have HW0 := hid hW0
 have HNX := hid (rnext_far s a (w.alloc (.cells #[.int .i64 0, .bool false, .int .i64 0, .string ⟨#[]⟩, .slice none 0 0, .slice none 0 0, .int .i64 0, .int .i64 0] 80)) (by omega) (by omega) ha)
 rw [ht] at HNX
 clear hW0
 go_enter Tryz.func33, Tryz.ntmps33
 go_upto_region 1 with fail
 change Code.wp _ _ _ _ (w.alloc (.cells #[.int .i64 0, .bool false, .int .i64 0, .string ⟨#[]⟩, .slice none 0 0, .slice none 0 0, .int .i64 0, .int .i64 0] 80))
 generalize (w.alloc (.cells #[.int .i64 0, .bool false, .int .i64 0, .string ⟨#[]⟩, .slice none 0 0, .slice none 0 0, .int .i64 0, .int .i64 0] 80)) = W0 at *
 have hlt0 := HG0.out.lt
 go_wp2_with fail
 refine HNX.out.mono ?_
 rintro e w1 ⟨rfl, hb1⟩
 clear HNX
 unfold Tk.Ans.val
 have hb1a := hb1.alloc hb1.size (.cells #[.int .i64 t.kind, .string t.text, .int .i64 t.num, .int .i64 t.at_, .int .i64 t.fin] 83)
 have HF := hid (Blk.new w1 83 #[.int .i64 t.kind, .string t.text, .int .i64 t.num, .int .i64 t.at_, .int .i64 t.fin])
 have HG1 := hid (HG0.out.onto hb1a)
 have HW1 := hid (HW0.out.trans (hb1a.mono HW0.out.size))
 have hGF : w.heap.size < w1.heap.size := by have := hb1.size; omega
 clear hb1 hb1a HG0 HW0
 go_upto_region 2 with fail
 change Code.wp _ _ _ _ (w1.alloc (.cells #[.int .i64 t.kind, .string t.text, .int .i64 t.num, .int .i64 t.at_, .int .i64 t.fin] 83))
 generalize (w1.alloc (.cells #[.int .i64 t.kind, .string t.text, .int .i64 t.num, .int .i64 t.at_, .int .i64 t.fin] 83)) = W1 at *
 generalize w1.heap.size = F at *
 have f0 : W1.cell? ⟨F, 0, none⟩ = some (.int .i64 t.kind) := HF.out.cell 0
 have f1 : W1.cell? ⟨F, 1, none⟩ = some (.string t.text) := HF.out.cell 1
 have f2 : W1.cell? ⟨F, 2, none⟩ = some (.int .i64 t.num) := HF.out.cell 2
 have f3 : W1.cell? ⟨F, 3, none⟩ = some (.int .i64 t.at_) := HF.out.cell 3
 have f4 : W1.cell? ⟨F, 4, none⟩ = some (.int .i64 t.fin) := HF.out.cell 4
 obtain ⟨⟨q0, q1, q2, q3, q4, q5, q6, q7⟩, x0, x1, x2, x3, x4, x5, x6, x7⟩ := box8 HG1.out
 go_wp2_with fail
 try simp only [Exit.inBlock, Exit.then]
 refine bodyPost_ret (v := .agg #[.int .i64 2, .bool false, .int .i64 t.num, .string ⟨#[]⟩, .slice none 0 0, .slice none 0 0, .int .i64 (t.fin : Int), .int .i64 0]) (by simp [results, Tryz.results33, go_sem, q0, q1, q2, q3, q4, q5, q6, q7]) rfl ?_
 exact ⟨none, 0, none, 0, rfl, TV.leaf _ _ rfl rfl, below_put8 HW1.out (Nat.le_refl _) _ _ _ _ _ _ _ _⟩
theorem val_true (s : ByteArray) (hs : s.size ≤ 520) (a inn dep : Nat) (w : World) (ha : a ≤ s.size) {t : Tok} (ht : next s a = .tok t) (hk : t.kind = 4) :
 Calls Tryz.prog 33 #[.string s, .int .i64 a, .int .i64 inn, .int .i64 dep] w (AGives (.val (Rd.truT true) t.fin) w) := by
 have u2 : (t.kind == 2) = false := by rw [hk]; rfl
 have u3 : (t.kind == 3) = false := by rw [hk]; rfl
 have u4 : (t.kind == 4) = true := by rw [hk]; rfl
 have u5 : (t.kind == 5) = false := by rw [hk]; rfl
 have u6 : (t.kind == 6) = false := by rw [hk]; rfl
 clear hk
 have hW0 : Below w.heap.size w (w.alloc (.cells #[.int .i64 0, .bool false, .int .i64 0, .string ⟨#[]⟩, .slice none 0 0, .slice none 0 0, .int .i64 0, .int .i64 0] 80)) := (Below.refl _ _).alloc (Nat.le_refl _) _
 have HG0 := hid (Blk.new w 80 #[.int .i64 0, .bool false, .int .i64 0, .string ⟨#[]⟩, .slice none 0 0, .slice none 0 0, .int .i64 0, .int .i64 0])
 have HW0 := hid hW0
 have HNX := hid (rnext_far s a (w.alloc (.cells #[.int .i64 0, .bool false, .int .i64 0, .string ⟨#[]⟩, .slice none 0 0, .slice none 0 0, .int .i64 0, .int .i64 0] 80)) (by omega) (by omega) ha)
 rw [ht] at HNX
 clear hW0
 go_enter Tryz.func33, Tryz.ntmps33
 go_upto_region 1 with fail
 change Code.wp _ _ _ _ (w.alloc (.cells #[.int .i64 0, .bool false, .int .i64 0, .string ⟨#[]⟩, .slice none 0 0, .slice none 0 0, .int .i64 0, .int .i64 0] 80))
 generalize (w.alloc (.cells #[.int .i64 0, .bool false, .int .i64 0, .string ⟨#[]⟩, .slice none 0 0, .slice none 0 0, .int .i64 0, .int .i64 0] 80)) = W0 at *
 have hlt0 := HG0.out.lt
 go_wp2_with fail
 refine HNX.out.mono ?_
 rintro e w1 ⟨rfl, hb1⟩
 clear HNX
 unfold Tk.Ans.val
 have hb1a := hb1.alloc hb1.size (.cells #[.int .i64 t.kind, .string t.text, .int .i64 t.num, .int .i64 t.at_, .int .i64 t.fin] 83)
 have HF := hid (Blk.new w1 83 #[.int .i64 t.kind, .string t.text, .int .i64 t.num, .int .i64 t.at_, .int .i64 t.fin])
 have HG1 := hid (HG0.out.onto hb1a)
 have HW1 := hid (HW0.out.trans (hb1a.mono HW0.out.size))
 have hGF : w.heap.size < w1.heap.size := by have := hb1.size; omega
 clear hb1 hb1a HG0 HW0
 go_upto_region 2 with fail
 change Code.wp _ _ _ _ (w1.alloc (.cells #[.int .i64 t.kind, .string t.text, .int .i64 t.num, .int .i64 t.at_, .int .i64 t.fin] 83))
 generalize (w1.alloc (.cells #[.int .i64 t.kind, .string t.text, .int .i64 t.num, .int .i64 t.at_, .int .i64 t.fin] 83)) = W1 at *
 generalize w1.heap.size = F at *
 have f0 : W1.cell? ⟨F, 0, none⟩ = some (.int .i64 t.kind) := HF.out.cell 0
 have f1 : W1.cell? ⟨F, 1, none⟩ = some (.string t.text) := HF.out.cell 1
 have f2 : W1.cell? ⟨F, 2, none⟩ = some (.int .i64 t.num) := HF.out.cell 2
 have f3 : W1.cell? ⟨F, 3, none⟩ = some (.int .i64 t.at_) := HF.out.cell 3
 have f4 : W1.cell? ⟨F, 4, none⟩ = some (.int .i64 t.fin) := HF.out.cell 4
 obtain ⟨⟨q0, q1, q2, q3, q4, q5, q6, q7⟩, x0, x1, x2, x3, x4, x5, x6, x7⟩ := box8 HG1.out
 go_wp2_with fail
 try simp only [Exit.inBlock, Exit.then]
 refine bodyPost_ret (v := .agg #[.int .i64 1, .bool true, .int .i64 0, .string ⟨#[]⟩, .slice none 0 0, .slice none 0 0, .int .i64 (t.fin : Int), .int .i64 0]) (by simp [results, Tryz.results33, go_sem, q0, q1, q2, q3, q4, q5, q6, q7]) rfl ?_
 exact ⟨none, 0, none, 0, rfl, TV.leaf _ _ rfl rfl, below_put8 HW1.out (Nat.le_refl _) _ _ _ _ _ _ _ _⟩
theorem val_false (s : ByteArray) (hs : s.size ≤ 520) (a inn dep : Nat) (w : World) (ha : a ≤ s.size) {t : Tok} (ht : next s a = .tok t) (hk : t.kind = 5) :
 Calls Tryz.prog 33 #[.string s, .int .i64 a, .int .i64 inn, .int .i64 dep] w (AGives (.val (Rd.truT false) t.fin) w) := by
 have u2 : (t.kind == 2) = false := by rw [hk]; rfl
 have u3 : (t.kind == 3) = false := by rw [hk]; rfl
 have u4 : (t.kind == 4) = false := by rw [hk]; rfl
 have u5 : (t.kind == 5) = true := by rw [hk]; rfl
 have u6 : (t.kind == 6) = false := by rw [hk]; rfl
 clear hk
 have hW0 : Below w.heap.size w (w.alloc (.cells #[.int .i64 0, .bool false, .int .i64 0, .string ⟨#[]⟩, .slice none 0 0, .slice none 0 0, .int .i64 0, .int .i64 0] 80)) := (Below.refl _ _).alloc (Nat.le_refl _) _
 have HG0 := hid (Blk.new w 80 #[.int .i64 0, .bool false, .int .i64 0, .string ⟨#[]⟩, .slice none 0 0, .slice none 0 0, .int .i64 0, .int .i64 0])
 have HW0 := hid hW0
 have HNX := hid (rnext_far s a (w.alloc (.cells #[.int .i64 0, .bool false, .int .i64 0, .string ⟨#[]⟩, .slice none 0 0, .slice none 0 0, .int .i64 0, .int .i64 0] 80)) (by omega) (by omega) ha)
 rw [ht] at HNX
 clear hW0
 go_enter Tryz.func33, Tryz.ntmps33
 go_upto_region 1 with fail
 change Code.wp _ _ _ _ (w.alloc (.cells #[.int .i64 0, .bool false, .int .i64 0, .string ⟨#[]⟩, .slice none 0 0, .slice none 0 0, .int .i64 0, .int .i64 0] 80))
 generalize (w.alloc (.cells #[.int .i64 0, .bool false, .int .i64 0, .string ⟨#[]⟩, .slice none 0 0, .slice none 0 0, .int .i64 0, .int .i64 0] 80)) = W0 at *
 have hlt0 := HG0.out.lt
 go_wp2_with fail
 refine HNX.out.mono ?_
 rintro e w1 ⟨rfl, hb1⟩
 clear HNX
 unfold Tk.Ans.val
 have hb1a := hb1.alloc hb1.size (.cells #[.int .i64 t.kind, .string t.text, .int .i64 t.num, .int .i64 t.at_, .int .i64 t.fin] 83)
 have HF := hid (Blk.new w1 83 #[.int .i64 t.kind, .string t.text, .int .i64 t.num, .int .i64 t.at_, .int .i64 t.fin])
 have HG1 := hid (HG0.out.onto hb1a)
 have HW1 := hid (HW0.out.trans (hb1a.mono HW0.out.size))
 have hGF : w.heap.size < w1.heap.size := by have := hb1.size; omega
 clear hb1 hb1a HG0 HW0
 go_upto_region 2 with fail
 change Code.wp _ _ _ _ (w1.alloc (.cells #[.int .i64 t.kind, .string t.text, .int .i64 t.num, .int .i64 t.at_, .int .i64 t.fin] 83))
 generalize (w1.alloc (.cells #[.int .i64 t.kind, .string t.text, .int .i64 t.num, .int .i64 t.at_, .int .i64 t.fin] 83)) = W1 at *
 generalize w1.heap.size = F at *
 have f0 : W1.cell? ⟨F, 0, none⟩ = some (.int .i64 t.kind) := HF.out.cell 0
 have f1 : W1.cell? ⟨F, 1, none⟩ = some (.string t.text) := HF.out.cell 1
 have f2 : W1.cell? ⟨F, 2, none⟩ = some (.int .i64 t.num) := HF.out.cell 2
 have f3 : W1.cell? ⟨F, 3, none⟩ = some (.int .i64 t.at_) := HF.out.cell 3
 have f4 : W1.cell? ⟨F, 4, none⟩ = some (.int .i64 t.fin) := HF.out.cell 4
 obtain ⟨⟨q0, q1, q2, q3, q4, q5, q6, q7⟩, x0, x1, x2, x3, x4, x5, x6, x7⟩ := box8 HG1.out
 go_wp2_with fail
 try simp only [Exit.inBlock, Exit.then]
 refine bodyPost_ret (v := .agg #[.int .i64 1, .bool false, .int .i64 0, .string ⟨#[]⟩, .slice none 0 0, .slice none 0 0, .int .i64 (t.fin : Int), .int .i64 0]) (by simp [results, Tryz.results33, go_sem, q0, q1, q2, q3, q4, q5, q6, q7]) rfl ?_
 exact ⟨none, 0, none, 0, rfl, TV.leaf _ _ rfl rfl, below_put8 HW1.out (Nat.le_refl _) _ _ _ _ _ _ _ _⟩
theorem val_null (s : ByteArray) (hs : s.size ≤ 520) (a inn dep : Nat) (w : World) (ha : a ≤ s.size) {t : Tok} (ht : next s a = .tok t) (hk : t.kind = 6) :
 Calls Tryz.prog 33 #[.string s, .int .i64 a, .int .i64 inn, .int .i64 dep] w (AGives (.val Rd.nulT t.fin) w) := by
 have u2 : (t.kind == 2) = false := by rw [hk]; rfl
 have u3 : (t.kind == 3) = false := by rw [hk]; rfl
 have u4 : (t.kind == 4) = false := by rw [hk]; rfl
 have u5 : (t.kind == 5) = false := by rw [hk]; rfl
 have u6 : (t.kind == 6) = true := by rw [hk]; rfl
 clear hk
 have hW0 : Below w.heap.size w (w.alloc (.cells #[.int .i64 0, .bool false, .int .i64 0, .string ⟨#[]⟩, .slice none 0 0, .slice none 0 0, .int .i64 0, .int .i64 0] 80)) := (Below.refl _ _).alloc (Nat.le_refl _) _
 have HG0 := hid (Blk.new w 80 #[.int .i64 0, .bool false, .int .i64 0, .string ⟨#[]⟩, .slice none 0 0, .slice none 0 0, .int .i64 0, .int .i64 0])
 have HW0 := hid hW0
 have HNX := hid (rnext_far s a (w.alloc (.cells #[.int .i64 0, .bool false, .int .i64 0, .string ⟨#[]⟩, .slice none 0 0, .slice none 0 0, .int .i64 0, .int .i64 0] 80)) (by omega) (by omega) ha)
 rw [ht] at HNX
 clear hW0
 go_enter Tryz.func33, Tryz.ntmps33
 go_upto_region 1 with fail
 change Code.wp _ _ _ _ (w.alloc (.cells #[.int .i64 0, .bool false, .int .i64 0, .string ⟨#[]⟩, .slice none 0 0, .slice none 0 0, .int .i64 0, .int .i64 0] 80))
 generalize (w.alloc (.cells #[.int .i64 0, .bool false, .int .i64 0, .string ⟨#[]⟩, .slice none 0 0, .slice none 0 0, .int .i64 0, .int .i64 0] 80)) = W0 at *
 have hlt0 := HG0.out.lt
 go_wp2_with fail
 refine HNX.out.mono ?_
 rintro e w1 ⟨rfl, hb1⟩
 clear HNX
 unfold Tk.Ans.val
 have hb1a := hb1.alloc hb1.size (.cells #[.int .i64 t.kind, .string t.text, .int .i64 t.num, .int .i64 t.at_, .int .i64 t.fin] 83)
 have HF := hid (Blk.new w1 83 #[.int .i64 t.kind, .string t.text, .int .i64 t.num, .int .i64 t.at_, .int .i64 t.fin])
 have HG1 := hid (HG0.out.onto hb1a)
 have HW1 := hid (HW0.out.trans (hb1a.mono HW0.out.size))
 have hGF : w.heap.size < w1.heap.size := by have := hb1.size; omega
 clear hb1 hb1a HG0 HW0
 go_upto_region 2 with fail
 change Code.wp _ _ _ _ (w1.alloc (.cells #[.int .i64 t.kind, .string t.text, .int .i64 t.num, .int .i64 t.at_, .int .i64 t.fin] 83))
 generalize (w1.alloc (.cells #[.int .i64 t.kind, .string t.text, .int .i64 t.num, .int .i64 t.at_, .int .i64 t.fin] 83)) = W1 at *
 generalize w1.heap.size = F at *
 have f0 : W1.cell? ⟨F, 0, none⟩ = some (.int .i64 t.kind) := HF.out.cell 0
 have f1 : W1.cell? ⟨F, 1, none⟩ = some (.string t.text) := HF.out.cell 1
 have f2 : W1.cell? ⟨F, 2, none⟩ = some (.int .i64 t.num) := HF.out.cell 2
 have f3 : W1.cell? ⟨F, 3, none⟩ = some (.int .i64 t.at_) := HF.out.cell 3
 have f4 : W1.cell? ⟨F, 4, none⟩ = some (.int .i64 t.fin) := HF.out.cell 4
 obtain ⟨⟨q0, q1, q2, q3, q4, q5, q6, q7⟩, x0, x1, x2, x3, x4, x5, x6, x7⟩ := box8 HG1.out
 go_wp2_with fail
 try simp only [Exit.inBlock, Exit.then]
 refine bodyPost_ret (v := .agg #[.int .i64 0, .bool false, .int .i64 0, .string ⟨#[]⟩, .slice none 0 0, .slice none 0 0, .int .i64 (t.fin : Int), .int .i64 0]) (by simp [results, Tryz.results33, go_sem, q0, q1, q2, q3, q4, q5, q6, q7]) rfl ?_
 exact ⟨none, 0, none, 0, rfl, TV.leaf _ _ rfl rfl, below_put8 HW1.out (Nat.le_refl _) _ _ _ _ _ _ _ _⟩
theorem val_form (s : ByteArray) (hs : s.size ≤ 520) (a inn dep : Nat) (w : World) (ha : a ≤ s.size) {t : Tok} (ht : next s a = .tok t) (h2 : t.kind ≠ 2) (h3 : t.kind ≠ 3) (h4 : t.kind ≠ 4) (h5 : t.kind ≠ 5) (h6 : t.kind ≠ 6) (h91 : ¬ Rd.isM t 91) (h123 : ¬ Rd.isM t 123) :
 Calls Tryz.prog 33 #[.string s, .int .i64 a, .int .i64 inn, .int .i64 dep] w (AGives (.err t.at_ 1) w) := by
 have u2 : (t.kind == 2) = false := by rw [beq_eq_false_iff_ne]; exact h2
 have u3 : (t.kind == 3) = false := by rw [beq_eq_false_iff_ne]; exact h3
 have u4 : (t.kind == 4) = false := by rw [beq_eq_false_iff_ne]; exact h4
 have u5 : (t.kind == 5) = false := by rw [beq_eq_false_iff_ne]; exact h5
 have u6 : (t.kind == 6) = false := by rw [beq_eq_false_iff_ne]; exact h6
 have HSG := hid (sign_any6 t)
 have n1 := Rd.sign_no (t := t) (c := 91) ⟨#[91]⟩ rfl (by unfold Tk.nix; decide) h91
 have n2 := Rd.sign_no (t := t) (c := 123) ⟨#[123]⟩ rfl (by unfold Tk.nix; decide) h123
 have n1' : ((Rd.signT t).toList == [91]) = false := by have h := n1; rw [ByteArray.toList_eq ⟨#[91]⟩] at h; exact h
 have n2' : ((Rd.signT t).toList == [123]) = false := by have h := n2; rw [ByteArray.toList_eq ⟨#[123]⟩] at h; exact h
 generalize Rd.signT t = sg at *
 clear h2 h3 h4 h5 h6 h91 h123
 have hW0 : Below w.heap.size w (w.alloc (.cells #[.int .i64 0, .bool false, .int .i64 0, .string ⟨#[]⟩, .slice none 0 0, .slice none 0 0, .int .i64 0, .int .i64 0] 80)) := (Below.refl _ _).alloc (Nat.le_refl _) _
 have HG0 := hid (Blk.new w 80 #[.int .i64 0, .bool false, .int .i64 0, .string ⟨#[]⟩, .slice none 0 0, .slice none 0 0, .int .i64 0, .int .i64 0])
 have HW0 := hid hW0
 have HNX := hid (rnext_far s a (w.alloc (.cells #[.int .i64 0, .bool false, .int .i64 0, .string ⟨#[]⟩, .slice none 0 0, .slice none 0 0, .int .i64 0, .int .i64 0] 80)) (by omega) (by omega) ha)
 rw [ht] at HNX
 clear hW0
 go_enter Tryz.func33, Tryz.ntmps33
 go_upto_region 1 with fail
 change Code.wp _ _ _ _ (w.alloc (.cells #[.int .i64 0, .bool false, .int .i64 0, .string ⟨#[]⟩, .slice none 0 0, .slice none 0 0, .int .i64 0, .int .i64 0] 80))
 generalize (w.alloc (.cells #[.int .i64 0, .bool false, .int .i64 0, .string ⟨#[]⟩, .slice none 0 0, .slice none 0 0, .int .i64 0, .int .i64 0] 80)) = W0 at *
 have hlt0 := HG0.out.lt
 go_wp2_with fail
 refine HNX.out.mono ?_
 rintro e w1 ⟨rfl, hb1⟩
 clear HNX
 unfold Tk.Ans.val
 have hb1a := hb1.alloc hb1.size (.cells #[.int .i64 t.kind, .string t.text, .int .i64 t.num, .int .i64 t.at_, .int .i64 t.fin] 83)
 have HF := hid (Blk.new w1 83 #[.int .i64 t.kind, .string t.text, .int .i64 t.num, .int .i64 t.at_, .int .i64 t.fin])
 have HG1 := hid (HG0.out.onto hb1a)
 have HW1 := hid (HW0.out.trans (hb1a.mono HW0.out.size))
 have hGF : w.heap.size < w1.heap.size := by have := hb1.size; omega
 clear hb1 hb1a HG0 HW0
 go_upto_region 2 with fail
 change Code.wp _ _ _ _ (w1.alloc (.cells #[.int .i64 t.kind, .string t.text, .int .i64 t.num, .int .i64 t.at_, .int .i64 t.fin] 83))
 generalize (w1.alloc (.cells #[.int .i64 t.kind, .string t.text, .int .i64 t.num, .int .i64 t.at_, .int .i64 t.fin] 83)) = W1 at *
 generalize w1.heap.size = F at *
 have f0 : W1.cell? ⟨F, 0, none⟩ = some (.int .i64 t.kind) := HF.out.cell 0
 have f1 : W1.cell? ⟨F, 1, none⟩ = some (.string t.text) := HF.out.cell 1
 have f2 : W1.cell? ⟨F, 2, none⟩ = some (.int .i64 t.num) := HF.out.cell 2
 have f3 : W1.cell? ⟨F, 3, none⟩ = some (.int .i64 t.at_) := HF.out.cell 3
 have f4 : W1.cell? ⟨F, 4, none⟩ = some (.int .i64 t.fin) := HF.out.cell 4
 go_wp2_with fail
 refine (HSG.out W1).mono ?_
 rintro e w2 ⟨rfl, hb2⟩
 have HF2 := hid (HF.out.onto hb2)
 have HG2 := hid (HG1.out.onto hb2)
 have HW2 := hid (HW1.out.trans (hb2.mono HW1.out.size))
 clear hb2 f0 f1 f2 f3 f4
 have f0 : w2.cell? ⟨F, 0, none⟩ = some (.int .i64 t.kind) := HF2.out.cell 0
 have f1 : w2.cell? ⟨F, 1, none⟩ = some (.string t.text) := HF2.out.cell 1
 have f2 : w2.cell? ⟨F, 2, none⟩ = some (.int .i64 t.num) := HF2.out.cell 2
 have f3 : w2.cell? ⟨F, 3, none⟩ = some (.int .i64 t.at_) := HF2.out.cell 3
 have f4 : w2.cell? ⟨F, 4, none⟩ = some (.int .i64 t.fin) := HF2.out.cell 4
 go_wp2_with fail
 refine (HSG.out w2).mono ?_
 rintro e w3 ⟨rfl, hb3⟩
 have HF3 := hid (HF2.out.onto hb3)
 have HG3 := hid (HG2.out.onto hb3)
 have HW3 := hid (HW2.out.trans (hb3.mono HW2.out.size))
 clear hb3 f0 f1 f2 f3 f4
 have f3 : w3.cell? ⟨F, 3, none⟩ = some (.int .i64 t.at_) := HF3.out.cell 3
 go_wp2_with fail
 refine (wrong_any6 t.at_ 1 w3).mono ?_
 rintro e w4 ⟨rfl, hb4⟩
 have HG4 := hid (HG3.out.onto hb4)
 have HW4 := hid (HW3.out.trans (hb4.mono HW3.out.size))
 clear hb4 f3
 obtain ⟨⟨q0, q1, q2, q3, q4, q5, q6, q7⟩, x0, x1, x2, x3, x4, x5, x6, x7⟩ := box8 HG4.out
 go_wp2_with fail
 try simp only [Exit.inBlock, Exit.then]
 refine bodyPost_ret (v := .agg #[.int .i64 0, .bool false, .int .i64 0, .string ⟨#[]⟩, .slice none 0 0, .slice none 0 0, .int .i64 (t.at_ : Int), .int .i64 1]) (by simp [results, Tryz.results33, go_sem, q0, q1, q2, q3, q4, q5, q6, q7]) rfl ?_
 exact ⟨rfl, below_put8 HW4.out (Nat.le_refl _) _ _ _ _ _ _ _ _⟩
theorem val_deep1 (s : ByteArray) (hs : s.size ≤ 520) (a inn dep : Nat) (w : World) (ha : a ≤ s.size) {t : Tok} (ht : next s a = .tok t) (hm : Rd.isM t 91) (hd : dep ≤ inn) :
 Calls Tryz.prog 33 #[.string s, .int .i64 a, .int .i64 inn, .int .i64 dep] w (AGives (.err t.at_ 6) w) := by
 have hk := hm.1
 have u2 : (t.kind == 2) = false := by rw [hk]; rfl
 have u3 : (t.kind == 3) = false := by rw [hk]; rfl
 have u4 : (t.kind == 4) = false := by rw [hk]; rfl
 have u5 : (t.kind == 5) = false := by rw [hk]; rfl
 have u6 : (t.kind == 6) = false := by rw [hk]; rfl
 have HSG := hid (sign_any6 t)
 rw [Rd.sign_yes (t := t) (c := 91) ⟨#[91]⟩ rfl hm] at HSG
 have d1 : decide ((inn : Int) ≥ (dep : Int)) = true := decide_eq_true (by omega)
 have d2 : decide ((dep : Int) ≤ (inn : Int)) = true := decide_eq_true (by omega)
 have d3 : decide (dep ≤ inn) = true := decide_eq_true (by omega)
 clear hk hm
 have hW0 : Below w.heap.size w (w.alloc (.cells #[.int .i64 0, .bool false, .int .i64 0, .string ⟨#[]⟩, .slice none 0 0, .slice none 0 0, .int .i64 0, .int .i64 0] 80)) := (Below.refl _ _).alloc (Nat.le_refl _) _
 have HG0 := hid (Blk.new w 80 #[.int .i64 0, .bool false, .int .i64 0, .string ⟨#[]⟩, .slice none 0 0, .slice none 0 0, .int .i64 0, .int .i64 0])
 have HW0 := hid hW0
 have HNX := hid (rnext_far s a (w.alloc (.cells #[.int .i64 0, .bool false, .int .i64 0, .string ⟨#[]⟩, .slice none 0 0, .slice none 0 0, .int .i64 0, .int .i64 0] 80)) (by omega) (by omega) ha)
 rw [ht] at HNX
 clear hW0
 go_enter Tryz.func33, Tryz.ntmps33
 go_upto_region 1 with fail
 change Code.wp _ _ _ _ (w.alloc (.cells #[.int .i64 0, .bool false, .int .i64 0, .string ⟨#[]⟩, .slice none 0 0, .slice none 0 0, .int .i64 0, .int .i64 0] 80))
 generalize (w.alloc (.cells #[.int .i64 0, .bool false, .int .i64 0, .string ⟨#[]⟩, .slice none 0 0, .slice none 0 0, .int .i64 0, .int .i64 0] 80)) = W0 at *
 have hlt0 := HG0.out.lt
 go_wp2_with fail
 refine HNX.out.mono ?_
 rintro e w1 ⟨rfl, hb1⟩
 clear HNX
 unfold Tk.Ans.val
 have hb1a := hb1.alloc hb1.size (.cells #[.int .i64 t.kind, .string t.text, .int .i64 t.num, .int .i64 t.at_, .int .i64 t.fin] 83)
 have HF := hid (Blk.new w1 83 #[.int .i64 t.kind, .string t.text, .int .i64 t.num, .int .i64 t.at_, .int .i64 t.fin])
 have HG1 := hid (HG0.out.onto hb1a)
 have HW1 := hid (HW0.out.trans (hb1a.mono HW0.out.size))
 have hGF : w.heap.size < w1.heap.size := by have := hb1.size; omega
 clear hb1 hb1a HG0 HW0
 go_upto_region 2 with fail
 change Code.wp _ _ _ _ (w1.alloc (.cells #[.int .i64 t.kind, .string t.text, .int .i64 t.num, .int .i64 t.at_, .int .i64 t.fin] 83))
 generalize (w1.alloc (.cells #[.int .i64 t.kind, .string t.text, .int .i64 t.num, .int .i64 t.at_, .int .i64 t.fin] 83)) = W1 at *
 generalize w1.heap.size = F at *
 have f0 : W1.cell? ⟨F, 0, none⟩ = some (.int .i64 t.kind) := HF.out.cell 0
 have f1 : W1.cell? ⟨F, 1, none⟩ = some (.string t.text) := HF.out.cell 1
 have f2 : W1.cell? ⟨F, 2, none⟩ = some (.int .i64 t.num) := HF.out.cell 2
 have f3 : W1.cell? ⟨F, 3, none⟩ = some (.int .i64 t.at_) := HF.out.cell 3
 have f4 : W1.cell? ⟨F, 4, none⟩ = some (.int .i64 t.fin) := HF.out.cell 4
 go_wp2_with fail
 refine (HSG.out W1).mono ?_
 rintro e w2 ⟨rfl, hb2⟩
 have HF2 := hid (HF.out.onto hb2)
 have HG2 := hid (HG1.out.onto hb2)
 have HW2 := hid (HW1.out.trans (hb2.mono HW1.out.size))
 clear hb2 f0 f1 f2 f3 f4
 have f0 : w2.cell? ⟨F, 0, none⟩ = some (.int .i64 t.kind) := HF2.out.cell 0
 have f1 : w2.cell? ⟨F, 1, none⟩ = some (.string t.text) := HF2.out.cell 1
 have f2 : w2.cell? ⟨F, 2, none⟩ = some (.int .i64 t.num) := HF2.out.cell 2
 have f3 : w2.cell? ⟨F, 3, none⟩ = some (.int .i64 t.at_) := HF2.out.cell 3
 have f4 : w2.cell? ⟨F, 4, none⟩ = some (.int .i64 t.fin) := HF2.out.cell 4
 go_wp2_with fail
 refine (wrong_any6 t.at_ 6 w2).mono ?_
 rintro e w9 ⟨rfl, hb9⟩
 have HG9 := hid (HG2.out.onto hb9)
 have HW9 := hid (HW2.out.trans (hb9.mono HW2.out.size))
 clear hb9 f0 f1 f2 f3 f4
 obtain ⟨⟨q0, q1, q2, q3, q4, q5, q6, q7⟩, x0, x1, x2, x3, x4, x5, x6, x7⟩ := box8 HG9.out
 go_wp2_with fail
 try simp only [Exit.inBlock, Exit.then]
 refine bodyPost_ret (v := .agg #[.int .i64 0, .bool false, .int .i64 0, .string ⟨#[]⟩, .slice none 0 0, .slice none 0 0, .int .i64 (t.at_ : Int), .int .i64 6]) (by simp [results, Tryz.results33, go_sem, q0, q1, q2, q3, q4, q5, q6, q7]) rfl ?_
 exact ⟨rfl, below_put8 HW9.out (Nat.le_refl _) _ _ _ _ _ _ _ _⟩
theorem val_deep2 (s : ByteArray) (hs : s.size ≤ 520) (a inn dep : Nat) (w : World) (ha : a ≤ s.size) {t : Tok} (ht : next s a = .tok t) (hm : Rd.isM t 123) (hd : dep ≤ inn) :
 Calls Tryz.prog 33 #[.string s, .int .i64 a, .int .i64 inn, .int .i64 dep] w (AGives (.err t.at_ 6) w) := by
 have hk := hm.1
 have u2 : (t.kind == 2) = false := by rw [hk]; rfl
 have u3 : (t.kind == 3) = false := by rw [hk]; rfl
 have u4 : (t.kind == 4) = false := by rw [hk]; rfl
 have u5 : (t.kind == 5) = false := by rw [hk]; rfl
 have u6 : (t.kind == 6) = false := by rw [hk]; rfl
 have HSG := hid (sign_any6 t)
 rw [Rd.sign_yes (t := t) (c := 123) ⟨#[123]⟩ rfl hm] at HSG
 have d1 : decide ((inn : Int) ≥ (dep : Int)) = true := decide_eq_true (by omega)
 have d2 : decide ((dep : Int) ≤ (inn : Int)) = true := decide_eq_true (by omega)
 have d3 : decide (dep ≤ inn) = true := decide_eq_true (by omega)
 clear hk hm
 have hW0 : Below w.heap.size w (w.alloc (.cells #[.int .i64 0, .bool false, .int .i64 0, .string ⟨#[]⟩, .slice none 0 0, .slice none 0 0, .int .i64 0, .int .i64 0] 80)) := (Below.refl _ _).alloc (Nat.le_refl _) _
 have HG0 := hid (Blk.new w 80 #[.int .i64 0, .bool false, .int .i64 0, .string ⟨#[]⟩, .slice none 0 0, .slice none 0 0, .int .i64 0, .int .i64 0])
 have HW0 := hid hW0
 have HNX := hid (rnext_far s a (w.alloc (.cells #[.int .i64 0, .bool false, .int .i64 0, .string ⟨#[]⟩, .slice none 0 0, .slice none 0 0, .int .i64 0, .int .i64 0] 80)) (by omega) (by omega) ha)
 rw [ht] at HNX
 clear hW0
 go_enter Tryz.func33, Tryz.ntmps33
 go_upto_region 1 with fail
 change Code.wp _ _ _ _ (w.alloc (.cells #[.int .i64 0, .bool false, .int .i64 0, .string ⟨#[]⟩, .slice none 0 0, .slice none 0 0, .int .i64 0, .int .i64 0] 80))
 generalize (w.alloc (.cells #[.int .i64 0, .bool false, .int .i64 0, .string ⟨#[]⟩, .slice none 0 0, .slice none 0 0, .int .i64 0, .int .i64 0] 80)) = W0 at *
 have hlt0 := HG0.out.lt
 go_wp2_with fail
 refine HNX.out.mono ?_
 rintro e w1 ⟨rfl, hb1⟩
 clear HNX
 unfold Tk.Ans.val
 have hb1a := hb1.alloc hb1.size (.cells #[.int .i64 t.kind, .string t.text, .int .i64 t.num, .int .i64 t.at_, .int .i64 t.fin] 83)
 have HF := hid (Blk.new w1 83 #[.int .i64 t.kind, .string t.text, .int .i64 t.num, .int .i64 t.at_, .int .i64 t.fin])
 have HG1 := hid (HG0.out.onto hb1a)
 have HW1 := hid (HW0.out.trans (hb1a.mono HW0.out.size))
 have hGF : w.heap.size < w1.heap.size := by have := hb1.size; omega
 clear hb1 hb1a HG0 HW0
 go_upto_region 2 with fail
 change Code.wp _ _ _ _ (w1.alloc (.cells #[.int .i64 t.kind, .string t.text, .int .i64 t.num, .int .i64 t.at_, .int .i64 t.fin] 83))
 generalize (w1.alloc (.cells #[.int .i64 t.kind, .string t.text, .int .i64 t.num, .int .i64 t.at_, .int .i64 t.fin] 83)) = W1 at *
 generalize w1.heap.size = F at *
 have f0 : W1.cell? ⟨F, 0, none⟩ = some (.int .i64 t.kind) := HF.out.cell 0
 have f1 : W1.cell? ⟨F, 1, none⟩ = some (.string t.text) := HF.out.cell 1
 have f2 : W1.cell? ⟨F, 2, none⟩ = some (.int .i64 t.num) := HF.out.cell 2
 have f3 : W1.cell? ⟨F, 3, none⟩ = some (.int .i64 t.at_) := HF.out.cell 3
 have f4 : W1.cell? ⟨F, 4, none⟩ = some (.int .i64 t.fin) := HF.out.cell 4
 go_wp2_with fail
 refine (HSG.out W1).mono ?_
 rintro e w2 ⟨rfl, hb2⟩
 have HF2 := hid (HF.out.onto hb2)
 have HG2 := hid (HG1.out.onto hb2)
 have HW2 := hid (HW1.out.trans (hb2.mono HW1.out.size))
 clear hb2 f0 f1 f2 f3 f4
 have f0 : w2.cell? ⟨F, 0, none⟩ = some (.int .i64 t.kind) := HF2.out.cell 0
 have f1 : w2.cell? ⟨F, 1, none⟩ = some (.string t.text) := HF2.out.cell 1
 have f2 : w2.cell? ⟨F, 2, none⟩ = some (.int .i64 t.num) := HF2.out.cell 2
 have f3 : w2.cell? ⟨F, 3, none⟩ = some (.int .i64 t.at_) := HF2.out.cell 3
 have f4 : w2.cell? ⟨F, 4, none⟩ = some (.int .i64 t.fin) := HF2.out.cell 4
 go_wp2_with fail
 refine (HSG.out w2).mono ?_
 rintro e w3 ⟨rfl, hb3⟩
 have HF3 := hid (HF2.out.onto hb3)
 have HG3 := hid (HG2.out.onto hb3)
 have HW3 := hid (HW2.out.trans (hb3.mono HW2.out.size))
 clear hb3 f0 f1 f2 f3 f4
 have f0 : w3.cell? ⟨F, 0, none⟩ = some (.int .i64 t.kind) := HF3.out.cell 0
 have f1 : w3.cell? ⟨F, 1, none⟩ = some (.string t.text) := HF3.out.cell 1
 have f2 : w3.cell? ⟨F, 2, none⟩ = some (.int .i64 t.num) := HF3.out.cell 2
 have f3 : w3.cell? ⟨F, 3, none⟩ = some (.int .i64 t.at_) := HF3.out.cell 3
 have f4 : w3.cell? ⟨F, 4, none⟩ = some (.int .i64 t.fin) := HF3.out.cell 4
 go_wp2_with fail
 refine (wrong_any6 t.at_ 6 w3).mono ?_
 rintro e w9 ⟨rfl, hb9⟩
 have HG9 := hid (HG3.out.onto hb9)
 have HW9 := hid (HW3.out.trans (hb9.mono HW3.out.size))
 clear hb9 f0 f1 f2 f3 f4
 obtain ⟨⟨q0, q1, q2, q3, q4, q5, q6, q7⟩, x0, x1, x2, x3, x4, x5, x6, x7⟩ := box8 HG9.out
 go_wp2_with fail
 try simp only [Exit.inBlock, Exit.then]
 refine bodyPost_ret (v := .agg #[.int .i64 0, .bool false, .int .i64 0, .string ⟨#[]⟩, .slice none 0 0, .slice none 0 0, .int .i64 (t.at_ : Int), .int .i64 6]) (by simp [results, Tryz.results33, go_sem, q0, q1, q2, q3, q4, q5, q6, q7]) rfl ?_
 exact ⟨rfl, below_put8 HW9.out (Nat.le_refl _) _ _ _ _ _ _ _ _⟩
theorem val_arr (s : ByteArray) (hs : s.size ≤ 520) (a inn dep : Nat) (w : World) (ha : a ≤ s.size) {t : Tok} (ht : next s a = .tok t) (hm : Rd.isM t 91) (hd : inn < dep) (hd2 : dep ≤ 1000) (res : Rd.Res)
 (hc : ∀ w' : World, Calls Tryz.prog 46 #[.string s, .int .i64 t.fin, .int .i64 ((inn : Int) + 1), .int .i64 dep] w' (AGives res w')) :
 Calls Tryz.prog 33 #[.string s, .int .i64 a, .int .i64 inn, .int .i64 dep] w (AGives res w) := by
 have HC := hid hc
 clear hc
 have hk := hm.1
 have u2 : (t.kind == 2) = false := by rw [hk]; rfl
 have u3 : (t.kind == 3) = false := by rw [hk]; rfl
 have u4 : (t.kind == 4) = false := by rw [hk]; rfl
 have u5 : (t.kind == 5) = false := by rw [hk]; rfl
 have u6 : (t.kind == 6) = false := by rw [hk]; rfl
 have HSG := hid (sign_any6 t)
 rw [Rd.sign_yes (t := t) (c := 91) ⟨#[91]⟩ rfl hm] at HSG
 have d1 : decide ((inn : Int) ≥ (dep : Int)) = false := decide_eq_false (by omega)
 have d2 : decide ((dep : Int) ≤ (inn : Int)) = false := decide_eq_false (by omega)
 have d3 : decide (dep ≤ inn) = false := decide_eq_false (by omega)
 have w1 : IntKind.i64.wrap ((inn : Int) + 1) = (inn : Int) + 1 := IntWalk.i64_in _ (by omega)
 have w1' : wrap64 ((inn : Int) + 1) = (inn : Int) + 1 := IntWalk.wrap64_in _ (by omega)
 clear hk hm
 have hW0 : Below w.heap.size w (w.alloc (.cells #[.int .i64 0, .bool false, .int .i64 0, .string ⟨#[]⟩, .slice none 0 0, .slice none 0 0, .int .i64 0, .int .i64 0] 80)) := (Below.refl _ _).alloc (Nat.le_refl _) _
 have HG0 := hid (Blk.new w 80 #[.int .i64 0, .bool false, .int .i64 0, .string ⟨#[]⟩, .slice none 0 0, .slice none 0 0, .int .i64 0, .int .i64 0])
 have HW0 := hid hW0
 have HNX := hid (rnext_far s a (w.alloc (.cells #[.int .i64 0, .bool false, .int .i64 0, .string ⟨#[]⟩, .slice none 0 0, .slice none 0 0, .int .i64 0, .int .i64 0] 80)) (by omega) (by omega) ha)
 rw [ht] at HNX
 clear hW0
 go_enter Tryz.func33, Tryz.ntmps33
 go_upto_region 1 with fail
 change Code.wp _ _ _ _ (w.alloc (.cells #[.int .i64 0, .bool false, .int .i64 0, .string ⟨#[]⟩, .slice none 0 0, .slice none 0 0, .int .i64 0, .int .i64 0] 80))
 generalize (w.alloc (.cells #[.int .i64 0, .bool false, .int .i64 0, .string ⟨#[]⟩, .slice none 0 0, .slice none 0 0, .int .i64 0, .int .i64 0] 80)) = W0 at *
 have hlt0 := HG0.out.lt
 go_wp2_with fail
 refine HNX.out.mono ?_
 rintro e w1 ⟨rfl, hb1⟩
 clear HNX
 unfold Tk.Ans.val
 have hb1a := hb1.alloc hb1.size (.cells #[.int .i64 t.kind, .string t.text, .int .i64 t.num, .int .i64 t.at_, .int .i64 t.fin] 83)
 have HF := hid (Blk.new w1 83 #[.int .i64 t.kind, .string t.text, .int .i64 t.num, .int .i64 t.at_, .int .i64 t.fin])
 have HG1 := hid (HG0.out.onto hb1a)
 have HW1 := hid (HW0.out.trans (hb1a.mono HW0.out.size))
 have hGF : w.heap.size < w1.heap.size := by have := hb1.size; omega
 clear hb1 hb1a HG0 HW0
 go_upto_region 2 with fail
 change Code.wp _ _ _ _ (w1.alloc (.cells #[.int .i64 t.kind, .string t.text, .int .i64 t.num, .int .i64 t.at_, .int .i64 t.fin] 83))
 generalize (w1.alloc (.cells #[.int .i64 t.kind, .string t.text, .int .i64 t.num, .int .i64 t.at_, .int .i64 t.fin] 83)) = W1 at *
 generalize w1.heap.size = F at *
 have f0 : W1.cell? ⟨F, 0, none⟩ = some (.int .i64 t.kind) := HF.out.cell 0
 have f1 : W1.cell? ⟨F, 1, none⟩ = some (.string t.text) := HF.out.cell 1
 have f2 : W1.cell? ⟨F, 2, none⟩ = some (.int .i64 t.num) := HF.out.cell 2
 have f3 : W1.cell? ⟨F, 3, none⟩ = some (.int .i64 t.at_) := HF.out.cell 3
 have f4 : W1.cell? ⟨F, 4, none⟩ = some (.int .i64 t.fin) := HF.out.cell 4
 go_wp2_with fail
 refine (HSG.out W1).mono ?_
 rintro e w2 ⟨rfl, hb2⟩
 have HF2 := hid (HF.out.onto hb2)
 have HG2 := hid (HG1.out.onto hb2)
 have HW2 := hid (HW1.out.trans (hb2.mono HW1.out.size))
 clear hb2 f0 f1 f2 f3 f4
 have f0 : w2.cell? ⟨F, 0, none⟩ = some (.int .i64 t.kind) := HF2.out.cell 0
 have f1 : w2.cell? ⟨F, 1, none⟩ = some (.string t.text) := HF2.out.cell 1
 have f2 : w2.cell? ⟨F, 2, none⟩ = some (.int .i64 t.num) := HF2.out.cell 2
 have f3 : w2.cell? ⟨F, 3, none⟩ = some (.int .i64 t.at_) := HF2.out.cell 3
 have f4 : w2.cell? ⟨F, 4, none⟩ = some (.int .i64 t.fin) := HF2.out.cell 4
 go_wp2_with fail
 refine (HSG.out w2).mono ?_
 rintro e w3 ⟨rfl, hb3⟩
 have HF3 := hid (HF2.out.onto hb3)
 have HG3 := hid (HG2.out.onto hb3)
 have HW3 := hid (HW2.out.trans (hb3.mono HW2.out.size))
 clear hb3 f0 f1 f2 f3 f4
 have f0 : w3.cell? ⟨F, 0, none⟩ = some (.int .i64 t.kind) := HF3.out.cell 0
 have f1 : w3.cell? ⟨F, 1, none⟩ = some (.string t.text) := HF3.out.cell 1
 have f2 : w3.cell? ⟨F, 2, none⟩ = some (.int .i64 t.num) := HF3.out.cell 2
 have f3 : w3.cell? ⟨F, 3, none⟩ = some (.int .i64 t.at_) := HF3.out.cell 3
 have f4 : w3.cell? ⟨F, 4, none⟩ = some (.int .i64 t.fin) := HF3.out.cell 4
 go_wp2_with fail
 refine (HC.out w3).mono ?_
 intro e w9 hg
 cases res with
 | out => exact hg.elim
 | err p c =>
  obtain ⟨rfl, hb9⟩ := hg
  have HG9 := hid (HG3.out.onto hb9)
  have HW9 := hid (HW3.out.trans (hb9.mono HW3.out.size))
  clear hb9 f0 f1 f2 f3 f4
  obtain ⟨⟨q0, q1, q2, q3, q4, q5, q6, q7⟩, x0, x1, x2, x3, x4, x5, x6, x7⟩ := box8 HG9.out
  go_wp2_with fail
  try simp only [Exit.inBlock, Exit.then]
  refine bodyPost_ret (v := .agg #[.int .i64 0, .bool false, .int .i64 0, .string ⟨#[]⟩, .slice none 0 0, .slice none 0 0, .int .i64 (p : Int), .int .i64 c]) (by simp [results, Tryz.results33, go_sem, q0, q1, q2, q3, q4, q5, q6, q7]) rfl ?_
  exact ⟨rfl, below_put8 HW9.out (Nat.le_refl _) _ _ _ _ _ _ _ _⟩
 | val v fin =>
  obtain ⟨A, c, A', c', rfl, htv, hb9⟩ := hg
  have HG9 := hid (HG3.out.onto hb9)
  have HW9 := hid (HW3.out.trans (hb9.mono HW3.out.size))
  have hsz := HW3.out.size
  have HTV := hid (show TV w9 (fun q => w.heap.size ≤ q ∧ q < w9.heap.size ∧ q ≠ w.heap.size) v A c A' c' from htv.wide fun q hq => ⟨by have := hq.1; omega, hq.2, by have := hq.1; have := HG3.out.lt; omega⟩)
  clear hb9 htv f0 f1 f2 f3 f4
  obtain ⟨⟨q0, q1, q2, q3, q4, q5, q6, q7⟩, x0, x1, x2, x3, x4, x5, x6, x7⟩ := box8 HG9.out
  go_wp2_with fail
  try simp only [Exit.inBlock, Exit.then]
  refine bodyPost_ret (v := .agg #[.int .i64 v.kind, .bool v.tr, .int .i64 v.num, .string v.str, .slice A v.items.length c, .slice A' v.keys.length c', .int .i64 (fin : Int), .int .i64 0]) (by simp [results, Tryz.results33, go_sem, q0, q1, q2, q3, q4, q5, q6, q7]) rfl ?_
  exact ⟨A, c, A', c', rfl, box_put8 HTV.out _ _ _ _ _ _ _ _, below_put8 HW9.out (Nat.le_refl _) _ _ _ _ _ _ _ _⟩
theorem val_obj (s : ByteArray) (hs : s.size ≤ 520) (a inn dep : Nat) (w : World) (ha : a ≤ s.size) {t : Tok} (ht : next s a = .tok t) (hm : Rd.isM t 123) (hd : inn < dep) (hd2 : dep ≤ 1000) (res : Rd.Res)
 (hc : ∀ w' : World, Calls Tryz.prog 47 #[.string s, .int .i64 t.fin, .int .i64 ((inn : Int) + 1), .int .i64 dep] w' (AGives res w')) :
 Calls Tryz.prog 33 #[.string s, .int .i64 a, .int .i64 inn, .int .i64 dep] w (AGives res w) := by
 have HC := hid hc
 clear hc
 have hk := hm.1
 have u2 : (t.kind == 2) = false := by rw [hk]; rfl
 have u3 : (t.kind == 3) = false := by rw [hk]; rfl
 have u4 : (t.kind == 4) = false := by rw [hk]; rfl
 have u5 : (t.kind == 5) = false := by rw [hk]; rfl
 have u6 : (t.kind == 6) = false := by rw [hk]; rfl
 have HSG := hid (sign_any6 t)
 rw [Rd.sign_yes (t := t) (c := 123) ⟨#[123]⟩ rfl hm] at HSG
 have d1 : decide ((inn : Int) ≥ (dep : Int)) = false := decide_eq_false (by omega)
 have d2 : decide ((dep : Int) ≤ (inn : Int)) = false := decide_eq_false (by omega)
 have d3 : decide (dep ≤ inn) = false := decide_eq_false (by omega)
 have w1 : IntKind.i64.wrap ((inn : Int) + 1) = (inn : Int) + 1 := IntWalk.i64_in _ (by omega)
 have w1' : wrap64 ((inn : Int) + 1) = (inn : Int) + 1 := IntWalk.wrap64_in _ (by omega)
 clear hk hm
 have hW0 : Below w.heap.size w (w.alloc (.cells #[.int .i64 0, .bool false, .int .i64 0, .string ⟨#[]⟩, .slice none 0 0, .slice none 0 0, .int .i64 0, .int .i64 0] 80)) := (Below.refl _ _).alloc (Nat.le_refl _) _
 have HG0 := hid (Blk.new w 80 #[.int .i64 0, .bool false, .int .i64 0, .string ⟨#[]⟩, .slice none 0 0, .slice none 0 0, .int .i64 0, .int .i64 0])
 have HW0 := hid hW0
 have HNX := hid (rnext_far s a (w.alloc (.cells #[.int .i64 0, .bool false, .int .i64 0, .string ⟨#[]⟩, .slice none 0 0, .slice none 0 0, .int .i64 0, .int .i64 0] 80)) (by omega) (by omega) ha)
 rw [ht] at HNX
 clear hW0
 go_enter Tryz.func33, Tryz.ntmps33
 go_upto_region 1 with fail
 change Code.wp _ _ _ _ (w.alloc (.cells #[.int .i64 0, .bool false, .int .i64 0, .string ⟨#[]⟩, .slice none 0 0, .slice none 0 0, .int .i64 0, .int .i64 0] 80))
 generalize (w.alloc (.cells #[.int .i64 0, .bool false, .int .i64 0, .string ⟨#[]⟩, .slice none 0 0, .slice none 0 0, .int .i64 0, .int .i64 0] 80)) = W0 at *
 have hlt0 := HG0.out.lt
 go_wp2_with fail
 refine HNX.out.mono ?_
 rintro e w1 ⟨rfl, hb1⟩
 clear HNX
 unfold Tk.Ans.val
 have hb1a := hb1.alloc hb1.size (.cells #[.int .i64 t.kind, .string t.text, .int .i64 t.num, .int .i64 t.at_, .int .i64 t.fin] 83)
 have HF := hid (Blk.new w1 83 #[.int .i64 t.kind, .string t.text, .int .i64 t.num, .int .i64 t.at_, .int .i64 t.fin])
 have HG1 := hid (HG0.out.onto hb1a)
 have HW1 := hid (HW0.out.trans (hb1a.mono HW0.out.size))
 have hGF : w.heap.size < w1.heap.size := by have := hb1.size; omega
 clear hb1 hb1a HG0 HW0
 go_upto_region 2 with fail
 change Code.wp _ _ _ _ (w1.alloc (.cells #[.int .i64 t.kind, .string t.text, .int .i64 t.num, .int .i64 t.at_, .int .i64 t.fin] 83))
 generalize (w1.alloc (.cells #[.int .i64 t.kind, .string t.text, .int .i64 t.num, .int .i64 t.at_, .int .i64 t.fin] 83)) = W1 at *
 generalize w1.heap.size = F at *
 have f0 : W1.cell? ⟨F, 0, none⟩ = some (.int .i64 t.kind) := HF.out.cell 0
 have f1 : W1.cell? ⟨F, 1, none⟩ = some (.string t.text) := HF.out.cell 1
 have f2 : W1.cell? ⟨F, 2, none⟩ = some (.int .i64 t.num) := HF.out.cell 2
 have f3 : W1.cell? ⟨F, 3, none⟩ = some (.int .i64 t.at_) := HF.out.cell 3
 have f4 : W1.cell? ⟨F, 4, none⟩ = some (.int .i64 t.fin) := HF.out.cell 4
 go_wp2_with fail
 refine (HSG.out W1).mono ?_
 rintro e w2 ⟨rfl, hb2⟩
 have HF2 := hid (HF.out.onto hb2)
 have HG2 := hid (HG1.out.onto hb2)
 have HW2 := hid (HW1.out.trans (hb2.mono HW1.out.size))
 clear hb2 f0 f1 f2 f3 f4
 have f0 : w2.cell? ⟨F, 0, none⟩ = some (.int .i64 t.kind) := HF2.out.cell 0
 have f1 : w2.cell? ⟨F, 1, none⟩ = some (.string t.text) := HF2.out.cell 1
 have f2 : w2.cell? ⟨F, 2, none⟩ = some (.int .i64 t.num) := HF2.out.cell 2
 have f3 : w2.cell? ⟨F, 3, none⟩ = some (.int .i64 t.at_) := HF2.out.cell 3
 have f4 : w2.cell? ⟨F, 4, none⟩ = some (.int .i64 t.fin) := HF2.out.cell 4
 go_wp2_with fail
 refine (HSG.out w2).mono ?_
 rintro e w3 ⟨rfl, hb3⟩
 have HF3 := hid (HF2.out.onto hb3)
 have HG3 := hid (HG2.out.onto hb3)
 have HW3 := hid (HW2.out.trans (hb3.mono HW2.out.size))
 clear hb3 f0 f1 f2 f3 f4
 have f0 : w3.cell? ⟨F, 0, none⟩ = some (.int .i64 t.kind) := HF3.out.cell 0
 have f1 : w3.cell? ⟨F, 1, none⟩ = some (.string t.text) := HF3.out.cell 1
 have f2 : w3.cell? ⟨F, 2, none⟩ = some (.int .i64 t.num) := HF3.out.cell 2
 have f3 : w3.cell? ⟨F, 3, none⟩ = some (.int .i64 t.at_) := HF3.out.cell 3
 have f4 : w3.cell? ⟨F, 4, none⟩ = some (.int .i64 t.fin) := HF3.out.cell 4
 go_wp2_with fail
 refine (HSG.out w3).mono ?_
 rintro e w4 ⟨rfl, hb4⟩
 have HF4 := hid (HF3.out.onto hb4)
 have HG4 := hid (HG3.out.onto hb4)
 have HW4 := hid (HW3.out.trans (hb4.mono HW3.out.size))
 clear hb4 f0 f1 f2 f3 f4
 have f0 : w4.cell? ⟨F, 0, none⟩ = some (.int .i64 t.kind) := HF4.out.cell 0
 have f1 : w4.cell? ⟨F, 1, none⟩ = some (.string t.text) := HF4.out.cell 1
 have f2 : w4.cell? ⟨F, 2, none⟩ = some (.int .i64 t.num) := HF4.out.cell 2
 have f3 : w4.cell? ⟨F, 3, none⟩ = some (.int .i64 t.at_) := HF4.out.cell 3
 have f4 : w4.cell? ⟨F, 4, none⟩ = some (.int .i64 t.fin) := HF4.out.cell 4
 go_wp2_with fail
 refine (HC.out w4).mono ?_
 intro e w9 hg
 cases res with
 | out => exact hg.elim
 | err p c =>
  obtain ⟨rfl, hb9⟩ := hg
  have HG9 := hid (HG4.out.onto hb9)
  have HW9 := hid (HW4.out.trans (hb9.mono HW4.out.size))
  clear hb9 f0 f1 f2 f3 f4
  obtain ⟨⟨q0, q1, q2, q3, q4, q5, q6, q7⟩, x0, x1, x2, x3, x4, x5, x6, x7⟩ := box8 HG9.out
  go_wp2_with fail
  try simp only [Exit.inBlock, Exit.then]
  refine bodyPost_ret (v := .agg #[.int .i64 0, .bool false, .int .i64 0, .string ⟨#[]⟩, .slice none 0 0, .slice none 0 0, .int .i64 (p : Int), .int .i64 c]) (by simp [results, Tryz.results33, go_sem, q0, q1, q2, q3, q4, q5, q6, q7]) rfl ?_
  exact ⟨rfl, below_put8 HW9.out (Nat.le_refl _) _ _ _ _ _ _ _ _⟩
 | val v fin =>
  obtain ⟨A, c, A', c', rfl, htv, hb9⟩ := hg
  have HG9 := hid (HG4.out.onto hb9)
  have HW9 := hid (HW4.out.trans (hb9.mono HW4.out.size))
  have hsz := HW4.out.size
  have HTV := hid (show TV w9 (fun q => w.heap.size ≤ q ∧ q < w9.heap.size ∧ q ≠ w.heap.size) v A c A' c' from htv.wide fun q hq => ⟨by have := hq.1; omega, hq.2, by have := hq.1; have := HG4.out.lt; omega⟩)
  clear hb9 htv f0 f1 f2 f3 f4
  obtain ⟨⟨q0, q1, q2, q3, q4, q5, q6, q7⟩, x0, x1, x2, x3, x4, x5, x6, x7⟩ := box8 HG9.out
  go_wp2_with fail
  try simp only [Exit.inBlock, Exit.then]
  refine bodyPost_ret (v := .agg #[.int .i64 v.kind, .bool v.tr, .int .i64 v.num, .string v.str, .slice A v.items.length c, .slice A' v.keys.length c', .int .i64 (fin : Int), .int .i64 0]) (by simp [results, Tryz.results33, go_sem, q0, q1, q2, q3, q4, q5, q6, q7]) rfl ?_
  exact ⟨A, c, A', c', rfl, box_put8 HTV.out _ _ _ _ _ _ _ _, below_put8 HW9.out (Nat.le_refl _) _ _ _ _ _ _ _ _⟩
end Go.Proofs.YtgblenoaeanogaaGreatDoor
