/- The value that follows: contract of the program's reader. What is kept by a call that may write some blocks: words for contracts. What stands between brackets: contract of the program's walk over it. -/
import Derived.Test.YtgblenoaeanogaaGreatDoorMH
set_option linter.unusedVariables false
set_option maxRecDepth 100000
set_option maxHeartbeats 8000000
open Go.Lib (hid)
namespace Go.Proofs.YtgblenoaeanogaaGreatDoor
open Go.RowKit
open Tk
theorem Blk.aside {b g : Nat} {w w' : World} {ty : TypeId} {cs : Array Value} (h : Blk w g ty cs) (hb : Aside b w w') (hne : g ≠ b) : Blk w' g ty cs := by
 have := hb.block g h.lt hne
 unfold Blk at h ⊢
 rw [this]; exact h
theorem Aside.trans_ {b : Nat} {w w' w'' : World} (h : Aside b w w') (k : Aside b w' w'') : Aside b w w'' :=
 ⟨k.os.trans h.os, k.tape.trans h.tape, k.output.trans h.output, Nat.le_trans h.size k.size, fun j hj hne => (k.block j (Nat.lt_of_lt_of_le hj h.size) hne).trans (h.block j hj hne)⟩
theorem dnext_err (s : ByteArray) (i r b room p : Nat) (c : Int) (w : World) (hs : s.size ≤ 90000) (hl : Lx w b s i) (hi : i ≤ s.size) (hr : Blk w r 77 #[.pointer (some ⟨b, 0, none⟩), .int .i64 room]) (hE : RangeErr w) (hne : r ≠ b) (hn : next s i = .err p c) (hc : (c == 0) = false) :
 Calls Tryz.prog 42 #[.pointer (some ⟨r, 0, none⟩)] w (FromGives (.err p c) b s w) := by
 have hW : Below w.heap.size w (w.alloc (.cells #[.int .i64 0, .bool false, .int .i64 0, .string ⟨#[]⟩, .slice none 0 0, .slice none 0 0] 43)) := (Below.refl _ _).alloc (Nat.le_refl _) _
 have HN := hid (next_any5 b s i (w.alloc (.cells #[.int .i64 0, .bool false, .int .i64 0, .string ⟨#[]⟩, .slice none 0 0, .slice none 0 0] 43)) hs (Blk.on hl hW (Blk.lt hl)) hi (hE.on hW))
 rw [hn] at HN
 have hR := hr.on hW hr.lt
 have y0 : (w.alloc (.cells #[.int .i64 0, .bool false, .int .i64 0, .string ⟨#[]⟩, .slice none 0 0, .slice none 0 0] 43)).cell? ⟨r, 0, none⟩ = some (.pointer (some ⟨b, 0, none⟩)) := hR.cell 0
 have hB1 : Blk (w.alloc (.cells #[.int .i64 0, .bool false, .int .i64 0, .string ⟨#[]⟩, .slice none 0 0, .slice none 0 0] 43)) w.heap.size 43 #[.int .i64 0, .bool false, .int .i64 0, .string ⟨#[]⟩, .slice none 0 0, .slice none 0 0] := Blk.new w _ _
 have hbw : b < w.heap.size := Blk.lt hl
 have HB1 := hid hB1
 have HW := hid hW
 clear hB1 hR hW hr hl hE hn
 go_enter Tryz.func42, Tryz.ntmps42
 go_wp2_with fail
 refine HN.out.mono ?_
 rintro e w2 ⟨rfl, hA, _⟩
 have hB1 := HB1.out.aside hA (by omega)
 have q0 : w2.cell? ⟨w.heap.size, 0, none⟩ = some (.int .i64 0) := hB1.cell 0
 have q1 : w2.cell? ⟨w.heap.size, 1, none⟩ = some (.bool false) := hB1.cell 1
 have q2 : w2.cell? ⟨w.heap.size, 2, none⟩ = some (.int .i64 0) := hB1.cell 2
 have q3 : w2.cell? ⟨w.heap.size, 3, none⟩ = some (.string ⟨#[]⟩) := hB1.cell 3
 have q4 : w2.cell? ⟨w.heap.size, 4, none⟩ = some (.slice none 0 0) := hB1.cell 4
 have q5 : w2.cell? ⟨w.heap.size, 5, none⟩ = some (.slice none 0 0) := hB1.cell 5
 have x0 := hB1.free 0
 have x1 := hB1.free 1
 have x2 := hB1.free 2
 have x3 := hB1.free 3
 have x4 := hB1.free 4
 have x5 := hB1.free 5
 have HA := hid ((Aside.of HW.out).trans_ hA)
 have HF := hid hB1
 have hlt2 : w.heap.size < w2.heap.size := hB1.lt
 have hne2 : w.heap.size ≠ w2.heap.size := by omega
 clear hB1 hA HB1 HN HW y0
 unfold Ans.val
 have q0' : (w2.alloc (.cells #[.int .i64 0, .string ⟨#[]⟩, .int .i64 0, .int .i64 0, .int .i64 0] 99)).cell? ⟨w.heap.size, 0, none⟩ = some (.int .i64 0) := (HF.out.alloc _).cell 0
 have q1' : (w2.alloc (.cells #[.int .i64 0, .string ⟨#[]⟩, .int .i64 0, .int .i64 0, .int .i64 0] 99)).cell? ⟨w.heap.size, 1, none⟩ = some (.bool false) := (HF.out.alloc _).cell 1
 have q2' : (w2.alloc (.cells #[.int .i64 0, .string ⟨#[]⟩, .int .i64 0, .int .i64 0, .int .i64 0] 99)).cell? ⟨w.heap.size, 2, none⟩ = some (.int .i64 0) := (HF.out.alloc _).cell 2
 have q3' : (w2.alloc (.cells #[.int .i64 0, .string ⟨#[]⟩, .int .i64 0, .int .i64 0, .int .i64 0] 99)).cell? ⟨w.heap.size, 3, none⟩ = some (.string ⟨#[]⟩) := (HF.out.alloc _).cell 3
 have q4' : (w2.alloc (.cells #[.int .i64 0, .string ⟨#[]⟩, .int .i64 0, .int .i64 0, .int .i64 0] 99)).cell? ⟨w.heap.size, 4, none⟩ = some (.slice none 0 0) := (HF.out.alloc _).cell 4
 have q5' : (w2.alloc (.cells #[.int .i64 0, .string ⟨#[]⟩, .int .i64 0, .int .i64 0, .int .i64 0] 99)).cell? ⟨w.heap.size, 5, none⟩ = some (.slice none 0 0) := (HF.out.alloc _).cell 5
 have x0' := (HF.out.alloc (.cells #[.int .i64 0, .string ⟨#[]⟩, .int .i64 0, .int .i64 0, .int .i64 0] 99)).free 0
 have x1' := (HF.out.alloc (.cells #[.int .i64 0, .string ⟨#[]⟩, .int .i64 0, .int .i64 0, .int .i64 0] 99)).free 1
 have x2' := (HF.out.alloc (.cells #[.int .i64 0, .string ⟨#[]⟩, .int .i64 0, .int .i64 0, .int .i64 0] 99)).free 2
 have x3' := (HF.out.alloc (.cells #[.int .i64 0, .string ⟨#[]⟩, .int .i64 0, .int .i64 0, .int .i64 0] 99)).free 3
 have x4' := (HF.out.alloc (.cells #[.int .i64 0, .string ⟨#[]⟩, .int .i64 0, .int .i64 0, .int .i64 0] 99)).free 4
 have x5' := (HF.out.alloc (.cells #[.int .i64 0, .string ⟨#[]⟩, .int .i64 0, .int .i64 0, .int .i64 0] 99)).free 5
 go_wp2_with fail
 have hF := res_put (w := w2) (g := w.heap.size) HF.out rfl T.zero none 0 none 0
 have hL2 : Aside b w ((((((w2.setCell ⟨w.heap.size, 0, none⟩ (.int .i64 0)).setCell ⟨w.heap.size, 1, none⟩ (.bool false)).setCell ⟨w.heap.size, 2, none⟩ (.int .i64 0)).setCell ⟨w.heap.size, 3, none⟩ (.string ⟨#[]⟩)).setCell ⟨w.heap.size, 4, none⟩ (.slice none 0 0)).setCell ⟨w.heap.size, 5, none⟩ (.slice none 0 0)) := (((((HA.out.far (Nat.le_refl _) _).far (Nat.le_refl _) _).far (Nat.le_refl _) _).far (Nat.le_refl _) _).far (Nat.le_refl _) _).far (Nat.le_refl _) _
 change Blk ((((((w2.setCell ⟨w.heap.size, 0, none⟩ (.int .i64 0)).setCell ⟨w.heap.size, 1, none⟩ (.bool false)).setCell ⟨w.heap.size, 2, none⟩ (.int .i64 0)).setCell ⟨w.heap.size, 3, none⟩ (.string ⟨#[]⟩)).setCell ⟨w.heap.size, 4, none⟩ (.slice none 0 0)).setCell ⟨w.heap.size, 5, none⟩ (.slice none 0 0)) _ _ _ at hF
 generalize ((((((w2.setCell ⟨w.heap.size, 0, none⟩ (.int .i64 0)).setCell ⟨w.heap.size, 1, none⟩ (.bool false)).setCell ⟨w.heap.size, 2, none⟩ (.int .i64 0)).setCell ⟨w.heap.size, 3, none⟩ (.string ⟨#[]⟩)).setCell ⟨w.heap.size, 4, none⟩ (.slice none 0 0)).setCell ⟨w.heap.size, 5, none⟩ (.slice none 0 0)) = V at *
 have hG := hF.alloc (.cells #[.int .i64 0, .string ⟨#[]⟩, .int .i64 0, .int .i64 0, .int .i64 0] 99)
 have m0 : (V.alloc (.cells #[.int .i64 0, .string ⟨#[]⟩, .int .i64 0, .int .i64 0, .int .i64 0] 99)).cell? ⟨w.heap.size, 0, none⟩ = some (.int .i64 0) := hG.cell 0
 have m1 : (V.alloc (.cells #[.int .i64 0, .string ⟨#[]⟩, .int .i64 0, .int .i64 0, .int .i64 0] 99)).cell? ⟨w.heap.size, 1, none⟩ = some (.bool false) := hG.cell 1
 have m2 : (V.alloc (.cells #[.int .i64 0, .string ⟨#[]⟩, .int .i64 0, .int .i64 0, .int .i64 0] 99)).cell? ⟨w.heap.size, 2, none⟩ = some (.int .i64 0) := hG.cell 2
 have m3 : (V.alloc (.cells #[.int .i64 0, .string ⟨#[]⟩, .int .i64 0, .int .i64 0, .int .i64 0] 99)).cell? ⟨w.heap.size, 3, none⟩ = some (.string ⟨#[]⟩) := hG.cell 3
 have m4 : (V.alloc (.cells #[.int .i64 0, .string ⟨#[]⟩, .int .i64 0, .int .i64 0, .int .i64 0] 99)).cell? ⟨w.heap.size, 4, none⟩ = some (.slice none 0 0) := hG.cell 4
 have m5 : (V.alloc (.cells #[.int .i64 0, .string ⟨#[]⟩, .int .i64 0, .int .i64 0, .int .i64 0] 99)).cell? ⟨w.heap.size, 5, none⟩ = some (.slice none 0 0) := hG.cell 5
 refine bodyPost_ret (v := .tuple #[T.zero.agg none 0 none 0, .int .i64 p, .int .i64 c]) (by simp [results, Tryz.results42, go_sem, T.agg, T.zero, T.kind, T.tr, T.num, T.str, T.items, T.keys, m0, m1, m2, m3, m4, m5]) rfl ?_
 exact ⟨rfl, hL2.trans_ (Aside.of ((Below.refl _ _).alloc (Nat.le_refl _) _))⟩
theorem dnext_tok (res : Rd.Res) (s : ByteArray) (i r b room : Nat) (t : Tok) (w : World) (hs : s.size ≤ 90000) (hl : Lx w b s i) (hi : i ≤ s.size) (hr : Blk w r 77 #[.pointer (some ⟨b, 0, none⟩), .int .i64 room]) (hE : RangeErr w) (hne : r ≠ b) (hn : next s i = .tok t) (ho : res ≠ .out)
 (hf : ∀ w', Aside b w w' → Lx w' b s t.fin → Calls Tryz.prog 62 #[.pointer (some ⟨r, 0, none⟩), .agg #[.int .i64 t.kind, .string t.text, .int .i64 t.num, .int .i64 t.at_, .int .i64 t.fin]] w' (FromGives res b s w')) :
 Calls Tryz.prog 42 #[.pointer (some ⟨r, 0, none⟩)] w (FromGives res b s w) := by
 have hW : Below w.heap.size w (w.alloc (.cells #[.int .i64 0, .bool false, .int .i64 0, .string ⟨#[]⟩, .slice none 0 0, .slice none 0 0] 43)) := (Below.refl _ _).alloc (Nat.le_refl _) _
 have HN := hid (next_any5 b s i (w.alloc (.cells #[.int .i64 0, .bool false, .int .i64 0, .string ⟨#[]⟩, .slice none 0 0, .slice none 0 0] 43)) hs (Blk.on hl hW (Blk.lt hl)) hi (hE.on hW))
 rw [hn] at HN
 have HPL := hid (show placeOf s i = t.fin by unfold Tk.placeOf; rw [hn])
 have hR := hr.on hW hr.lt
 have y0 : (w.alloc (.cells #[.int .i64 0, .bool false, .int .i64 0, .string ⟨#[]⟩, .slice none 0 0, .slice none 0 0] 43)).cell? ⟨r, 0, none⟩ = some (.pointer (some ⟨b, 0, none⟩)) := hR.cell 0
 have hB1 : Blk (w.alloc (.cells #[.int .i64 0, .bool false, .int .i64 0, .string ⟨#[]⟩, .slice none 0 0, .slice none 0 0] 43)) w.heap.size 43 #[.int .i64 0, .bool false, .int .i64 0, .string ⟨#[]⟩, .slice none 0 0, .slice none 0 0] := Blk.new w _ _
 have hbw : b < w.heap.size := Blk.lt hl
 have HB1 := hid hB1
 have HW := hid hW
 have HFR := hid hf
 clear hB1 hR hW hr hl hE hn hf
 go_enter Tryz.func42, Tryz.ntmps42
 go_wp2_with fail
 refine HN.out.mono ?_
 rintro e w2 ⟨rfl, hA, hlx⟩
 rw [HPL.out] at hlx
 have HB2 := hid ((HB1.out.aside hA (by omega)).alloc (.cells #[.int .i64 t.kind, .string t.text, .int .i64 t.num, .int .i64 t.at_, .int .i64 t.fin] 99))
 have hbel : Below w2.heap.size w2 (w2.alloc (.cells #[.int .i64 t.kind, .string t.text, .int .i64 t.num, .int .i64 t.at_, .int .i64 t.fin] 99)) := (Below.refl _ _).alloc (Nat.le_refl _) _
 have HA2 := hid (((Aside.of HW.out).trans_ hA).trans_ (Aside.of hbel))
 have HLX := hid (Blk.on hlx hbel (Blk.lt hlx))
 have hlt2 : w.heap.size < w2.heap.size := (HB1.out.aside hA (by omega)).lt
 clear hA HB1 HN HW y0 hlx HPL hbel
 unfold Ans.val
 go_wp2_with fail
 change Calls _ _ _ (w2.alloc (.cells #[.int .i64 t.kind, .string t.text, .int .i64 t.num, .int .i64 t.at_, .int .i64 t.fin] 99)) _
 generalize (w2.alloc (.cells #[.int .i64 t.kind, .string t.text, .int .i64 t.num, .int .i64 t.at_, .int .i64 t.fin] 99)) = W at *
 have hWlt : w.heap.size < W.heap.size := HB2.out.lt
 refine (HFR.out W HA2.out HLX.out).mono ?_
 clear HFR HLX
 intro e w3 hg
 cases res with
 | out => exact absurd rfl ho
 | err p c =>
  clear ho
  obtain ⟨rfl, hA2⟩ := hg
  have hB1 := HB2.out.aside hA2 (by omega)
  have q0 : w3.cell? ⟨w.heap.size, 0, none⟩ = some (.int .i64 0) := hB1.cell 0
  have q1 : w3.cell? ⟨w.heap.size, 1, none⟩ = some (.bool false) := hB1.cell 1
  have q2 : w3.cell? ⟨w.heap.size, 2, none⟩ = some (.int .i64 0) := hB1.cell 2
  have q3 : w3.cell? ⟨w.heap.size, 3, none⟩ = some (.string ⟨#[]⟩) := hB1.cell 3
  have q4 : w3.cell? ⟨w.heap.size, 4, none⟩ = some (.slice none 0 0) := hB1.cell 4
  have q5 : w3.cell? ⟨w.heap.size, 5, none⟩ = some (.slice none 0 0) := hB1.cell 5
  have x0 := hB1.free 0
  have x1 := hB1.free 1
  have x2 := hB1.free 2
  have x3 := hB1.free 3
  have x4 := hB1.free 4
  have x5 := hB1.free 5
  have HA3 := hid (HA2.out.trans_ hA2)
  have HF := hid hB1
  clear hB1 hA2 HB2 HA2
  unfold T.agg
  go_wp2_with fail
  have hF := res_put (w := w3) (g := w.heap.size) HF.out rfl T.zero none 0 none 0
  have hL2 : Aside b w ((((((w3.setCell ⟨w.heap.size, 0, none⟩ (.int .i64 T.zero.kind)).setCell ⟨w.heap.size, 1, none⟩ (.bool T.zero.tr)).setCell ⟨w.heap.size, 2, none⟩ (.int .i64 T.zero.num)).setCell ⟨w.heap.size, 3, none⟩ (.string T.zero.str)).setCell ⟨w.heap.size, 4, none⟩ (.slice none T.zero.items.length 0)).setCell ⟨w.heap.size, 5, none⟩ (.slice none T.zero.keys.length 0)) := (((((HA3.out.far (Nat.le_refl _) _).far (Nat.le_refl _) _).far (Nat.le_refl _) _).far (Nat.le_refl _) _).far (Nat.le_refl _) _).far (Nat.le_refl _) _
  change Blk ((((((w3.setCell ⟨w.heap.size, 0, none⟩ (.int .i64 T.zero.kind)).setCell ⟨w.heap.size, 1, none⟩ (.bool T.zero.tr)).setCell ⟨w.heap.size, 2, none⟩ (.int .i64 T.zero.num)).setCell ⟨w.heap.size, 3, none⟩ (.string T.zero.str)).setCell ⟨w.heap.size, 4, none⟩ (.slice none T.zero.items.length 0)).setCell ⟨w.heap.size, 5, none⟩ (.slice none T.zero.keys.length 0)) _ _ _ at hF
  generalize ((((((w3.setCell ⟨w.heap.size, 0, none⟩ (.int .i64 T.zero.kind)).setCell ⟨w.heap.size, 1, none⟩ (.bool T.zero.tr)).setCell ⟨w.heap.size, 2, none⟩ (.int .i64 T.zero.num)).setCell ⟨w.heap.size, 3, none⟩ (.string T.zero.str)).setCell ⟨w.heap.size, 4, none⟩ (.slice none T.zero.items.length 0)).setCell ⟨w.heap.size, 5, none⟩ (.slice none T.zero.keys.length 0)) = V at *
  have m0 : V.cell? ⟨w.heap.size, 0, none⟩ = some (.int .i64 T.zero.kind) := hF.cell 0
  have m1 : V.cell? ⟨w.heap.size, 1, none⟩ = some (.bool T.zero.tr) := hF.cell 1
  have m2 : V.cell? ⟨w.heap.size, 2, none⟩ = some (.int .i64 T.zero.num) := hF.cell 2
  have m3 : V.cell? ⟨w.heap.size, 3, none⟩ = some (.string T.zero.str) := hF.cell 3
  have m4 : V.cell? ⟨w.heap.size, 4, none⟩ = some (.slice none T.zero.items.length 0) := hF.cell 4
  have m5 : V.cell? ⟨w.heap.size, 5, none⟩ = some (.slice none T.zero.keys.length 0) := hF.cell 5
  refine bodyPost_ret (v := .tuple #[T.zero.agg none 0 none 0, .int .i64 p, .int .i64 c]) (by simp [results, Tryz.results42, go_sem, T.agg, T.zero, T.kind, T.tr, T.num, T.str, T.items, T.keys, m0, m1, m2, m3, m4, m5]) rfl ?_
  exact ⟨rfl, hL2⟩
 | val v fin =>
  clear ho
  obtain ⟨A, ca, A', ca', rfl, htv, hA2, hlx⟩ := hg
  have HTV := hid htv
  have HLX := hid hlx
  clear htv hlx
  have hB1 := HB2.out.aside hA2 (by omega)
  have q0 : w3.cell? ⟨w.heap.size, 0, none⟩ = some (.int .i64 0) := hB1.cell 0
  have q1 : w3.cell? ⟨w.heap.size, 1, none⟩ = some (.bool false) := hB1.cell 1
  have q2 : w3.cell? ⟨w.heap.size, 2, none⟩ = some (.int .i64 0) := hB1.cell 2
  have q3 : w3.cell? ⟨w.heap.size, 3, none⟩ = some (.string ⟨#[]⟩) := hB1.cell 3
  have q4 : w3.cell? ⟨w.heap.size, 4, none⟩ = some (.slice none 0 0) := hB1.cell 4
  have q5 : w3.cell? ⟨w.heap.size, 5, none⟩ = some (.slice none 0 0) := hB1.cell 5
  have x0 := hB1.free 0
  have x1 := hB1.free 1
  have x2 := hB1.free 2
  have x3 := hB1.free 3
  have x4 := hB1.free 4
  have x5 := hB1.free 5
  have HA3 := hid (HA2.out.trans_ hA2)
  have HF := hid hB1
  clear hB1 hA2 HB2 HA2
  unfold T.agg
  go_wp2_with fail
  have hF := res_put (w := w3) (g := w.heap.size) HF.out rfl v A ca A' ca'
  have hL2 : Aside b w ((((((w3.setCell ⟨w.heap.size, 0, none⟩ (.int .i64 v.kind)).setCell ⟨w.heap.size, 1, none⟩ (.bool v.tr)).setCell ⟨w.heap.size, 2, none⟩ (.int .i64 v.num)).setCell ⟨w.heap.size, 3, none⟩ (.string v.str)).setCell ⟨w.heap.size, 4, none⟩ (.slice A v.items.length ca)).setCell ⟨w.heap.size, 5, none⟩ (.slice A' v.keys.length ca')) := (((((HA3.out.far (Nat.le_refl _) _).far (Nat.le_refl _) _).far (Nat.le_refl _) _).far (Nat.le_refl _) _).far (Nat.le_refl _) _).far (Nat.le_refl _) _
  change Blk ((((((w3.setCell ⟨w.heap.size, 0, none⟩ (.int .i64 v.kind)).setCell ⟨w.heap.size, 1, none⟩ (.bool v.tr)).setCell ⟨w.heap.size, 2, none⟩ (.int .i64 v.num)).setCell ⟨w.heap.size, 3, none⟩ (.string v.str)).setCell ⟨w.heap.size, 4, none⟩ (.slice A v.items.length ca)).setCell ⟨w.heap.size, 5, none⟩ (.slice A' v.keys.length ca')) _ _ _ at hF
  have hside : Aside w.heap.size w3 ((((((w3.setCell ⟨w.heap.size, 0, none⟩ (.int .i64 v.kind)).setCell ⟨w.heap.size, 1, none⟩ (.bool v.tr)).setCell ⟨w.heap.size, 2, none⟩ (.int .i64 v.num)).setCell ⟨w.heap.size, 3, none⟩ (.string v.str)).setCell ⟨w.heap.size, 4, none⟩ (.slice A v.items.length ca)).setCell ⟨w.heap.size, 5, none⟩ (.slice A' v.keys.length ca')) := ((((((Aside.of (Below.refl _ _) : Aside w.heap.size w3 w3).set _).set _).set _).set _).set _).set _
  generalize ((((((w3.setCell ⟨w.heap.size, 0, none⟩ (.int .i64 v.kind)).setCell ⟨w.heap.size, 1, none⟩ (.bool v.tr)).setCell ⟨w.heap.size, 2, none⟩ (.int .i64 v.num)).setCell ⟨w.heap.size, 3, none⟩ (.string v.str)).setCell ⟨w.heap.size, 4, none⟩ (.slice A v.items.length ca)).setCell ⟨w.heap.size, 5, none⟩ (.slice A' v.keys.length ca')) = V at *
  have m0 : V.cell? ⟨w.heap.size, 0, none⟩ = some (.int .i64 v.kind) := hF.cell 0
  have m1 : V.cell? ⟨w.heap.size, 1, none⟩ = some (.bool v.tr) := hF.cell 1
  have m2 : V.cell? ⟨w.heap.size, 2, none⟩ = some (.int .i64 v.num) := hF.cell 2
  have m3 : V.cell? ⟨w.heap.size, 3, none⟩ = some (.string v.str) := hF.cell 3
  have m4 : V.cell? ⟨w.heap.size, 4, none⟩ = some (.slice A v.items.length ca) := hF.cell 4
  have m5 : V.cell? ⟨w.heap.size, 5, none⟩ = some (.slice A' v.keys.length ca') := hF.cell 5
  refine bodyPost_ret (v := .tuple #[v.agg A ca A' ca', .int .i64 0, .int .i64 0]) (by simp [results, Tryz.results42, go_sem, T.agg, T.kind, T.tr, T.num, T.str, T.items, T.keys, m0, m1, m2, m3, m4, m5]) rfl ?_
  exact ⟨A, ca, A', ca', rfl, (HTV.out.keep (fun q hq => hside.block q hq.2 (by have := hq.1; omega))).wide (fun q hq => ⟨by have := hq.1; omega, by have := hq.2; have := hside.size; omega⟩), hL2, Blk.aside HLX.out hside (by omega)⟩
open Go.RowKit
open Tk
structure Kept (S : Nat → Prop) (w w' : World) : Prop where
 os : w'.os = w.os
 tape : w'.tape = w.tape
 output : w'.output = w.output
 size : w.heap.size ≤ w'.heap.size
 block : ∀ k, k < w.heap.size → S k → w'.heap[k]? = w.heap[k]?
theorem Kept.refl (S : Nat → Prop) (w : World) : Kept S w w := ⟨rfl, rfl, rfl, Nat.le_refl _, fun _ _ _ => rfl⟩
theorem Kept.trans {S : Nat → Prop} {w w' w'' : World} (h : Kept S w w') (k : Kept S w' w'') : Kept S w w'' :=
 ⟨k.os.trans h.os, k.tape.trans h.tape, k.output.trans h.output, Nat.le_trans h.size k.size, fun i hi hs => (k.block i (Nat.lt_of_lt_of_le hi h.size) hs).trans (h.block i hi hs)⟩
theorem Kept.mono {S S' : Nat → Prop} {w w' : World} (h : Kept S w w') (hS : ∀ k, k < w.heap.size → S' k → S k) : Kept S' w w' := ⟨h.os, h.tape, h.output, h.size, fun i hi hs => h.block i hi (hS i hi hs)⟩
theorem Kept.of {S : Nat → Prop} {w w' : World} (h : Below w.heap.size w w') : Kept S w w' := ⟨h.os, h.tape, h.output, h.size, fun i hi _ => h.block i hi⟩
theorem Kept.side {S : Nat → Prop} {b : Nat} {w w' : World} (h : Aside b w w') (hS : ∀ k, S k → k ≠ b) : Kept S w w' := ⟨h.os, h.tape, h.output, h.size, fun i hi hs => h.block i hi (hS i hs)⟩
theorem Kept.set {S : Nat → Prop} {w w' : World} (h : Kept S w w') {p : Addr} (hp : ¬ S p.block ∨ w.heap.size ≤ p.block) (v : Value) : Kept S w (w'.setCell p v) :=
 ⟨h.os, h.tape, h.output, by simpa [World.setCell] using h.size, fun k hk hs => (Below.heap_setCell w' p v k (by rintro rfl; rcases hp with hp | hp; exact hp hs; omega)).trans (h.block k hk hs)⟩
theorem Kept.alloc {S : Nat → Prop} {w w' : World} (h : Kept S w w') (o : Obj) : Kept S w (w'.alloc o) := h.trans (.of ((Below.refl _ _).alloc (Nat.le_refl _) _))
theorem Kept.grown {S : Nat → Prop} {w w' w'' : World} {row : Option Nat} (h : Kept S w w') (g : w'.grownBy w'' row) (hr : ∀ k, row = some k → ¬ S k ∨ w.heap.size ≤ k) : Kept S w w'' :=
 ⟨g.os.trans h.os, g.tape.trans h.tape, g.output.trans h.output, Nat.le_trans h.size g.size, fun k hk hs => (g.block k (Nat.lt_of_lt_of_le hk h.size) (fun e => by rcases hr k e.symm with h1 | h1; exact h1 hs; omega)).trans (h.block k hk hs)⟩
theorem Kept.drew {S : Nat → Prop} {w w' : World} (h : Kept S w w') : Kept S w w'.drew := ⟨h.os, h.tape, h.output, h.size, h.block⟩
theorem Blk.kept {S : Nat → Prop} {w w' : World} {g : Nat} {t : TypeId} {cs : Array Value} (h : Blk w g t cs) (k : Kept S w w') (hS : S g) : Blk w' g t cs := (k.block g h.lt hS).trans h
theorem Kept.aside {S : Nat → Prop} {b : Nat} {w0 w w' : World} (h : Aside b w0 w) (k : Kept S w w') (hS : ∀ i, i < w0.heap.size → i ≠ b → S i) : Aside b w0 w' :=
 ⟨k.os.trans h.os, k.tape.trans h.tape, k.output.trans h.output, Nat.le_trans h.size k.size, fun i hi hne => (k.block i (Nat.lt_of_lt_of_le hi h.size) (hS i hi hne)).trans (h.block i hi hne)⟩
def ErrAt (b : Nat) (w : World) : Prop := ∃ wb, RangeErr wb ∧ wb.heap.size ≤ b ∧ Below wb.heap.size wb w
theorem ErrAt.of {b : Nat} {w : World} (h : RangeErr w) (hb : w.heap.size ≤ b) : ErrAt b w := ⟨w, h, hb, Below.refl _ _⟩
theorem ErrAt.err {b : Nat} {w : World} (h : ErrAt b w) : RangeErr w := by
 obtain ⟨wb, h1, _, h2⟩ := h
 exact h1.on h2
theorem ErrAt.kept {b : Nat} {S : Nat → Prop} {w w' : World} (h : ErrAt b w) (k : Kept S w w') (hS : ∀ i, i < b → S i) : ErrAt b w' := by
 obtain ⟨wb, h1, h2, h3⟩ := h
 exact ⟨wb, h1, h2, k.os.trans h3.os, k.tape.trans h3.tape, k.output.trans h3.output, Nat.le_trans h3.size k.size, fun i hi => (k.block i (Nat.lt_of_lt_of_le hi h3.size) (hS i (by omega))).trans (h3.block i hi)⟩
theorem ErrAt.side {b : Nat} {w w' : World} (h : ErrAt b w) (k : Aside b w w') : ErrAt b w' := h.kept (Kept.side (S := fun i => i < b) k (fun i hi => by omega)) (fun i hi => hi)
theorem ErrAt.onto {b : Nat} {w w' : World} (h : ErrAt b w) (k : Below w.heap.size w w') : ErrAt b w' := h.side (Aside.of k)
def FromT (s : ByteArray) (t : Tok) : Prop := ∃ i, i ≤ s.size ∧ next s i = .tok t
structure Parted {α : Type} (part : Nat → Tok → α → Rd.Gp α) (J : (Nat → Prop) → α → World → Prop) (f : FuncId) (q : Value) (b r N0 n0 : Nat) (s : ByteArray) (m : α → Nat) : Prop where
 stable : ∀ Y a w w', J Y a w → Kept (fun k => ¬ Y k ∧ k ≠ b) w w' → J (fun k => Y k ∨ (w.heap.size ≤ k ∧ k < w'.heap.size)) a w'
 reader : ∀ Y a w, J Y a w → ∃ room : Int, Blk w r 77 #[.pointer (some ⟨b, 0, none⟩), .int .i64 room]
 step : ∀ n Y t a w, n ≤ n0 → J Y a w → Lx w b s t.fin → ErrAt b w → Rd.Ok s t → FromT s t → 2 * (s.size - t.at_) + 1 ≤ n → m a ≤ t.at_ →
  Calls Tryz.prog f #[q, .agg #[.int .i64 t.kind, .string t.text, .int .i64 t.num, .int .i64 t.at_, .int .i64 t.fin]] w fun e w' => match part n t a with
   | .out => True
   | .err p c => e = .returned (.tuple #[.int .i64 p, .int .i64 c]) ∧ (c == 0) = false ∧ Kept (fun k => Y k ∨ k < N0 ∧ k ≠ b) w w'
   | .ok a' fin => e = .returned (.tuple #[.int .i64 0, .int .i64 0]) ∧ J Y a' w' ∧ Lx w' b s fin ∧ Kept (fun k => Y k ∨ k < N0 ∧ k ≠ b) w w'
def PartsGives {α : Type} (res : Rd.Gp α) (J : (Nat → Prop) → α → World → Prop) (Y : Nat → Prop) (b N0 : Nat) (s : ByteArray) (w : World) (e : Ending) (w' : World) : Prop := match res with
 | .out => True
 | .err p c => e = .returned (.tuple #[.int .i64 p, .int .i64 c]) ∧ (c == 0) = false ∧ Kept (fun k => Y k ∨ k < N0 ∧ k ≠ b) w w'
 | .ok a fin => e = .returned (.tuple #[.int .i64 0, .int .i64 0]) ∧ (∃ Y', (∀ k, Y k → Y' k) ∧ J Y' a w') ∧ Lx w' b s fin ∧ Kept (fun k => Y k ∨ k < N0 ∧ k ≠ b) w w'
def Rd.startF {α : Type} (part : Nat → Tok → α → Rd.Gp α) (s : ByteArray) (c n i : Nat) (a : α) : Rd.Gp α := match next s i with
 | .err p e => .err p e
 | .tok u => if Rd.isM u c then .ok a u.fin else Rd.loopF part s c n u a
open Go.RowKit
open Tk
def tokC (t : Tok) : Array Value := #[.int .i64 t.kind, .string t.text, .int .i64 t.num, .int .i64 t.at_, .int .i64 t.fin]
def tokAt (w : World) (T : Nat) : Nat := match w.cell? ⟨T, 3, none⟩ with | some (.int _ n) => n.toNat | _ => 0
theorem tokAt_of {w : World} {T : Nat} {t : Tok} (h : Blk w T 99 (tokC t)) : tokAt w T = t.at_ := by
 unfold tokAt
 rw [show w.cell? ⟨T, 3, none⟩ = some (.int .i64 t.at_) from h.cell 3]
 simp
def Between {α : Type} (part : Nat → Tok → α → Rd.Gp α) (J : (Nat → Prop) → α → World → Prop) (b N0 n0 : Nat) (s : ByteArray) (m : α → Nat) (c : Nat) (res : Rd.Gp α) (Y : Nat → Prop) (w : World) (T : Nat) (wr : World) : Prop :=
 ∃ (k : Nat) (t : Tok) (a : α) (Y' : Nat → Prop), (∀ i, Y i → Y' i) ∧ Y' T ∧ Blk wr T 99 (tokC t) ∧ J Y' a wr ∧ Lx wr b s t.fin ∧ ErrAt b wr ∧ Rd.Ok s t ∧ FromT s t ∧ m a ≤ t.at_ ∧ Rd.loopF part s c k t a = res ∧ 2 * (s.size - t.at_) + 2 ≤ k ∧ k ≤ n0 + 1 ∧ Kept (fun i => Y i ∨ i < N0 ∧ i ≠ b) w wr
theorem put5_kept {S : Nat → Prop} {w w' : World} {g : Nat} (h : Kept S w w') (hg : ¬ S g ∨ w.heap.size ≤ g) (v0 v1 v2 v3 v4 : Value) :
 Kept S w (((((w'.setCell ⟨g, 0, none⟩ v0).setCell ⟨g, 1, none⟩ v1).setCell ⟨g, 2, none⟩ v2).setCell ⟨g, 3, none⟩ v3).setCell ⟨g, 4, none⟩ v4) :=
 ((((h.set (p := ⟨g, 0, none⟩) hg v0).set (p := ⟨g, 1, none⟩) hg v1).set (p := ⟨g, 2, none⟩) hg v2).set (p := ⟨g, 3, none⟩) hg v3).set (p := ⟨g, 4, none⟩) hg v4
theorem put5_blk {w : World} {g : Nat} {v0 v1 v2 v3 v4 : Value} {t : TypeId} {u0 u1 u2 u3 u4 : Value} (h : Blk w g t #[u0, u1, u2, u3, u4]) :
 Blk (((((w.setCell ⟨g, 0, none⟩ v0).setCell ⟨g, 1, none⟩ v1).setCell ⟨g, 2, none⟩ v2).setCell ⟨g, 3, none⟩ v3).setCell ⟨g, 4, none⟩ v4) g t #[v0, v1, v2, v3, v4] :=
 ((((h.set_ 0 v0).set_ 1 v1).set_ 2 v2).set_ 3 v3).set_ 4 v4
theorem parts_any {α : Type} {part : Nat → Tok → α → Rd.Gp α} {J : (Nat → Prop) → α → World → Prop} {f : FuncId} {q : Value} {b r N0 n0 : Nat} {s : ByteArray} {m : α → Nat} (P : Parted part J f q b r N0 n0 s m) (G : Rd.Good part m s)
 (hen : ∀ args w, (callFunc f args).run Tryz.prog w = .ok (.enter f args) w) (c : Nat) (hs : s.size ≤ 90000) (hbN : b < N0) (hrb : r ≠ b) (n i : Nat) (hn : n ≤ n0 + 1) (Y : Nat → Prop) (a : α) (w : World) (hJ : J Y a w) (hL : Lx w b s i) (hE : ErrAt b w) (hi : i ≤ s.size) (hnn : 2 * (s.size - i) + 2 ≤ n) (hm : m a ≤ i) (hN0 : N0 ≤ w.heap.size) (hYb : ¬ Y b) :
 Calls Tryz.prog 101 #[.pointer (some ⟨r, 0, none⟩), .string (Tk.one c), .func (.func f) #[q] #[]] w (PartsGives (Rd.startF part s c n i a) J Y b N0 s w) := by
 obtain ⟨room, hR⟩ := P.reader Y a w hJ
 have y0 : w.cell? ⟨r, 0, none⟩ = some (.pointer (some ⟨b, 0, none⟩)) := hR.cell 0
 have HN := hid (next_any5 b s i w hs hL hi hE.err)
 have HEN := hid (fun p c (h : next s i = .err p c) => err_num s (span isBl s i) p c h)
 have HPL := hid (show placeOf s i = match next s i with | .tok t => t.fin | .err _ _ => i from rfl)
 have HOK := hid (fun t (h : next s i = .tok t) => Rd.ok_next hi h)
 have HFT := hid (fun t (h : next s i = .tok t) => (⟨i, hi, h⟩ : FromT s t))
 have HP := hid P
 have HG := hid G
 have HJ := hid hJ
 have HE := hid hE
 have HRES := hid (show Rd.startF part s c n i a = match next s i with | .err p e => .err p e | .tok u => if Rd.isM u c then .ok a u.fin else Rd.loopF part s c n u a from rfl)
 have hbw : b < w.heap.size := Blk.lt hL
 have HYB := hid (show ∀ k, Y k → k ≠ b from fun k hk e => hYb (e ▸ hk))
 generalize hres : Rd.startF part s c n i a = res at *
 generalize next s i = nx at *
 generalize placeOf s i = pl at *
 clear P G hJ hE hL hR hres
 go_enter Tryz.func101, Tryz.ntmps101
 go_wp2_with fail
 refine HN.out.mono ?_
 rintro e w2 ⟨rfl, hA, hlx⟩
 have HA := hid hA
 have hsz : w.heap.size ≤ w2.heap.size := hA.size
 have HLX := hid hlx
 clear hA hlx HN y0
 cases nx with
 | err p e =>
  have hc0 := HEN.out p e rfl
  have v1 : (e != 0) = true := by rw [bne_iff_ne]; omega
  have v0 : (e == 0) = false := by rw [beq_eq_false_iff_ne]; omega
  have v2 : ¬ e = 0 := by omega
  unfold Ans.val
  go_wp2_with fail
  refine bodyPost_ret (v := .tuple #[.int .i64 p, .int .i64 e]) (by simp [results, Tryz.results101, go_sem]) rfl ?_
  rw [HRES.out]
  exact ⟨rfl, v0, (Kept.side HA.out (fun k hk => by rcases hk with hk | hk; exact HYB.out k hk; exact hk.2)).alloc _⟩
 | tok t =>
  obtain ⟨hok, hat⟩ := HOK.out t rfl
  have hpl : pl = t.fin := HPL.out
  subst hpl
  have HK := hid hok
  have HFt := hid (HFT.out t rfl)
  have hY1 := HP.out.stable Y a w _ HJ.out ((Kept.side HA.out (fun k hk => hk.2)).alloc (.cells (tokC t) 99))
  have hE1 : ErrAt b (w2.alloc (.cells (tokC t) 99)) := (HE.out.side HA.out).onto ((Below.refl _ _).alloc (Nat.le_refl _) _)
  have hL1 : Lx (w2.alloc (.cells (tokC t) 99)) b s t.fin := Blk.alloc HLX.out _
  have hB1 : Blk (w2.alloc (.cells (tokC t) 99)) w2.heap.size 99 (tokC t) := Blk.new w2 _ _
  have hK1 : Kept (fun i => Y i ∨ i < N0 ∧ i ≠ b) w (w2.alloc (.cells (tokC t) 99)) := (Kept.side HA.out (fun k hk => by rcases hk with hk | hk; exact HYB.out k hk; exact hk.2)).alloc _
  clear hok HJ HA HE HLX HOK HPL HEN
  unfold Ans.val
  go_wp2_with fail
  change Calls _ _ _ (w2.alloc (.cells (tokC t) 99)) _
  have hsW : (w2.alloc (.cells (tokC t) 99)).heap.size = w2.heap.size + 1 := by simp
  generalize (w2.alloc (.cells (tokC t) 99)) = W at *
  generalize w2.heap.size = T at *
  have HY1 := hid hY1
  have HE1 := hid hE1
  have HL1 := hid hL1
  have HB1 := hid hB1
  have HK1 := hid hK1
  clear hY1 hE1 hL1 hB1 hK1
  by_cases hM : Rd.isM t c
  ·
   refine (ismark_t t _ hM _).mono ?_
   rintro e w3 ⟨rfl, hb3⟩
   go_wp2_with fail
   refine bodyPost_ret (v := .tuple #[.int .i64 0, .int .i64 0]) (by simp [results, Tryz.results101, go_sem]) rfl ?_
   rw [HRES.out, if_pos hM]
   exact ⟨rfl, ⟨_, fun k hk => .inl (.inl hk), HP.out.stable _ _ _ _ HY1.out (Kept.of hb3)⟩, Blk.onto HL1.out hb3, HK1.out.trans (Kept.of hb3)⟩
  ·
   refine (ismark_f t _ hM _).mono ?_
   rintro e w3 ⟨rfl, hb3⟩
   have HBT := hid (show Between part J b N0 n0 s m c res Y w T w3 from ⟨n, t, a, _, fun k hk => .inl (.inl hk), .inl (.inr ⟨hsz, by omega⟩), HB1.out.onto hb3, HP.out.stable _ _ _ _ HY1.out (Kept.of hb3), Blk.onto HL1.out hb3, HE1.out.onto hb3, HK.out, HFt.out, by omega, by
    rw [HRES.out, if_neg hM], by omega, hn, HK1.out.trans (Kept.of hb3)⟩)
   clear HY1 HE1 HL1 HB1 HK1 hb3 HRES HK hM hat
   go_wp2_with fail
   go_loopw [9, 10] (fun pl er wr => pl = .int .i64 0 ∧ er = .int .i64 0 ∧ Between part J b N0 n0 s m c res Y w T wr) (fun _ _ wr => s.size - tokAt wr T)
   case atStart => exact ⟨rfl, rfl, HBT.out⟩
   case round =>
    obtain ⟨rfl, rfl, k, t, a, Y', hY', hYT, hbt, hj, hl, he, hok, hft, hma, hlp, hk2, hkn, hkept⟩ := hrel
    have hmeas : tokAt wr T = t.at_ := tokAt_of hbt
    obtain ⟨k, rfl⟩ : ∃ k', k = k' + 1 := ⟨k - 1, by omega⟩
    have HY' := hid hY'
    have HST := hid (HP.out.step k Y' t a wr (by omega) hj hl he hok hft (by omega) hma)
    have hgood := HG.out k t a hok (by omega)
    have HBt := hid hbt
    have HEr := hid he
    have HKr := hid hkept
    have HMe := hid hmeas
    unfold Rd.loopF at hlp
    have HLP := hid hlp
    have hTr : T < wr.heap.size := hbt.lt
    have p0 : wr.cell? ⟨T, 0, none⟩ = some (.int .i64 t.kind) := hbt.cell 0
    have p1 : wr.cell? ⟨T, 1, none⟩ = some (.string t.text) := hbt.cell 1
    have p2 : wr.cell? ⟨T, 2, none⟩ = some (.int .i64 t.num) := hbt.cell 2
    have p3 : wr.cell? ⟨T, 3, none⟩ = some (.int .i64 t.at_) := hbt.cell 3
    have p4 : wr.cell? ⟨T, 4, none⟩ = some (.int .i64 t.fin) := hbt.cell 4
    clear hj hl he hbt hkept hlp hY' hmeas HBT
    go_wp2_with fail
    refine HST.out.mono ?_
    intro e w4 hg
    clear HST p0 p1 p2 p3 p4
    cases hp : part k t a with
    | out => exact absurd hp hgood.1
    | err p e =>
     rw [hp] at hg HLP
     obtain ⟨rfl, hc0, hk4⟩ := hg
     have v1 : (e != 0) = true := by rw [bne, hc0]; rfl
     have v2 : ¬ e = 0 := by simpa using hc0
     go_wp2_with fail
     refine bodyPost_ret (v := .tuple #[.int .i64 p, .int .i64 e]) (by simp [results, Tryz.results101, go_sem]) rfl ?_
     rw [← HLP.out]
     exact ⟨rfl, hc0, HKr.out.trans (hk4.mono fun i _ hi => hi.imp (HY'.out i) id)⟩
    | ok a' fin =>
     rw [hp] at hg HLP
     obtain ⟨hf1, hf2, hf3⟩ := hgood.2 a' fin hp
     dsimp only at HLP
     obtain ⟨rfl, hj4, hl4, hk4⟩ := hg
     obtain ⟨room4, hR4⟩ := HP.out.reader Y' a' w4 hj4
     have y0 : w4.cell? ⟨r, 0, none⟩ = some (.pointer (some ⟨b, 0, none⟩)) := hR4.cell 0
     have he4 : ErrAt b w4 := HEr.out.kept hk4 (fun i hi => .inr ⟨by omega, by omega⟩)
     have HN := hid (next_any5 b s fin w4 hs hl4 hf2 he4.err)
     have HEN := hid (fun p c (h : next s fin = .err p c) => err_num s (span isBl s fin) p c h)
     have HPL := hid (show placeOf s fin = match next s fin with | .tok t => t.fin | .err _ _ => fin from rfl)
     have HOK := hid (fun t (h : next s fin = .tok t) => Rd.ok_next hf2 h)
     have HE4 := hid he4
     have HJ4 := hid hj4
     have HB4 := hid (HBt.out.kept hk4 (.inl hYT))
     have HK4 := hid (HKr.out.trans (hk4.mono fun i _ hi => hi.imp (HY'.out i) id))
     have hTb : T ≠ b := fun e => by omega
     generalize next s fin = nx at *
     generalize placeOf s fin = pl at *
     clear hj4 hl4 hk4 he4 hR4 hp HEr HBt HKr
     go_wp2_with fail
     refine HN.out.mono ?_
     rintro e w5 ⟨rfl, hA, hlx⟩
     have hB5 := HB4.out.aside hA hTb
     have HE5 := hid (HE4.out.side hA)
     have HLX := hid hlx
     have HS5 := hid (show Kept (fun k => ¬ Y' k ∧ k ≠ b) w4 w5 from Kept.side hA (fun k hk => hk.2))
     have HK5 := hid (HK4.out.trans (Kept.side hA (fun k hk => by rcases hk with hk | hk; exact HYB.out k hk; exact hk.2)))
     have HB5 := hid hB5
     have x0 := hB5.free 0
     have x1 := hB5.free 1
     have x2 := hB5.free 2
     have x3 := hB5.free 3
     have x4 := hB5.free 4
     have z0 : w5.cell? ⟨T, 0, none⟩ = some (.int .i64 t.kind) := hB5.cell 0
     have z1 : w5.cell? ⟨T, 1, none⟩ = some (.string t.text) := hB5.cell 1
     have z2 : w5.cell? ⟨T, 2, none⟩ = some (.int .i64 t.num) := hB5.cell 2
     have z3 : w5.cell? ⟨T, 3, none⟩ = some (.int .i64 t.at_) := hB5.cell 3
     have z4 : w5.cell? ⟨T, 4, none⟩ = some (.int .i64 t.fin) := hB5.cell 4
     clear hA hlx HN HE4 hB5 HB4 HK4 y0
     cases nx with
     | err p e =>
      have hc0 := HEN.out p e rfl
      have v1 : (e != 0) = true := by rw [bne_iff_ne]; omega
      have v0 : (e == 0) = false := by rw [beq_eq_false_iff_ne]; omega
      have v2 : ¬ e = 0 := by omega
      unfold Ans.val
      go_wp2_with fail
      refine bodyPost_ret (v := .tuple #[.int .i64 p, .int .i64 e]) (by simp [results, Tryz.results101, go_sem]) rfl ?_
      rw [← HLP.out]
      exact ⟨rfl, v0, put5_kept HK5.out (.inr hsz) _ _ _ _ _⟩
     | tok u =>
      obtain ⟨hok5, hat5⟩ := HOK.out u rfl
      have hpl : pl = u.fin := HPL.out
      subst hpl
      have HO5 := hid hok5
      dsimp only at HLP
      clear hok5 HEN HPL HOK
      unfold Ans.val
      go_wp2_with fail
      have hB6 : Blk (((((w5.setCell ⟨T, 0, none⟩ (.int .i64 u.kind)).setCell ⟨T, 1, none⟩ (.string u.text)).setCell ⟨T, 2, none⟩ (.int .i64 u.num)).setCell ⟨T, 3, none⟩ (.int .i64 u.at_)).setCell ⟨T, 4, none⟩ (.int .i64 u.fin)) T 99 (tokC u) := put5_blk HB5.out
      have hL6 : Lx (((((w5.setCell ⟨T, 0, none⟩ (.int .i64 u.kind)).setCell ⟨T, 1, none⟩ (.string u.text)).setCell ⟨T, 2, none⟩ (.int .i64 u.num)).setCell ⟨T, 3, none⟩ (.int .i64 u.at_)).setCell ⟨T, 4, none⟩ (.int .i64 u.fin)) b s u.fin := Blk.put5 HLX.out (Ne.symm hTb) _ _ _ _ _
      have hK6 : Kept (fun i => Y i ∨ i < N0 ∧ i ≠ b) w (((((w5.setCell ⟨T, 0, none⟩ (.int .i64 u.kind)).setCell ⟨T, 1, none⟩ (.string u.text)).setCell ⟨T, 2, none⟩ (.int .i64 u.num)).setCell ⟨T, 3, none⟩ (.int .i64 u.at_)).setCell ⟨T, 4, none⟩ (.int .i64 u.fin)) := put5_kept HK5.out (.inr hsz) _ _ _ _ _
      have hE6 : ErrAt b (((((w5.setCell ⟨T, 0, none⟩ (.int .i64 u.kind)).setCell ⟨T, 1, none⟩ (.string u.text)).setCell ⟨T, 2, none⟩ (.int .i64 u.num)).setCell ⟨T, 3, none⟩ (.int .i64 u.at_)).setCell ⟨T, 4, none⟩ (.int .i64 u.fin)) := HE5.out.kept (S := fun i => i ≠ T) (put5_kept (Kept.refl _ _) (.inl (fun h => h rfl)) _ _ _ _ _) (fun i hi => by omega)
      have hJ6 := HP.out.stable Y' a' w4 (((((w5.setCell ⟨T, 0, none⟩ (.int .i64 u.kind)).setCell ⟨T, 1, none⟩ (.string u.text)).setCell ⟨T, 2, none⟩ (.int .i64 u.num)).setCell ⟨T, 3, none⟩ (.int .i64 u.at_)).setCell ⟨T, 4, none⟩ (.int .i64 u.fin)) HJ4.out (put5_kept HS5.out (.inl (fun h => h.1 hYT)) _ _ _ _ _)
      change Calls _ _ _ (((((w5.setCell ⟨T, 0, none⟩ (.int .i64 u.kind)).setCell ⟨T, 1, none⟩ (.string u.text)).setCell ⟨T, 2, none⟩ (.int .i64 u.num)).setCell ⟨T, 3, none⟩ (.int .i64 u.at_)).setCell ⟨T, 4, none⟩ (.int .i64 u.fin)) _
      generalize (((((w5.setCell ⟨T, 0, none⟩ (.int .i64 u.kind)).setCell ⟨T, 1, none⟩ (.string u.text)).setCell ⟨T, 2, none⟩ (.int .i64 u.num)).setCell ⟨T, 3, none⟩ (.int .i64 u.at_)).setCell ⟨T, 4, none⟩ (.int .i64 u.fin)) = W6 at *
      have HB6 := hid hB6
      have HL6 := hid hL6
      have HK6 := hid hK6
      have HE6 := hid hE6
      have HJ6 := hid hJ6
      clear hB6 hL6 hK6 hE6 hJ6 HB5 HLX HK5 HE5 HJ4 HS5 x0 x1 x2 x3 x4 z0 z1 z2 z3 z4
      by_cases hM : Rd.isM u c
      ·
       refine (ismark_t u _ hM _).mono ?_
       rintro e w7 ⟨rfl, hb7⟩
       go_wp2_with fail
       refine bodyPost_ret (v := .tuple #[.int .i64 0, .int .i64 0]) (by simp [results, Tryz.results101, go_sem]) rfl ?_
       rw [← HLP.out]
       try dsimp only
       rw [if_pos hM]
       exact ⟨rfl, ⟨_, fun k hk => .inl (.inl (HY'.out k hk)), HP.out.stable _ _ _ _ HJ6.out (Kept.of hb7)⟩, Blk.onto HL6.out hb7, HK6.out.trans (Kept.of hb7)⟩
      ·
       refine (ismark_f u _ hM _).mono ?_
       rintro e w7 ⟨rfl, hb7⟩
       have hB7 := HB6.out.onto hb7
       have HJ7 := hid (HP.out.stable _ _ _ _ HJ6.out (Kept.of hb7))
       have HL7 := hid (show Lx w7 b s u.fin from Blk.onto HL6.out hb7)
       have HE7 := hid (HE6.out.onto hb7)
       have HK7 := hid (HK6.out.trans (Kept.of hb7))
       have HB7 := hid hB7
       have p0 : w7.cell? ⟨T, 0, none⟩ = some (.int .i64 u.kind) := hB7.cell 0
       have p1 : w7.cell? ⟨T, 1, none⟩ = some (.string u.text) := hB7.cell 1
       have p2 : w7.cell? ⟨T, 2, none⟩ = some (.int .i64 u.num) := hB7.cell 2
       have p3 : w7.cell? ⟨T, 3, none⟩ = some (.int .i64 u.at_) := hB7.cell 3
       have p4 : w7.cell? ⟨T, 4, none⟩ = some (.int .i64 u.fin) := hB7.cell 4
       clear hB7 hb7 HB6 HL6 HK6 HE6 HJ6
       go_wp2_with fail
       by_cases hM2 : Rd.isM u 44
       ·
        refine (ismark_t u ⟨#[44]⟩ hM2 _).mono ?_
        rintro e w8 ⟨rfl, hb8⟩
        have HB8 := hid (HB7.out.onto hb8)
        have hJ8 := HP.out.stable _ _ _ _ HJ7.out (Kept.of hb8)
        have hL8 : Lx w8 b s u.fin := Blk.onto HL7.out hb8
        have hE8 := HE7.out.onto hb8
        have HK8 := hid (HK7.out.trans (Kept.of hb8))
        clear hb8 HB7 HJ7 HL7 HE7 HK7 p0 p1 p2 p3 p4
        obtain ⟨room8, hR8⟩ := HP.out.reader _ a' w8 hJ8
        have y0 : w8.cell? ⟨r, 0, none⟩ = some (.pointer (some ⟨b, 0, none⟩)) := hR8.cell 0
        have hu2 := HO5.out.2.1
        have HN := hid (next_any5 b s u.fin w8 hs hL8 hu2 hE8.err)
        have HEN := hid (fun p c (h : next s u.fin = .err p c) => err_num s (span isBl s u.fin) p c h)
        have HPL := hid (show placeOf s u.fin = match next s u.fin with | .tok t => t.fin | .err _ _ => u.fin from rfl)
        have HOK := hid (fun t (h : next s u.fin = .tok t) => Rd.ok_next hu2 h)
        have HFT := hid (fun t (h : next s u.fin = .tok t) => (⟨u.fin, hu2, h⟩ : FromT s t))
        have HE8 := hid hE8
        have HJ8 := hid hJ8
        have hbw8 : b < w8.heap.size := Blk.lt hL8
        generalize next s u.fin = nx at *
        generalize placeOf s u.fin = pl at *
        clear hJ8 hL8 hE8 hR8
        go_wp2_with fail
        refine HN.out.mono ?_
        rintro e w9 ⟨rfl, hA, hlx⟩
        have hB9 := HB8.out.aside hA hTb
        have HE9 := hid (HE8.out.side hA)
        have HLX := hid hlx
        have HS9 := hid (show ∀ S : Nat → Prop, (∀ k, S k → k ≠ b) → Kept S w8 w9 from fun S h => Kept.side hA h)
        have HK9 := hid (HK8.out.trans (Kept.side hA (fun k hk => by rcases hk with hk | hk; exact HYB.out k hk; exact hk.2)))
        have HB9 := hid hB9
        have x0 := hB9.free 0
        have x1 := hB9.free 1
        have x2 := hB9.free 2
        have x3 := hB9.free 3
        have x4 := hB9.free 4
        have z0 : w9.cell? ⟨T, 0, none⟩ = some (.int .i64 u.kind) := hB9.cell 0
        have z1 : w9.cell? ⟨T, 1, none⟩ = some (.string u.text) := hB9.cell 1
        have z2 : w9.cell? ⟨T, 2, none⟩ = some (.int .i64 u.num) := hB9.cell 2
        have z3 : w9.cell? ⟨T, 3, none⟩ = some (.int .i64 u.at_) := hB9.cell 3
        have z4 : w9.cell? ⟨T, 4, none⟩ = some (.int .i64 u.fin) := hB9.cell 4
        clear hA hlx HN HE8 hB9 HB8 HK8 y0
        cases nx with
        | err p e =>
         have hc0 := HEN.out p e rfl
         have v1 : (e != 0) = true := by rw [bne_iff_ne]; omega
         have v0 : (e == 0) = false := by rw [beq_eq_false_iff_ne]; omega
         have v2 : ¬ e = 0 := by omega
         unfold Ans.val
         go_wp2_with fail
         refine bodyPost_ret (v := .tuple #[.int .i64 p, .int .i64 e]) (by simp [results, Tryz.results101, go_sem]) rfl ?_
         rw [← HLP.out]
         try dsimp only
         rw [if_neg hM, if_neg (fun h => h hM2)]
         exact ⟨rfl, v0, put5_kept HK9.out (.inr hsz) _ _ _ _ _⟩
        | tok x =>
         obtain ⟨hok9, hat9⟩ := HOK.out x rfl
         have hpl : pl = x.fin := HPL.out
         subst hpl
         have HO9 := hid hok9
         have HF9 := hid (HFT.out x rfl)
         clear hok9 HEN HPL HOK
         unfold Ans.val
         go_wp2_with fail
         have hB10 : Blk (((((w9.setCell ⟨T, 0, none⟩ (.int .i64 x.kind)).setCell ⟨T, 1, none⟩ (.string x.text)).setCell ⟨T, 2, none⟩ (.int .i64 x.num)).setCell ⟨T, 3, none⟩ (.int .i64 x.at_)).setCell ⟨T, 4, none⟩ (.int .i64 x.fin)) T 99 (tokC x) := put5_blk HB9.out
         have hL10 : Lx (((((w9.setCell ⟨T, 0, none⟩ (.int .i64 x.kind)).setCell ⟨T, 1, none⟩ (.string x.text)).setCell ⟨T, 2, none⟩ (.int .i64 x.num)).setCell ⟨T, 3, none⟩ (.int .i64 x.at_)).setCell ⟨T, 4, none⟩ (.int .i64 x.fin)) b s x.fin := Blk.put5 HLX.out (Ne.symm hTb) _ _ _ _ _
         have hK10 : Kept (fun i => Y i ∨ i < N0 ∧ i ≠ b) w (((((w9.setCell ⟨T, 0, none⟩ (.int .i64 x.kind)).setCell ⟨T, 1, none⟩ (.string x.text)).setCell ⟨T, 2, none⟩ (.int .i64 x.num)).setCell ⟨T, 3, none⟩ (.int .i64 x.at_)).setCell ⟨T, 4, none⟩ (.int .i64 x.fin)) := put5_kept HK9.out (.inr hsz) _ _ _ _ _
         have hE10 : ErrAt b (((((w9.setCell ⟨T, 0, none⟩ (.int .i64 x.kind)).setCell ⟨T, 1, none⟩ (.string x.text)).setCell ⟨T, 2, none⟩ (.int .i64 x.num)).setCell ⟨T, 3, none⟩ (.int .i64 x.at_)).setCell ⟨T, 4, none⟩ (.int .i64 x.fin)) := HE9.out.kept (S := fun i => i ≠ T) (put5_kept (Kept.refl _ _) (.inl (fun h => h rfl)) _ _ _ _ _) (fun i hi => by omega)
         have hJ10 := HP.out.stable _ a' w8 (((((w9.setCell ⟨T, 0, none⟩ (.int .i64 x.kind)).setCell ⟨T, 1, none⟩ (.string x.text)).setCell ⟨T, 2, none⟩ (.int .i64 x.num)).setCell ⟨T, 3, none⟩ (.int .i64 x.at_)).setCell ⟨T, 4, none⟩ (.int .i64 x.fin)) HJ8.out (put5_kept (HS9.out _ (fun k hk => hk.2)) (.inl (fun h => h.1 (.inl (.inl (.inl hYT))))) _ _ _ _ _)
         generalize (((((w9.setCell ⟨T, 0, none⟩ (.int .i64 x.kind)).setCell ⟨T, 1, none⟩ (.string x.text)).setCell ⟨T, 2, none⟩ (.int .i64 x.num)).setCell ⟨T, 3, none⟩ (.int .i64 x.at_)).setCell ⟨T, 4, none⟩ (.int .i64 x.fin)) = W10 at *
         go_roundw
         case rel => exact ⟨rfl, rfl, k, x, a', _, fun i hi => .inl (.inl (.inl (.inl (HY'.out i hi)))), .inl (.inl (.inl (.inl hYT))), hB10, hJ10, hL10, hE10, HO9.out, HF9.out, by have := HO5.out.1; omega, by
          rw [← HLP.out]; try dsimp only
          rw [if_neg hM, if_neg (fun h => h hM2)], by have := HO5.out.1; have := HO9.out.1; have := HO9.out.2.1; omega, by omega, hK10⟩
         case measure =>
          rw [tokAt_of hB10, HMe.out]
          have := HO5.out.1; have := HO9.out.1; have := HO9.out.2.1; omega
       ·
        refine (ismark_f u ⟨#[44]⟩ hM2 _).mono ?_
        rintro e w8 ⟨rfl, hb8⟩
        have q3 : w8.cell? ⟨T, 3, none⟩ = some (.int .i64 u.at_) := (HB7.out.onto hb8).cell 3
        go_wp2_with fail
        refine bodyPost_ret (v := .tuple #[.int .i64 u.at_, .int .i64 1]) (by simp [results, Tryz.results101, go_sem]) rfl ?_
        rw [← HLP.out]
        try dsimp only
        rw [if_neg hM, if_pos hM2]
        exact ⟨rfl, rfl, HK7.out.trans (Kept.of hb8)⟩
end Go.Proofs.YtgblenoaeanogaaGreatDoor
