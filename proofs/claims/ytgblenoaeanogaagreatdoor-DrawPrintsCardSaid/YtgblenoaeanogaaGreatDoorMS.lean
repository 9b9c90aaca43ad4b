/- A whole text's value: contract of the program's reader. Parse and Fits: contracts of the program's. The law's fixed fact: the document's example is read: contract. -/
import Derived.Test.YtgblenoaeanogaaGreatDoorMR
set_option linter.unusedVariables false
set_option maxRecDepth 100000
set_option maxHeartbeats 8000000
open Go.Lib (hid)
namespace Go.Proofs.YtgblenoaeanogaaGreatDoor
open Go.RowKit Go.Maps Go.Sort
open Tk
def WGives (res : Rd.Res) (b : Nat) (w : World) (e : Ending) (w' : World) : Prop := match res with
 | .out => True
 | .err p c => e = .returned (.tuple #[T.zero.agg none 0 none 0, .int .i64 p, .int .i64 c]) ∧ Aside b w w'
 | .val v _ => ∃ A c A' c', e = .returned (.tuple #[v.agg A c A' c', .int .i64 0, .int .i64 0]) ∧ TV w' (fun q => w.heap.size ≤ q ∧ q < w'.heap.size) v A c A' c' ∧ Aside b w w'
theorem whole_next (s : ByteArray) (room : Nat) : Rd.whole Rd.Ob s room = match Rd.nextF Rd.Ob s (Rd.many s) room 0 with
 | .out => .out
 | .err p c => .err p c
 | .val v e => match next s e with
  | .err p c => .err p c
  | .tok u => if u.kind = 0 then .val v 0 else .err u.at_ 1 := by
 unfold Rd.whole Rd.nextF
 cases next s 0 with
 | err p c => rfl
 | tok t => rfl
theorem next_fin {s : ByteArray} {room i : Nat} {v : T} {e : Nat} (hi : i ≤ s.size) (n : Nat) (hn : 2 * (s.size - i) + 1 ≤ n) (h : Rd.nextF Rd.Ob s n room i = .val v e) : e ≤ s.size := by
 unfold Rd.nextF at h
 split at h
 · cases h
 ·
  rename_i t ht
  obtain ⟨ho, hle⟩ := Rd.ok_next hi ht
  exact (((Rd.enough Rd.Ob s n).1 room t ho (by omega)).2 v e h).2
theorem whole_any (s : ByteArray) (hs : s.size ≤ 90000) (room : Nat) (hroom : room ≤ 1000) (r b : Nat) (w : World) (hr : Blk w r 77 #[.pointer (some ⟨b, 0, none⟩), .int .i64 room]) (hL : Lx w b s 0) (hE : ErrAt b w) (hrb : r ≠ b) :
 Calls Tryz.prog 32 #[.pointer (some ⟨r, 0, none⟩)] w (WGives (Rd.whole Rd.Ob s room) b w) := by
 have HN := hid (fun W => next_says (from_at s hs (Rd.many s)) room 0 r b hroom W hs (Nat.zero_le _) (by unfold Rd.many; omega))
 have HWN := hid (whole_next s room)
 have HFI := hid (fun v e => next_fin (s := s) (room := room) (v := v) (e := e) (Nat.zero_le _) (Rd.many s) (by unfold Rd.many; omega))
 generalize hres : Rd.whole Rd.Ob s room = res at *
 clear hres
 have hW : Below w.heap.size w (w.alloc (.cells #[.int .i64 0, .bool false, .int .i64 0, .string ⟨#[]⟩, .slice none 0 0, .slice none 0 0] 43)) := (Below.refl _ _).alloc (Nat.le_refl _) _
 have HB := hid (Blk.new w 43 #[.int .i64 0, .bool false, .int .i64 0, .string ⟨#[]⟩, .slice none 0 0, .slice none 0 0])
 have HW := hid hW
 have HR := hid (hr.onto hW)
 have HL := hid (show Lx _ b s 0 from Blk.onto hL hW)
 have HE := hid (hE.onto hW)
 have hbl : b < w.heap.size := Blk.lt hL
 have hGle : w.heap.size ≤ w.heap.size := Nat.le_refl _
 clear hW hr hL hE
 go_enter Tryz.func32, Tryz.ntmps32
 go_upto_region 1 with fail
 change Code.wp _ _ _ _ (w.alloc (.cells #[.int .i64 0, .bool false, .int .i64 0, .string ⟨#[]⟩, .slice none 0 0, .slice none 0 0] 43))
 generalize (w.alloc (.cells #[.int .i64 0, .bool false, .int .i64 0, .string ⟨#[]⟩, .slice none 0 0, .slice none 0 0] 43)) = W at *
 have hWl : w.heap.size < W.heap.size := HB.out.lt
 generalize hG : w.heap.size = G at *
 have HG := hid hG
 have hGle := Nat.le_of_eq hG
 clear hG
 go_wp2_with fail
 refine (HN.out W HR.out HL.out HE.out hrb).mono ?_
 rintro e w2 ⟨V, A, c, A', c', p, ec, rfl, hsay⟩
 have hA2 : Aside b w w2 := (Aside.of (HG.out ▸ HW.out)).trans_ hsay.side
 have hbA : Below w2.heap.size w2 (w2.alloc (.cells #[.int .i64 V.kind, .bool V.tr, .int .i64 V.num, .string V.str, .slice A V.items.length c, .slice A' V.keys.length c'] 43)) := (Below.refl _ _).alloc (Nat.le_refl _) _
 have hV : Blk (w2.alloc (.cells #[.int .i64 V.kind, .bool V.tr, .int .i64 V.num, .string V.str, .slice A V.items.length c, .slice A' V.keys.length c'] 43)) w2.heap.size 43 #[.int .i64 V.kind, .bool V.tr, .int .i64 V.num, .string V.str, .slice A V.items.length c, .slice A' V.keys.length c'] := Blk.new w2 _ _
 have hB3 : Blk (w2.alloc (.cells #[.int .i64 V.kind, .bool V.tr, .int .i64 V.num, .string V.str, .slice A V.items.length c, .slice A' V.keys.length c'] 43)) G 43 #[.int .i64 0, .bool false, .int .i64 0, .string ⟨#[]⟩, .slice none 0 0, .slice none 0 0] := (HB.out.aside hsay.side (by omega)).onto hbA
 have hs2 := hsay.side.size
 have hsay_side := hsay.side
 have hA3 := hA2.trans_ (Aside.of hbA)
 unfold T.agg
 cases hres2 : Rd.nextF Rd.Ob s (Rd.many s) room 0 with
 | out => rw [hres2] at hsay; exact hsay.elim
 | err p0 c0 =>
  rw [hres2] at hsay HWN
  obtain ⟨rfl, rfl, he0, _⟩ := hsay
  have v1 : (ec != 0) = true := by rw [bne, he0]; rfl
  have v2 : ¬ ec = 0 := by simpa using he0
  go_upto_region 2 with fail
  change Code.wp _ _ _ _ (w2.alloc (.cells #[.int .i64 V.kind, .bool V.tr, .int .i64 V.num, .string V.str, .slice A V.items.length c, .slice A' V.keys.length c'] 43))
  generalize (w2.alloc (.cells #[.int .i64 V.kind, .bool V.tr, .int .i64 V.num, .string V.str, .slice A V.items.length c, .slice A' V.keys.length c'] 43)) = W3 at *
  have HBx := hid hB3
  have HA := hid hA3
  clear hA2 hbA hV hB3 hA3
  have q0 : W3.cell? ⟨G, 0, none⟩ = some (.int .i64 0) := HBx.out.cell 0
  have q1 : W3.cell? ⟨G, 1, none⟩ = some (.bool false) := HBx.out.cell 1
  have q2 : W3.cell? ⟨G, 2, none⟩ = some (.int .i64 0) := HBx.out.cell 2
  have q3 : W3.cell? ⟨G, 3, none⟩ = some (.string ⟨#[]⟩) := HBx.out.cell 3
  have q4 : W3.cell? ⟨G, 4, none⟩ = some (.slice none 0 0) := HBx.out.cell 4
  have q5 : W3.cell? ⟨G, 5, none⟩ = some (.slice none 0 0) := HBx.out.cell 5
  have xq0 := HBx.out.free 0
  have xq1 := HBx.out.free 1
  have xq2 := HBx.out.free 2
  have xq3 := HBx.out.free 3
  have xq4 := HBx.out.free 4
  have xq5 := HBx.out.free 5
  go_wp2_with fail
  have hF : Blk ((((((W3.setCell ⟨G, 0, none⟩ (.int .i64 0)).setCell ⟨G, 1, none⟩ (.bool false)).setCell ⟨G, 2, none⟩ (.int .i64 0)).setCell ⟨G, 3, none⟩ (.string ⟨#[]⟩)).setCell ⟨G, 4, none⟩ (.slice none 0 0)).setCell ⟨G, 5, none⟩ (.slice none 0 0)) G 43 #[.int .i64 0, .bool false, .int .i64 0, .string ⟨#[]⟩, .slice none 0 0, .slice none 0 0] := (((((HBx.out.set_ 0 _).set_ 1 _).set_ 2 _).set_ 3 _).set_ 4 _).set_ 5 _
  have HZ := hid (show Aside b w ((((((W3.setCell ⟨G, 0, none⟩ (.int .i64 0)).setCell ⟨G, 1, none⟩ (.bool false)).setCell ⟨G, 2, none⟩ (.int .i64 0)).setCell ⟨G, 3, none⟩ (.string ⟨#[]⟩)).setCell ⟨G, 4, none⟩ (.slice none 0 0)).setCell ⟨G, 5, none⟩ (.slice none 0 0)) from HA.out.put6 hGle _ _ _ _ _ _)
  generalize ((((((W3.setCell ⟨G, 0, none⟩ (.int .i64 0)).setCell ⟨G, 1, none⟩ (.bool false)).setCell ⟨G, 2, none⟩ (.int .i64 0)).setCell ⟨G, 3, none⟩ (.string ⟨#[]⟩)).setCell ⟨G, 4, none⟩ (.slice none 0 0)).setCell ⟨G, 5, none⟩ (.slice none 0 0)) = V9 at *
  have m0 : V9.cell? ⟨G, 0, none⟩ = some (.int .i64 0) := hF.cell 0
  have m1 : V9.cell? ⟨G, 1, none⟩ = some (.bool false) := hF.cell 1
  have m2 : V9.cell? ⟨G, 2, none⟩ = some (.int .i64 0) := hF.cell 2
  have m3 : V9.cell? ⟨G, 3, none⟩ = some (.string ⟨#[]⟩) := hF.cell 3
  have m4 : V9.cell? ⟨G, 4, none⟩ = some (.slice none 0 0) := hF.cell 4
  have m5 : V9.cell? ⟨G, 5, none⟩ = some (.slice none 0 0) := hF.cell 5
  refine bodyPost_ret (v := .tuple #[T.zero.agg none 0 none 0, .int .i64 p0, .int .i64 ec]) (by simp [results, Tryz.results32, go_sem, T.agg, T.zero, T.kind, T.tr, T.num, T.str, T.items, T.keys, m0, m1, m2, m3, m4, m5]) rfl ?_
  rw [HWN.out]
  exact ⟨rfl, HZ.out⟩
 | val v fin =>
  have hfin := HFI.out v fin hres2
  rw [hres2] at hsay HWN
  obtain ⟨rfl, rfl, rfl, hT, _, hLf⟩ := hsay
  have hT3 := hid (show TV (w2.alloc (.cells #[.int .i64 V.kind, .bool V.tr, .int .i64 V.num, .string V.str, .slice A V.items.length c, .slice A' V.keys.length c'] 43)) (fun q => w.heap.size ≤ q ∧ q < w2.heap.size ∧ q ≠ G) V A c A' c' from (hT.keep fun j hj => hbA.block j hj.2).wide fun j hj => ⟨by have := hj.1; have := HG.out; omega, hj.2, by have := hj.1; omega⟩)
  have hR3 := ((HR.out.aside (hsay_side) hrb)).onto hbA
  have hL3 : Lx (w2.alloc (.cells #[.int .i64 V.kind, .bool V.tr, .int .i64 V.num, .string V.str, .slice A V.items.length c, .slice A' V.keys.length c'] 43)) b s fin := Blk.onto hLf hbA
  have hE3 := (HE.out.side hsay_side).onto hbA
  go_upto_region 4 with fail
  change Code.wp _ _ _ _ (w2.alloc (.cells #[.int .i64 V.kind, .bool V.tr, .int .i64 V.num, .string V.str, .slice A V.items.length c, .slice A' V.keys.length c'] 43))
  have hsW3 := hbA.size
  have hw2W : w2.heap.size < (w2.alloc (.cells #[.int .i64 V.kind, .bool V.tr, .int .i64 V.num, .string V.str, .slice A V.items.length c, .slice A' V.keys.length c'] 43)).heap.size := hV.lt
  generalize (w2.alloc (.cells #[.int .i64 V.kind, .bool V.tr, .int .i64 V.num, .string V.str, .slice A V.items.length c, .slice A' V.keys.length c'] 43)) = W3 at *
  have HB3 := hid hB3
  have HV3 := hid hV
  have HA3 := hid hA3
  have y0 : W3.cell? ⟨r, 0, none⟩ = some (.pointer (some ⟨b, 0, none⟩)) := hR3.cell 0
  have HNX := hid (next_any5 b s fin W3 hs hL3 hfin hE3.err)
  have HEN := hid (fun p c (h : next s fin = .err p c) => next_code h)
  generalize next s fin = nx at *
  generalize placeOf s fin = pl at *
  generalize w2.heap.size = g2 at *
  clear hA2 hbA hB3 hV hA3 hR3 hL3 hE3 hT hLf
  try dsimp only at HWN
  go_wp2_with fail
  refine HNX.out.mono ?_
  rintro e w4 ⟨rfl, hA, _⟩
  have hA4 := HA3.out.trans_ hA
  have hB4 := HB3.out.aside hA (by omega)
  have hV4 := HV3.out.aside hA (by omega)
  have hs4 := hA.size
  cases nx with
  | err p2 c2 =>
   have hc0 := HEN.out p2 c2 rfl
   have v1 : (c2 != 0) = true := by rw [bne_iff_ne]; exact hc0
   have hA5 := hA4.trans_ (Aside.of ((Below.refl w4.heap.size w4).alloc (Nat.le_refl _) (.cells #[.int .i64 0, .string ⟨#[]⟩, .int .i64 0, .int .i64 0, .int .i64 0] 99)))
   have hB5 := hB4.alloc (.cells #[.int .i64 0, .string ⟨#[]⟩, .int .i64 0, .int .i64 0, .int .i64 0] 99)
   unfold Ans.val
   go_upto_region 5 with fail
   change Code.wp _ _ _ _ (w4.alloc (.cells #[.int .i64 0, .string ⟨#[]⟩, .int .i64 0, .int .i64 0, .int .i64 0] 99))
   generalize (w4.alloc (.cells #[.int .i64 0, .string ⟨#[]⟩, .int .i64 0, .int .i64 0, .int .i64 0] 99)) = W5 at *
   have HBx := hid hB5
   have HA := hid hA5
   clear hA4 hB4 hV4 hA5 hB5 hA y0
   have q0 : W5.cell? ⟨G, 0, none⟩ = some (.int .i64 0) := HBx.out.cell 0
   have q1 : W5.cell? ⟨G, 1, none⟩ = some (.bool false) := HBx.out.cell 1
   have q2 : W5.cell? ⟨G, 2, none⟩ = some (.int .i64 0) := HBx.out.cell 2
   have q3 : W5.cell? ⟨G, 3, none⟩ = some (.string ⟨#[]⟩) := HBx.out.cell 3
   have q4 : W5.cell? ⟨G, 4, none⟩ = some (.slice none 0 0) := HBx.out.cell 4
   have q5 : W5.cell? ⟨G, 5, none⟩ = some (.slice none 0 0) := HBx.out.cell 5
   have xq0 := HBx.out.free 0
   have xq1 := HBx.out.free 1
   have xq2 := HBx.out.free 2
   have xq3 := HBx.out.free 3
   have xq4 := HBx.out.free 4
   have xq5 := HBx.out.free 5
   go_wp2_with fail
   have hF : Blk ((((((W5.setCell ⟨G, 0, none⟩ (.int .i64 0)).setCell ⟨G, 1, none⟩ (.bool false)).setCell ⟨G, 2, none⟩ (.int .i64 0)).setCell ⟨G, 3, none⟩ (.string ⟨#[]⟩)).setCell ⟨G, 4, none⟩ (.slice none 0 0)).setCell ⟨G, 5, none⟩ (.slice none 0 0)) G 43 #[.int .i64 0, .bool false, .int .i64 0, .string ⟨#[]⟩, .slice none 0 0, .slice none 0 0] := (((((HBx.out.set_ 0 _).set_ 1 _).set_ 2 _).set_ 3 _).set_ 4 _).set_ 5 _
   have HZ := hid (show Aside b w ((((((W5.setCell ⟨G, 0, none⟩ (.int .i64 0)).setCell ⟨G, 1, none⟩ (.bool false)).setCell ⟨G, 2, none⟩ (.int .i64 0)).setCell ⟨G, 3, none⟩ (.string ⟨#[]⟩)).setCell ⟨G, 4, none⟩ (.slice none 0 0)).setCell ⟨G, 5, none⟩ (.slice none 0 0)) from HA.out.put6 hGle _ _ _ _ _ _)
   generalize ((((((W5.setCell ⟨G, 0, none⟩ (.int .i64 0)).setCell ⟨G, 1, none⟩ (.bool false)).setCell ⟨G, 2, none⟩ (.int .i64 0)).setCell ⟨G, 3, none⟩ (.string ⟨#[]⟩)).setCell ⟨G, 4, none⟩ (.slice none 0 0)).setCell ⟨G, 5, none⟩ (.slice none 0 0)) = V9 at *
   have m0 : V9.cell? ⟨G, 0, none⟩ = some (.int .i64 0) := hF.cell 0
   have m1 : V9.cell? ⟨G, 1, none⟩ = some (.bool false) := hF.cell 1
   have m2 : V9.cell? ⟨G, 2, none⟩ = some (.int .i64 0) := hF.cell 2
   have m3 : V9.cell? ⟨G, 3, none⟩ = some (.string ⟨#[]⟩) := hF.cell 3
   have m4 : V9.cell? ⟨G, 4, none⟩ = some (.slice none 0 0) := hF.cell 4
   have m5 : V9.cell? ⟨G, 5, none⟩ = some (.slice none 0 0) := hF.cell 5
   refine bodyPost_ret (v := .tuple #[T.zero.agg none 0 none 0, .int .i64 p2, .int .i64 c2]) (by simp [results, Tryz.results32, go_sem, T.agg, T.zero, T.kind, T.tr, T.num, T.str, T.items, T.keys, m0, m1, m2, m3, m4, m5]) rfl ?_
   rw [HWN.out]
   exact ⟨rfl, HZ.out⟩
  | tok u =>
   have hA5 := hA4.trans_ (Aside.of ((Below.refl w4.heap.size w4).alloc (Nat.le_refl _) (.cells (tokC u) 99)))
   have hB5 := hB4.alloc (.cells (tokC u) 99)
   have hV5 := hV4.alloc (.cells (tokC u) 99)
   have hU5 : Blk (w4.alloc (.cells (tokC u) 99)) w4.heap.size 99 (tokC u) := Blk.new w4 _ _
   have HT5 := hid (show TV (w4.alloc (.cells (tokC u) 99)) (fun q => w.heap.size ≤ q ∧ q < (w4.alloc (.cells (tokC u) 99)).heap.size ∧ q ≠ G) V A c A' c' from (hT3.out.keep fun j hj => (Below.heap_alloc w4 _ j (by have := hj.2.1; omega)).trans (hA.block j (by have := hj.2.1; omega) (by have := hj.1; have := HG.out; omega))).wide fun j hj => ⟨hj.1, by have := hj.2.1; simp; omega, hj.2.2⟩)
   unfold Ans.val
   go_upto_region 5 with fail
   change Code.wp _ _ _ _ (w4.alloc (.cells (tokC u) 99))
   have hU5l := hU5.lt
   generalize (w4.alloc (.cells (tokC u) 99)) = W5 at *
   generalize w4.heap.size = U at *
   have HBx := hid hB5
   have HV5 := hid hV5
   have HA := hid hA5
   have t0 : W5.cell? ⟨U, 0, none⟩ = some (.int .i64 u.kind) := hU5.cell 0
   have t3 : W5.cell? ⟨U, 3, none⟩ = some (.int .i64 u.at_) := hU5.cell 3
   clear hA4 hB4 hV4 hA5 hB5 hV5 hU5 hA y0
   have q0 : W5.cell? ⟨G, 0, none⟩ = some (.int .i64 0) := HBx.out.cell 0
   have q1 : W5.cell? ⟨G, 1, none⟩ = some (.bool false) := HBx.out.cell 1
   have q2 : W5.cell? ⟨G, 2, none⟩ = some (.int .i64 0) := HBx.out.cell 2
   have q3 : W5.cell? ⟨G, 3, none⟩ = some (.string ⟨#[]⟩) := HBx.out.cell 3
   have q4 : W5.cell? ⟨G, 4, none⟩ = some (.slice none 0 0) := HBx.out.cell 4
   have q5 : W5.cell? ⟨G, 5, none⟩ = some (.slice none 0 0) := HBx.out.cell 5
   have xq0 := HBx.out.free 0
   have xq1 := HBx.out.free 1
   have xq2 := HBx.out.free 2
   have xq3 := HBx.out.free 3
   have xq4 := HBx.out.free 4
   have xq5 := HBx.out.free 5
   by_cases hk : u.kind = 0
   ·
    have uk : (u.kind != 0) = false := by rw [hk]; rfl
    have HK := hid hk
    clear hk
    have n0 : W5.cell? ⟨g2, 0, none⟩ = some (.int .i64 V.kind) := HV5.out.cell 0
    have n1 : W5.cell? ⟨g2, 1, none⟩ = some (.bool V.tr) := HV5.out.cell 1
    have n2 : W5.cell? ⟨g2, 2, none⟩ = some (.int .i64 V.num) := HV5.out.cell 2
    have n3 : W5.cell? ⟨g2, 3, none⟩ = some (.string V.str) := HV5.out.cell 3
    have n4 : W5.cell? ⟨g2, 4, none⟩ = some (.slice A V.items.length c) := HV5.out.cell 4
    have n5 : W5.cell? ⟨g2, 5, none⟩ = some (.slice A' V.keys.length c') := HV5.out.cell 5
    go_wp2_with fail
    have hF : Blk ((((((W5.setCell ⟨G, 0, none⟩ (.int .i64 V.kind)).setCell ⟨G, 1, none⟩ (.bool V.tr)).setCell ⟨G, 2, none⟩ (.int .i64 V.num)).setCell ⟨G, 3, none⟩ (.string V.str)).setCell ⟨G, 4, none⟩ (.slice A V.items.length c)).setCell ⟨G, 5, none⟩ (.slice A' V.keys.length c')) G 43 (#[.int .i64 V.kind, .bool V.tr, .int .i64 V.num, .string V.str, .slice A V.items.length c, .slice A' V.keys.length c']) := res_put HBx.out rfl V A c A' c'
    have HZ := hid (show WGives (.val V 0) b w (.returned (.tuple #[V.agg A c A' c', .int .i64 0, .int .i64 0])) ((((((W5.setCell ⟨G, 0, none⟩ (.int .i64 V.kind)).setCell ⟨G, 1, none⟩ (.bool V.tr)).setCell ⟨G, 2, none⟩ (.int .i64 V.num)).setCell ⟨G, 3, none⟩ (.string V.str)).setCell ⟨G, 4, none⟩ (.slice A V.items.length c)).setCell ⟨G, 5, none⟩ (.slice A' V.keys.length c')) from ⟨A, c, A', c', rfl, box_put HT5.out, HA.out.put6 hGle _ _ _ _ _ _⟩)
    change Blk ((((((W5.setCell ⟨G, 0, none⟩ (.int .i64 V.kind)).setCell ⟨G, 1, none⟩ (.bool V.tr)).setCell ⟨G, 2, none⟩ (.int .i64 V.num)).setCell ⟨G, 3, none⟩ (.string V.str)).setCell ⟨G, 4, none⟩ (.slice A V.items.length c)).setCell ⟨G, 5, none⟩ (.slice A' V.keys.length c')) _ _ _ at hF
    generalize ((((((W5.setCell ⟨G, 0, none⟩ (.int .i64 V.kind)).setCell ⟨G, 1, none⟩ (.bool V.tr)).setCell ⟨G, 2, none⟩ (.int .i64 V.num)).setCell ⟨G, 3, none⟩ (.string V.str)).setCell ⟨G, 4, none⟩ (.slice A V.items.length c)).setCell ⟨G, 5, none⟩ (.slice A' V.keys.length c')) = V9 at *
    have m0 : V9.cell? ⟨G, 0, none⟩ = some (.int .i64 V.kind) := hF.cell 0
    have m1 : V9.cell? ⟨G, 1, none⟩ = some (.bool V.tr) := hF.cell 1
    have m2 : V9.cell? ⟨G, 2, none⟩ = some (.int .i64 V.num) := hF.cell 2
    have m3 : V9.cell? ⟨G, 3, none⟩ = some (.string V.str) := hF.cell 3
    have m4 : V9.cell? ⟨G, 4, none⟩ = some (.slice A V.items.length c) := hF.cell 4
    have m5 : V9.cell? ⟨G, 5, none⟩ = some (.slice A' V.keys.length c') := hF.cell 5
    refine bodyPost_ret (v := .tuple #[V.agg A c A' c', .int .i64 0, .int .i64 0]) (by simp [results, Tryz.results32, go_sem, T.agg, m0, m1, m2, m3, m4, m5]) rfl ?_
    rw [HWN.out, if_pos HK.out]
    exact HZ.out
   ·
    have uk : (u.kind != 0) = true := by rw [bne_iff_ne]; exact hk
    go_wp2_with fail
    go_region
    go_wp2_with fail
    have hF : Blk ((((((W5.setCell ⟨G, 0, none⟩ (.int .i64 0)).setCell ⟨G, 1, none⟩ (.bool false)).setCell ⟨G, 2, none⟩ (.int .i64 0)).setCell ⟨G, 3, none⟩ (.string ⟨#[]⟩)).setCell ⟨G, 4, none⟩ (.slice none 0 0)).setCell ⟨G, 5, none⟩ (.slice none 0 0)) G 43 #[.int .i64 0, .bool false, .int .i64 0, .string ⟨#[]⟩, .slice none 0 0, .slice none 0 0] := (((((HBx.out.set_ 0 _).set_ 1 _).set_ 2 _).set_ 3 _).set_ 4 _).set_ 5 _
    have HZ := hid (show Aside b w ((((((W5.setCell ⟨G, 0, none⟩ (.int .i64 0)).setCell ⟨G, 1, none⟩ (.bool false)).setCell ⟨G, 2, none⟩ (.int .i64 0)).setCell ⟨G, 3, none⟩ (.string ⟨#[]⟩)).setCell ⟨G, 4, none⟩ (.slice none 0 0)).setCell ⟨G, 5, none⟩ (.slice none 0 0)) from HA.out.put6 hGle _ _ _ _ _ _)
    generalize ((((((W5.setCell ⟨G, 0, none⟩ (.int .i64 0)).setCell ⟨G, 1, none⟩ (.bool false)).setCell ⟨G, 2, none⟩ (.int .i64 0)).setCell ⟨G, 3, none⟩ (.string ⟨#[]⟩)).setCell ⟨G, 4, none⟩ (.slice none 0 0)).setCell ⟨G, 5, none⟩ (.slice none 0 0)) = V9 at *
    have m0 : V9.cell? ⟨G, 0, none⟩ = some (.int .i64 0) := hF.cell 0
    have m1 : V9.cell? ⟨G, 1, none⟩ = some (.bool false) := hF.cell 1
    have m2 : V9.cell? ⟨G, 2, none⟩ = some (.int .i64 0) := hF.cell 2
    have m3 : V9.cell? ⟨G, 3, none⟩ = some (.string ⟨#[]⟩) := hF.cell 3
    have m4 : V9.cell? ⟨G, 4, none⟩ = some (.slice none 0 0) := hF.cell 4
    have m5 : V9.cell? ⟨G, 5, none⟩ = some (.slice none 0 0) := hF.cell 5
    refine bodyPost_ret (v := .tuple #[T.zero.agg none 0 none 0, .int .i64 u.at_, .int .i64 1]) (by simp [results, Tryz.results32, go_sem, T.agg, T.zero, T.kind, T.tr, T.num, T.str, T.items, T.keys, m0, m1, m2, m3, m4, m5]) rfl ?_
    rw [HWN.out, if_neg hk]
    exact ⟨rfl, HZ.out.trans_ (Aside.of (Below.refl _ _).drew)⟩
open Go.RowKit Go.Maps Go.Sort
open Tk
def Rd.parseR (s : ByteArray) (d : Int) : Rd.Res := if d < 0 ∨ 64 < d then .err 0 8 else if 16384 < s.size then .err 0 7 else Rd.whole Rd.Ob s d.toNat
def PGives (res : Rd.Res) (w : World) (e : Ending) (w' : World) : Prop := match res with
 | .out => True
 | .err p c => e = .returned (.tuple #[T.zero.agg none 0 none 0, .int .i64 p, .int .i64 c]) ∧ Below w.heap.size w w'
 | .val v _ => ∃ A c A' c', e = .returned (.tuple #[v.agg A c A' c', .int .i64 0, .int .i64 0]) ∧ TV w' (fun q => w.heap.size ≤ q ∧ q < w'.heap.size) v A c A' c' ∧ Below w.heap.size w w'
theorem parseR_out (s : ByteArray) (d : Int) : Rd.parseR s d ≠ .out := by
 unfold Rd.parseR
 split
 · intro h; cases h
 ·
  split
  · intro h; cases h
  · exact Rd.whole_out Rd.Ob s d.toNat
theorem parse_any6 (s : ByteArray) (d : Int) (w : World) (hE : RangeErr w) : Calls Tryz.prog 17 #[.string s, .int .i64 d] w (PGives (Rd.parseR s d) w) := by
 have hW : Below w.heap.size w (w.alloc (.cells #[.int .i64 0, .bool false, .int .i64 0, .string ⟨#[]⟩, .slice none 0 0, .slice none 0 0] 43)) := (Below.refl _ _).alloc (Nat.le_refl _) _
 have HB := hid (Blk.new w 43 #[.int .i64 0, .bool false, .int .i64 0, .string ⟨#[]⟩, .slice none 0 0, .slice none 0 0])
 have HW := hid hW
 have HE := hid hE
 have HRE := hid (show Rd.parseR s d = if d < 0 ∨ 64 < d then .err 0 8 else if 16384 < s.size then .err 0 7 else Rd.whole Rd.Ob s d.toNat from rfl)
 have HRO := hid (parseR_out s d)
 generalize hres : Rd.parseR s d = res at *
 clear hres hW hE
 have hGle : w.heap.size ≤ w.heap.size := Nat.le_refl _
 go_enter Tryz.func17, Tryz.ntmps17
 go_upto_region 1 with fail
 change Code.wp _ _ _ _ (w.alloc (.cells #[.int .i64 0, .bool false, .int .i64 0, .string ⟨#[]⟩, .slice none 0 0, .slice none 0 0] 43))
 generalize (w.alloc (.cells #[.int .i64 0, .bool false, .int .i64 0, .string ⟨#[]⟩, .slice none 0 0, .slice none 0 0] 43)) = W at *
 have hWl : w.heap.size < W.heap.size := HB.out.lt
 generalize hG : w.heap.size = G at *
 have HG := hid hG
 have hGle := Nat.le_of_eq hG
 clear hG
 have HBx := HB
 have HA := hid (show Below w.heap.size w W from HG.out ▸ HW.out)
 have q0 : W.cell? ⟨G, 0, none⟩ = some (.int .i64 0) := HBx.out.cell 0
 have q1 : W.cell? ⟨G, 1, none⟩ = some (.bool false) := HBx.out.cell 1
 have q2 : W.cell? ⟨G, 2, none⟩ = some (.int .i64 0) := HBx.out.cell 2
 have q3 : W.cell? ⟨G, 3, none⟩ = some (.string ⟨#[]⟩) := HBx.out.cell 3
 have q4 : W.cell? ⟨G, 4, none⟩ = some (.slice none 0 0) := HBx.out.cell 4
 have q5 : W.cell? ⟨G, 5, none⟩ = some (.slice none 0 0) := HBx.out.cell 5
 have xq0 := HBx.out.free 0
 have xq1 := HBx.out.free 1
 have xq2 := HBx.out.free 2
 have xq3 := HBx.out.free 3
 have xq4 := HBx.out.free 4
 have xq5 := HBx.out.free 5
 by_cases hd0 : d < 0
 ·
  have u1 : decide (d < 0) = true := decide_eq_true hd0
  go_wp2_with fail
  have hF : Blk ((((((W.setCell ⟨G, 0, none⟩ (.int .i64 0)).setCell ⟨G, 1, none⟩ (.bool false)).setCell ⟨G, 2, none⟩ (.int .i64 0)).setCell ⟨G, 3, none⟩ (.string ⟨#[]⟩)).setCell ⟨G, 4, none⟩ (.slice none 0 0)).setCell ⟨G, 5, none⟩ (.slice none 0 0)) G 43 #[.int .i64 0, .bool false, .int .i64 0, .string ⟨#[]⟩, .slice none 0 0, .slice none 0 0] := (((((HBx.out.set_ 0 _).set_ 1 _).set_ 2 _).set_ 3 _).set_ 4 _).set_ 5 _
  have HZ := hid (show Below w.heap.size w ((((((W.setCell ⟨G, 0, none⟩ (.int .i64 0)).setCell ⟨G, 1, none⟩ (.bool false)).setCell ⟨G, 2, none⟩ (.int .i64 0)).setCell ⟨G, 3, none⟩ (.string ⟨#[]⟩)).setCell ⟨G, 4, none⟩ (.slice none 0 0)).setCell ⟨G, 5, none⟩ (.slice none 0 0)) from (((((HA.out.setCell hGle _).setCell hGle _).setCell hGle _).setCell hGle _).setCell hGle _).setCell hGle _)
  generalize ((((((W.setCell ⟨G, 0, none⟩ (.int .i64 0)).setCell ⟨G, 1, none⟩ (.bool false)).setCell ⟨G, 2, none⟩ (.int .i64 0)).setCell ⟨G, 3, none⟩ (.string ⟨#[]⟩)).setCell ⟨G, 4, none⟩ (.slice none 0 0)).setCell ⟨G, 5, none⟩ (.slice none 0 0)) = V9 at *
  have m0 : V9.cell? ⟨G, 0, none⟩ = some (.int .i64 0) := hF.cell 0
  have m1 : V9.cell? ⟨G, 1, none⟩ = some (.bool false) := hF.cell 1
  have m2 : V9.cell? ⟨G, 2, none⟩ = some (.int .i64 0) := hF.cell 2
  have m3 : V9.cell? ⟨G, 3, none⟩ = some (.string ⟨#[]⟩) := hF.cell 3
  have m4 : V9.cell? ⟨G, 4, none⟩ = some (.slice none 0 0) := hF.cell 4
  have m5 : V9.cell? ⟨G, 5, none⟩ = some (.slice none 0 0) := hF.cell 5
  refine bodyPost_ret (v := .tuple #[T.zero.agg none 0 none 0, .int .i64 0, .int .i64 8]) (by simp [results, Tryz.results17, go_sem, T.agg, T.zero, T.kind, T.tr, T.num, T.str, T.items, T.keys, m0, m1, m2, m3, m4, m5]) rfl ?_
  rw [HRE.out, if_pos (.inl hd0)]
  exact ⟨rfl, HZ.out⟩
 ·
  have u1 : decide (d < 0) = false := decide_eq_false hd0
  by_cases hd1 : 64 < d
  ·
   have u2 : decide (64 < d) = true := decide_eq_true hd1
   go_wp2_with fail
   have hF : Blk ((((((W.setCell ⟨G, 0, none⟩ (.int .i64 0)).setCell ⟨G, 1, none⟩ (.bool false)).setCell ⟨G, 2, none⟩ (.int .i64 0)).setCell ⟨G, 3, none⟩ (.string ⟨#[]⟩)).setCell ⟨G, 4, none⟩ (.slice none 0 0)).setCell ⟨G, 5, none⟩ (.slice none 0 0)) G 43 #[.int .i64 0, .bool false, .int .i64 0, .string ⟨#[]⟩, .slice none 0 0, .slice none 0 0] := (((((HBx.out.set_ 0 _).set_ 1 _).set_ 2 _).set_ 3 _).set_ 4 _).set_ 5 _
   have HZ := hid (show Below w.heap.size w ((((((W.setCell ⟨G, 0, none⟩ (.int .i64 0)).setCell ⟨G, 1, none⟩ (.bool false)).setCell ⟨G, 2, none⟩ (.int .i64 0)).setCell ⟨G, 3, none⟩ (.string ⟨#[]⟩)).setCell ⟨G, 4, none⟩ (.slice none 0 0)).setCell ⟨G, 5, none⟩ (.slice none 0 0)) from (((((HA.out.setCell hGle _).setCell hGle _).setCell hGle _).setCell hGle _).setCell hGle _).setCell hGle _)
   generalize ((((((W.setCell ⟨G, 0, none⟩ (.int .i64 0)).setCell ⟨G, 1, none⟩ (.bool false)).setCell ⟨G, 2, none⟩ (.int .i64 0)).setCell ⟨G, 3, none⟩ (.string ⟨#[]⟩)).setCell ⟨G, 4, none⟩ (.slice none 0 0)).setCell ⟨G, 5, none⟩ (.slice none 0 0)) = V9 at *
   have m0 : V9.cell? ⟨G, 0, none⟩ = some (.int .i64 0) := hF.cell 0
   have m1 : V9.cell? ⟨G, 1, none⟩ = some (.bool false) := hF.cell 1
   have m2 : V9.cell? ⟨G, 2, none⟩ = some (.int .i64 0) := hF.cell 2
   have m3 : V9.cell? ⟨G, 3, none⟩ = some (.string ⟨#[]⟩) := hF.cell 3
   have m4 : V9.cell? ⟨G, 4, none⟩ = some (.slice none 0 0) := hF.cell 4
   have m5 : V9.cell? ⟨G, 5, none⟩ = some (.slice none 0 0) := hF.cell 5
   refine bodyPost_ret (v := .tuple #[T.zero.agg none 0 none 0, .int .i64 0, .int .i64 8]) (by simp [results, Tryz.results17, go_sem, T.agg, T.zero, T.kind, T.tr, T.num, T.str, T.items, T.keys, m0, m1, m2, m3, m4, m5]) rfl ?_
   rw [HRE.out, if_pos (.inr hd1)]
   exact ⟨rfl, HZ.out⟩
  ·
   have u2 : decide (64 < d) = false := decide_eq_false hd1
   by_cases hl : 16384 < s.size
   ·
    have us : decide ((s.size : Int) > 16384) = true := decide_eq_true (by omega)
    have us' : decide ((16384 : Int) < (s.size : Int)) = true := decide_eq_true (by omega)
    have usn : decide (16384 < s.size) = true := decide_eq_true hl
    go_wp2_with fail
    have hF : Blk ((((((W.setCell ⟨G, 0, none⟩ (.int .i64 0)).setCell ⟨G, 1, none⟩ (.bool false)).setCell ⟨G, 2, none⟩ (.int .i64 0)).setCell ⟨G, 3, none⟩ (.string ⟨#[]⟩)).setCell ⟨G, 4, none⟩ (.slice none 0 0)).setCell ⟨G, 5, none⟩ (.slice none 0 0)) G 43 #[.int .i64 0, .bool false, .int .i64 0, .string ⟨#[]⟩, .slice none 0 0, .slice none 0 0] := (((((HBx.out.set_ 0 _).set_ 1 _).set_ 2 _).set_ 3 _).set_ 4 _).set_ 5 _
    have HZ := hid (show Below w.heap.size w ((((((W.setCell ⟨G, 0, none⟩ (.int .i64 0)).setCell ⟨G, 1, none⟩ (.bool false)).setCell ⟨G, 2, none⟩ (.int .i64 0)).setCell ⟨G, 3, none⟩ (.string ⟨#[]⟩)).setCell ⟨G, 4, none⟩ (.slice none 0 0)).setCell ⟨G, 5, none⟩ (.slice none 0 0)) from (((((HA.out.setCell hGle _).setCell hGle _).setCell hGle _).setCell hGle _).setCell hGle _).setCell hGle _)
    generalize ((((((W.setCell ⟨G, 0, none⟩ (.int .i64 0)).setCell ⟨G, 1, none⟩ (.bool false)).setCell ⟨G, 2, none⟩ (.int .i64 0)).setCell ⟨G, 3, none⟩ (.string ⟨#[]⟩)).setCell ⟨G, 4, none⟩ (.slice none 0 0)).setCell ⟨G, 5, none⟩ (.slice none 0 0)) = V9 at *
    have m0 : V9.cell? ⟨G, 0, none⟩ = some (.int .i64 0) := hF.cell 0
    have m1 : V9.cell? ⟨G, 1, none⟩ = some (.bool false) := hF.cell 1
    have m2 : V9.cell? ⟨G, 2, none⟩ = some (.int .i64 0) := hF.cell 2
    have m3 : V9.cell? ⟨G, 3, none⟩ = some (.string ⟨#[]⟩) := hF.cell 3
    have m4 : V9.cell? ⟨G, 4, none⟩ = some (.slice none 0 0) := hF.cell 4
    have m5 : V9.cell? ⟨G, 5, none⟩ = some (.slice none 0 0) := hF.cell 5
    refine bodyPost_ret (v := .tuple #[T.zero.agg none 0 none 0, .int .i64 0, .int .i64 7]) (by simp [results, Tryz.results17, go_sem, T.agg, T.zero, T.kind, T.tr, T.num, T.str, T.items, T.keys, m0, m1, m2, m3, m4, m5]) rfl ?_
    rw [HRE.out, if_neg (by omega), if_pos hl]
    exact ⟨rfl, HZ.out⟩
   ·
    have us : decide ((s.size : Int) > 16384) = false := decide_eq_false (by omega)
    have us' : decide ((16384 : Int) < (s.size : Int)) = false := decide_eq_false (by omega)
    have usn : decide (16384 < s.size) = false := decide_eq_false hl
    obtain ⟨dn, rfl⟩ : ∃ dn : Nat, d = dn := ⟨d.toNat, by omega⟩
    have HRW := hid (show res = Rd.whole Rd.Ob s dn from by rw [HRE.out, if_neg (by omega), if_neg hl]; rfl)
    have HWH := hid (fun r b W => whole_any s (by omega) dn (by omega) r b W)
    have hlx : Blk (W.alloc (.cells #[.string s, .int .i64 0] 98)) W.heap.size 98 #[.string s, .int .i64 ((0 : Nat) : Int)] := Blk.new W _ _
    have hbe : Below W.heap.size W ((W.alloc (.cells #[.string s, .int .i64 0] 98)).alloc (.cells #[.pointer (some ⟨W.heap.size, 0, none⟩), .int .i64 (dn : Int)] 77)) := ((Below.refl _ _).alloc (Nat.le_refl _) _).alloc (by simp) _
    have hrd : Blk ((W.alloc (.cells #[.string s, .int .i64 0] 98)).alloc (.cells #[.pointer (some ⟨W.heap.size, 0, none⟩), .int .i64 (dn : Int)] 77)) (W.heap.size + 1) 77 #[.pointer (some ⟨W.heap.size, 0, none⟩), .int .i64 (dn : Int)] := by
     have := Blk.new (W.alloc (.cells #[.string s, .int .i64 0] 98)) 77 #[.pointer (some ⟨W.heap.size, 0, none⟩), .int .i64 (dn : Int)]
     rwa [World.size_alloc] at this
    have hL2 : Lx ((W.alloc (.cells #[.string s, .int .i64 0] 98)).alloc (.cells #[.pointer (some ⟨W.heap.size, 0, none⟩), .int .i64 (dn : Int)] 77)) W.heap.size s 0 := hlx.alloc _
    have HNW := hid (new_any5 s W)
    clear hlx hl hd0 hd1 HRE
    go_wp2_with fail
    refine HNW.out.mono ?_
    rintro e w1 ⟨rfl, rfl⟩
    go_wp2_with fail
    change Calls _ _ _ ((W.alloc (.cells #[.string s, .int .i64 0] 98)).alloc (.cells #[.pointer (some ⟨W.heap.size, 0, none⟩), .int .i64 (dn : Int)] 77)) _
    generalize ((W.alloc (.cells #[.string s, .int .i64 0] 98)).alloc (.cells #[.pointer (some ⟨W.heap.size, 0, none⟩), .int .i64 (dn : Int)] 77)) = W3 at *
    have hsW := hbe.size
    refine (HWH.out (W.heap.size + 1) W.heap.size W3 hrd hL2 ⟨w, HE.out, by have := HG.out; omega, HA.out.trans (hbe.mono (by have := HG.out; omega))⟩ (by omega)).mono ?_
    intro e w4 hg
    rw [← HRW.out] at hg
    have hB3 := HB.out.onto hbe
    have hA3 : Below w.heap.size w W3 := HA.out.trans (hbe.mono (by have := HG.out; omega))
    cases res with
    | out => exact absurd rfl HRO.out
    | err p c0 =>
     obtain ⟨rfl, hA⟩ := hg
     have HBx := hid (hB3.aside hA (by omega))
     have HA := hid (hA.below hA3 (by have := HG.out; omega) hA3.size)
     clear hA hB3 hA3 hbe hrd hL2
     have n0 : w4.cell? ⟨G, 0, none⟩ = some (.int .i64 0) := HBx.out.cell 0
     have n1 : w4.cell? ⟨G, 1, none⟩ = some (.bool false) := HBx.out.cell 1
     have n2 : w4.cell? ⟨G, 2, none⟩ = some (.int .i64 0) := HBx.out.cell 2
     have n3 : w4.cell? ⟨G, 3, none⟩ = some (.string ⟨#[]⟩) := HBx.out.cell 3
     have n4 : w4.cell? ⟨G, 4, none⟩ = some (.slice none 0 0) := HBx.out.cell 4
     have n5 : w4.cell? ⟨G, 5, none⟩ = some (.slice none 0 0) := HBx.out.cell 5
     have xn0 := HBx.out.free 0
     have xn1 := HBx.out.free 1
     have xn2 := HBx.out.free 2
     have xn3 := HBx.out.free 3
     have xn4 := HBx.out.free 4
     have xn5 := HBx.out.free 5
     unfold T.agg
     go_wp2_with fail
     have hF : Blk ((((((w4.setCell ⟨G, 0, none⟩ (.int .i64 T.zero.kind)).setCell ⟨G, 1, none⟩ (.bool T.zero.tr)).setCell ⟨G, 2, none⟩ (.int .i64 T.zero.num)).setCell ⟨G, 3, none⟩ (.string T.zero.str)).setCell ⟨G, 4, none⟩ (.slice none T.zero.items.length 0)).setCell ⟨G, 5, none⟩ (.slice none T.zero.keys.length 0)) G 43 (#[.int .i64 T.zero.kind, .bool T.zero.tr, .int .i64 T.zero.num, .string T.zero.str, .slice none T.zero.items.length 0, .slice none T.zero.keys.length 0]) := res_put HBx.out rfl T.zero none 0 none 0
     have HZ := hid (show Below w.heap.size w ((((((w4.setCell ⟨G, 0, none⟩ (.int .i64 T.zero.kind)).setCell ⟨G, 1, none⟩ (.bool T.zero.tr)).setCell ⟨G, 2, none⟩ (.int .i64 T.zero.num)).setCell ⟨G, 3, none⟩ (.string T.zero.str)).setCell ⟨G, 4, none⟩ (.slice none T.zero.items.length 0)).setCell ⟨G, 5, none⟩ (.slice none T.zero.keys.length 0)) from (((((HA.out.setCell hGle _).setCell hGle _).setCell hGle _).setCell hGle _).setCell hGle _).setCell hGle _)
     change Blk ((((((w4.setCell ⟨G, 0, none⟩ (.int .i64 T.zero.kind)).setCell ⟨G, 1, none⟩ (.bool T.zero.tr)).setCell ⟨G, 2, none⟩ (.int .i64 T.zero.num)).setCell ⟨G, 3, none⟩ (.string T.zero.str)).setCell ⟨G, 4, none⟩ (.slice none T.zero.items.length 0)).setCell ⟨G, 5, none⟩ (.slice none T.zero.keys.length 0)) _ _ _ at hF
     generalize ((((((w4.setCell ⟨G, 0, none⟩ (.int .i64 T.zero.kind)).setCell ⟨G, 1, none⟩ (.bool T.zero.tr)).setCell ⟨G, 2, none⟩ (.int .i64 T.zero.num)).setCell ⟨G, 3, none⟩ (.string T.zero.str)).setCell ⟨G, 4, none⟩ (.slice none T.zero.items.length 0)).setCell ⟨G, 5, none⟩ (.slice none T.zero.keys.length 0)) = V9 at *
     have m0 : V9.cell? ⟨G, 0, none⟩ = some (.int .i64 T.zero.kind) := hF.cell 0
     have m1 : V9.cell? ⟨G, 1, none⟩ = some (.bool T.zero.tr) := hF.cell 1
     have m2 : V9.cell? ⟨G, 2, none⟩ = some (.int .i64 T.zero.num) := hF.cell 2
     have m3 : V9.cell? ⟨G, 3, none⟩ = some (.string T.zero.str) := hF.cell 3
     have m4 : V9.cell? ⟨G, 4, none⟩ = some (.slice none T.zero.items.length 0) := hF.cell 4
     have m5 : V9.cell? ⟨G, 5, none⟩ = some (.slice none T.zero.keys.length 0) := hF.cell 5
     refine bodyPost_ret (v := .tuple #[T.zero.agg none 0 none 0, .int .i64 p, .int .i64 c0]) (by simp [results, Tryz.results17, go_sem, T.agg, T.zero, T.kind, T.tr, T.num, T.str, T.items, T.keys, m0, m1, m2, m3, m4, m5]) rfl ?_
     exact ⟨rfl, HZ.out⟩
    | val v fin =>
     obtain ⟨A, c, A', c', rfl, htv, hA⟩ := hg
     have HTV := hid (show TV w4 (fun q => w.heap.size ≤ q ∧ q < w4.heap.size ∧ q ≠ G) v A c A' c' from htv.wide fun q hq => ⟨by have := hq.1; have := HG.out; omega, hq.2, by have := hq.1; omega⟩)
     have HBx := hid (hB3.aside hA (by omega))
     have HA := hid (hA.below hA3 (by have := HG.out; omega) hA3.size)
     clear hA hB3 hA3 hbe hrd hL2 htv
     have n0 : w4.cell? ⟨G, 0, none⟩ = some (.int .i64 0) := HBx.out.cell 0
     have n1 : w4.cell? ⟨G, 1, none⟩ = some (.bool false) := HBx.out.cell 1
     have n2 : w4.cell? ⟨G, 2, none⟩ = some (.int .i64 0) := HBx.out.cell 2
     have n3 : w4.cell? ⟨G, 3, none⟩ = some (.string ⟨#[]⟩) := HBx.out.cell 3
     have n4 : w4.cell? ⟨G, 4, none⟩ = some (.slice none 0 0) := HBx.out.cell 4
     have n5 : w4.cell? ⟨G, 5, none⟩ = some (.slice none 0 0) := HBx.out.cell 5
     have xn0 := HBx.out.free 0
     have xn1 := HBx.out.free 1
     have xn2 := HBx.out.free 2
     have xn3 := HBx.out.free 3
     have xn4 := HBx.out.free 4
     have xn5 := HBx.out.free 5
     unfold T.agg
     go_wp2_with fail
     have hF : Blk ((((((w4.setCell ⟨G, 0, none⟩ (.int .i64 v.kind)).setCell ⟨G, 1, none⟩ (.bool v.tr)).setCell ⟨G, 2, none⟩ (.int .i64 v.num)).setCell ⟨G, 3, none⟩ (.string v.str)).setCell ⟨G, 4, none⟩ (.slice A v.items.length c)).setCell ⟨G, 5, none⟩ (.slice A' v.keys.length c')) G 43 (#[.int .i64 v.kind, .bool v.tr, .int .i64 v.num, .string v.str, .slice A v.items.length c, .slice A' v.keys.length c']) := res_put HBx.out rfl v A c A' c'
     have HZ := hid (show PGives (.val v fin) w (.returned (.tuple #[v.agg A c A' c', .int .i64 0, .int .i64 0])) ((((((w4.setCell ⟨G, 0, none⟩ (.int .i64 v.kind)).setCell ⟨G, 1, none⟩ (.bool v.tr)).setCell ⟨G, 2, none⟩ (.int .i64 v.num)).setCell ⟨G, 3, none⟩ (.string v.str)).setCell ⟨G, 4, none⟩ (.slice A v.items.length c)).setCell ⟨G, 5, none⟩ (.slice A' v.keys.length c')) from ⟨A, c, A', c', rfl, box_put HTV.out, (((((HA.out.setCell hGle _).setCell hGle _).setCell hGle _).setCell hGle _).setCell hGle _).setCell hGle _⟩)
     change Blk ((((((w4.setCell ⟨G, 0, none⟩ (.int .i64 v.kind)).setCell ⟨G, 1, none⟩ (.bool v.tr)).setCell ⟨G, 2, none⟩ (.int .i64 v.num)).setCell ⟨G, 3, none⟩ (.string v.str)).setCell ⟨G, 4, none⟩ (.slice A v.items.length c)).setCell ⟨G, 5, none⟩ (.slice A' v.keys.length c')) _ _ _ at hF
     generalize ((((((w4.setCell ⟨G, 0, none⟩ (.int .i64 v.kind)).setCell ⟨G, 1, none⟩ (.bool v.tr)).setCell ⟨G, 2, none⟩ (.int .i64 v.num)).setCell ⟨G, 3, none⟩ (.string v.str)).setCell ⟨G, 4, none⟩ (.slice A v.items.length c)).setCell ⟨G, 5, none⟩ (.slice A' v.keys.length c')) = V9 at *
     have m0 : V9.cell? ⟨G, 0, none⟩ = some (.int .i64 v.kind) := hF.cell 0
     have m1 : V9.cell? ⟨G, 1, none⟩ = some (.bool v.tr) := hF.cell 1
     have m2 : V9.cell? ⟨G, 2, none⟩ = some (.int .i64 v.num) := hF.cell 2
     have m3 : V9.cell? ⟨G, 3, none⟩ = some (.string v.str) := hF.cell 3
     have m4 : V9.cell? ⟨G, 4, none⟩ = some (.slice A v.items.length c) := hF.cell 4
     have m5 : V9.cell? ⟨G, 5, none⟩ = some (.slice A' v.keys.length c') := hF.cell 5
     refine bodyPost_ret (v := .tuple #[v.agg A c A' c', .int .i64 0, .int .i64 0]) (by simp [results, Tryz.results17, go_sem, T.agg, m0, m1, m2, m3, m4, m5]) rfl ?_
     exact HZ.out
theorem parseR_code (s : ByteArray) (d : Int) {p : Nat} {c : Int} (h : Rd.parseR s d = .err p c) : c ≠ 0 := by
 unfold Rd.parseR at h
 split at h
 · injection h with _ h; subst h; decide
 ·
  split at h
  · injection h with _ h; subst h; decide
  ·
   unfold Rd.whole at h
   split at h
   · injection h with _ h; subst h; exact next_code (by assumption)
   ·
    rename_i t ht
    split at h
    · cases h
    · injection h with _ h; subst h; exact (Rd.err_pos Rd.Ob s _).1 _ _ _ _ (by assumption)
    ·
     split at h
     · injection h with _ h; subst h; exact next_code (by assumption)
     ·
      split at h
      · cases h
      · injection h with _ h; subst h; decide
open Go.RowKit
open Tk
end Go.Proofs.YtgblenoaeanogaaGreatDoor
