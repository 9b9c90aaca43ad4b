/- The value that begins with a token: contract of the program's reader. The value that begins with a token, an object: contract of the program's reader. The value that begins with a token, whatever it is: contract of the program's reader. -/
import Derived.Test.YtgblenoaeanogaaGreatDoorMQ
import Derived.IntWalk
set_option linter.unusedVariables false
set_option maxRecDepth 100000
set_option maxHeartbeats 8000000
open Go.Lib (hid)
namespace Go.Proofs.YtgblenoaeanogaaGreatDoor
open Go.RowKit Go.Maps Go.Sort
open Tk
theorem from_arr {s : ByteArray} {n room : Nat} (IH : ∀ k, k < n → FromAt Rd.Ob s k) (hs : s.size ≤ 90000) (t : Tok) (r b : Nat) (w : World) (hok : Rd.Ok s t) (hn : 2 * (s.size - t.at_) + 1 ≤ n + 1) (hr : Blk w r 77 #[.pointer (some ⟨b, 0, none⟩), .int .i64 room]) (hL : Lx w b s t.fin) (hE : ErrAt b w) (hrb : r ≠ b) (hr0 : room ≠ 0) (hr1 : room ≤ 1000) (hl : Rd.isM t 91) :
 Calls Tryz.prog 62 #[.pointer (some ⟨r, 0, none⟩), .agg #[.int .i64 t.kind, .string t.text, .int .i64 t.num, .int .i64 t.at_, .int .i64 t.fin]] w (FromGives ((Rd.startF (Rd.itemP Rd.Ob s (room - 1)) s 93 n t.fin []).res Rd.arrT) b s w) := by
 have hat : t.at_ < t.fin := hok.2.2 (Rd.mark_ne hl)
 have hfs := hok.2.1
 have HT := hid (ismark_t t ⟨#[91]⟩ hl)
 have HAR := hid (fun (rr : Nat) (W : World) => array_any (O := Rd.Ob) (s := s) (n := n) (r := rr) (b := b) (room := room - 1) (i := t.fin) IH (by omega) hs W)
 have hk1 : t.kind = 1 := hl.1
 have hout : (Rd.startF (Rd.itemP Rd.Ob s (room - 1)) s 93 n t.fin []).res Rd.arrT ≠ .out := by
  have := start_out (Rd.item_good Rd.Ob s (room - 1)) 93 n t.fin [] hfs (by omega)
  cases h : Rd.startF (Rd.itemP Rd.Ob s (room - 1)) s 93 n t.fin [] with
  | out => exact absurd h this
  | err p c => intro h'; cases h'
  | ok a e => intro h'; cases h'
 have HOUT := hid hout
 clear hl hout 
 generalize hres : (Rd.startF (Rd.itemP Rd.Ob s (room - 1)) s 93 n t.fin []).res Rd.arrT = res at *
 clear hres
 have hnb : 2 * (s.size - t.fin) + 2 ≤ n := by omega
 obtain ⟨k, x, nn, a, f⟩ := t
 dsimp only at *
 have u6 : (k == 6) = false := by rw [hk1]; rfl
 have u5 : (k == 5) = false := by rw [hk1]; rfl
 have u4 : (k == 4) = false := by rw [hk1]; rfl
 have u3 : (k == 3) = false := by rw [hk1]; rfl
 have u2 : (k == 2) = false := by rw [hk1]; rfl
 have hre : ((room - 1 : Nat) : Int) = (room : Int) - 1 := by omega
 have hwrap : IntKind.i64.wrap ((room : Int) - 1) = ((room - 1 : Nat) : Int) := by rw [hre]; exact IntWalk.i64_in _ (by omega)
 have hwrap2 : wrap64 ((room : Int) - 1) = ((room - 1 : Nat) : Int) := by rw [hre]; exact IntWalk.wrap64_in _ (by omega)
 clear hre
 have hrz : ((room : Int) == 0) = false := by rw [beq_eq_false_iff_ne]; omega
 clear hk1 hn
 have hbl : b < w.heap.size := Blk.lt hL
 have hrl := hr.lt
 go_enter Tryz.func62, Tryz.ntmps62
 have hB0 : Blk (w.alloc (.cells #[.int .i64 k, .string x, .int .i64 nn, .int .i64 a, .int .i64 f] 99)) w.heap.size 99 #[.int .i64 k, .string x, .int .i64 nn, .int .i64 a, .int .i64 f] := Blk.new w _ _
 have hB1 : Blk ((w.alloc (.cells #[.int .i64 k, .string x, .int .i64 nn, .int .i64 a, .int .i64 f] 99)).alloc (.cells #[.int .i64 0, .bool false, .int .i64 0, .string ⟨#[]⟩, .slice none 0 0, .slice none 0 0] 43)) (w.heap.size + 1) 43 #[.int .i64 0, .bool false, .int .i64 0, .string ⟨#[]⟩, .slice none 0 0, .slice none 0 0] := by
  have := Blk.new (w.alloc (.cells #[.int .i64 k, .string x, .int .i64 nn, .int .i64 a, .int .i64 f] 99)) 43 #[.int .i64 0, .bool false, .int .i64 0, .string ⟨#[]⟩, .slice none 0 0, .slice none 0 0]
  rwa [World.size_alloc] at this
 have hW : Below w.heap.size w ((w.alloc (.cells #[.int .i64 k, .string x, .int .i64 nn, .int .i64 a, .int .i64 f] 99)).alloc (.cells #[.int .i64 0, .bool false, .int .i64 0, .string ⟨#[]⟩, .slice none 0 0, .slice none 0 0] 43)) := ((Below.refl _ _).alloc (Nat.le_refl _) _).alloc (by simp) _
 have HB2 := hid (hB0.alloc (.cells #[.int .i64 0, .bool false, .int .i64 0, .string ⟨#[]⟩, .slice none 0 0, .slice none 0 0] 43))
 have HB1 := hid hB1
 have HW := hid hW
 have HR := hid (hr.onto hW)
 have HL := hid (show Lx _ b s f from Blk.onto hL hW)
 have HE := hid (hE.onto hW)
 clear hB0 hB1 hW hr hL hE
 go_wp2_with fail
 change Calls _ _ _ ((w.alloc (.cells #[.int .i64 k, .string x, .int .i64 nn, .int .i64 a, .int .i64 f] 99)).alloc (.cells #[.int .i64 0, .bool false, .int .i64 0, .string ⟨#[]⟩, .slice none 0 0, .slice none 0 0] 43)) _
 generalize ((w.alloc (.cells #[.int .i64 k, .string x, .int .i64 nn, .int .i64 a, .int .i64 f] 99)).alloc (.cells #[.int .i64 0, .bool false, .int .i64 0, .string ⟨#[]⟩, .slice none 0 0, .slice none 0 0] 43)) = W at *
 have hw1 : w.heap.size + 1 < W.heap.size := HB1.out.lt
 generalize hG : w.heap.size = G at *
 have HG := hid hG
 clear hG
 refine (HT.out _).mono ?_
 rintro e w2 ⟨rfl, hb⟩
 have H2 := hid hb
 have hR2 := HR.out.onto H2.out
 have y1 : w2.cell? ⟨r, 1, none⟩ = some (.int .i64 room) := hR2.cell 1
 have y0 : w2.cell? ⟨r, 0, none⟩ = some (.pointer (some ⟨b, 0, none⟩)) := hR2.cell 0
 have HR2 := hid hR2
 clear hR2
 try clear hb
 go_upto_region 15 with fail
 have HS := hid (show ∀ w', Below w2.heap.size w2 w' → w'.cell? ⟨r, 0, none⟩ = some (.pointer (some ⟨b, 0, none⟩)) ∧ w'.cell? ⟨r, 1, none⟩ = some (.int .i64 room) from fun w' h => ⟨(HR2.out.onto h).cell 0, (HR2.out.onto h).cell 1⟩)
 refine wp_region_held_drew (S := fun w' => w'.cell? ⟨r, 0, none⟩ = some (.pointer (some ⟨b, 0, none⟩)) ∧ w'.cell? ⟨r, 1, none⟩ = some (.int .i64 room)) (by kernel_rfl) ?_ (fun hHeld => ?_)
 · exact HS.out _ (Below.refl w2.heap.size w2).drew
 refine wpAnyH_take (i := 0) (v := ?_) rfl (by kernel_rfl) (by kernel_rfl) (by kernel_rfl) (fun _ _ _ h => h) (Or.inl ⟨by rfl, ?_⟩) (by assumption) ?_
 rotate_left
 ·
  intro wq hSw
  try dsimp only at hSw
  go_simp
  try (with_reducible rfl)
 try simp only [Act.put, List.getElem_toArray, List.getElem_cons_zero, List.setIfInBounds_toArray, List.set_cons_zero, List.set_cons_succ]
 refine wpAnyH_take (i := 1) (v := ?_) rfl (by kernel_rfl) (by kernel_rfl) (by kernel_rfl) (fun _ _ _ h => h) (Or.inl ⟨by rfl, ?_⟩) (by assumption) ?_
 rotate_left
 ·
  intro wq hSw
  try dsimp only at hSw
  go_simp
  try (with_reducible rfl)
 try simp only [Act.put, sqa, sqb, sqc, sqd, sqe, sqf]
 refine wpAnyH_take (i := 2) (v := ?_) rfl (by kernel_rfl) (by kernel_rfl) (by kernel_rfl) (fun _ _ _ h => h) (Or.inl ⟨by rfl, ?_⟩) (by assumption) ?_
 rotate_left
 ·
  intro wq hSw
  try dsimp only at hSw
  go_simp
  try (with_reducible rfl)
 try simp only [Act.put, sqa, sqb, sqc, sqd, sqe, sqf]
 refine wpAnyH_take (i := 3) (v := ?_) rfl (by kernel_rfl) (by kernel_rfl) (by kernel_rfl) (fun _ _ _ h => h) (Or.inl ⟨by rfl, ?_⟩) (by assumption) ?_
 rotate_left
 ·
  intro wq hSw
  try dsimp only at hSw
  go_simp
  try (with_reducible rfl)
 try simp only [Act.put, sqa, sqb, sqc, sqd, sqe, sqf]
 refine wpAnyH_take (i := 4) (v := ?_) rfl (by kernel_rfl) (by kernel_rfl) (by kernel_rfl) (fun _ _ _ h => h) (Or.inl ⟨by rfl, ?_⟩) (by assumption) ?_
 rotate_left
 ·
  intro wq hSw
  try dsimp only at hSw
  go_simp
  try (with_reducible rfl)
 try simp only [Act.put, sqa, sqb, sqc, sqd, sqe, sqf]
 refine wpAnyH_take (i := 5) (v := ?_) rfl (by kernel_rfl) (by kernel_rfl) (by kernel_rfl) (fun _ _ _ h => h) (Or.inl ⟨by rfl, ?_⟩) (by assumption) ?_
 rotate_left
 ·
  intro wq hSw
  try dsimp only at hSw
  go_simp
  try (with_reducible rfl)
 try simp only [Act.put, sqa, sqb, sqc, sqd, sqe, sqf]
 refine wpAnyH_take (i := 6) (v := ?_) rfl (by kernel_rfl) (by kernel_rfl) (by kernel_rfl) (fun _ _ _ h => h) (Or.inl ⟨by rfl, ?_⟩) (by assumption) ?_
 rotate_left
 ·
  intro wq hSw
  try dsimp only at hSw
  go_simp
  try (with_reducible rfl)
 try simp only [Act.put, sqa, sqb, sqc, sqd, sqe, sqf]
 refine wpAnyH_take (i := 7) (v := ?_) rfl (by kernel_rfl) (by kernel_rfl) (by kernel_rfl) (fun _ _ _ h => h) (Or.inl ⟨by rfl, ?_⟩) (by assumption) ?_
 rotate_left
 ·
  intro wq hSw
  try dsimp only at hSw
  go_simp
  try (with_reducible rfl)
 try simp only [Act.put, sqa, sqb, sqc, sqd, sqe, sqf]
 refine wpAnyH_take (i := 8) (v := ?_) rfl (by kernel_rfl) (by kernel_rfl) (by kernel_rfl) (fun _ _ _ h => h) (Or.inl ⟨by rfl, ?_⟩) (by assumption) ?_
 rotate_left
 ·
  intro wq hSw
  try dsimp only at hSw
  go_simp
  try (with_reducible rfl)
 try simp only [Act.put, sqa, sqb, sqc, sqd, sqe, sqf]
 refine wpAnyH_take (i := 9) (v := ?_) rfl (by kernel_rfl) (by kernel_rfl) (by kernel_rfl) (fun _ _ _ h => h) (Or.inl ⟨by rfl, ?_⟩) (by assumption) ?_
 rotate_left
 ·
  intro wq hSw
  try dsimp only at hSw
  go_simp
  try (with_reducible rfl)
 try simp only [Act.put, sqa, sqb, sqc, sqd, sqe, sqf]
 refine wpAnyH_ready (rs := [10]) (by kernel_rfl) (by simp) ?_
 refine AllReadyH.cons rfl (fun K0 hK => ?_) ?_
 rotate_left
 · exact AllReadyH.nil
 go_simp
 refine hK.out _ _ ?_ (fun hHeld => ?_)
 · exact HS.out _ ((Below.refl w2.heap.size w2).drew.alloc (Nat.le_refl _) _)
 clear hK K0
 try simp only [Act.put, sqa, sqb, sqc, sqd, sqe, sqf]
 refine wpAnyH_take (i := 11) (v := ?_) rfl (by kernel_rfl) (by kernel_rfl) (by kernel_rfl) (fun _ _ _ h => h) (Or.inl ⟨by rfl, ?_⟩) (by assumption) ?_
 rotate_left
 ·
  intro wq hSw
  try dsimp only at hSw
  go_simp
  try (with_reducible rfl)
 try simp only [Act.put, sqa, sqb, sqc, sqd, sqe, sqf]
 refine wpAnyH_done (by kernel_rfl) ?_ _
 go_upto_region 16 with fail
 change Code.wp _ _ _ _ (w2.alloc (.cells #[.pointer (some ⟨b, 0, none⟩), .int .i64 ((room - 1 : Nat) : Int)] 77)).drew
 have hi1 : Below w2.heap.size w2 (w2.alloc (.cells #[.pointer (some ⟨b, 0, none⟩), .int .i64 ((room - 1 : Nat) : Int)] 77)).drew := ((Below.refl w2.heap.size w2).alloc (Nat.le_refl _) _).drew
 have hiB : Blk (w2.alloc (.cells #[.pointer (some ⟨b, 0, none⟩), .int .i64 ((room - 1 : Nat) : Int)] 77)).drew w2.heap.size 77 #[.pointer (some ⟨b, 0, none⟩), .int .i64 ((room - 1 : Nat) : Int)] := Blk.new w2 _ _
 have H3 := hid (H2.out.trans (hi1.mono H2.out.size))
 have hsw2 := H2.out.size
 generalize hw3 : (w2.alloc (.cells #[.pointer (some ⟨b, 0, none⟩), .int .i64 ((room - 1 : Nat) : Int)] 77)).drew = w3 at *
 clear hw3
 have hB := HB2.out.onto H3.out
 have p0 : w3.cell? ⟨G, 0, none⟩ = some (.int .i64 k) := hB.cell 0
 have p1 : w3.cell? ⟨G, 1, none⟩ = some (.string x) := hB.cell 1
 have p2 : w3.cell? ⟨G, 2, none⟩ = some (.int .i64 nn) := hB.cell 2
 have p3 : w3.cell? ⟨G, 3, none⟩ = some (.int .i64 a) := hB.cell 3
 have p4 : w3.cell? ⟨G, 4, none⟩ = some (.int .i64 f) := hB.cell 4
 clear hB hi1 y0 y1 hwrap hwrap2
 have HIB := hid hiB
 clear hiB
 go_wp2_with fail
 refine (HT.out _).mono ?_
 rintro e w4 ⟨rfl, hb⟩
 have H4 := hid (H3.out.trans (hb.mono H3.out.size))
 have hs4 := hb.size
 have hw2l : w2.heap.size < w4.heap.size := (HIB.out.onto hb).lt
 have HI4 := hid (HIB.out.onto hb)
 clear hb p0 p1 p2 p3 p4
 go_wp2_with fail
 refine (HAR.out w2.heap.size w4 HI4.out (Blk.onto HL.out H4.out) (HE.out.onto H4.out) hfs hnb (by omega)).mono ?_
 intro e w5 hg
 have hWs := HW.out.size
 have HAW := hid (show Aside b w w4 from (Aside.of (HG.out ▸ HW.out)).trans_ (Aside.of H4.out))
 have hs4' := H4.out.size
 cases res with
 | out => exact absurd rfl HOUT.out
 | err p c =>
  obtain ⟨rfl, hA⟩ := hg
  have HA := hid (HAW.out.trans_ hA)
  have HBx := hid ((HB1.out.onto H4.out).aside hA (by omega))
  have q0 : w5.cell? ⟨G + 1, 0, none⟩ = some (.int .i64 0) := HBx.out.cell 0
  have q1 : w5.cell? ⟨G + 1, 1, none⟩ = some (.bool false) := HBx.out.cell 1
  have q2 : w5.cell? ⟨G + 1, 2, none⟩ = some (.int .i64 0) := HBx.out.cell 2
  have q3 : w5.cell? ⟨G + 1, 3, none⟩ = some (.string ⟨#[]⟩) := HBx.out.cell 3
  have q4 : w5.cell? ⟨G + 1, 4, none⟩ = some (.slice none 0 0) := HBx.out.cell 4
  have q5 : w5.cell? ⟨G + 1, 5, none⟩ = some (.slice none 0 0) := HBx.out.cell 5
  have xq0 := HBx.out.free 0
  have xq1 := HBx.out.free 1
  have xq2 := HBx.out.free 2
  have xq3 := HBx.out.free 3
  have xq4 := HBx.out.free 4
  have xq5 := HBx.out.free 5
  clear hA
  unfold T.agg
  go_wp2_with fail
  have hF : Blk ((((((w5.setCell ⟨G + 1, 0, none⟩ (.int .i64 T.zero.kind)).setCell ⟨G + 1, 1, none⟩ (.bool T.zero.tr)).setCell ⟨G + 1, 2, none⟩ (.int .i64 T.zero.num)).setCell ⟨G + 1, 3, none⟩ (.string T.zero.str)).setCell ⟨G + 1, 4, none⟩ (.slice none T.zero.items.length 0)).setCell ⟨G + 1, 5, none⟩ (.slice none T.zero.keys.length 0)) (G + 1) 43 (#[.int .i64 T.zero.kind, .bool T.zero.tr, .int .i64 T.zero.num, .string T.zero.str, .slice none T.zero.items.length 0, .slice none T.zero.keys.length 0]) := res_put HBx.out rfl T.zero none 0 none 0
  have HZ := hid (show Aside b w ((((((w5.setCell ⟨G + 1, 0, none⟩ (.int .i64 T.zero.kind)).setCell ⟨G + 1, 1, none⟩ (.bool T.zero.tr)).setCell ⟨G + 1, 2, none⟩ (.int .i64 T.zero.num)).setCell ⟨G + 1, 3, none⟩ (.string T.zero.str)).setCell ⟨G + 1, 4, none⟩ (.slice none T.zero.items.length 0)).setCell ⟨G + 1, 5, none⟩ (.slice none T.zero.keys.length 0)) from HA.out.put6 (by have := HG.out; omega) _ _ _ _ _ _)
  change Blk ((((((w5.setCell ⟨G + 1, 0, none⟩ (.int .i64 T.zero.kind)).setCell ⟨G + 1, 1, none⟩ (.bool T.zero.tr)).setCell ⟨G + 1, 2, none⟩ (.int .i64 T.zero.num)).setCell ⟨G + 1, 3, none⟩ (.string T.zero.str)).setCell ⟨G + 1, 4, none⟩ (.slice none T.zero.items.length 0)).setCell ⟨G + 1, 5, none⟩ (.slice none T.zero.keys.length 0)) _ _ _ at hF
  generalize ((((((w5.setCell ⟨G + 1, 0, none⟩ (.int .i64 T.zero.kind)).setCell ⟨G + 1, 1, none⟩ (.bool T.zero.tr)).setCell ⟨G + 1, 2, none⟩ (.int .i64 T.zero.num)).setCell ⟨G + 1, 3, none⟩ (.string T.zero.str)).setCell ⟨G + 1, 4, none⟩ (.slice none T.zero.items.length 0)).setCell ⟨G + 1, 5, none⟩ (.slice none T.zero.keys.length 0)) = V9 at *
  have m0 : V9.cell? ⟨G + 1, 0, none⟩ = some (.int .i64 T.zero.kind) := hF.cell 0
  have m1 : V9.cell? ⟨G + 1, 1, none⟩ = some (.bool T.zero.tr) := hF.cell 1
  have m2 : V9.cell? ⟨G + 1, 2, none⟩ = some (.int .i64 T.zero.num) := hF.cell 2
  have m3 : V9.cell? ⟨G + 1, 3, none⟩ = some (.string T.zero.str) := hF.cell 3
  have m4 : V9.cell? ⟨G + 1, 4, none⟩ = some (.slice none T.zero.items.length 0) := hF.cell 4
  have m5 : V9.cell? ⟨G + 1, 5, none⟩ = some (.slice none T.zero.keys.length 0) := hF.cell 5
  refine bodyPost_ret (v := .tuple #[T.zero.agg none 0 none 0, .int .i64 p, .int .i64 c]) (by simp [results, Tryz.results62, go_sem, T.agg, T.zero, T.kind, T.tr, T.num, T.str, T.items, T.keys, m0, m1, m2, m3, m4, m5]) rfl ?_
  exact ⟨rfl, HZ.out⟩
 | val v fin =>
  obtain ⟨A, c, A', c', rfl, htv, hA, hlx⟩ := hg
  have HA := hid (HAW.out.trans_ hA)
  have HBx := hid ((HB1.out.onto H4.out).aside hA (by omega))
  have HTV := hid (show TV w5 (fun q => w.heap.size ≤ q ∧ q < w5.heap.size ∧ q ≠ G + 1) v A c A' c' from htv.wide fun q hq => ⟨by have := hq.1; have := HG.out; omega, hq.2, by have := hq.1; omega⟩)
  have HLX := hid hlx
  have q0 : w5.cell? ⟨G + 1, 0, none⟩ = some (.int .i64 0) := HBx.out.cell 0
  have q1 : w5.cell? ⟨G + 1, 1, none⟩ = some (.bool false) := HBx.out.cell 1
  have q2 : w5.cell? ⟨G + 1, 2, none⟩ = some (.int .i64 0) := HBx.out.cell 2
  have q3 : w5.cell? ⟨G + 1, 3, none⟩ = some (.string ⟨#[]⟩) := HBx.out.cell 3
  have q4 : w5.cell? ⟨G + 1, 4, none⟩ = some (.slice none 0 0) := HBx.out.cell 4
  have q5 : w5.cell? ⟨G + 1, 5, none⟩ = some (.slice none 0 0) := HBx.out.cell 5
  have xq0 := HBx.out.free 0
  have xq1 := HBx.out.free 1
  have xq2 := HBx.out.free 2
  have xq3 := HBx.out.free 3
  have xq4 := HBx.out.free 4
  have xq5 := HBx.out.free 5
  clear hA htv hlx
  unfold T.agg
  go_wp2_with fail
  have hF : Blk ((((((w5.setCell ⟨G + 1, 0, none⟩ (.int .i64 v.kind)).setCell ⟨G + 1, 1, none⟩ (.bool v.tr)).setCell ⟨G + 1, 2, none⟩ (.int .i64 v.num)).setCell ⟨G + 1, 3, none⟩ (.string v.str)).setCell ⟨G + 1, 4, none⟩ (.slice A v.items.length c)).setCell ⟨G + 1, 5, none⟩ (.slice A' v.keys.length c')) (G + 1) 43 (#[.int .i64 v.kind, .bool v.tr, .int .i64 v.num, .string v.str, .slice A v.items.length c, .slice A' v.keys.length c']) := res_put HBx.out rfl v A c A' c'
  have HZ := hid (show FromGives (.val v fin) b s w (.returned (.tuple #[v.agg A c A' c', .int .i64 0, .int .i64 0])) ((((((w5.setCell ⟨G + 1, 0, none⟩ (.int .i64 v.kind)).setCell ⟨G + 1, 1, none⟩ (.bool v.tr)).setCell ⟨G + 1, 2, none⟩ (.int .i64 v.num)).setCell ⟨G + 1, 3, none⟩ (.string v.str)).setCell ⟨G + 1, 4, none⟩ (.slice A v.items.length c)).setCell ⟨G + 1, 5, none⟩ (.slice A' v.keys.length c')) from ⟨A, c, A', c', rfl, box_put HTV.out, HA.out.put6 (by have := HG.out; omega) _ _ _ _ _ _, (putv_heap (by omega)).trans HLX.out⟩)
  change Blk ((((((w5.setCell ⟨G + 1, 0, none⟩ (.int .i64 v.kind)).setCell ⟨G + 1, 1, none⟩ (.bool v.tr)).setCell ⟨G + 1, 2, none⟩ (.int .i64 v.num)).setCell ⟨G + 1, 3, none⟩ (.string v.str)).setCell ⟨G + 1, 4, none⟩ (.slice A v.items.length c)).setCell ⟨G + 1, 5, none⟩ (.slice A' v.keys.length c')) _ _ _ at hF
  generalize ((((((w5.setCell ⟨G + 1, 0, none⟩ (.int .i64 v.kind)).setCell ⟨G + 1, 1, none⟩ (.bool v.tr)).setCell ⟨G + 1, 2, none⟩ (.int .i64 v.num)).setCell ⟨G + 1, 3, none⟩ (.string v.str)).setCell ⟨G + 1, 4, none⟩ (.slice A v.items.length c)).setCell ⟨G + 1, 5, none⟩ (.slice A' v.keys.length c')) = V9 at *
  have m0 : V9.cell? ⟨G + 1, 0, none⟩ = some (.int .i64 v.kind) := hF.cell 0
  have m1 : V9.cell? ⟨G + 1, 1, none⟩ = some (.bool v.tr) := hF.cell 1
  have m2 : V9.cell? ⟨G + 1, 2, none⟩ = some (.int .i64 v.num) := hF.cell 2
  have m3 : V9.cell? ⟨G + 1, 3, none⟩ = some (.string v.str) := hF.cell 3
  have m4 : V9.cell? ⟨G + 1, 4, none⟩ = some (.slice A v.items.length c) := hF.cell 4
  have m5 : V9.cell? ⟨G + 1, 5, none⟩ = some (.slice A' v.keys.length c') := hF.cell 5
  refine bodyPost_ret (v := .tuple #[v.agg A c A' c', .int .i64 0, .int .i64 0]) (by simp [results, Tryz.results62, go_sem, T.agg, T.kind, T.tr, T.num, T.str, T.items, T.keys, m0, m1, m2, m3, m4, m5]) rfl ?_
  exact HZ.out
open Go.RowKit Go.Maps Go.Sort
open Tk
theorem from_obj {s : ByteArray} {n room : Nat} (IH : ∀ k, k < n → FromAt Rd.Ob s k) (hs : s.size ≤ 90000) (t : Tok) (r b : Nat) (w : World) (hok : Rd.Ok s t) (hn : 2 * (s.size - t.at_) + 1 ≤ n + 1) (hr : Blk w r 77 #[.pointer (some ⟨b, 0, none⟩), .int .i64 room]) (hL : Lx w b s t.fin) (hE : ErrAt b w) (hrb : r ≠ b) (hr0 : room ≠ 0) (hr1 : room ≤ 1000) (hl' : ¬ Rd.isM t 91) (hl : Rd.isM t 123) :
 Calls Tryz.prog 62 #[.pointer (some ⟨r, 0, none⟩), .agg #[.int .i64 t.kind, .string t.text, .int .i64 t.num, .int .i64 t.at_, .int .i64 t.fin]] w (FromGives ((Rd.startF (Rd.membP Rd.Ob s (room - 1)) s 125 n t.fin []).res Rd.Ob) b s w) := by
 have hat : t.at_ < t.fin := hok.2.2 (Rd.mark_ne hl)
 have hfs := hok.2.1
 have HT := hid (ismark_t t ⟨#[123]⟩ hl)
 have HNT := hid (ismark_f t ⟨#[91]⟩ hl')
 have HAR := hid (fun (rr : Nat) (W : World) => object_any (s := s) (n := n) (r := rr) (b := b) (room := room - 1) (i := t.fin) IH (by omega) hs W)
 have hk1 : t.kind = 1 := hl.1
 have hout : (Rd.startF (Rd.membP Rd.Ob s (room - 1)) s 125 n t.fin []).res Rd.Ob ≠ .out := by
  have := start_out (Rd.memb_good Rd.Ob s (room - 1)) 125 n t.fin [] hfs (by omega)
  cases h : Rd.startF (Rd.membP Rd.Ob s (room - 1)) s 125 n t.fin [] with
  | out => exact absurd h this
  | err p c => intro h'; cases h'
  | ok a e => intro h'; cases h'
 have HOUT := hid hout
 clear hl hout hl'
 generalize hres : (Rd.startF (Rd.membP Rd.Ob s (room - 1)) s 125 n t.fin []).res Rd.Ob = res at *
 clear hres
 have hnb : 2 * (s.size - t.fin) + 2 ≤ n := by omega
 obtain ⟨k, x, nn, a, f⟩ := t
 dsimp only at *
 have u6 : (k == 6) = false := by rw [hk1]; rfl
 have u5 : (k == 5) = false := by rw [hk1]; rfl
 have u4 : (k == 4) = false := by rw [hk1]; rfl
 have u3 : (k == 3) = false := by rw [hk1]; rfl
 have u2 : (k == 2) = false := by rw [hk1]; rfl
 have hre : ((room - 1 : Nat) : Int) = (room : Int) - 1 := by omega
 have hwrap : IntKind.i64.wrap ((room : Int) - 1) = ((room - 1 : Nat) : Int) := by rw [hre]; exact IntWalk.i64_in _ (by omega)
 have hwrap2 : wrap64 ((room : Int) - 1) = ((room - 1 : Nat) : Int) := by rw [hre]; exact IntWalk.wrap64_in _ (by omega)
 clear hre
 have hrz : ((room : Int) == 0) = false := by rw [beq_eq_false_iff_ne]; omega
 clear hk1 hn
 have hbl : b < w.heap.size := Blk.lt hL
 have hrl := hr.lt
 go_enter Tryz.func62, Tryz.ntmps62
 have hB0 : Blk (w.alloc (.cells #[.int .i64 k, .string x, .int .i64 nn, .int .i64 a, .int .i64 f] 99)) w.heap.size 99 #[.int .i64 k, .string x, .int .i64 nn, .int .i64 a, .int .i64 f] := Blk.new w _ _
 have hB1 : Blk ((w.alloc (.cells #[.int .i64 k, .string x, .int .i64 nn, .int .i64 a, .int .i64 f] 99)).alloc (.cells #[.int .i64 0, .bool false, .int .i64 0, .string ⟨#[]⟩, .slice none 0 0, .slice none 0 0] 43)) (w.heap.size + 1) 43 #[.int .i64 0, .bool false, .int .i64 0, .string ⟨#[]⟩, .slice none 0 0, .slice none 0 0] := by
  have := Blk.new (w.alloc (.cells #[.int .i64 k, .string x, .int .i64 nn, .int .i64 a, .int .i64 f] 99)) 43 #[.int .i64 0, .bool false, .int .i64 0, .string ⟨#[]⟩, .slice none 0 0, .slice none 0 0]
  rwa [World.size_alloc] at this
 have hW : Below w.heap.size w ((w.alloc (.cells #[.int .i64 k, .string x, .int .i64 nn, .int .i64 a, .int .i64 f] 99)).alloc (.cells #[.int .i64 0, .bool false, .int .i64 0, .string ⟨#[]⟩, .slice none 0 0, .slice none 0 0] 43)) := ((Below.refl _ _).alloc (Nat.le_refl _) _).alloc (by simp) _
 have HB2 := hid (hB0.alloc (.cells #[.int .i64 0, .bool false, .int .i64 0, .string ⟨#[]⟩, .slice none 0 0, .slice none 0 0] 43))
 have HB1 := hid hB1
 have HW := hid hW
 have HR := hid (hr.onto hW)
 have HL := hid (show Lx _ b s f from Blk.onto hL hW)
 have HE := hid (hE.onto hW)
 clear hB0 hB1 hW hr hL hE
 go_wp2_with fail
 change Calls _ _ _ ((w.alloc (.cells #[.int .i64 k, .string x, .int .i64 nn, .int .i64 a, .int .i64 f] 99)).alloc (.cells #[.int .i64 0, .bool false, .int .i64 0, .string ⟨#[]⟩, .slice none 0 0, .slice none 0 0] 43)) _
 generalize ((w.alloc (.cells #[.int .i64 k, .string x, .int .i64 nn, .int .i64 a, .int .i64 f] 99)).alloc (.cells #[.int .i64 0, .bool false, .int .i64 0, .string ⟨#[]⟩, .slice none 0 0, .slice none 0 0] 43)) = W at *
 have hw1 : w.heap.size + 1 < W.heap.size := HB1.out.lt
 generalize hG : w.heap.size = G at *
 have HG := hid hG
 clear hG
 refine (HNT.out _).mono ?_
 rintro e w1 ⟨rfl, hb⟩
 have H1 := hid hb
 have hB := HB2.out.onto hb
 have p0 : w1.cell? ⟨G, 0, none⟩ = some (.int .i64 k) := hB.cell 0
 have p1 : w1.cell? ⟨G, 1, none⟩ = some (.string x) := hB.cell 1
 have p2 : w1.cell? ⟨G, 2, none⟩ = some (.int .i64 nn) := hB.cell 2
 have p3 : w1.cell? ⟨G, 3, none⟩ = some (.int .i64 a) := hB.cell 3
 have p4 : w1.cell? ⟨G, 4, none⟩ = some (.int .i64 f) := hB.cell 4
 clear hb hB
 go_wp2_with fail
 refine (HT.out _).mono ?_
 rintro e w2 ⟨rfl, hb⟩
 have H2 := hid (H1.out.trans (hb.mono H1.out.size))
 clear hb H1 p0 p1 p2 p3 p4
 have hR2 := HR.out.onto H2.out
 have y1 : w2.cell? ⟨r, 1, none⟩ = some (.int .i64 room) := hR2.cell 1
 have y0 : w2.cell? ⟨r, 0, none⟩ = some (.pointer (some ⟨b, 0, none⟩)) := hR2.cell 0
 have HR2 := hid hR2
 clear hR2
 try clear hb
 go_upto_region 15 with fail
 have HS := hid (show ∀ w', Below w2.heap.size w2 w' → w'.cell? ⟨r, 0, none⟩ = some (.pointer (some ⟨b, 0, none⟩)) ∧ w'.cell? ⟨r, 1, none⟩ = some (.int .i64 room) from fun w' h => ⟨(HR2.out.onto h).cell 0, (HR2.out.onto h).cell 1⟩)
 refine wp_region_held_drew (S := fun w' => w'.cell? ⟨r, 0, none⟩ = some (.pointer (some ⟨b, 0, none⟩)) ∧ w'.cell? ⟨r, 1, none⟩ = some (.int .i64 room)) (by kernel_rfl) ?_ (fun hHeld => ?_)
 · exact HS.out _ (Below.refl w2.heap.size w2).drew
 refine wpAnyH_take (i := 0) (v := ?_) rfl (by kernel_rfl) (by kernel_rfl) (by kernel_rfl) (fun _ _ _ h => h) (Or.inl ⟨by rfl, ?_⟩) (by assumption) ?_
 rotate_left
 ·
  intro wq hSw
  try dsimp only at hSw
  go_simp
  try (with_reducible rfl)
 try simp only [Act.put, List.getElem_toArray, List.getElem_cons_zero, List.setIfInBounds_toArray, List.set_cons_zero, List.set_cons_succ]
 refine wpAnyH_take (i := 1) (v := ?_) rfl (by kernel_rfl) (by kernel_rfl) (by kernel_rfl) (fun _ _ _ h => h) (Or.inl ⟨by rfl, ?_⟩) (by assumption) ?_
 rotate_left
 ·
  intro wq hSw
  try dsimp only at hSw
  go_simp
  try (with_reducible rfl)
 try simp only [Act.put, sqa, sqb, sqc, sqd, sqe, sqf]
 refine wpAnyH_take (i := 2) (v := ?_) rfl (by kernel_rfl) (by kernel_rfl) (by kernel_rfl) (fun _ _ _ h => h) (Or.inl ⟨by rfl, ?_⟩) (by assumption) ?_
 rotate_left
 ·
  intro wq hSw
  try dsimp only at hSw
  go_simp
  try (with_reducible rfl)
 try simp only [Act.put, sqa, sqb, sqc, sqd, sqe, sqf]
 refine wpAnyH_take (i := 3) (v := ?_) rfl (by kernel_rfl) (by kernel_rfl) (by kernel_rfl) (fun _ _ _ h => h) (Or.inl ⟨by rfl, ?_⟩) (by assumption) ?_
 rotate_left
 ·
  intro wq hSw
  try dsimp only at hSw
  go_simp
  try (with_reducible rfl)
 try simp only [Act.put, sqa, sqb, sqc, sqd, sqe, sqf]
 refine wpAnyH_take (i := 4) (v := ?_) rfl (by kernel_rfl) (by kernel_rfl) (by kernel_rfl) (fun _ _ _ h => h) (Or.inl ⟨by rfl, ?_⟩) (by assumption) ?_
 rotate_left
 ·
  intro wq hSw
  try dsimp only at hSw
  go_simp
  try (with_reducible rfl)
 try simp only [Act.put, sqa, sqb, sqc, sqd, sqe, sqf]
 refine wpAnyH_take (i := 5) (v := ?_) rfl (by kernel_rfl) (by kernel_rfl) (by kernel_rfl) (fun _ _ _ h => h) (Or.inl ⟨by rfl, ?_⟩) (by assumption) ?_
 rotate_left
 ·
  intro wq hSw
  try dsimp only at hSw
  go_simp
  try (with_reducible rfl)
 try simp only [Act.put, sqa, sqb, sqc, sqd, sqe, sqf]
 refine wpAnyH_take (i := 6) (v := ?_) rfl (by kernel_rfl) (by kernel_rfl) (by kernel_rfl) (fun _ _ _ h => h) (Or.inl ⟨by rfl, ?_⟩) (by assumption) ?_
 rotate_left
 ·
  intro wq hSw
  try dsimp only at hSw
  go_simp
  try (with_reducible rfl)
 try simp only [Act.put, sqa, sqb, sqc, sqd, sqe, sqf]
 refine wpAnyH_take (i := 7) (v := ?_) rfl (by kernel_rfl) (by kernel_rfl) (by kernel_rfl) (fun _ _ _ h => h) (Or.inl ⟨by rfl, ?_⟩) (by assumption) ?_
 rotate_left
 ·
  intro wq hSw
  try dsimp only at hSw
  go_simp
  try (with_reducible rfl)
 try simp only [Act.put, sqa, sqb, sqc, sqd, sqe, sqf]
 refine wpAnyH_take (i := 8) (v := ?_) rfl (by kernel_rfl) (by kernel_rfl) (by kernel_rfl) (fun _ _ _ h => h) (Or.inl ⟨by rfl, ?_⟩) (by assumption) ?_
 rotate_left
 ·
  intro wq hSw
  try dsimp only at hSw
  go_simp
  try (with_reducible rfl)
 try simp only [Act.put, sqa, sqb, sqc, sqd, sqe, sqf]
 refine wpAnyH_take (i := 9) (v := ?_) rfl (by kernel_rfl) (by kernel_rfl) (by kernel_rfl) (fun _ _ _ h => h) (Or.inl ⟨by rfl, ?_⟩) (by assumption) ?_
 rotate_left
 ·
  intro wq hSw
  try dsimp only at hSw
  go_simp
  try (with_reducible rfl)
 try simp only [Act.put, sqa, sqb, sqc, sqd, sqe, sqf]
 refine wpAnyH_ready (rs := [10]) (by kernel_rfl) (by simp) ?_
 refine AllReadyH.cons rfl (fun K0 hK => ?_) ?_
 rotate_left
 · exact AllReadyH.nil
 go_simp
 refine hK.out _ _ ?_ (fun hHeld => ?_)
 · exact HS.out _ ((Below.refl w2.heap.size w2).drew.alloc (Nat.le_refl _) _)
 clear hK K0
 try simp only [Act.put, sqa, sqb, sqc, sqd, sqe, sqf]
 refine wpAnyH_take (i := 11) (v := ?_) rfl (by kernel_rfl) (by kernel_rfl) (by kernel_rfl) (fun _ _ _ h => h) (Or.inl ⟨by rfl, ?_⟩) (by assumption) ?_
 rotate_left
 ·
  intro wq hSw
  try dsimp only at hSw
  go_simp
  try (with_reducible rfl)
 try simp only [Act.put, sqa, sqb, sqc, sqd, sqe, sqf]
 refine wpAnyH_done (by kernel_rfl) ?_ _
 go_upto_region 16 with fail
 change Code.wp _ _ _ _ (w2.alloc (.cells #[.pointer (some ⟨b, 0, none⟩), .int .i64 ((room - 1 : Nat) : Int)] 77)).drew
 have hi1 : Below w2.heap.size w2 (w2.alloc (.cells #[.pointer (some ⟨b, 0, none⟩), .int .i64 ((room - 1 : Nat) : Int)] 77)).drew := ((Below.refl w2.heap.size w2).alloc (Nat.le_refl _) _).drew
 have hiB : Blk (w2.alloc (.cells #[.pointer (some ⟨b, 0, none⟩), .int .i64 ((room - 1 : Nat) : Int)] 77)).drew w2.heap.size 77 #[.pointer (some ⟨b, 0, none⟩), .int .i64 ((room - 1 : Nat) : Int)] := Blk.new w2 _ _
 have H3 := hid (H2.out.trans (hi1.mono H2.out.size))
 have hsw2 := H2.out.size
 generalize hw3 : (w2.alloc (.cells #[.pointer (some ⟨b, 0, none⟩), .int .i64 ((room - 1 : Nat) : Int)] 77)).drew = w3 at *
 clear hw3
 have hB := HB2.out.onto H3.out
 have p0 : w3.cell? ⟨G, 0, none⟩ = some (.int .i64 k) := hB.cell 0
 have p1 : w3.cell? ⟨G, 1, none⟩ = some (.string x) := hB.cell 1
 have p2 : w3.cell? ⟨G, 2, none⟩ = some (.int .i64 nn) := hB.cell 2
 have p3 : w3.cell? ⟨G, 3, none⟩ = some (.int .i64 a) := hB.cell 3
 have p4 : w3.cell? ⟨G, 4, none⟩ = some (.int .i64 f) := hB.cell 4
 clear hB hi1 y0 y1 hwrap hwrap2
 have HIB := hid hiB
 clear hiB
 go_wp2_with fail
 refine (HNT.out _).mono ?_
 rintro e w4 ⟨rfl, hb⟩
 have H4 := hid (H3.out.trans (hb.mono H3.out.size))
 have hs4 := hb.size
 have hw2l : w2.heap.size < w4.heap.size := (HIB.out.onto hb).lt
 have HI4 := hid (HIB.out.onto hb)
 clear hb p0 p1 p2 p3 p4
 go_wp2_with fail
 refine (HAR.out w2.heap.size w4 HI4.out (Blk.onto HL.out H4.out) (HE.out.onto H4.out) hfs hnb (by omega)).mono ?_
 intro e w5 hg
 have hWs := HW.out.size
 have HAW := hid (show Aside b w w4 from (Aside.of (HG.out ▸ HW.out)).trans_ (Aside.of H4.out))
 have hs4' := H4.out.size
 cases res with
 | out => exact absurd rfl HOUT.out
 | err p c =>
  obtain ⟨rfl, hA⟩ := hg
  have HA := hid (HAW.out.trans_ hA)
  have HBx := hid ((HB1.out.onto H4.out).aside hA (by omega))
  have q0 : w5.cell? ⟨G + 1, 0, none⟩ = some (.int .i64 0) := HBx.out.cell 0
  have q1 : w5.cell? ⟨G + 1, 1, none⟩ = some (.bool false) := HBx.out.cell 1
  have q2 : w5.cell? ⟨G + 1, 2, none⟩ = some (.int .i64 0) := HBx.out.cell 2
  have q3 : w5.cell? ⟨G + 1, 3, none⟩ = some (.string ⟨#[]⟩) := HBx.out.cell 3
  have q4 : w5.cell? ⟨G + 1, 4, none⟩ = some (.slice none 0 0) := HBx.out.cell 4
  have q5 : w5.cell? ⟨G + 1, 5, none⟩ = some (.slice none 0 0) := HBx.out.cell 5
  have xq0 := HBx.out.free 0
  have xq1 := HBx.out.free 1
  have xq2 := HBx.out.free 2
  have xq3 := HBx.out.free 3
  have xq4 := HBx.out.free 4
  have xq5 := HBx.out.free 5
  clear hA
  unfold T.agg
  go_wp2_with fail
  have hF : Blk ((((((w5.setCell ⟨G + 1, 0, none⟩ (.int .i64 T.zero.kind)).setCell ⟨G + 1, 1, none⟩ (.bool T.zero.tr)).setCell ⟨G + 1, 2, none⟩ (.int .i64 T.zero.num)).setCell ⟨G + 1, 3, none⟩ (.string T.zero.str)).setCell ⟨G + 1, 4, none⟩ (.slice none T.zero.items.length 0)).setCell ⟨G + 1, 5, none⟩ (.slice none T.zero.keys.length 0)) (G + 1) 43 (#[.int .i64 T.zero.kind, .bool T.zero.tr, .int .i64 T.zero.num, .string T.zero.str, .slice none T.zero.items.length 0, .slice none T.zero.keys.length 0]) := res_put HBx.out rfl T.zero none 0 none 0
  have HZ := hid (show Aside b w ((((((w5.setCell ⟨G + 1, 0, none⟩ (.int .i64 T.zero.kind)).setCell ⟨G + 1, 1, none⟩ (.bool T.zero.tr)).setCell ⟨G + 1, 2, none⟩ (.int .i64 T.zero.num)).setCell ⟨G + 1, 3, none⟩ (.string T.zero.str)).setCell ⟨G + 1, 4, none⟩ (.slice none T.zero.items.length 0)).setCell ⟨G + 1, 5, none⟩ (.slice none T.zero.keys.length 0)) from HA.out.put6 (by have := HG.out; omega) _ _ _ _ _ _)
  change Blk ((((((w5.setCell ⟨G + 1, 0, none⟩ (.int .i64 T.zero.kind)).setCell ⟨G + 1, 1, none⟩ (.bool T.zero.tr)).setCell ⟨G + 1, 2, none⟩ (.int .i64 T.zero.num)).setCell ⟨G + 1, 3, none⟩ (.string T.zero.str)).setCell ⟨G + 1, 4, none⟩ (.slice none T.zero.items.length 0)).setCell ⟨G + 1, 5, none⟩ (.slice none T.zero.keys.length 0)) _ _ _ at hF
  generalize ((((((w5.setCell ⟨G + 1, 0, none⟩ (.int .i64 T.zero.kind)).setCell ⟨G + 1, 1, none⟩ (.bool T.zero.tr)).setCell ⟨G + 1, 2, none⟩ (.int .i64 T.zero.num)).setCell ⟨G + 1, 3, none⟩ (.string T.zero.str)).setCell ⟨G + 1, 4, none⟩ (.slice none T.zero.items.length 0)).setCell ⟨G + 1, 5, none⟩ (.slice none T.zero.keys.length 0)) = V9 at *
  have m0 : V9.cell? ⟨G + 1, 0, none⟩ = some (.int .i64 T.zero.kind) := hF.cell 0
  have m1 : V9.cell? ⟨G + 1, 1, none⟩ = some (.bool T.zero.tr) := hF.cell 1
  have m2 : V9.cell? ⟨G + 1, 2, none⟩ = some (.int .i64 T.zero.num) := hF.cell 2
  have m3 : V9.cell? ⟨G + 1, 3, none⟩ = some (.string T.zero.str) := hF.cell 3
  have m4 : V9.cell? ⟨G + 1, 4, none⟩ = some (.slice none T.zero.items.length 0) := hF.cell 4
  have m5 : V9.cell? ⟨G + 1, 5, none⟩ = some (.slice none T.zero.keys.length 0) := hF.cell 5
  refine bodyPost_ret (v := .tuple #[T.zero.agg none 0 none 0, .int .i64 p, .int .i64 c]) (by simp [results, Tryz.results62, go_sem, T.agg, T.zero, T.kind, T.tr, T.num, T.str, T.items, T.keys, m0, m1, m2, m3, m4, m5]) rfl ?_
  exact ⟨rfl, HZ.out⟩
 | val v fin =>
  obtain ⟨A, c, A', c', rfl, htv, hA, hlx⟩ := hg
  have HA := hid (HAW.out.trans_ hA)
  have HBx := hid ((HB1.out.onto H4.out).aside hA (by omega))
  have HTV := hid (show TV w5 (fun q => w.heap.size ≤ q ∧ q < w5.heap.size ∧ q ≠ G + 1) v A c A' c' from htv.wide fun q hq => ⟨by have := hq.1; have := HG.out; omega, hq.2, by have := hq.1; omega⟩)
  have HLX := hid hlx
  have q0 : w5.cell? ⟨G + 1, 0, none⟩ = some (.int .i64 0) := HBx.out.cell 0
  have q1 : w5.cell? ⟨G + 1, 1, none⟩ = some (.bool false) := HBx.out.cell 1
  have q2 : w5.cell? ⟨G + 1, 2, none⟩ = some (.int .i64 0) := HBx.out.cell 2
  have q3 : w5.cell? ⟨G + 1, 3, none⟩ = some (.string ⟨#[]⟩) := HBx.out.cell 3
  have q4 : w5.cell? ⟨G + 1, 4, none⟩ = some (.slice none 0 0) := HBx.out.cell 4
  have q5 : w5.cell? ⟨G + 1, 5, none⟩ = some (.slice none 0 0) := HBx.out.cell 5
  have xq0 := HBx.out.free 0
  have xq1 := HBx.out.free 1
  have xq2 := HBx.out.free 2
  have xq3 := HBx.out.free 3
  have xq4 := HBx.out.free 4
  have xq5 := HBx.out.free 5
  clear hA htv hlx
  unfold T.agg
  go_wp2_with fail
  have hF : Blk ((((((w5.setCell ⟨G + 1, 0, none⟩ (.int .i64 v.kind)).setCell ⟨G + 1, 1, none⟩ (.bool v.tr)).setCell ⟨G + 1, 2, none⟩ (.int .i64 v.num)).setCell ⟨G + 1, 3, none⟩ (.string v.str)).setCell ⟨G + 1, 4, none⟩ (.slice A v.items.length c)).setCell ⟨G + 1, 5, none⟩ (.slice A' v.keys.length c')) (G + 1) 43 (#[.int .i64 v.kind, .bool v.tr, .int .i64 v.num, .string v.str, .slice A v.items.length c, .slice A' v.keys.length c']) := res_put HBx.out rfl v A c A' c'
  have HZ := hid (show FromGives (.val v fin) b s w (.returned (.tuple #[v.agg A c A' c', .int .i64 0, .int .i64 0])) ((((((w5.setCell ⟨G + 1, 0, none⟩ (.int .i64 v.kind)).setCell ⟨G + 1, 1, none⟩ (.bool v.tr)).setCell ⟨G + 1, 2, none⟩ (.int .i64 v.num)).setCell ⟨G + 1, 3, none⟩ (.string v.str)).setCell ⟨G + 1, 4, none⟩ (.slice A v.items.length c)).setCell ⟨G + 1, 5, none⟩ (.slice A' v.keys.length c')) from ⟨A, c, A', c', rfl, box_put HTV.out, HA.out.put6 (by have := HG.out; omega) _ _ _ _ _ _, (putv_heap (by omega)).trans HLX.out⟩)
  change Blk ((((((w5.setCell ⟨G + 1, 0, none⟩ (.int .i64 v.kind)).setCell ⟨G + 1, 1, none⟩ (.bool v.tr)).setCell ⟨G + 1, 2, none⟩ (.int .i64 v.num)).setCell ⟨G + 1, 3, none⟩ (.string v.str)).setCell ⟨G + 1, 4, none⟩ (.slice A v.items.length c)).setCell ⟨G + 1, 5, none⟩ (.slice A' v.keys.length c')) _ _ _ at hF
  generalize ((((((w5.setCell ⟨G + 1, 0, none⟩ (.int .i64 v.kind)).setCell ⟨G + 1, 1, none⟩ (.bool v.tr)).setCell ⟨G + 1, 2, none⟩ (.int .i64 v.num)).setCell ⟨G + 1, 3, none⟩ (.string v.str)).setCell ⟨G + 1, 4, none⟩ (.slice A v.items.length c)).setCell ⟨G + 1, 5, none⟩ (.slice A' v.keys.length c')) = V9 at *
  have m0 : V9.cell? ⟨G + 1, 0, none⟩ = some (.int .i64 v.kind) := hF.cell 0
  have m1 : V9.cell? ⟨G + 1, 1, none⟩ = some (.bool v.tr) := hF.cell 1
  have m2 : V9.cell? ⟨G + 1, 2, none⟩ = some (.int .i64 v.num) := hF.cell 2
  have m3 : V9.cell? ⟨G + 1, 3, none⟩ = some (.string v.str) := hF.cell 3
  have m4 : V9.cell? ⟨G + 1, 4, none⟩ = some (.slice A v.items.length c) := hF.cell 4
  have m5 : V9.cell? ⟨G + 1, 5, none⟩ = some (.slice A' v.keys.length c') := hF.cell 5
  refine bodyPost_ret (v := .tuple #[v.agg A c A' c', .int .i64 0, .int .i64 0]) (by simp [results, Tryz.results62, go_sem, T.agg, T.kind, T.tr, T.num, T.str, T.items, T.keys, m0, m1, m2, m3, m4, m5]) rfl ?_
  exact HZ.out
open Go.RowKit Go.Maps Go.Sort
open Tk
theorem from_at (s : ByteArray) (hs : s.size ≤ 90000) : ∀ n, FromAt Rd.Ob s n := by
 intro n
 induction n using Nat.strongRecOn with
 | ind n ih =>
  intro room hroom t r b w hok hn hr hl hE hrb
  cases n with
  | zero => omega
  | succ n =>
   have IH : ∀ k, k < n → FromAt Rd.Ob s k := fun k hk => ih k (by omega)
   by_cases h0 : room = 0
   · exact from_leaf Rd.Ob s n room t r b w hr hl (fun _ => h0)
   ·
    by_cases h91 : Rd.isM t 91
    ·
     rw [fromF_91 Rd.Ob s n room t h91 h0]
     exact from_arr IH hs t r b w hok hn hr hl hE hrb h0 hroom h91
    ·
     by_cases h123 : Rd.isM t 123
     ·
      rw [fromF_123 Rd.Ob s n room t h123 h91 h0]
      exact from_obj IH hs t r b w hok hn hr hl hE hrb h0 hroom h91 h123
     · exact from_leaf Rd.Ob s n room t r b w hr hl (fun h => h.elim (fun h => absurd h h91) (fun h => absurd h h123))
end Go.Proofs.YtgblenoaeanogaaGreatDoor
