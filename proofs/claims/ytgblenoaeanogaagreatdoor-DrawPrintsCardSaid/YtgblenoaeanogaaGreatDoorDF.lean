/- A sequence printed: the program's Print. -/
import Derived.Test.YtgblenoaeanogaaGreatDoorDD
import Derived.Test.YtgblenoaeanogaaGreatDoorOW
set_option linter.unusedVariables false
set_option maxRecDepth 100000
set_option maxHeartbeats 8000000
open Go.Lib (hid)
namespace Go.Proofs.YtgblenoaeanogaaGreatDoor
open Go.RowKit
attribute [local go_sem ↓] Go.wp_at_zero Go.wp_at_succ
def NumR (cs : Array Value) (l : List Int) (k : Nat) : Prop := cs.size = l.length * 6 ∧ ∀ i, i < k → cs[i * 6]? = some (.int .i64 2) ∧ cs[i * 6 + 1]? = some (.bool false) ∧ cs[i * 6 + 2]? = some (.int .i64 (l.getD i 0)) ∧ cs[i * 6 + 3]? = some (.string ⟨#[]⟩) ∧ cs[i * 6 + 4]? = some (.slice none 0 0) ∧ cs[i * 6 + 5]? = some (.slice none 0 0)
theorem num_tv (w : World) (S : Nat → Prop) (n : Int) : TV w S (T.ofNum n) none 0 none 0 := TV.of (Nat.le_refl _) (Nat.le_refl _) (fun h => absurd rfl h) (SReads.none_ _ _ _)
theorem numr_reads {w : World} {g : Nat} {cs : Array Value} {l : List Int} (hb : Blk w g 43 cs) (h : NumR cs l l.length) : VReads w (· < w.heap.size) (some ⟨g, 0, none⟩) (l.map T.ofNum) := by
 intro _
 refine ⟨g, 0, rfl, hb.lt, fun i x hx => ?_⟩
 rw [List.getElem?_map] at hx
 rcases Nat.lt_or_ge i l.length with hi | hi
 ·
  rw [List.getElem?_eq_getElem hi] at hx
  simp at hx
  subst hx
  obtain ⟨h0, h1, h2, h3, h4, h5⟩ := h.2 i hi
  rw [List.getD_eq_getElem?_getD, List.getElem?_eq_getElem hi] at h2
  refine ⟨none, 0, none, 0, ⟨?_, ?_, ?_, ?_, ?_, ?_⟩, num_tv _ _ _⟩
  · rw [Nat.zero_add, hb.cell]; exact h0
  · rw [Nat.zero_add, hb.cell]; exact h1
  · rw [Nat.zero_add, hb.cell]; exact h2
  · rw [Nat.zero_add, hb.cell]; exact h3
  · rw [Nat.zero_add, hb.cell]; exact h4
  · rw [Nat.zero_add, hb.cell]; exact h5
 · rw [List.getElem?_eq_none hi] at hx; cases hx
theorem sizes_nums : ∀ l : List Int, T.sizes (l.map T.ofNum) = l.length
 | [] => rfl
 | a :: l => by
  rw [List.map_cons, T.sizes, sizes_nums l, T.size_eq]
  show 1 + T.sizes [] + l.length = _
  simp [T.sizes]
  omega
theorem dprint_any (l : List Int) (A : Option Addr) (c : Nat) (w : World) (hl : l.length ≤ 100) (hin : ∀ x ∈ l, In64 x) (ht : (seqT l).txt.length ≤ 2400) (hr : RI w w.heap.size A l) (htb : Lib.TabIs Tryz.prog w "internal/strconv.uint64pow10" .u64 Lib.pow10Tab) :
 Calls Tryz.prog 11 #[.slice A l.length c] w fun e w' => e = .returned (.string (mkB (seqT l).txt)) ∧ Below w.heap.size w w' := by
 obtain ⟨i0, hi, hz0, hz1, hz2⟩ := info_parts infoVal
 have hmk : ∀ W : World, (Instr.makeSlice 40 (.int .i64 l.length) (.int .i64 l.length)).run Tryz.prog W = .ok (.slice (some ⟨W.heap.size, 0, none⟩) l.length l.length) (W.alloc (.cells (madeCells #[.int .i64 0, .bool false, .int .i64 0, .string ⟨#[]⟩, .slice none 0 0, .slice none 0 0] (l.length * 6)) 43)) := by
  intro W
  have := run_make (P := Tryz.prog) W 40 43 i0 _ Tryz.underlying40 hi hz0 .i64 .i64 l.length l.length (by omega) (by omega) (by rw [hz2]; omega) (by omega)
  rw [hz1] at this
  exact this
 have HR := hid hr
 have HIN := hid hin
 have HT := hid ht
 have HTB := hid (tab_of htb)
 clear hr hin ht htb hz0 hz1 hz2 hi
 go_enter Tryz.func11, Tryz.ntmps11
 go_upto_region 2 with fail
 have hm := Blk.new w 43 (madeCells #[.int .i64 0, .bool false, .int .i64 0, .string ⟨#[]⟩, .slice none 0 0, .slice none 0 0] (l.length * 6))
 have hb2 : Below w.heap.size w (w.alloc (.cells (madeCells #[.int .i64 0, .bool false, .int .i64 0, .string ⟨#[]⟩, .slice none 0 0, .slice none 0 0] (l.length * 6)) 43)) := (Below.refl _ _).alloc (Nat.le_refl _) _
 change Code.wp _ _ _ _ (w.alloc (.cells (madeCells #[.int .i64 0, .bool false, .int .i64 0, .string ⟨#[]⟩, .slice none 0 0, .slice none 0 0] (l.length * 6)) 43))
 have hsz : (madeCells #[.int .i64 0, .bool false, .int .i64 0, .string ⟨#[]⟩, .slice none 0 0, .slice none 0 0] (l.length * 6)).size = l.length * 6 := size_madeCells _ _
 generalize (madeCells #[.int .i64 0, .bool false, .int .i64 0, .string ⟨#[]⟩, .slice none 0 0, .slice none 0 0] (l.length * 6)) = cs0 at *
 generalize (w.alloc (.cells cs0 43)) = W2 at *
 have HM := hid hm
 have HB2 := hid hb2
 have HSZ := hid hsz
 clear hmk hm hb2 hsz
 generalize hg : w.heap.size = g at *
 have HGE := hid hg
 clear hg
 go_wp2_with fail
 go_loopw [4, 5, 11] (fun _ _ i wr => ∃ (k : Nat) (cs : Array Value), k ≤ l.length ∧ i = .int .i64 k ∧ Blk wr g 43 cs ∧ NumR cs l k ∧ Below g w wr) (fun _ _ i _ => l.length - (intOf i).toNat)
 case atStart => exact ⟨0, cs0, Nat.zero_le _, rfl, HM.out, ⟨HSZ.out, fun i hi => by omega⟩, HB2.out⟩
 case round =>
  obtain ⟨k, cs, hk, rfl, kb, kn, kw⟩ := hrel
  have KB := hid kb
  have KN := hid kn
  have KW := hid kw
  clear kb kn kw
  by_cases hlt : k < l.length
  ·
   have u1 : decide (k < l.length) = true := decide_eq_true hlt
   obtain ⟨b1, o1, rfl, hb1, c1⟩ := HR.out.at_ hlt
   have e1 := (KW.out.cell (p := ⟨b1, o1 + k, none⟩) hb1).trans (c1 k hlt)
   clear c1
   generalize hx : l.getD k 0 = x at *
   have HX := hid hx
   clear hx
   go_wp2_with fail
   refine (number_any x _).mono ?_
   rintro e w3 ⟨rfl, hb3⟩
   have KB3 := hid (KB.out.onto hb3)
   have KW3 := hid (KW.out.trans (hb3.mono (show g ≤ wr.heap.size from Nat.le_of_lt KB.out.lt)))
   obtain ⟨v0, v1, v2, v3, v4, v5, f0, f1, f2, f3, f4, f5⟩ := KB3.out.six (o := k * 6) (by rw [KN.out.1]; omega)
   have z0 := KB3.out.free (k * 6)
   have z1 := KB3.out.free (k * 6 + 1)
   have z2 := KB3.out.free (k * 6 + 2)
   have z3 := KB3.out.free (k * 6 + 3)
   have z4 := KB3.out.free (k * 6 + 4)
   have z5 := KB3.out.free (k * 6 + 5)
   unfold T.agg
   clear hb3
   go_wp2_with fail
   go_roundw
   case rel =>
    obtain ⟨cs', hb', hs', h6, ho⟩ := six_put KB3.out (o := k * 6) (by rw [KN.out.1]; omega) (T.ofNum x) none 0 none 0
    refine ⟨k + 1, cs', by omega, by go_num, hb', ⟨hs'.trans KN.out.1, fun i hi => ?_⟩, (((((KW3.out.setCell (Nat.le_refl _) _).setCell (Nat.le_refl _) _).setCell (Nat.le_refl _) _).setCell (Nat.le_refl _) _).setCell (Nat.le_refl _) _).setCell (Nat.le_refl _) _⟩
    by_cases hik : i < k
    ·
     obtain ⟨y0, y1, y2, y3, y4, y5⟩ := KN.out.2 i hik
     exact ⟨(ho _ (by omega)).trans y0, (ho _ (by omega)).trans y1, (ho _ (by omega)).trans y2, (ho _ (by omega)).trans y3, (ho _ (by omega)).trans y4, (ho _ (by omega)).trans y5⟩
    ·
     obtain rfl : i = k := by omega
     obtain ⟨y0, y1, y2, y3, y4, y5⟩ := h6
     rw [hb'.cell] at y0 y1 y2 y3 y4 y5
     exact ⟨y0, y1, y2.trans (by rw [HX.out]; rfl), y3, y4, y5⟩
   case measure => simp [intOf]; omega
  ·
   obtain rfl : l.length = k := by omega
   have hli := list_any (l.map T.ofNum) (some ⟨g, 0, none⟩) l.length wr (by rw [sizes_nums]; omega) (fun x hx => by
    obtain ⟨n, hn, rfl⟩ := List.mem_map.1 hx
    have hsz : (T.ofNum n).size ≤ 100000 := by rw [T.size_eq]; show 1 + T.sizes [] + 0 ≤ 100000; simp [T.sizes]
    exact (Rd.g_num (HIN.out n hn)).1.small hsz) (numr_reads KB.out KN.out)
   rw [List.length_map] at hli
   have HLI := hid hli
   have hg := seq_g HIN.out
   have hw : (seqT l).Wide := ⟨hg.1, hg.2.imp fun _ h => h⟩
   have hs8 : (seqT l).size ≤ 1000 := by
    rw [T.size_eq]
    show 1 + T.sizes (l.map T.ofNum) + 0 ≤ 1000
    rw [sizes_nums]
    omega
   have HW := hid hw
   have HS8 := hid hs8
   clear hli hg hw hs8
   go_wp2_with fail
   refine HLI.out.mono ?_
   rintro e w3 ⟨⟨B, d, rfl, hv⟩, hb3⟩
   have KW3 := hid (KW.out.trans (hb3.mono (show g ≤ wr.heap.size from Nat.le_of_lt KB.out.lt)))
   have HSZ3 := hid (Nat.le_trans (Nat.le_of_lt KB.out.lt) hb3.size)
   have HV := hid hv
   clear hv hb3
   have HRT := hid (rntext_any (seqT l) B d none 0 w3 HW.out HT.out HS8.out (HTB.out.on KW3.out).2 HV.out)
   go_wp2_with fail
   refine HRT.out.mono ?_
   rintro e w4 ⟨rfl, hb4⟩
   have HF := hid (KW3.out.trans (hb4.mono HSZ3.out))
   clear hb4
   go_wp2_with fail
   go_ret
   exact ⟨rfl, by rw [HGE.out]; exact HF.out⟩
end Go.Proofs.YtgblenoaeanogaaGreatDoor
