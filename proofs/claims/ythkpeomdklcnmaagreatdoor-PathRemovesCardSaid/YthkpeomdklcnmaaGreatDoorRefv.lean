/- Ref: the program's value as the document's. -/
import Derived.Test.YthkpeomdklcnmaaGreatDoorReal
import Derived.Test.YthkpeomdklcnmaaGreatDoorObject
namespace Go.Proofs.YthkpeomdklcnmaaGreatDoor
open Go.RowKit

/-- how a call ends that gives the value t, in new memory but for what lies below B0 -/
def GivesR (B0 : Nat) (t : T) (w : World) (e : Ending) (w' : World) : Prop := ∃ B d B' d', e = .returned (t.agg B d B' d') ∧ TV w' (fun b => b < B0 ∨ w.heap.size ≤ b ∧ b < w'.heap.size) t B d B' d' ∧ Below w.heap.size w w'
def RefAt (n : Nat) : Prop := ∀ (B0 : Nat) (t : T) (A : Option Addr) (c : Nat) (A' : Option Addr) (c' : Nat) (w : World), t.size ≤ n → n ≤ 100000 → B0 ≤ w.heap.size → TV w (· < B0) t A c A' c' →
    Calls Tryz.prog 11 #[t.agg A c A' c'] w (GivesR B0 t w)
set_option maxRecDepth 100000 in
set_option maxHeartbeats 4000000 in
theorem ref_at (n : Nat) : RefAt n := by
  induction n with
  | zero => intro B0 t _ _ _ _ _ h; have := t.size_pos; omega
  | succ n ih =>
    intro B0 t A c A' c' w ht hn hB0 hv
    have hl := hv.lens.1
    have hls := t.len_size
    obtain ⟨i1, hi1, hy0, hy1, hy2⟩ := info_parts infoV
    have IH := Lib.hid ih
    have HV := Lib.hid hv
    clear ih hv
    unfold T.agg
    go_enter Tryz.func11, Tryz.ntmps11
    go_wp2_with fail
    have hW : Below w.heap.size w (((w.alloc (.cells (t.cs A c A' c') 34)).alloc (.cells zeros 29)).alloc (.cells #[.int .i64 t.kind, .bool t.tr, .int .i64 t.num, .string t.str, .slice none 0 0, .slice A' t.keys.length c'] 29)) := (((Below.refl _ _).alloc (Nat.le_refl _) _).alloc (by simp) _).alloc (by simp; omega) _
    have hR2 : Blk (((w.alloc (.cells (t.cs A c A' c') 34)).alloc (.cells zeros 29)).alloc (.cells #[.int .i64 t.kind, .bool t.tr, .int .i64 t.num, .string t.str, .slice none 0 0, .slice A' t.keys.length c'] 29)) (w.heap.size + 1) 29 zeros := by
      have := (Blk.new (w.alloc (.cells (t.cs A c A' c') 34)) 29 zeros).alloc (.cells #[.int .i64 t.kind, .bool t.tr, .int .i64 t.num, .string t.str, .slice none 0 0, .slice A' t.keys.length c'] 29)
      simpa using this
    have hQ : Blk (((w.alloc (.cells (t.cs A c A' c') 34)).alloc (.cells zeros 29)).alloc (.cells #[.int .i64 t.kind, .bool t.tr, .int .i64 t.num, .string t.str, .slice none 0 0, .slice A' t.keys.length c'] 29)) (w.heap.size + 2) 29 #[.int .i64 t.kind, .bool t.tr, .int .i64 t.num, .string t.str, .slice none 0 0, .slice A' t.keys.length c'] := by
      have := Blk.new ((w.alloc (.cells (t.cs A c A' c') 34)).alloc (.cells zeros 29)) 29 #[.int .i64 t.kind, .bool t.tr, .int .i64 t.num, .string t.str, .slice none 0 0, .slice A' t.keys.length c']
      simpa using this
    change Code.wp _ _ _ _ (((w.alloc (.cells (t.cs A c A' c') 34)).alloc (.cells zeros 29)).alloc (.cells #[.int .i64 t.kind, .bool t.tr, .int .i64 t.num, .string t.str, .slice none 0 0, .slice A' t.keys.length c'] 29))
    generalize (((w.alloc (.cells (t.cs A c A' c') 34)).alloc (.cells zeros 29)).alloc (.cells #[.int .i64 t.kind, .bool t.tr, .int .i64 t.num, .string t.str, .slice none 0 0, .slice A' t.keys.length c'] 29)) = W at *
    have HB2 := Lib.hid hW
    have HR2 := Lib.hid hR2
    have HQ := Lib.hid hQ
    have hq2 : w.heap.size + 1 < w.heap.size + 1 + 1 := by omega
    have HQ := Lib.hid (show Blk W (w.heap.size + 1 + 1) 29 #[.int .i64 t.kind, .bool t.tr, .int .i64 t.num, .string t.str, .slice none 0 0, .slice A' t.keys.length c'] from hQ)
    generalize w.heap.size + 1 + 1 = q at hq2 HQ ⊢
    clear hW hR2 hQ
    go_loopw [20] (fun i wr => ∃ (k : Nat) (A2 : Option Addr) (d2 : Nat) (xs : List Value), k ≤ t.items.length ∧ i = .int .i64 k ∧ Coll 29 wr (w.heap.size + 2) (fun b => (B0 ≤ b ∧ b < w.heap.size + 2) ∨ b = q) (t.items.take k) (.slice A2 k d2) xs ∧
      Blk wr q 29 #[.int .i64 t.kind, .bool t.tr, .int .i64 t.num, .string t.str, .slice A2 k d2, .slice A' t.keys.length c'] ∧ Blk wr (w.heap.size + 1) 29 zeros ∧ Below w.heap.size w wr) (fun i _ => t.items.length - (intOf i).toNat)
    case atStart => exact ⟨0, none, 0, [], Nat.zero_le _, rfl, Coll.nil _ _ _ _, HQ.out, HR2.out, HB2.out⟩
    case round =>
      obtain ⟨k, A2, d2, xs, hk, rfl, hcoll, hbq, hbr, hbel⟩ := hrel
      have Hcoll := Lib.hid hcoll
      have Hbq := Lib.hid hbq
      have Hbr := Lib.hid hbr
      have Hbel := Lib.hid hbel
      have hqlt := hbq.lt
      have q4 : wr.cell? ⟨q, 4, none⟩ = some (.slice A2 k d2) := hbq.cell 4
      have fq4 := hbq.free 4
      clear hcoll hbq hbr hbel
      by_cases hlt2 : k < t.items.length
      · have u1 : decide (k < t.items.length) = true := decide_eq_true hlt2
        obtain ⟨b, o, x, B, d, B', d', rfl, hb, hx, h6, hX⟩ := HV.out.at_ hlt2
        have hxs := T.at_size hx
        have HX := Lib.hid hX
        have Hx := Lib.hid hx
        obtain ⟨e0, e1, e2, e3, e4, e5⟩ := h6.keep hb (.of_below (Hbel.out.mono hB0))
        clear hX h6 hx
        go_wp2_with fail
        go_region_law (first
          | (refine app_step ?_ (.tmp 25) (.tmp 28) 27 ?_ (w.heap.size + 2) 29 i1 (.agg #[.int .i64 0, .bool false, .int .i64 0, .string ⟨#[]⟩, .slice none 0 0, .slice none 0 0]) 6 88 Tryz.underlying27 hi1 hy0 hy1 hy2 ?_ ?_ (.slice A2 k d2) k xs ?_ ?_ (some ⟨w2.heap.size, 0, none⟩) 1 1 (x.cs C f C' f').toList ?_ ?_ cs_one ?_ ?_ ?_ (k + 1) ?_ ?_
             · rfl
             · rfl
             · rfl
             · decide
             · rfl
             · first
                 | exact Hown2.out.alloc _
                 | exact (Hown2.out.alloc _).drew
             · rfl
             · exact src_of_cs (Blk.new w2 29 _)
             · unfold maxLen; omega
             · omega
             · simp; have := Hb2.out.size; omega
             · rfl
             intro A3 d3 w3 ho3 hg3 hat3
             have hbq3 := Hcoll2.out.blk hg3 Hbq2.out (.inr rfl)
             have hbr3 := Hcoll2.out.blk hg3 Hbr2.out (.inl ⟨by omega, by omega⟩)
             have hcoll3 := Hcoll2.out.app_new HT2.out (by omega) (by rw [Hl2.out]) ho3 hg3 hat3
             have hb3 := (Hb2.out.alloc Hb2.out.size (.cells (x.cs C f C' f') 29)).grown hg3 (by have := Hb2.out.size; simp; omega) (fun b hb => by have := (Hown2.out.lt b hb).1; omega)
             rw [← T.take_snoc Hx.out] at hcoll3
             have s4 : w3.cell? ⟨q, 4, none⟩ = some (.slice A2 k d2) := hbq3.cell 4
             have fs4 := hbq3.free 4
             have Hbq3 := Lib.hid hbq3
             have Hbr3 := Lib.hid hbr3
             have Hcoll3 := Lib.hid hcoll3
             have Hb3 := Lib.hid hb3
             clear hbq3 hbr3 hcoll3 hb3 ho3 hg3 hat3)
          | (go_simp
             go_at_call 11
             refine (IH.out B0 x B d B' d' _ (by omega) (by omega) (by simp; have := Hbel.out.size; omega) (HX.out.under (((Hbel.out.alloc Hbel.out.size _).drew).mono hB0))).mono ?_
             rintro e w2 ⟨C, f, C', f', rfl, hT, hb2⟩
             unfold T.agg
             have hbw : Below wr.heap.size wr w2 := (((Below.refl _ wr).alloc (Nat.le_refl _) _).drew).trans (hb2.mono (by simp))
             have hcoll2 := Hcoll.out.onto hbw
             have hbq2 := Hbq.out.onto hbw
             have hl2 : (t.items.take k).length = k := by rw [List.length_take]; omega
             have hown2 := hcoll2.2.1
             rw [hl2] at hown2
             have hT2 : TV w2 (fun b => b < w2.heap.size ∧ ¬ ((B0 ≤ b ∧ b < w.heap.size + 2) ∨ b = q) ∧ some b ≠ (Value.slice A2 k d2).ownBlock) x C f C' f' := hT.wide fun b hb => by
               have hlo := Hcoll.out.2.1.lt b
               have hws := Hbel.out.size
               have hw2 : wr.heap.size < w2.heap.size := by have := hb2.size; simp at this; omega
               rcases hb with hb | hb
               · have hb3 : b < B0 := hb
                 refine ⟨by omega, by omega, fun e1 => ?_⟩
                 have := (hlo e1.symm).1
                 omega
               · have h1 : wr.heap.size + 1 ≤ b := by simpa using hb.1
                 have h4 : b < w2.heap.size := hb.2
                 refine ⟨h4, by omega, fun e1 => ?_⟩
                 have := (hlo e1.symm).2
                 omega
             have Hcoll2 := Lib.hid hcoll2
             have Hbq2 := Lib.hid hbq2
             have Hbr2 := Lib.hid (Hbr.out.onto hbw)
             have Hown2 := Lib.hid hown2
             have HT2 := Lib.hid hT2
             have Hl2 := Lib.hid hl2
             have Hb2 := Lib.hid (Hbel.out.trans (hbw.mono Hbel.out.size))
             have g4 : w2.cell? ⟨q, 4, none⟩ = some (.slice A2 k d2) := hbq2.cell 4
             have hq2 : q < w2.heap.size := hbq2.lt
             have g4' : ∀ o : Obj, (w2.alloc o).cell? ⟨q, 4, none⟩ = some (.slice A2 k d2) := fun o => (fary hq2).trans g4
             have hsz2 : wr.heap.size < w2.heap.size := by have := hb2.size; simp at this; omega
             clear hbw hcoll2 hbq2 hl2 hown2 hT hT2 hb2))
        all_goals
          go_wp2_with fail
          go_roundw
          case rel =>
            exact ⟨k + 1, A3, d3, _, hlt2, by go_num, Hcoll3.out.set (.inr rfl) _, Hbq3.out.set_ 4 _, Hbr3.out.far (by show w.heap.size + 1 ≠ q; omega) _, Hb3.out.setCell (by show w.heap.size ≤ q; omega) _⟩
          case measure => simp [intOf]; omega
      · obtain rfl : t.items.length = k := by omega
        rw [List.take_length] at Hcoll
        have c0 : wr.cell? ⟨q, 0, none⟩ = some (.int .i64 t.kind) := Hbq.out.cell 0
        have c1 : wr.cell? ⟨q, 1, none⟩ = some (.bool t.tr) := Hbq.out.cell 1
        have c2 : wr.cell? ⟨q, 2, none⟩ = some (.int .i64 t.num) := Hbq.out.cell 2
        have c3 : wr.cell? ⟨q, 3, none⟩ = some (.string t.str) := Hbq.out.cell 3
        have c5 : wr.cell? ⟨q, 5, none⟩ = some (.slice A' t.keys.length c') := Hbq.out.cell 5
        have r0 : wr.cell? ⟨w.heap.size + 1, 0, none⟩ = some (.int .i64 0) := Hbr.out.cell 0
        have r1 : wr.cell? ⟨w.heap.size + 1, 1, none⟩ = some (.bool false) := Hbr.out.cell 1
        have r2 : wr.cell? ⟨w.heap.size + 1, 2, none⟩ = some (.int .i64 0) := Hbr.out.cell 2
        have r3 : wr.cell? ⟨w.heap.size + 1, 3, none⟩ = some (.string ⟨#[]⟩) := Hbr.out.cell 3
        have r4 : wr.cell? ⟨w.heap.size + 1, 4, none⟩ = some (.slice none 0 0) := Hbr.out.cell 4
        have r5 : wr.cell? ⟨w.heap.size + 1, 5, none⟩ = some (.slice none 0 0) := Hbr.out.cell 5
        have x0 := Hbr.out.free 0
        have x1 := Hbr.out.free 1
        have x2 := Hbr.out.free 2
        have x3 := Hbr.out.free 3
        have x4 := Hbr.out.free 4
        have x5 := Hbr.out.free 5
        go_wp2_with fail
        have hF := res_put Hbr.out rfl t A2 d2 A' c'
        have hK : Keeps (fun b => b ≠ w.heap.size + 1) wr (((((((wr.setCell ⟨w.heap.size + 1, 0, none⟩ (.int .i64 t.kind)).setCell ⟨w.heap.size + 1, 1, none⟩ (.bool t.tr)).setCell ⟨w.heap.size + 1, 2, none⟩ (.int .i64 t.num)).setCell ⟨w.heap.size + 1, 3, none⟩ (.string t.str)).setCell ⟨w.heap.size + 1, 4, none⟩ (.slice A2 t.items.length d2)).setCell ⟨w.heap.size + 1, 5, none⟩ (.slice A' t.keys.length c'))) := by
          intro b hb
          rw [Below.heap_setCell _ _ _ _ hb, Below.heap_setCell _ _ _ _ hb, Below.heap_setCell _ _ _ _ hb, Below.heap_setCell _ _ _ _ hb, Below.heap_setCell _ _ _ _ hb, Below.heap_setCell _ _ _ _ hb]
        have hZ : (((((((wr.setCell ⟨w.heap.size + 1, 0, none⟩ (.int .i64 t.kind)).setCell ⟨w.heap.size + 1, 1, none⟩ (.bool t.tr)).setCell ⟨w.heap.size + 1, 2, none⟩ (.int .i64 t.num)).setCell ⟨w.heap.size + 1, 3, none⟩ (.string t.str)).setCell ⟨w.heap.size + 1, 4, none⟩ (.slice A2 t.items.length d2)).setCell ⟨w.heap.size + 1, 5, none⟩ (.slice A' t.keys.length c'))).heap.size = wr.heap.size := by simp [World.setCell]
        have hE : Below w.heap.size w (((((((wr.setCell ⟨w.heap.size + 1, 0, none⟩ (.int .i64 t.kind)).setCell ⟨w.heap.size + 1, 1, none⟩ (.bool t.tr)).setCell ⟨w.heap.size + 1, 2, none⟩ (.int .i64 t.num)).setCell ⟨w.heap.size + 1, 3, none⟩ (.string t.str)).setCell ⟨w.heap.size + 1, 4, none⟩ (.slice A2 t.items.length d2)).setCell ⟨w.heap.size + 1, 5, none⟩ (.slice A' t.keys.length c'))) := (((((Hbel.out.setCell (Nat.le_succ _) _).setCell (Nat.le_succ _) _).setCell (Nat.le_succ _) _).setCell (Nat.le_succ _) _).setCell (Nat.le_succ _) _).setCell (Nat.le_succ _) _
        generalize (((((((wr.setCell ⟨w.heap.size + 1, 0, none⟩ (.int .i64 t.kind)).setCell ⟨w.heap.size + 1, 1, none⟩ (.bool t.tr)).setCell ⟨w.heap.size + 1, 2, none⟩ (.int .i64 t.num)).setCell ⟨w.heap.size + 1, 3, none⟩ (.string t.str)).setCell ⟨w.heap.size + 1, 4, none⟩ (.slice A2 t.items.length d2)).setCell ⟨w.heap.size + 1, 5, none⟩ (.slice A' t.keys.length c'))) = Wf at *
        have m0 : Wf.cell? ⟨w.heap.size + 1, 0, none⟩ = some (.int .i64 t.kind) := hF.cell 0
        have m1 : Wf.cell? ⟨w.heap.size + 1, 1, none⟩ = some (.bool t.tr) := hF.cell 1
        have m2 : Wf.cell? ⟨w.heap.size + 1, 2, none⟩ = some (.int .i64 t.num) := hF.cell 2
        have m3 : Wf.cell? ⟨w.heap.size + 1, 3, none⟩ = some (.string t.str) := hF.cell 3
        have m4 : Wf.cell? ⟨w.heap.size + 1, 4, none⟩ = some (.slice A2 t.items.length d2) := hF.cell 4
        have m5 : Wf.cell? ⟨w.heap.size + 1, 5, none⟩ = some (.slice A' t.keys.length c') := hF.cell 5
        obtain ⟨_, hd2, hvr⟩ := Hcoll.out.vreads
        refine bodyPost_ret (v := .agg #[.int .i64 t.kind, .bool t.tr, .int .i64 t.num, .string t.str, .slice A2 t.items.length d2, .slice A' t.keys.length c']) (by simp [results, Tryz.results11, go_sem, m0, m1, m2, m3, m4, m5]) rfl ⟨A2, d2, A', c', rfl, ?_, hE⟩
        refine TV.of hd2 HV.out.lens.2 (fun hn => ?_) ?_
        · exact ((hvr.keep (hK.mono fun b hb => by have := hb.2; show b ≠ w.heap.size + 1; omega)).wide fun b hb => by have h1 := hb.1; have h2 := hb.2; show b < B0 ∨ w.heap.size ≤ b ∧ b < Wf.heap.size; omega) hn
        · exact ((HV.out.keys.below (Hbel.out.mono hB0)).keep (hK.mono fun b hb => by have : b < B0 := hb; show b ≠ w.heap.size + 1; omega)).wide fun b hb => .inl hb
theorem ref_any (B0 : Nat) (t : T) (A : Option Addr) (c : Nat) (A' : Option Addr) (c' : Nat) (w : World) (ht : t.size ≤ 100000) (hB : B0 ≤ w.heap.size) (hv : TV w (· < B0) t A c A' c') :
    Calls Tryz.prog 11 #[t.agg A c A' c'] w (GivesR B0 t w) := ref_at 100000 B0 t A c A' c' w ht (Nat.le_refl _) hB hv
end Go.Proofs.YthkpeomdklcnmaaGreatDoor
