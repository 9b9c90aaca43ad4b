/- Ref: the program's value as the document's. Sizes and depths: contracts of the program's and the reference's. The reference's Same, of the same value. -/
import Derived.Test.YtaeimlfehlbiiaaGreatDoorMJ
import Derived.Test.YtaeimlfehlbiiaaGreatDoorMG
namespace Go.Proofs.YtaeimlfehlbiiaaGreatDoor
open Go.RowKit
def GivesR (B0 : Nat) (t : T) (w : World) (e : Ending) (w' : World) : Prop := ∃ B d B' d', e = .returned (t.agg B d B' d') ∧ TV w' (fun b => b < B0 ∨ w.heap.size ≤ b ∧ b < w'.heap.size) t B d B' d' ∧ Below w.heap.size w w'
def RefAt (n : Nat) : Prop := ∀ (B0 : Nat) (t : T) (A : Option Addr) (c : Nat) (A' : Option Addr) (c' : Nat) (w : World), t.size ≤ n → n ≤ 100000 → B0 ≤ w.heap.size → TV w (· < B0) t A c A' c' →
 Calls Tryz.prog 14 #[t.agg A c A' c'] w (GivesR B0 t w)
set_option maxRecDepth 100000 in
set_option maxHeartbeats 4000000 in
theorem ref_at (n : Nat) : RefAt n := by
 induction n with
 | zero => intro B0 t _ _ _ _ _ h; have := t.size_pos; omega
 | succ n ih =>
  intro B0 t A c A' c' w ht hn hB0 hv
  have hl := hv.lens.1
  have hls := t.len_size
  obtain ⟨i1, hi1, hy0, hy1, hy2⟩ := info_parts infoV
  have IH := Lib.hid ih
  have HV := Lib.hid hv
  clear ih hv
  unfold T.agg
  go_enter Tryz.func14, Tryz.ntmps14
  go_wp2_with fail
  have hW : Below w.heap.size w (((w.alloc (.cells (t.cs A c A' c') 32)).alloc (.cells zeros 27)).alloc (.cells #[.int .i64 t.kind, .bool t.tr, .int .i64 t.num, .string t.str, .slice none 0 0, .slice A' t.keys.length c'] 27)) := (((Below.refl _ _).alloc (Nat.le_refl _) _).alloc (by simp) _).alloc (by simp; omega) _
  have hR2 : Blk (((w.alloc (.cells (t.cs A c A' c') 32)).alloc (.cells zeros 27)).alloc (.cells #[.int .i64 t.kind, .bool t.tr, .int .i64 t.num, .string t.str, .slice none 0 0, .slice A' t.keys.length c'] 27)) (w.heap.size + 1) 27 zeros := by
   have := (Blk.new (w.alloc (.cells (t.cs A c A' c') 32)) 27 zeros).alloc (.cells #[.int .i64 t.kind, .bool t.tr, .int .i64 t.num, .string t.str, .slice none 0 0, .slice A' t.keys.length c'] 27)
   simpa using this
  have hQ : Blk (((w.alloc (.cells (t.cs A c A' c') 32)).alloc (.cells zeros 27)).alloc (.cells #[.int .i64 t.kind, .bool t.tr, .int .i64 t.num, .string t.str, .slice none 0 0, .slice A' t.keys.length c'] 27)) (w.heap.size + 2) 27 #[.int .i64 t.kind, .bool t.tr, .int .i64 t.num, .string t.str, .slice none 0 0, .slice A' t.keys.length c'] := by
   have := Blk.new ((w.alloc (.cells (t.cs A c A' c') 32)).alloc (.cells zeros 27)) 27 #[.int .i64 t.kind, .bool t.tr, .int .i64 t.num, .string t.str, .slice none 0 0, .slice A' t.keys.length c']
   simpa using this
  change Code.wp _ _ _ _ (((w.alloc (.cells (t.cs A c A' c') 32)).alloc (.cells zeros 27)).alloc (.cells #[.int .i64 t.kind, .bool t.tr, .int .i64 t.num, .string t.str, .slice none 0 0, .slice A' t.keys.length c'] 27))
  generalize (((w.alloc (.cells (t.cs A c A' c') 32)).alloc (.cells zeros 27)).alloc (.cells #[.int .i64 t.kind, .bool t.tr, .int .i64 t.num, .string t.str, .slice none 0 0, .slice A' t.keys.length c'] 27)) = W at *
  have HB2 := Lib.hid hW
  have HR2 := Lib.hid hR2
  have HQ := Lib.hid hQ
  have hq2 : w.heap.size + 1 < w.heap.size + 1 + 1 := by omega
  have HQ := Lib.hid (show Blk W (w.heap.size + 1 + 1) 27 #[.int .i64 t.kind, .bool t.tr, .int .i64 t.num, .string t.str, .slice none 0 0, .slice A' t.keys.length c'] from hQ)
  generalize w.heap.size + 1 + 1 = q at hq2 HQ ⊢
  clear hW hR2 hQ
  go_loopw [20] (fun i wr => ∃ (k : Nat) (A2 : Option Addr) (d2 : Nat) (xs : List Value), k ≤ t.items.length ∧ i = .int .i64 k ∧ Coll 27 wr (w.heap.size + 2) (fun b => (B0 ≤ b ∧ b < w.heap.size + 2) ∨ b = q) (t.items.take k) (.slice A2 k d2) xs ∧
   Blk wr q 27 #[.int .i64 t.kind, .bool t.tr, .int .i64 t.num, .string t.str, .slice A2 k d2, .slice A' t.keys.length c'] ∧ Blk wr (w.heap.size + 1) 27 zeros ∧ Below w.heap.size w wr) (fun i _ => t.items.length - (intOf i).toNat)
  case atStart => exact ⟨0, none, 0, [], Nat.zero_le _, rfl, Coll.nil _ _ _ _, HQ.out, HR2.out, HB2.out⟩
  case round =>
   obtain ⟨k, A2, d2, xs, hk, rfl, hcoll, hbq, hbr, hbel⟩ := hrel
   have Hcoll := Lib.hid hcoll
   have Hbq := Lib.hid hbq
   have Hbr := Lib.hid hbr
   have Hbel := Lib.hid hbel
   have hqlt := hbq.lt
   have q4 : wr.cell? ⟨q, 4, none⟩ = some (.slice A2 k d2) := hbq.cell 4
   have fq4 := hbq.free 4
   clear hcoll hbq hbr hbel
   by_cases hlt2 : k < t.items.length
   ·
    have u1 : decide (k < t.items.length) = true := decide_eq_true hlt2
    obtain ⟨b, o, x, B, d, B', d', rfl, hb, hx, h6, hX⟩ := HV.out.at_ hlt2
    have hxs := T.at_size hx
    have HX := Lib.hid hX
    have Hx := Lib.hid hx
    obtain ⟨e0, e1, e2, e3, e4, e5⟩ := h6.keep hb (.of_below (Hbel.out.mono hB0))
    clear hX h6 hx
    go_wp2_with fail
    go_region_law (first
     | (
      refine app_step ?_ (.tmp 25) (.tmp 28) 24 ?_ (w.heap.size + 2) 27 i1 (.agg #[.int .i64 0, .bool false, .int .i64 0, .string ⟨#[]⟩, .slice none 0 0, .slice none 0 0]) 6 88 Tryz.underlying24 hi1 hy0 hy1 hy2 ?_ ?_ (.slice A2 k d2) k xs ?_ ?_ (some ⟨w2.heap.size, 0, none⟩) 1 1 (x.cs C f C' f').toList ?_ ?_ cs_one ?_ ?_ ?_ (k + 1) ?_ ?_
      · rfl
      · rfl
      · rfl
      · decide
      · rfl
      · first
       | exact Hown2.out.alloc _
       | exact (Hown2.out.alloc _).drew
      · rfl
      · exact src_of_cs (Blk.new w2 27 _)
      · unfold maxLen; omega
      · omega
      · simp; have := Hb2.out.size; omega
      · rfl
      intro A3 d3 w3 ho3 hg3 hat3
      have hbq3 := Hcoll2.out.blk hg3 Hbq2.out (.inr rfl)
      have hbr3 := Hcoll2.out.blk hg3 Hbr2.out (.inl ⟨by omega, by omega⟩)
      have hcoll3 := Hcoll2.out.app_new HT2.out (by omega) (by rw [Hl2.out]) ho3 hg3 hat3
      have hb3 := (Hb2.out.alloc Hb2.out.size (.cells (x.cs C f C' f') 27)).grown hg3 (by have := Hb2.out.size; simp; omega) (fun b hb => by have := (Hown2.out.lt b hb).1; omega)
      rw [← T.take_snoc Hx.out] at hcoll3
      have s4 : w3.cell? ⟨q, 4, none⟩ = some (.slice A2 k d2) := hbq3.cell 4
      have fs4 := hbq3.free 4
      have Hbq3 := Lib.hid hbq3
      have Hbr3 := Lib.hid hbr3
      have Hcoll3 := Lib.hid hcoll3
      have Hb3 := Lib.hid hb3
      clear hbq3 hbr3 hcoll3 hb3 ho3 hg3 hat3)
     | (
      go_simp
      go_at_call 14
      refine (IH.out B0 x B d B' d' _ (by omega) (by omega) (by simp; have := Hbel.out.size; omega) (HX.out.under (((Hbel.out.alloc Hbel.out.size _).drew).mono hB0))).mono ?_
      rintro e w2 ⟨C, f, C', f', rfl, hT, hb2⟩
      unfold T.agg
      have hbw : Below wr.heap.size wr w2 := (((Below.refl _ wr).alloc (Nat.le_refl _) _).drew).trans (hb2.mono (by simp))
      have hcoll2 := Hcoll.out.onto hbw
      have hbq2 := Hbq.out.onto hbw
      have hl2 : (t.items.take k).length = k := by rw [List.length_take]; omega
      have hown2 := hcoll2.2.1
      rw [hl2] at hown2
      have hT2 : TV w2 (fun b => b < w2.heap.size ∧ ¬ ((B0 ≤ b ∧ b < w.heap.size + 2) ∨ b = q) ∧ some b ≠ (Value.slice A2 k d2).ownBlock) x C f C' f' := hT.wide fun b hb => by
       have hlo := Hcoll.out.2.1.lt b
       have hws := Hbel.out.size
       have hw2 : wr.heap.size < w2.heap.size := by have := hb2.size; simp at this; omega
       rcases hb with hb | hb
       ·
        have hb3 : b < B0 := hb
        refine ⟨by omega, by omega, fun e1 => ?_⟩
        have := (hlo e1.symm).1
        omega
       ·
        have h1 : wr.heap.size + 1 ≤ b := by simpa using hb.1
        have h4 : b < w2.heap.size := hb.2
        refine ⟨h4, by omega, fun e1 => ?_⟩
        have := (hlo e1.symm).2
        omega
      have Hcoll2 := Lib.hid hcoll2
      have Hbq2 := Lib.hid hbq2
      have Hbr2 := Lib.hid (Hbr.out.onto hbw)
      have Hown2 := Lib.hid hown2
      have HT2 := Lib.hid hT2
      have Hl2 := Lib.hid hl2
      have Hb2 := Lib.hid (Hbel.out.trans (hbw.mono Hbel.out.size))
      have g4 : w2.cell? ⟨q, 4, none⟩ = some (.slice A2 k d2) := hbq2.cell 4
      have hq2 : q < w2.heap.size := hbq2.lt
      have g4' : ∀ o : Obj, (w2.alloc o).cell? ⟨q, 4, none⟩ = some (.slice A2 k d2) := fun o => (fary hq2).trans g4
      have hsz2 : wr.heap.size < w2.heap.size := by have := hb2.size; simp at this; omega
      clear hbw hcoll2 hbq2 hl2 hown2 hT hT2 hb2))
    all_goals
     go_wp2_with fail
     go_roundw
     case rel =>
      exact ⟨k + 1, A3, d3, _, hlt2, by go_num, Hcoll3.out.set (.inr rfl) _, Hbq3.out.set_ 4 _, Hbr3.out.far (by show w.heap.size + 1 ≠ q; omega) _, Hb3.out.setCell (by show w.heap.size ≤ q; omega) _⟩
     case measure => simp [intOf]; omega
   ·
    obtain rfl : t.items.length = k := by omega
    rw [List.take_length] at Hcoll
    have c0 : wr.cell? ⟨q, 0, none⟩ = some (.int .i64 t.kind) := Hbq.out.cell 0
    have c1 : wr.cell? ⟨q, 1, none⟩ = some (.bool t.tr) := Hbq.out.cell 1
    have c2 : wr.cell? ⟨q, 2, none⟩ = some (.int .i64 t.num) := Hbq.out.cell 2
    have c3 : wr.cell? ⟨q, 3, none⟩ = some (.string t.str) := Hbq.out.cell 3
    have c5 : wr.cell? ⟨q, 5, none⟩ = some (.slice A' t.keys.length c') := Hbq.out.cell 5
    have r0 : wr.cell? ⟨w.heap.size + 1, 0, none⟩ = some (.int .i64 0) := Hbr.out.cell 0
    have r1 : wr.cell? ⟨w.heap.size + 1, 1, none⟩ = some (.bool false) := Hbr.out.cell 1
    have r2 : wr.cell? ⟨w.heap.size + 1, 2, none⟩ = some (.int .i64 0) := Hbr.out.cell 2
    have r3 : wr.cell? ⟨w.heap.size + 1, 3, none⟩ = some (.string ⟨#[]⟩) := Hbr.out.cell 3
    have r4 : wr.cell? ⟨w.heap.size + 1, 4, none⟩ = some (.slice none 0 0) := Hbr.out.cell 4
    have r5 : wr.cell? ⟨w.heap.size + 1, 5, none⟩ = some (.slice none 0 0) := Hbr.out.cell 5
    have x0 := Hbr.out.free 0
    have x1 := Hbr.out.free 1
    have x2 := Hbr.out.free 2
    have x3 := Hbr.out.free 3
    have x4 := Hbr.out.free 4
    have x5 := Hbr.out.free 5
    go_wp2_with fail
    have hF := res_put Hbr.out rfl t A2 d2 A' c'
    have hK : Keeps (fun b => b ≠ w.heap.size + 1) wr (((((((wr.setCell ⟨w.heap.size + 1, 0, none⟩ (.int .i64 t.kind)).setCell ⟨w.heap.size + 1, 1, none⟩ (.bool t.tr)).setCell ⟨w.heap.size + 1, 2, none⟩ (.int .i64 t.num)).setCell ⟨w.heap.size + 1, 3, none⟩ (.string t.str)).setCell ⟨w.heap.size + 1, 4, none⟩ (.slice A2 t.items.length d2)).setCell ⟨w.heap.size + 1, 5, none⟩ (.slice A' t.keys.length c'))) := by
     intro b hb
     rw [Below.heap_setCell _ _ _ _ hb, Below.heap_setCell _ _ _ _ hb, Below.heap_setCell _ _ _ _ hb, Below.heap_setCell _ _ _ _ hb, Below.heap_setCell _ _ _ _ hb, Below.heap_setCell _ _ _ _ hb]
    have hZ : (((((((wr.setCell ⟨w.heap.size + 1, 0, none⟩ (.int .i64 t.kind)).setCell ⟨w.heap.size + 1, 1, none⟩ (.bool t.tr)).setCell ⟨w.heap.size + 1, 2, none⟩ (.int .i64 t.num)).setCell ⟨w.heap.size + 1, 3, none⟩ (.string t.str)).setCell ⟨w.heap.size + 1, 4, none⟩ (.slice A2 t.items.length d2)).setCell ⟨w.heap.size + 1, 5, none⟩ (.slice A' t.keys.length c'))).heap.size = wr.heap.size := by simp [World.setCell]
    have hE : Below w.heap.size w (((((((wr.setCell ⟨w.heap.size + 1, 0, none⟩ (.int .i64 t.kind)).setCell ⟨w.heap.size + 1, 1, none⟩ (.bool t.tr)).setCell ⟨w.heap.size + 1, 2, none⟩ (.int .i64 t.num)).setCell ⟨w.heap.size + 1, 3, none⟩ (.string t.str)).setCell ⟨w.heap.size + 1, 4, none⟩ (.slice A2 t.items.length d2)).setCell ⟨w.heap.size + 1, 5, none⟩ (.slice A' t.keys.length c'))) := (((((Hbel.out.setCell (Nat.le_succ _) _).setCell (Nat.le_succ _) _).setCell (Nat.le_succ _) _).setCell (Nat.le_succ _) _).setCell (Nat.le_succ _) _).setCell (Nat.le_succ _) _
    generalize (((((((wr.setCell ⟨w.heap.size + 1, 0, none⟩ (.int .i64 t.kind)).setCell ⟨w.heap.size + 1, 1, none⟩ (.bool t.tr)).setCell ⟨w.heap.size + 1, 2, none⟩ (.int .i64 t.num)).setCell ⟨w.heap.size + 1, 3, none⟩ (.string t.str)).setCell ⟨w.heap.size + 1, 4, none⟩ (.slice A2 t.items.length d2)).setCell ⟨w.heap.size + 1, 5, none⟩ (.slice A' t.keys.length c'))) = Wf at *
    have m0 : Wf.cell? ⟨w.heap.size + 1, 0, none⟩ = some (.int .i64 t.kind) := hF.cell 0
    have m1 : Wf.cell? ⟨w.heap.size + 1, 1, none⟩ = some (.bool t.tr) := hF.cell 1
    have m2 : Wf.cell? ⟨w.heap.size + 1, 2, none⟩ = some (.int .i64 t.num) := hF.cell 2
    have m3 : Wf.cell? ⟨w.heap.size + 1, 3, none⟩ = some (.string t.str) := hF.cell 3
    have m4 : Wf.cell? ⟨w.heap.size + 1, 4, none⟩ = some (.slice A2 t.items.length d2) := hF.cell 4
    have m5 : Wf.cell? ⟨w.heap.size + 1, 5, none⟩ = some (.slice A' t.keys.length c') := hF.cell 5
    obtain ⟨_, hd2, hvr⟩ := Hcoll.out.vreads
    refine bodyPost_ret (v := .agg #[.int .i64 t.kind, .bool t.tr, .int .i64 t.num, .string t.str, .slice A2 t.items.length d2, .slice A' t.keys.length c']) (by simp [results, Tryz.results14, go_sem, m0, m1, m2, m3, m4, m5]) rfl ⟨A2, d2, A', c', rfl, ?_, hE⟩
    refine TV.of hd2 HV.out.lens.2 (fun hn => ?_) ?_
    · exact ((hvr.keep (hK.mono fun b hb => by have := hb.2; show b ≠ w.heap.size + 1; omega)).wide fun b hb => by have h1 := hb.1; have h2 := hb.2; show b < B0 ∨ w.heap.size ≤ b ∧ b < Wf.heap.size; omega) hn
    · exact ((HV.out.keys.below (Hbel.out.mono hB0)).keep (hK.mono fun b hb => by have : b < B0 := hb; show b ≠ w.heap.size + 1; omega)).wide fun b hb => .inl hb
theorem ref_any (B0 : Nat) (t : T) (A : Option Addr) (c : Nat) (A' : Option Addr) (c' : Nat) (w : World) (ht : t.size ≤ 100000) (hB : B0 ≤ w.heap.size) (hv : TV w (· < B0) t A c A' c') :
 Calls Tryz.prog 14 #[t.agg A c A' c'] w (GivesR B0 t w) := ref_at 100000 B0 t A c A' c' w ht (Nat.le_refl _) hB hv
end Go.Proofs.YtaeimlfehlbiiaaGreatDoor
namespace Go.Proofs.YtaeimlfehlbiiaaGreatDoor
open Go.RowKit
set_option maxRecDepth 100000 in
set_option maxHeartbeats 2000000 in
theorem rsize_any (n : Nat) : ∀ (t : T) (A : Option Addr) (c : Nat) (A' : Option Addr) (c' : Nat) (w : World), t.size ≤ n → n ≤ 100000 → TV w (· < w.heap.size) t A c A' c' →
 Calls Tryz.prog 22 #[t.agg A c A' c'] w fun e w' => e = .returned (.int .i64 t.size) ∧ Below w.heap.size w w' := by
 induction n with
 | zero => intro t _ _ _ _ _ h; have := t.size_pos; omega
 | succ n ih =>
  intro t A c A' c' w ht hn hv
  have hl := hv.lens.1
  have hls := t.len_size
  have hse := t.size_eq
  have hss : T.sizes t.items < t.size := by omega
  have IH := Lib.hid ih
  have HV := Lib.hid hv
  have HE := Lib.hid hse
  clear ih hv hse
  unfold T.agg
  go_enter Tryz.func22, Tryz.ntmps22
  go_wp2_with fail
  go_loopw [3, 8] (fun s i wr => ∃ k : Nat, k ≤ t.items.length ∧ i = .int .i64 k ∧ s = .int .i64 ((1 + T.sizes (t.items.take k) : Nat) : Int) ∧ Blk wr w.heap.size 27 (t.cs A c A' c') ∧ Below w.heap.size w wr) (fun _ i _ => t.items.length - (intOf i).toNat)
  case atStart => exact ⟨0, Nat.zero_le _, rfl, by simp [T.sizes], Blk.new _ _ _, (Below.refl _ _).alloc (Nat.le_refl _) _⟩
  case round =>
   obtain ⟨k, hk, rfl, rfl, hbx, hbel⟩ := hrel
   have Hbel := Lib.hid hbel
   have Hbx := Lib.hid hbx
   have hlw := hbx.lt
   have d4 : wr.cell? ⟨w.heap.size, 4, none⟩ = some (.slice A t.items.length c) := hbx.cell 4
   clear hbel hbx
   have hsz := T.sizes_take t.items k
   by_cases hlt : k < t.items.length
   ·
    have u1 : decide (k < t.items.length) = true := decide_eq_true hlt
    obtain ⟨b, o, x, B, d, B', d', rfl, hb, hx, h6, hX⟩ := HV.out.at_ hlt
    have hxs := T.at_size hx
    have HS := Lib.hid (T.sizes_snoc hx)
    have HX := Lib.hid hX
    have hszn := T.sizes_take t.items (k + 1)
    rw [HS.out] at hszn
    obtain ⟨e0, e1, e2, e3, e4, e5⟩ := h6.keep hb (.of_below Hbel.out)
    clear hX h6 hx
    go_wp2_with fail
    refine (IH.out x B d B' d' _ (by omega) (by omega) (HX.out.on Hbel.out)).mono ?_
    rintro e w2 ⟨rfl, hb2⟩
    have Hb2 := Lib.hid (Hbel.out.trans (hb2.mono Hbel.out.size))
    have Hbx2 := Lib.hid (Hbx.out.onto hb2)
    clear hb2
    go_wp2_with fail
    go_roundw
    case rel => exact ⟨k + 1, hlt, by go_num, by rw [HS.out]; go_num, Hbx2.out, Hb2.out⟩
    case measure => simp [intOf]; omega
   ·
    obtain rfl : t.items.length = k := by omega
    clear hsz
    go_wp2_with fail
    go_ret
    exact ⟨ret_int (by rw [List.take_length, HE.out]), Hbel.out⟩
end Go.Proofs.YtaeimlfehlbiiaaGreatDoor
namespace Go.Proofs.YtaeimlfehlbiiaaGreatDoor
open Go.RowKit
set_option maxRecDepth 100000 in
set_option maxHeartbeats 4000000 in
theorem rsame_yes_at (n : Nat) : ∀ (t : T) (A : Option Addr) (c : Nat) (A' : Option Addr) (c' : Nat) (B : Option Addr) (d : Nat) (B' : Option Addr) (d' : Nat) (w : World), t.size ≤ n → n ≤ 100000 → t.Small → TV w (· < w.heap.size) t A c A' c' → TV w (· < w.heap.size) t B d B' d' →
 Calls Tryz.prog 13 #[t.agg A c A' c', t.agg B d B' d'] w fun e w' => e = .returned (.bool true) ∧ Below w.heap.size w w' := by
 induction n with
 | zero => intro t _ _ _ _ _ _ _ _ _ h; have := t.size_pos; omega
 | succ n ih =>
  intro t A c A' c' B d B' d' w ht hn hs hv hu
  have hl := hv.lens.1
  have hls := t.len_size
  have hkl := hs.here
  have IH := Lib.hid ih
  have HV := Lib.hid hv
  have HU := Lib.hid hu
  have HS := Lib.hid hs
  clear ih hv hu hs
  unfold T.agg
  go_enter Tryz.func13, Tryz.ntmps13
  go_wp2_with fail
  have hW : Below w.heap.size w ((w.alloc (.cells (t.cs A c A' c') 27)).alloc (.cells (t.cs B d B' d') 27)) := ((Below.refl _ _).alloc (Nat.le_refl _) _).alloc (by simp) _
  have hB0 : Blk ((w.alloc (.cells (t.cs A c A' c') 27)).alloc (.cells (t.cs B d B' d') 27)) w.heap.size 27 (t.cs A c A' c') := (Blk.new w _ _).alloc _
  have hB1 : Blk ((w.alloc (.cells (t.cs A c A' c') 27)).alloc (.cells (t.cs B d B' d') 27)) (w.heap.size + 1) 27 (t.cs B d B' d') := by
   have := Blk.new (w.alloc (.cells (t.cs A c A' c') 27)) 27 (t.cs B d B' d')
   simpa using this
  change Code.wp _ _ _ _ ((w.alloc (.cells (t.cs A c A' c') 27)).alloc (.cells (t.cs B d B' d') 27))
  generalize ((w.alloc (.cells (t.cs A c A' c') 27)).alloc (.cells (t.cs B d B' d') 27)) = W at *
  have HW := Lib.hid hW
  have HB0 := Lib.hid hB0
  have HB1 := Lib.hid hB1
  clear hW hB0 hB1
  go_loopw [54] (fun i wr => ∃ k : Nat, k ≤ t.keys.length ∧ i = .int .i64 k ∧ Blk wr w.heap.size 27 (t.cs A c A' c') ∧ Blk wr (w.heap.size + 1) 27 (t.cs B d B' d') ∧ Below w.heap.size w wr) (fun i _ => t.keys.length - (intOf i).toNat)
  case atStart => exact ⟨0, Nat.zero_le _, rfl, HB0.out, HB1.out, HW.out⟩
  case round =>
   obtain ⟨k, hk, rfl, hb0, hb1, hbel⟩ := hrel
   have HB0 := Lib.hid hb0
   have HB1 := Lib.hid hb1
   have Hbel := Lib.hid hbel
   have a5 : wr.cell? ⟨w.heap.size, 5, none⟩ = some (.slice A' t.keys.length c') := hb0.cell 5
   have b5 : wr.cell? ⟨w.heap.size + 1, 5, none⟩ = some (.slice B' t.keys.length d') := hb1.cell 5
   have a4 : wr.cell? ⟨w.heap.size, 4, none⟩ = some (.slice A t.items.length c) := hb0.cell 4
   clear hb0 hb1 hbel
   by_cases hlt : k < t.keys.length
   ·
    have u1 : decide (k < t.keys.length) = true := decide_eq_true hlt
    obtain ⟨b, o, s, rfl, hb, hx, hc⟩ := HV.out.keys.at_ hlt
    obtain ⟨b', o', s', rfl, hb', hx', hc'⟩ := HU.out.keys.at_ hlt
    obtain rfl : s = s' := by rw [hx] at hx'; injection hx'
    have e0 := ((Keeps.of_below Hbel.out).cell hb (o + k)).trans hc
    have e1 := ((Keeps.of_below Hbel.out).cell hb' (o' + k)).trans hc'
    have i1 : (k : Int) < t.keys.length := by omega
    have i2 : (0 : Int) ≤ k := by omega
    clear hx hx' hc hc'
    go_wp2_with fail
    go_quiet (fail)
    go_wp2_with fail
    go_roundw
    case rel => exact ⟨k + 1, hlt, by go_num, HB0.out, HB1.out, below_drewN Hbel.out _⟩
    case measure => simp [intOf]; omega
   ·
    obtain rfl : t.keys.length = k := by omega
    go_wp2_with fail
    go_loopw [72] (fun i wr => ∃ k : Nat, k ≤ t.items.length ∧ i = .int .i64 k ∧ Blk wr w.heap.size 27 (t.cs A c A' c') ∧ Blk wr (w.heap.size + 1) 27 (t.cs B d B' d') ∧ Below w.heap.size w wr) (fun i _ => t.items.length - (intOf i).toNat)
    case atStart => exact ⟨0, Nat.zero_le _, rfl, HB0.out, HB1.out, Hbel.out⟩
    case round =>
     clear a5 b5 a4 HB0 HB1 Hbel
     obtain ⟨k, hk2, rfl, hb0, hb1, hbel⟩ := hrel
     have HB0 := Lib.hid hb0
     have HB1 := Lib.hid hb1
     have Hbel := Lib.hid hbel
     have hlw0 : w.heap.size < wr.heap.size := hb0.lt
     have hlw1 : w.heap.size + 1 < wr.heap.size := hb1.lt
     have a4 : wr.cell? ⟨w.heap.size, 4, none⟩ = some (.slice A t.items.length c) := hb0.cell 4
     have b4 : wr.cell? ⟨w.heap.size + 1, 4, none⟩ = some (.slice B t.items.length d) := hb1.cell 4
     clear hb0 hb1 hbel
     by_cases hlt2 : k < t.items.length
     ·
      have u1 : decide (k < t.items.length) = true := decide_eq_true hlt2
      obtain ⟨b, o, x, D, e, D', e', rfl, hb, hx, h6, hX⟩ := HV.out.at_ hlt2
      obtain ⟨b', o', x', E, f, E', f', rfl, hb', hx', h6', hX'⟩ := HU.out.at_ hlt2
      obtain rfl : x = x' := by rw [hx] at hx'; injection hx'
      have hxs := T.at_size hx
      have HXs := Lib.hid (HS.out.at_ hx)
      have HX := Lib.hid hX
      have HX' := Lib.hid hX'
      have hbw : b < wr.heap.size := by have := hb; omega
      have hbw' : b' < wr.heap.size := by have := hb'; omega
      obtain ⟨p0, p1, p2, p3, p4, p5⟩ := h6.keep hb (.of_below Hbel.out)
      obtain ⟨q0, q1, q2, q3, q4, q5⟩ := h6'.keep hb' (.of_below Hbel.out)
      have i1 : (k : Int) < t.items.length := by omega
      have i2 : (0 : Int) ≤ k := by omega
      have HSS := Lib.hid (show ∀ w', Below wr.heap.size wr w' → w'.cell? ⟨w.heap.size, 4, none⟩ = some (.slice (some ⟨b, o, none⟩) t.items.length c) ∧ w'.cell? ⟨w.heap.size + 1, 4, none⟩ = some (.slice (some ⟨b', o', none⟩) t.items.length d) ∧ w'.cell? ⟨b, o + k * 6, none⟩ = some (.int .i64 x.kind) ∧ w'.cell? ⟨b, o + k * 6 + 1, none⟩ = some (.bool x.tr) ∧ w'.cell? ⟨b, o + k * 6 + 2, none⟩ = some (.int .i64 x.num) ∧ w'.cell? ⟨b, o + k * 6 + 3, none⟩ = some (.string x.str) ∧ w'.cell? ⟨b, o + k * 6 + 4, none⟩ = some (.slice D x.items.length e) ∧ w'.cell? ⟨b, o + k * 6 + 5, none⟩ = some (.slice D' x.keys.length e') ∧ w'.cell? ⟨b', o' + k * 6, none⟩ = some (.int .i64 x.kind) ∧ w'.cell? ⟨b', o' + k * 6 + 1, none⟩ = some (.bool x.tr) ∧ w'.cell? ⟨b', o' + k * 6 + 2, none⟩ = some (.int .i64 x.num) ∧ w'.cell? ⟨b', o' + k * 6 + 3, none⟩ = some (.string x.str) ∧ w'.cell? ⟨b', o' + k * 6 + 4, none⟩ = some (.slice E x.items.length f) ∧ w'.cell? ⟨b', o' + k * 6 + 5, none⟩ = some (.slice E' x.keys.length f') from fun w' hb => ⟨(hb.cell (p := ⟨w.heap.size, 4, none⟩) hlw0).trans a4, (hb.cell (p := ⟨w.heap.size + 1, 4, none⟩) hlw1).trans b4, (hb.cell (p := ⟨b, o + k * 6, none⟩) hbw).trans p0, (hb.cell (p := ⟨b, o + k * 6 + 1, none⟩) hbw).trans p1, (hb.cell (p := ⟨b, o + k * 6 + 2, none⟩) hbw).trans p2, (hb.cell (p := ⟨b, o + k * 6 + 3, none⟩) hbw).trans p3, (hb.cell (p := ⟨b, o + k * 6 + 4, none⟩) hbw).trans p4, (hb.cell (p := ⟨b, o + k * 6 + 5, none⟩) hbw).trans p5, (hb.cell (p := ⟨b', o' + k * 6, none⟩) hbw').trans q0, (hb.cell (p := ⟨b', o' + k * 6 + 1, none⟩) hbw').trans q1, (hb.cell (p := ⟨b', o' + k * 6 + 2, none⟩) hbw').trans q2, (hb.cell (p := ⟨b', o' + k * 6 + 3, none⟩) hbw').trans q3, (hb.cell (p := ⟨b', o' + k * 6 + 4, none⟩) hbw').trans q4, (hb.cell (p := ⟨b', o' + k * 6 + 5, none⟩) hbw').trans q5⟩)
      clear hX hX' h6 h6' hx hx'
      go_wp2_with fail
      go_region_held3 (fun w' => w'.cell? ⟨w.heap.size, 4, none⟩ = some (.slice (some ⟨b, o, none⟩) t.items.length c) ∧ w'.cell? ⟨w.heap.size + 1, 4, none⟩ = some (.slice (some ⟨b', o', none⟩) t.items.length d) ∧ w'.cell? ⟨b, o + k * 6, none⟩ = some (.int .i64 x.kind) ∧ w'.cell? ⟨b, o + k * 6 + 1, none⟩ = some (.bool x.tr) ∧ w'.cell? ⟨b, o + k * 6 + 2, none⟩ = some (.int .i64 x.num) ∧ w'.cell? ⟨b, o + k * 6 + 3, none⟩ = some (.string x.str) ∧ w'.cell? ⟨b, o + k * 6 + 4, none⟩ = some (.slice D x.items.length e) ∧ w'.cell? ⟨b, o + k * 6 + 5, none⟩ = some (.slice D' x.keys.length e') ∧ w'.cell? ⟨b', o' + k * 6, none⟩ = some (.int .i64 x.kind) ∧ w'.cell? ⟨b', o' + k * 6 + 1, none⟩ = some (.bool x.tr) ∧ w'.cell? ⟨b', o' + k * 6 + 2, none⟩ = some (.int .i64 x.num) ∧ w'.cell? ⟨b', o' + k * 6 + 3, none⟩ = some (.string x.str) ∧ w'.cell? ⟨b', o' + k * 6 + 4, none⟩ = some (.slice E x.items.length f) ∧ w'.cell? ⟨b', o' + k * 6 + 5, none⟩ = some (.slice E' x.keys.length f'))
       (first
        | with_reducible exact HSS.out _ HBX.out
        | go_keep)
       (first
        | (
         go_at_call 13
         refine (IH.out x D e D' e' E f E' f' _ (by omega) (by omega) HXs.out (HX.out.on Hbel.out.drew) (HX'.out.on Hbel.out.drew)).mono ?_
         rintro e2 w2 ⟨rfl, hb2⟩
         have HBX := Lib.hid (show Below wr.heap.size wr w2 from (Below.refl _ _).drew.trans hb2)
         clear hb2))
      go_wp2_with fail
      go_roundw
      case rel => exact ⟨k + 1, hlt2, by go_num, HB0.out.onto HBX.out, HB1.out.onto HBX.out, Hbel.out.trans (HBX.out.mono Hbel.out.size)⟩
      case measure => simp [intOf]; omega
     ·
      obtain rfl : t.items.length = k := by omega
      go_wp2_with fail
      go_ret
      exact ⟨rfl, Hbel.out⟩
theorem rsame_yes (t : T) (A : Option Addr) (c : Nat) (A' : Option Addr) (c' : Nat) (B : Option Addr) (d : Nat) (B' : Option Addr) (d' : Nat) (w : World) (ht : t.size ≤ 100000) (hs : t.Small) (hv : TV w (· < w.heap.size) t A c A' c') (hu : TV w (· < w.heap.size) t B d B' d') :
 Calls Tryz.prog 13 #[t.agg A c A' c', t.agg B d B' d'] w fun e w' => e = .returned (.bool true) ∧ Below w.heap.size w w' :=
 rsame_yes_at 100000 t A c A' c' B d B' d' w ht (Nat.le_refl _) hs hv hu
end Go.Proofs.YtaeimlfehlbiiaaGreatDoor
