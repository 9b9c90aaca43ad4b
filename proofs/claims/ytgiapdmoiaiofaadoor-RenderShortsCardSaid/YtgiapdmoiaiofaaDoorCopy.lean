/- Copies: contracts of slices.Clone at texts, copies and Copy. -/
import Derived.Test.YtgiapdmoiaiofaaDoorOwn
import Derived.Test.YtgiapdmoiaiofaaDoorShelf3
namespace Go.Proofs.YtgiapdmoiaiofaaDoor
open Go.RowKit

theorem own_keys {w : World} {base : Nat} {v : Value} {l : List ByteArray} (h : w.ownsRow base 9 1 v l.length (l.map Value.string)) :
    ∃ B d, v = .slice B l.length d ∧ l.length ≤ d ∧ OwnKeys w base w.heap.size l B := by
  rcases h.2 with ⟨rfl, h0⟩ | ⟨g, cap, cur, rfl, hb, hh, hle, hm, hs, ht⟩
  · obtain rfl : l = [] := List.eq_nil_of_length_eq_zero h0
    exact ⟨none, 0, rfl, Nat.le_refl _, fun hn => absurd rfl hn⟩
  · refine ⟨_, _, rfl, hle, fun _ => ⟨g, cur, rfl, hb, (Array.getElem?_eq_some_iff.1 hh).1, hh, by omega, fun i s hi => ?_⟩⟩
    have hl := lt_of_get hi
    have h1 : (cur.toList.take (l.length * 1))[i]? = (l.map Value.string)[i]? := by rw [ht]
    rw [List.getElem?_take_of_lt (by omega), Array.getElem?_toList, List.getElem?_map, hi] at h1
    exact h1
theorem OwnKeys.sreads {w : World} {lo hi : Nat} {l : List ByteArray} {A : Option Addr} (h : OwnKeys w lo hi l A) : SReads w (fun b => lo ≤ b ∧ b < hi) A l := by
  intro hn
  obtain ⟨g, cs, e, h1, h2, hb, _, hc⟩ := h hn
  exact ⟨g, 0, e, ⟨h1, h2⟩, fun i s hs => by rw [Nat.zero_add, hb.cell]; exact hc i s hs⟩
theorem clone_own (l : List ByteArray) (A : Option Addr) (c : Nat) (w : World) (hl : l.length ≤ 100000) (hr : SReads w (· < w.heap.size) A l) :
    Calls Tryd.prog 30 #[.slice A l.length c] w fun e w' => ∃ v, e = .returned v ∧ w'.ownsRow w.heap.size 9 1 v l.length (l.map Value.string) ∧ Below w.heap.size w w' := by
  by_cases hn : l = []
  · subst hn
    cases A with
    | none => exact (Tryd.slices_Clone_string_nil _ c w).mono fun e w' ⟨he, hw⟩ => ⟨_, he, World.ownsRow_nil _ _ _ _, hw ▸ Below.refl _ _⟩
    | some a => exact (Tryd.slices_Clone_string_zero a c w).mono fun e w' ⟨v, he, ho, _, hb⟩ => ⟨v, he, ho, hb⟩
  · obtain ⟨b, o, rfl, _, hc⟩ := hr hn
    refine (Tryd.slices_Clone_string b o l.length c l w (Nat.le_refl _) (by omega) (fun j hj => ?_)).mono fun e w' ⟨v, he, ho, _, hb⟩ => ⟨v, he, ?_, hb⟩
    · exact hc j _ (by rw [List.getElem?_eq_getElem hj, List.getD_eq_getElem?_getD, List.getElem?_eq_getElem hj]; rfl)
    · rw [List.take_length] at ho; exact ho
theorem clone_any (l : List ByteArray) (A : Option Addr) (c : Nat) (w : World) (hl : l.length ≤ 100000) (hr : SReads w (· < w.heap.size) A l) :
    Calls Tryd.prog 30 #[.slice A l.length c] w fun e w' => ∃ B d, e = .returned (.slice B l.length d) ∧ l.length ≤ d ∧ OwnKeys w' w.heap.size w'.heap.size l B ∧ Below w.heap.size w w' :=
  (clone_own l A c w hl hr).mono fun e w' ⟨v, he, ho, hb⟩ => by
    obtain ⟨B, d, rfl, hd, hk⟩ := own_keys ho
    exact ⟨B, d, he, hd, hk, hb⟩

theorem infoVal : (Tryd.prog.info? 29).map (fun i => (i.zero, i.size, i.bytes)) = some (some (.agg #[.int .i64 0, .bool false, .int .i64 0, .string ⟨#[]⟩, .slice none 0 0, .slice none 0 0]), 6, 88) := by kernel_rfl
/-- how a call of Copy ends -/
def GivesOwn (t : T) (w : World) (e : Ending) (w' : World) : Prop := ∃ B d B' d', e = .returned (t.agg B d B' d') ∧ Own w' w.heap.size w'.heap.size t B d B' d' ∧ Below w.heap.size w w'
def GivesOwnRow (l : List T) (w : World) (e : Ending) (w' : World) : Prop := ∃ B d, e = .returned (.slice B l.length d) ∧ l.length ≤ d ∧ OwnRow w' w.heap.size w'.heap.size l B ∧ Below w.heap.size w w'

def CopyAt (n : Nat) : Prop := ∀ (t : T) (A : Option Addr) (c : Nat) (A' : Option Addr) (c' : Nat) (w : World), t.size ≤ n → n ≤ 100000 → t.Small → TV w (· < w.heap.size) t A c A' c' →
    Calls Tryd.prog 34 #[t.agg A c A' c'] w (GivesOwn t w)

set_option maxRecDepth 100000 in
set_option maxHeartbeats 2000000 in
theorem copies_of (n : Nat) (ih : CopyAt n) (l : List T) (A : Option Addr) (c : Nat) (w : World) (hl : T.sizes l ≤ n) (hn : n ≤ 100000) (hs : ∀ x ∈ l, x.Small) (hv : VReads w (· < w.heap.size) A l) :
    Calls Tryd.prog 35 #[.slice A l.length c] w (GivesOwnRow l w) := by
  have hll := T.len_sizes l
  obtain ⟨i0, hi, hz0, hz1, hz2⟩ := info_parts infoVal
  by_cases h0 : l.length = 0
  · have t0 : ((l.length : Int) == 0) = true := by simp; exact List.eq_nil_of_length_eq_zero h0
    obtain rfl : l = [] := List.eq_nil_of_length_eq_zero h0
    go_enter Tryd.func35, Tryd.ntmps35
    go_wp2_with fail
    go_ret
    exact ⟨none, 0, rfl, Nat.le_refl _, OwnRow.nil _ _ _, Below.refl _ _⟩
  · have t0 : ((l.length : Int) == 0) = false := by rw [beq_eq_false_iff_ne]; omega
    have hmk : ∀ W : World, (Instr.makeSlice 26 (.int .i64 l.length) (.int .i64 l.length)).run Tryd.prog W = .ok (.slice (some ⟨W.heap.size, 0, none⟩) l.length l.length) (W.alloc (.cells (madeCells #[.int .i64 0, .bool false, .int .i64 0, .string ⟨#[]⟩, .slice none 0 0, .slice none 0 0] (l.length * 6)) 29)) := by
      intro W
      have := run_make (P := Tryd.prog) W 26 29 i0 _ Tryd.underlying26 hi hz0 .i64 .i64 l.length l.length (by omega) (by omega) (by rw [hz2]; omega) (by omega)
      rw [hz1] at this
      exact this
    have IH := Lib.hid ih
    have HV := Lib.hid hv
    have HS := Lib.hid hs
    clear ih hv hs hz0 hz1 hz2 hi h0
    go_enter Tryd.func35, Tryd.ntmps35
    go_wp2_with fail
    go_loopw [14] (fun i wr => ∃ k : Nat, k ≤ l.length ∧ i = .int .i64 k ∧ Copied wr w.heap.size l k ∧ Below w.heap.size w wr) (fun i _ => l.length - (intOf i).toNat)
    case atStart =>
      refine ⟨0, Nat.zero_le _, rfl, ⟨fun _ => w.heap.size + 1, _, Nat.lt_succ_self _, fun i h => by omega, by simp, Blk.new _ _ _, by rw [size_madeCells], fun i x h => by omega⟩, (Below.refl _ _).alloc (Nat.le_refl _) _⟩
    case round =>
      clear hmk
      obtain ⟨k, hk, rfl, hcp, hbel⟩ := hrel
      have Hbel := Lib.hid hbel
      have Hcp := Lib.hid hcp
      clear hbel hcp
      by_cases hlt : k < l.length
      · have u1 : decide (k < l.length) = true := decide_eq_true hlt
        obtain ⟨b, o, x, B, d, B', d', rfl, hb, hx, h6, hX⟩ := HV.out.at_ hlt
        have hxs := T.mem_size (List.mem_of_getElem? hx)
        have HXs := Lib.hid (HS.out x (List.mem_of_getElem? hx))
        have HX := Lib.hid hX
        have Hx := Lib.hid hx
        obtain ⟨e0, e1, e2, e3, e4, e5⟩ := h6.keep hb (.of_below Hbel.out)
        clear hX h6 hx
        go_wp2_with fail
        refine (IH.out x B d B' d' _ (by omega) (by omega) HXs.out (HX.out.on (Hbel.out.alloc Hbel.out.size _))).mono ?_
        rintro e w2 ⟨C, f, C', f', rfl, ho2, hb2⟩
        unfold T.agg
        have hq : wr.heap.size + 1 ≤ w2.heap.size := by have := hb2.size; simpa using this
        have hbw : Below wr.heap.size wr w2 := ((Below.refl _ wr).alloc (Nat.le_refl _) _).trans (hb2.mono (by simp))
        have hcp2 := Hcp.out.onto hbw
        obtain ⟨cs, hbk, hz⟩ := hcp2.blk
        obtain ⟨v0, v1, v2, v3, v4, v5, f0, f1, f2, f3, f4, f5⟩ := hbk.six (o := k * 6) (by omega)
        have z0 := hbk.free (k * 6)
        have z1 := hbk.free (k * 6 + 1)
        have z2 := hbk.free (k * 6 + 2)
        have z3 := hbk.free (k * 6 + 3)
        have z4 := hbk.free (k * 6 + 4)
        have z5 := hbk.free (k * 6 + 5)
        have ho3 : Own w2 (wr.heap.size + 1) w2.heap.size x C f C' f' := by have := ho2; simpa using this
        have HST := Lib.hid (hcp2.step Hx.out hq ⟨wr, Hcp.out, Nat.le_succ _, hbw⟩ ho3)
        have Hb2 := Lib.hid (Hbel.out.trans (hbw.mono Hbel.out.size))
        clear hbk hcp2 hb2 ho2 ho3 hbw hz
        go_wp2_with fail
        go_roundw
        case rel => exact ⟨k + 1, hlt, by go_num, HST.out, (((((Hb2.out.setCell (Nat.le_refl _) _).setCell (Nat.le_refl _) _).setCell (Nat.le_refl _) _).setCell (Nat.le_refl _) _).setCell (Nat.le_refl _) _).setCell (Nat.le_refl _) _⟩
        case measure => simp [intOf]; omega
      · obtain rfl : l.length = k := by omega
        go_wp2_with fail
        go_ret
        exact ⟨_, _, rfl, Nat.le_refl _, Hcp.out.row, Hbel.out⟩

set_option maxRecDepth 100000 in
set_option maxHeartbeats 2000000 in
theorem copy_at (n : Nat) : CopyAt n := by
  induction n with
  | zero => intro t _ _ _ _ _ h; have := t.size_pos; omega
  | succ n ih =>
    intro t A c A' c' w ht hn hs hv
    have hse := t.size_eq
    have hkl := hs.here
    have IH := Lib.hid ih
    have HV := Lib.hid hv
    have HS := Lib.hid hs
    have hss : T.sizes t.items ≤ n := by omega
    clear ih hv hse hs
    unfold T.agg
    go_enter Tryd.func34, Tryd.ntmps34
    go_wp2_with fail
    have hbW : Below w.heap.size w ((w.alloc (Obj.cells (t.cs A c A' c') 29)).alloc (Obj.cells #[.int .i64 0, .bool false, .int .i64 0, .string ⟨#[]⟩, .slice none 0 0, .slice none 0 0] 29)) := ((Below.refl _ _).alloc (Nat.le_refl _) _).alloc (by simp) _
    have hB : Blk ((w.alloc (Obj.cells (t.cs A c A' c') 29)).alloc (Obj.cells #[.int .i64 0, .bool false, .int .i64 0, .string ⟨#[]⟩, .slice none 0 0, .slice none 0 0] 29)) w.heap.size 29 (t.cs A c A' c') := (Blk.new w _ _).alloc _
    have hR : Blk ((w.alloc (Obj.cells (t.cs A c A' c') 29)).alloc (Obj.cells #[.int .i64 0, .bool false, .int .i64 0, .string ⟨#[]⟩, .slice none 0 0, .slice none 0 0] 29)) (w.heap.size + 1) 29 #[.int .i64 0, .bool false, .int .i64 0, .string ⟨#[]⟩, .slice none 0 0, .slice none 0 0] := by
      have := Blk.new (w.alloc (Obj.cells (t.cs A c A' c') 29)) 29 #[.int .i64 0, .bool false, .int .i64 0, .string ⟨#[]⟩, .slice none 0 0, .slice none 0 0]
      simpa using this
    refine (copies_of n IH.out t.items A c _ hss (by omega) (fun x hx => HS.out.mem hx) (HV.out.vreads.on hbW)).mono ?_
    rintro e w2 ⟨C, f, rfl, hf, ho, hb2⟩
    have hB2 := hB.onto hb2
    have hR2 := hR.onto hb2
    have hbW2 := hbW.trans (hb2.mono hbW.size)
    have hlo : w.heap.size + 2 ≤ w2.heap.size := by have := hb2.size; simpa using this
    have ho2 : OwnRow w2 (w.heap.size + 2) w2.heap.size t.items C := by have := ho; simpa using this
    clear hbW hB hR hb2 ho
    have d4 : w2.cell? ⟨w.heap.size, 4, none⟩ = some (.slice A t.items.length c) := hB2.cell 4
    have z4 := hB2.free 4
    have HB3 := Lib.hid (hB2.set_ 4 (.slice C t.items.length f))
    have HR3 := Lib.hid (hR2.far (p := ⟨w.heap.size, 4, none⟩) (by simp) (.slice C t.items.length f))
    have Hb3 := Lib.hid (hbW2.setCell (p := ⟨w.heap.size, 4, none⟩) (Nat.le_refl _) (.slice C t.items.length f))
    have HO3 := Lib.hid (ho2.keep (w' := w2.setCell ⟨w.heap.size, 4, none⟩ (.slice C t.items.length f)) (fun b hb => Below.heap_setCell _ _ _ _ (by show b ≠ w.heap.size; omega)))
    have hsz3 : (w2.setCell ⟨w.heap.size, 4, none⟩ (.slice C t.items.length f)).heap.size = w2.heap.size := by simp [World.setCell]
    rw [← hsz3] at HO3 hlo
    have d5 : (w2.setCell ⟨w.heap.size, 4, none⟩ (.slice C t.items.length f)).cell? ⟨w.heap.size, 5, none⟩ = some (.slice A' t.keys.length c') := HB3.out.cell 5
    clear hB2 hR2 hbW2 ho2 hsz3
    go_wp2_with fail
    generalize w2.setCell ⟨w.heap.size, 4, none⟩ (.slice C t.items.length f) = W at *
    clear d4 z4 d5
    refine (clone_any t.keys A' c' _ hkl (HV.out.keys.on Hb3.out)).mono ?_
    rintro e w4 ⟨D, g, rfl, hg, hk, hb4⟩
    have hB4 := HB3.out.onto hb4
    have hR4 := HR3.out.onto hb4
    have hO4 := HO3.out.keep ((Keeps.of_below hb4).mono fun b hb => hb.2)
    have hb5 := Hb3.out.trans (hb4.mono Hb3.out.size)
    have hs4 := hb4.size
    clear hb4
    have d0 : w4.cell? ⟨w.heap.size, 0, none⟩ = some (.int .i64 t.kind) := hB4.cell 0
    have d1 : w4.cell? ⟨w.heap.size, 1, none⟩ = some (.bool t.tr) := hB4.cell 1
    have d2 : w4.cell? ⟨w.heap.size, 2, none⟩ = some (.int .i64 t.num) := hB4.cell 2
    have d3 : w4.cell? ⟨w.heap.size, 3, none⟩ = some (.string t.str) := hB4.cell 3
    have d4 : w4.cell? ⟨w.heap.size, 4, none⟩ = some (.slice C t.items.length f) := hB4.cell 4
    have d5 : w4.cell? ⟨w.heap.size, 5, none⟩ = some (.slice A' t.keys.length c') := hB4.cell 5
    have z5 := hB4.free 5
    have r0 : w4.cell? ⟨w.heap.size + 1, 0, none⟩ = some (.int .i64 0) := hR4.cell 0
    have r1 : w4.cell? ⟨w.heap.size + 1, 1, none⟩ = some (.bool false) := hR4.cell 1
    have r2 : w4.cell? ⟨w.heap.size + 1, 2, none⟩ = some (.int .i64 0) := hR4.cell 2
    have r3 : w4.cell? ⟨w.heap.size + 1, 3, none⟩ = some (.string ⟨#[]⟩) := hR4.cell 3
    have r4 : w4.cell? ⟨w.heap.size + 1, 4, none⟩ = some (.slice none 0 0) := hR4.cell 4
    have r5 : w4.cell? ⟨w.heap.size + 1, 5, none⟩ = some (.slice none 0 0) := hR4.cell 5
    have x0 := hR4.free 0
    have x1 := hR4.free 1
    have x2 := hR4.free 2
    have x3 := hR4.free 3
    have x4 := hR4.free 4
    have x5 := hR4.free 5
    have HB4 := Lib.hid hB4
    have HR4 := Lib.hid hR4
    have HO4 := Lib.hid hO4
    have Hk := Lib.hid hk
    have Hb5 := Lib.hid hb5
    clear hB4 hR4 hO4 hk hb5 HB3 HR3 HO3 Hb3
    go_wp2_with fail
    have hF := res_put (HR4.out.far (p := ⟨w.heap.size, 5, none⟩) (by simp) (.slice D t.keys.length g)) rfl t C f D g
    have hK : Keeps (fun b => w.heap.size + 2 ≤ b) w4 (((((((w4.setCell ⟨w.heap.size, 5, none⟩ (.slice D t.keys.length g)).setCell ⟨w.heap.size + 1, 0, none⟩ (.int .i64 t.kind)).setCell ⟨w.heap.size + 1, 1, none⟩ (.bool t.tr)).setCell ⟨w.heap.size + 1, 2, none⟩ (.int .i64 t.num)).setCell ⟨w.heap.size + 1, 3, none⟩ (.string t.str)).setCell ⟨w.heap.size + 1, 4, none⟩ (.slice C t.items.length f)).setCell ⟨w.heap.size + 1, 5, none⟩ (.slice D t.keys.length g)) := by
      intro b hb
      have h1 : b ≠ w.heap.size + 1 := by omega
      have h2 : b ≠ w.heap.size := by omega
      rw [Below.heap_setCell _ _ _ _ h1, Below.heap_setCell _ _ _ _ h1, Below.heap_setCell _ _ _ _ h1, Below.heap_setCell _ _ _ _ h1, Below.heap_setCell _ _ _ _ h1, Below.heap_setCell _ _ _ _ h1, Below.heap_setCell _ _ _ _ h2]
    have hL : Below w.heap.size w (((((((w4.setCell ⟨w.heap.size, 5, none⟩ (.slice D t.keys.length g)).setCell ⟨w.heap.size + 1, 0, none⟩ (.int .i64 t.kind)).setCell ⟨w.heap.size + 1, 1, none⟩ (.bool t.tr)).setCell ⟨w.heap.size + 1, 2, none⟩ (.int .i64 t.num)).setCell ⟨w.heap.size + 1, 3, none⟩ (.string t.str)).setCell ⟨w.heap.size + 1, 4, none⟩ (.slice C t.items.length f)).setCell ⟨w.heap.size + 1, 5, none⟩ (.slice D t.keys.length g)) :=
      ((((((Hb5.out.setCell (Nat.le_refl _) _).setCell (Nat.le_succ _) _).setCell (Nat.le_succ _) _).setCell (Nat.le_succ _) _).setCell (Nat.le_succ _) _).setCell (Nat.le_succ _) _).setCell (Nat.le_succ _) _
    have hZ : (((((((w4.setCell ⟨w.heap.size, 5, none⟩ (.slice D t.keys.length g)).setCell ⟨w.heap.size + 1, 0, none⟩ (.int .i64 t.kind)).setCell ⟨w.heap.size + 1, 1, none⟩ (.bool t.tr)).setCell ⟨w.heap.size + 1, 2, none⟩ (.int .i64 t.num)).setCell ⟨w.heap.size + 1, 3, none⟩ (.string t.str)).setCell ⟨w.heap.size + 1, 4, none⟩ (.slice C t.items.length f)).setCell ⟨w.heap.size + 1, 5, none⟩ (.slice D t.keys.length g)).heap.size = w4.heap.size := by simp [World.setCell]
    generalize (((((((w4.setCell ⟨w.heap.size, 5, none⟩ (.slice D t.keys.length g)).setCell ⟨w.heap.size + 1, 0, none⟩ (.int .i64 t.kind)).setCell ⟨w.heap.size + 1, 1, none⟩ (.bool t.tr)).setCell ⟨w.heap.size + 1, 2, none⟩ (.int .i64 t.num)).setCell ⟨w.heap.size + 1, 3, none⟩ (.string t.str)).setCell ⟨w.heap.size + 1, 4, none⟩ (.slice C t.items.length f)).setCell ⟨w.heap.size + 1, 5, none⟩ (.slice D t.keys.length g)) = W5 at *
    have m0 : W5.cell? ⟨w.heap.size + 1, 0, none⟩ = some (.int .i64 t.kind) := hF.cell 0
    have m1 : W5.cell? ⟨w.heap.size + 1, 1, none⟩ = some (.bool t.tr) := hF.cell 1
    have m2 : W5.cell? ⟨w.heap.size + 1, 2, none⟩ = some (.int .i64 t.num) := hF.cell 2
    have m3 : W5.cell? ⟨w.heap.size + 1, 3, none⟩ = some (.string t.str) := hF.cell 3
    have m4 : W5.cell? ⟨w.heap.size + 1, 4, none⟩ = some (.slice C t.items.length f) := hF.cell 4
    have m5 : W5.cell? ⟨w.heap.size + 1, 5, none⟩ = some (.slice D t.keys.length g) := hF.cell 5
    refine bodyPost_ret (v := .agg #[.int .i64 t.kind, .bool t.tr, .int .i64 t.num, .string t.str, .slice C t.items.length f, .slice D t.keys.length g]) (by simp [results, Tryd.results34, go_sem, m0, m1, m2, m3, m4, m5]) rfl ⟨C, f, D, g, rfl, ?_, hL⟩
    have hO5 : OwnRow W5 (w.heap.size + 2) W.heap.size t.items C := HO4.out.keep (hK.mono fun b hb => hb.1)
    have hk5 : OwnKeys W5 W.heap.size W5.heap.size t.keys D := by
      rw [hZ]
      intro hn
      obtain ⟨g1, cs, e, h1, h2, hb, h3, hc⟩ := Hk.out hn
      exact ⟨g1, cs, e, h1, h2, hb.keep hK (by show _ ≤ _; omega), h3, hc⟩
    exact (Own.of hf hg (by rw [hZ]; exact hs4) hO5 hk5).wide (by omega) (Nat.le_refl _)
theorem copy_any (t : T) (A : Option Addr) (c : Nat) (A' : Option Addr) (c' : Nat) (w : World) (ht : t.size ≤ 100000) (hs : t.Small) (hv : TV w (· < w.heap.size) t A c A' c') :
    Calls Tryd.prog 34 #[t.agg A c A' c'] w (GivesOwn t w) := copy_at 100000 t A c A' c' w ht (Nat.le_refl _) hs hv
theorem copies_any (l : List T) (A : Option Addr) (c : Nat) (w : World) (hl : T.sizes l ≤ 100000) (hs : ∀ x ∈ l, x.Small) (hv : VReads w (· < w.heap.size) A l) :
    Calls Tryd.prog 35 #[.slice A l.length c] w (GivesOwnRow l w) := copies_of 100000 (copy_at _) l A c w hl (Nat.le_refl _) hs hv
end Go.Proofs.YtgiapdmoiaiofaaDoor
