/- Object: contract. -/
import Derived.Test.YtgiapdmoiaiofaaDoorSorted
namespace Go.Proofs.YtgiapdmoiaiofaaDoor
open Go.RowKit

def T.zero : T := .mk 0 false 0 ⟨#[]⟩ [] []
def look : List ByteArray → List T → ByteArray → T
  | k :: r, x :: s, q => if k.data = q.data then x else look r s q
  | _, _, _ => T.zero
theorem look_at {keys : List ByteArray} {items : List T} (hn : keys.Nodup) {i : Nat} {k : ByteArray} {x : T} (hk : keys[i]? = some k) (hx : items[i]? = some x) : look keys items k = x := by
  induction keys generalizing items i with
  | nil => simp at hk
  | cons a r ih =>
    cases items with
    | nil => simp at hx
    | cons y s =>
      cases i with
      | zero =>
        simp at hk hx
        subst hk hx
        simp [look]
      | succ i =>
        simp at hk hx
        have h1 : a.data ≠ k.data := by
          intro h
          have h2 : a = k := by cases a; cases k; simp at h; rw [h]
          subst h2
          exact (List.nodup_cons.1 hn).1 (List.mem_of_getElem? hk)
        rw [look, if_neg h1]
        exact ih (List.nodup_cons.1 hn).2 hk hx
def placed (keys : List ByteArray) (items : List T) : List T := (srt keys).map (look keys items)
/-- the object of keys and items -/
def objT (keys : List ByteArray) (items : List T) : T := .mk 5 false 0 ⟨#[]⟩ (placed keys items) (srt keys)
theorem placed_len (keys : List ByteArray) (items : List T) : (placed keys items).length = keys.length := by unfold placed; rw [List.length_map, srt_len]

/-- in the midst of placing: the items of the first k keys lie in row g, where their keys stand in the order -/
def Placed (w : World) (R g : Nat) (keys : List ByteArray) (items : List T) (k : Nat) : Prop :=
  ∃ cs : Array Value, Blk w g 29 cs ∧ cs.size = keys.length * 6 ∧
    ∀ (i p : Nat) (s : ByteArray) (x : T), i < k → keys[i]? = some s → (srt keys)[p]? = some s → items[i]? = some x → ∃ B d B' d', Six w g (p * 6) x B d B' d' ∧ TV w (fun b => R < b ∧ b < w.heap.size ∧ b ≠ g) x B d B' d'
theorem Placed.blk {w : World} {R g : Nat} {keys : List ByteArray} {items : List T} {k : Nat} (h : Placed w R g keys items k) : ∃ cs, Blk w g 29 cs ∧ cs.size = keys.length * 6 := by
  obtain ⟨cs, hb, hz, _⟩ := h
  exact ⟨cs, hb, hz⟩
theorem Placed.onto {w w' : World} {R g : Nat} {keys : List ByteArray} {items : List T} {k : Nat} (h : Placed w R g keys items k) (hb : Below w.heap.size w w') : Placed w' R g keys items k := by
  obtain ⟨cs, hbk, hz, hi⟩ := h
  refine ⟨cs, hbk.onto hb, hz, fun i p s x hik hk hp hx => ?_⟩
  obtain ⟨B, d, B', d', h6, ht⟩ := hi i p s x hik hk hp hx
  refine ⟨B, d, B', d', h6.on_blk (hb.block g hbk.lt), ?_⟩
  exact (ht.keep fun b hb' => hb.block b hb'.2.1).wide fun b hb' => ⟨hb'.1, Nat.lt_of_lt_of_le hb'.2.1 hb.size, hb'.2.2⟩
theorem Placed.step {w : World} {R g : Nat} {keys : List ByteArray} {items : List T} {k p : Nat} {s : ByteArray} {x : T} {B : Option Addr} {d : Nat} {B' : Option Addr} {d' : Nat} (h : Placed w R g keys items k) (hn : keys.Nodup)
    (hk : keys[k]? = some s) (hp : (srt keys)[p]? = some s) (hx : items[k]? = some x) (ht : TV w (fun b => R < b ∧ b < w.heap.size ∧ b ≠ g) x B d B' d') :
    Placed ((((((w.setCell ⟨g, p * 6, none⟩ (.int .i64 x.kind)).setCell ⟨g, p * 6 + 1, none⟩ (.bool x.tr)).setCell ⟨g, p * 6 + 2, none⟩ (.int .i64 x.num)).setCell ⟨g, p * 6 + 3, none⟩ (.string x.str)).setCell ⟨g, p * 6 + 4, none⟩ (.slice B x.items.length d)).setCell ⟨g, p * 6 + 5, none⟩ (.slice B' x.keys.length d')) R g keys items (k + 1) := by
  obtain ⟨cs, hbk, hz, hi⟩ := h
  have hpl : p < keys.length := by have := lt_of_get hp; rw [srt_len] at this; exact this
  obtain ⟨cs', hb', hz', h6', hfar⟩ := six_put hbk (o := p * 6) (by omega) x B d B' d'
  have hkeep : ∀ b, b ≠ g → ((((((w.setCell ⟨g, p * 6, none⟩ (.int .i64 x.kind)).setCell ⟨g, p * 6 + 1, none⟩ (.bool x.tr)).setCell ⟨g, p * 6 + 2, none⟩ (.int .i64 x.num)).setCell ⟨g, p * 6 + 3, none⟩ (.string x.str)).setCell ⟨g, p * 6 + 4, none⟩ (.slice B x.items.length d)).setCell ⟨g, p * 6 + 5, none⟩ (.slice B' x.keys.length d')).heap[b]? = w.heap[b]? := by
    intro b hne
    rw [Below.heap_setCell _ _ _ _ hne, Below.heap_setCell _ _ _ _ hne, Below.heap_setCell _ _ _ _ hne, Below.heap_setCell _ _ _ _ hne, Below.heap_setCell _ _ _ _ hne, Below.heap_setCell _ _ _ _ hne]
  have hsize : ((((((w.setCell ⟨g, p * 6, none⟩ (.int .i64 x.kind)).setCell ⟨g, p * 6 + 1, none⟩ (.bool x.tr)).setCell ⟨g, p * 6 + 2, none⟩ (.int .i64 x.num)).setCell ⟨g, p * 6 + 3, none⟩ (.string x.str)).setCell ⟨g, p * 6 + 4, none⟩ (.slice B x.items.length d)).setCell ⟨g, p * 6 + 5, none⟩ (.slice B' x.keys.length d')).heap.size = w.heap.size := by simp [World.setCell]
  generalize ((((((w.setCell ⟨g, p * 6, none⟩ (.int .i64 x.kind)).setCell ⟨g, p * 6 + 1, none⟩ (.bool x.tr)).setCell ⟨g, p * 6 + 2, none⟩ (.int .i64 x.num)).setCell ⟨g, p * 6 + 3, none⟩ (.string x.str)).setCell ⟨g, p * 6 + 4, none⟩ (.slice B x.items.length d)).setCell ⟨g, p * 6 + 5, none⟩ (.slice B' x.keys.length d')) = W at *
  have hon : ∀ {y C e C' e'}, TV w (fun b => R < b ∧ b < w.heap.size ∧ b ≠ g) y C e C' e' → TV W (fun b => R < b ∧ b < W.heap.size ∧ b ≠ g) y C e C' e' := fun h =>
    (h.keep fun b hb => hkeep b hb.2.2).wide fun b hb => ⟨hb.1, by omega, hb.2.2⟩
  refine ⟨cs', hb', by omega, fun i q s' y hik hk' hq hy => ?_⟩
  rcases Nat.lt_or_ge i k with h1 | h1
  · obtain ⟨C, e, C', e', k6, kt⟩ := hi i q s' y h1 hk' hq hy
    have hne : q ≠ p := by
      rintro rfl
      rw [hp] at hq
      injection hq with hq
      subst hq
      exact get_pair hn hk' hk h1 rfl
    refine ⟨C, e, C', e', ?_, hon kt⟩
    have hc : ∀ j, j < 6 → W.cell? ⟨g, q * 6 + j, none⟩ = w.cell? ⟨g, q * 6 + j, none⟩ := fun j hj => by
      rw [hb'.cell, hbk.cell]; exact hfar _ (by omega)
    obtain ⟨e0, e1, e2, e3, e4, e5⟩ := k6
    exact ⟨(hc 0 (by omega)).trans e0, (hc 1 (by omega)).trans e1, (hc 2 (by omega)).trans e2, (hc 3 (by omega)).trans e3, (hc 4 (by omega)).trans e4, (hc 5 (by omega)).trans e5⟩
  · obtain rfl : i = k := by omega
    rw [hk] at hk'
    injection hk' with hk'
    subst hk'
    rw [hx] at hy
    injection hy with hy
    subst hy
    have hqp : q = p := by
      rcases Nat.lt_trichotomy q p with h2 | h2 | h2
      · exact absurd rfl (get_pair ((srt_perm keys).nodup_iff.2 hn) hq hp h2)
      · exact h2
      · exact absurd rfl (get_pair ((srt_perm keys).nodup_iff.2 hn) hp hq h2)
    subst hqp
    exact ⟨B, d, B', d', h6', hon ht⟩
/-- when all are placed -/
theorem Placed.row {w : World} {R g : Nat} {keys : List ByteArray} {items : List T} (h : Placed w R g keys items keys.length) (hn : keys.Nodup) (hl : keys.length = items.length) :
    ∀ (p : Nat) (x : T), (placed keys items)[p]? = some x → ∃ B d B' d', Six w g (p * 6) x B d B' d' ∧ TV w (fun b => R < b ∧ b < w.heap.size ∧ b ≠ g) x B d B' d' := by
  intro p x hx
  obtain ⟨cs, _, _, hi⟩ := h
  unfold placed at hx
  rw [List.getElem?_map] at hx
  cases hs : (srt keys)[p]? with
  | none => rw [hs] at hx; cases hx
  | some s =>
    rw [hs] at hx
    injection hx with hx
    have hm : s ∈ keys := (srt_perm keys).mem_iff.1 (List.mem_of_getElem? hs)
    obtain ⟨i, hi'⟩ := List.mem_iff_getElem?.1 hm
    have hil := lt_of_get hi'
    have hy : items[i]? = some (items[i]'(by omega)) := List.getElem?_eq_getElem (by omega)
    have := look_at hn hi' hy
    rw [this] at hx
    exact hi i p s x hil hi' hs (by rw [hy, hx])

def zeros : Array Value := #[.int .i64 0, .bool false, .int .i64 0, .string ⟨#[]⟩, .slice none 0 0, .slice none 0 0]
set_option maxRecDepth 100000 in
set_option maxHeartbeats 2000000 in
theorem object_form (keys : List ByteArray) (items : List T) (A : Option Addr) (c : Nat) (A' : Option Addr) (c' : Nat) (w : World) (hne : keys.length ≠ items.length) :
    Calls Tryd.prog 15 #[.slice A keys.length c, .slice A' items.length c'] w fun e w' => e = .returned (.tuple #[T.zero.agg none 0 none 0, .int .i64 1]) ∧ Below w.heap.size w w' := by
  have t0 : (((keys.length : Int)) != (items.length : Int)) = true := by simp; omega
  go_enter Tryd.func15, Tryd.ntmps15
  go_wp2_with fail
  exact bodyPost_ret (v := .tuple #[T.zero.agg none 0 none 0, .int .i64 1]) (by simp [results, Tryd.results15, go_sem, T.zero, T.agg, T.kind, T.tr, T.num, T.str, T.items, T.keys]) rfl ⟨rfl, (Below.refl _ _).alloc (Nat.le_refl _) _⟩

set_option maxRecDepth 100000 in
set_option maxHeartbeats 2000000 in
theorem object_utf (keys : List ByteArray) (items : List T) (A : Option Addr) (c : Nat) (A' : Option Addr) (c' : Nat) (w : World) (hl : keys.length ≤ 100000) (he : keys.length = items.length) (hr : SReads w (· < w.heap.size) A keys) (ht : ¬ AllText keys) :
    Calls Tryd.prog 15 #[.slice A keys.length c, .slice A' items.length c'] w fun e w' => e = .returned (.tuple #[T.zero.agg none 0 none 0, .int .i64 2]) ∧ Below w.heap.size w w' := by
  have t0 : (((keys.length : Int)) != (items.length : Int)) = false := by simp; omega
  have HR := Lib.hid hr
  have HT := Lib.hid ht
  clear hr ht he
  go_enter Tryd.func15, Tryd.ntmps15
  go_wp2_with fail
  refine (texts_no keys A c _ hl HT.out (HR.out.on ((Below.refl _ _).alloc (Nat.le_refl _) _))).mono ?_
  rintro e w2 ⟨rfl, hb2⟩
  have hB2 : Blk w2 w.heap.size 29 zeros := (Blk.new w 29 zeros).onto hb2
  have Hb2 := Lib.hid (((Below.refl _ w).alloc (Nat.le_refl _) (.cells zeros 29)).trans (hb2.mono (by simp)))
  have r0 : w2.cell? ⟨w.heap.size, 0, none⟩ = some (.int .i64 0) := hB2.cell 0
  have r1 : w2.cell? ⟨w.heap.size, 1, none⟩ = some (.bool false) := hB2.cell 1
  have r2 : w2.cell? ⟨w.heap.size, 2, none⟩ = some (.int .i64 0) := hB2.cell 2
  have r3 : w2.cell? ⟨w.heap.size, 3, none⟩ = some (.string ⟨#[]⟩) := hB2.cell 3
  have r4 : w2.cell? ⟨w.heap.size, 4, none⟩ = some (.slice none 0 0) := hB2.cell 4
  have r5 : w2.cell? ⟨w.heap.size, 5, none⟩ = some (.slice none 0 0) := hB2.cell 5
  have x0 := hB2.free 0
  have x1 := hB2.free 1
  have x2 := hB2.free 2
  have x3 := hB2.free 3
  have x4 := hB2.free 4
  have x5 := hB2.free 5
  have HB2 := Lib.hid hB2
  clear hb2 hB2
  go_wp2_with fail
  have hF := res_put HB2.out rfl T.zero none 0 none 0
  have hL : Below w.heap.size w ((((((w2.setCell ⟨w.heap.size, 0, none⟩ (.int .i64 0)).setCell ⟨w.heap.size, 1, none⟩ (.bool false)).setCell ⟨w.heap.size, 2, none⟩ (.int .i64 0)).setCell ⟨w.heap.size, 3, none⟩ (.string ⟨#[]⟩)).setCell ⟨w.heap.size, 4, none⟩ (.slice none 0 0)).setCell ⟨w.heap.size, 5, none⟩ (.slice none 0 0)) :=
    (((((Hb2.out.setCell (Nat.le_refl _) _).setCell (Nat.le_refl _) _).setCell (Nat.le_refl _) _).setCell (Nat.le_refl _) _).setCell (Nat.le_refl _) _).setCell (Nat.le_refl _) _
  change Blk ((((((w2.setCell ⟨w.heap.size, 0, none⟩ (.int .i64 0)).setCell ⟨w.heap.size, 1, none⟩ (.bool false)).setCell ⟨w.heap.size, 2, none⟩ (.int .i64 0)).setCell ⟨w.heap.size, 3, none⟩ (.string ⟨#[]⟩)).setCell ⟨w.heap.size, 4, none⟩ (.slice none 0 0)).setCell ⟨w.heap.size, 5, none⟩ (.slice none 0 0)) _ _ zeros at hF
  generalize ((((((w2.setCell ⟨w.heap.size, 0, none⟩ (.int .i64 0)).setCell ⟨w.heap.size, 1, none⟩ (.bool false)).setCell ⟨w.heap.size, 2, none⟩ (.int .i64 0)).setCell ⟨w.heap.size, 3, none⟩ (.string ⟨#[]⟩)).setCell ⟨w.heap.size, 4, none⟩ (.slice none 0 0)).setCell ⟨w.heap.size, 5, none⟩ (.slice none 0 0)) = W at *
  have m0 : W.cell? ⟨w.heap.size, 0, none⟩ = some (.int .i64 0) := hF.cell 0
  have m1 : W.cell? ⟨w.heap.size, 1, none⟩ = some (.bool false) := hF.cell 1
  have m2 : W.cell? ⟨w.heap.size, 2, none⟩ = some (.int .i64 0) := hF.cell 2
  have m3 : W.cell? ⟨w.heap.size, 3, none⟩ = some (.string ⟨#[]⟩) := hF.cell 3
  have m4 : W.cell? ⟨w.heap.size, 4, none⟩ = some (.slice none 0 0) := hF.cell 4
  have m5 : W.cell? ⟨w.heap.size, 5, none⟩ = some (.slice none 0 0) := hF.cell 5
  exact bodyPost_ret (v := .tuple #[T.zero.agg none 0 none 0, .int .i64 2]) (by simp [results, Tryd.results15, go_sem, m0, m1, m2, m3, m4, m5, T.zero, T.agg, T.kind, T.tr, T.num, T.str, T.items, T.keys]) rfl ⟨rfl, hL⟩

set_option maxRecDepth 100000 in
set_option maxHeartbeats 2000000 in
theorem object_twice (keys : List ByteArray) (items : List T) (A : Option Addr) (c : Nat) (A' : Option Addr) (c' : Nat) (w : World) (hl : keys.length ≤ 100000) (he : keys.length = items.length) (hr : SReads w (· < w.heap.size) A keys) (ht : AllText keys) (hd : ¬ keys.Nodup) :
    Calls Tryd.prog 15 #[.slice A keys.length c, .slice A' items.length c'] w fun e w' => e = .returned (.tuple #[T.zero.agg none 0 none 0, .int .i64 5]) ∧ Below w.heap.size w w' := by
  have t0 : (((keys.length : Int)) != (items.length : Int)) = false := by simp; omega
  have HR := Lib.hid hr
  have HT := Lib.hid ht
  have HD := Lib.hid hd
  clear hr ht he hd
  go_enter Tryd.func15, Tryd.ntmps15
  go_wp2_with fail
  have h0 : Below w.heap.size w (w.alloc (.cells zeros 29)) := (Below.refl _ _).alloc (Nat.le_refl _) _
  refine (texts_yes keys A c _ hl HT.out (HR.out.on h0)).mono ?_
  rintro e w2 ⟨rfl, hb2⟩
  have hB2 : Blk w2 w.heap.size 29 zeros := (Blk.new w 29 zeros).onto hb2
  have H2 := Lib.hid (h0.trans (hb2.mono h0.size))
  have HB2 := Lib.hid hB2
  clear hb2 hB2 h0
  go_wp2_with fail
  refine (clone_own keys A c _ hl (HR.out.on H2.out)).mono ?_
  rintro e w3 ⟨v, rfl, ho, hb3⟩
  obtain ⟨B, d, rfl, hd, _⟩ := own_keys ho
  have HO := Lib.hid ho
  have Hb3 := Lib.hid hb3
  clear ho hb3
  go_wp2_with fail
  refine (sort_any keys _ w2.heap.size _ hl Hb3.out.size HO.out).mono ?_
  rintro e w4 ⟨rfl, ho4, hb4⟩
  have hb24 := Hb3.out.trans hb4
  have ho5 := ho4
  rw [← srt_len keys] at ho5
  obtain ⟨B1, d1, e1, _, hk4⟩ := own_keys ho5
  rw [srt_len] at e1
  injection e1 with e1 _ e2
  subst e1 e2
  have hcon := rising_no (srt keys) B d w4 (by rw [srt_len]; exact hl) (srt_not HD.out) (hk4.sreads.wide fun b hb => hb.2)
  rw [srt_len] at hcon
  have H4 := Lib.hid (H2.out.trans (hb24.mono H2.out.size))
  have HB4 := Lib.hid (HB2.out.onto hb24)
  have HC := Lib.hid hcon
  clear ho4 ho5 hb4 hb24 hk4 hcon HO Hb3 H2 HB2
  go_wp2_with fail
  refine HC.out.mono ?_
  rintro e w5 ⟨rfl, hb5⟩
  have hB2 : Blk w5 w.heap.size 29 zeros := HB4.out.onto hb5
  have Hb2 := Lib.hid (H4.out.trans (hb5.mono H4.out.size))
  have r0 : w5.cell? ⟨w.heap.size, 0, none⟩ = some (.int .i64 0) := hB2.cell 0
  have r1 : w5.cell? ⟨w.heap.size, 1, none⟩ = some (.bool false) := hB2.cell 1
  have r2 : w5.cell? ⟨w.heap.size, 2, none⟩ = some (.int .i64 0) := hB2.cell 2
  have r3 : w5.cell? ⟨w.heap.size, 3, none⟩ = some (.string ⟨#[]⟩) := hB2.cell 3
  have r4 : w5.cell? ⟨w.heap.size, 4, none⟩ = some (.slice none 0 0) := hB2.cell 4
  have r5 : w5.cell? ⟨w.heap.size, 5, none⟩ = some (.slice none 0 0) := hB2.cell 5
  have x0 := hB2.free 0
  have x1 := hB2.free 1
  have x2 := hB2.free 2
  have x3 := hB2.free 3
  have x4 := hB2.free 4
  have x5 := hB2.free 5
  have HB2 := Lib.hid hB2
  clear hb5 hB2
  go_wp2_with fail
  have hF := res_put HB2.out rfl T.zero none 0 none 0
  have hL : Below w.heap.size w ((((((w5.setCell ⟨w.heap.size, 0, none⟩ (.int .i64 0)).setCell ⟨w.heap.size, 1, none⟩ (.bool false)).setCell ⟨w.heap.size, 2, none⟩ (.int .i64 0)).setCell ⟨w.heap.size, 3, none⟩ (.string ⟨#[]⟩)).setCell ⟨w.heap.size, 4, none⟩ (.slice none 0 0)).setCell ⟨w.heap.size, 5, none⟩ (.slice none 0 0)) :=
    (((((Hb2.out.setCell (Nat.le_refl _) _).setCell (Nat.le_refl _) _).setCell (Nat.le_refl _) _).setCell (Nat.le_refl _) _).setCell (Nat.le_refl _) _).setCell (Nat.le_refl _) _
  change Blk ((((((w5.setCell ⟨w.heap.size, 0, none⟩ (.int .i64 0)).setCell ⟨w.heap.size, 1, none⟩ (.bool false)).setCell ⟨w.heap.size, 2, none⟩ (.int .i64 0)).setCell ⟨w.heap.size, 3, none⟩ (.string ⟨#[]⟩)).setCell ⟨w.heap.size, 4, none⟩ (.slice none 0 0)).setCell ⟨w.heap.size, 5, none⟩ (.slice none 0 0)) _ _ zeros at hF
  generalize ((((((w5.setCell ⟨w.heap.size, 0, none⟩ (.int .i64 0)).setCell ⟨w.heap.size, 1, none⟩ (.bool false)).setCell ⟨w.heap.size, 2, none⟩ (.int .i64 0)).setCell ⟨w.heap.size, 3, none⟩ (.string ⟨#[]⟩)).setCell ⟨w.heap.size, 4, none⟩ (.slice none 0 0)).setCell ⟨w.heap.size, 5, none⟩ (.slice none 0 0)) = W at *
  have m0 : W.cell? ⟨w.heap.size, 0, none⟩ = some (.int .i64 0) := hF.cell 0
  have m1 : W.cell? ⟨w.heap.size, 1, none⟩ = some (.bool false) := hF.cell 1
  have m2 : W.cell? ⟨w.heap.size, 2, none⟩ = some (.int .i64 0) := hF.cell 2
  have m3 : W.cell? ⟨w.heap.size, 3, none⟩ = some (.string ⟨#[]⟩) := hF.cell 3
  have m4 : W.cell? ⟨w.heap.size, 4, none⟩ = some (.slice none 0 0) := hF.cell 4
  have m5 : W.cell? ⟨w.heap.size, 5, none⟩ = some (.slice none 0 0) := hF.cell 5
  exact bodyPost_ret (v := .tuple #[T.zero.agg none 0 none 0, .int .i64 5]) (by simp [results, Tryd.results15, go_sem, m0, m1, m2, m3, m4, m5, T.zero, T.agg, T.kind, T.tr, T.num, T.str, T.items, T.keys]) rfl ⟨rfl, hL⟩

set_option maxRecDepth 100000 in
set_option maxHeartbeats 4000000 in
theorem object_ok (keys : List ByteArray) (items : List T) (A : Option Addr) (c : Nat) (A' : Option Addr) (c' : Nat) (w : World) (hl : keys.length ≤ 100000) (he : keys.length = items.length) (hr : SReads w (· < w.heap.size) A keys) (ht : AllText keys) (hd : keys.Nodup)
    (hz : T.sizes items ≤ 100000) (hs : ∀ x ∈ items, x.Small) (hi : VReads w (· < w.heap.size) A' items) :
    Calls Tryd.prog 15 #[.slice A keys.length c, .slice A' items.length c'] w fun e w' => (∃ B d B' d', e = .returned (.tuple #[(objT keys items).agg B d B' d', .int .i64 0]) ∧ TV w' (· < w'.heap.size) (objT keys items) B d B' d') ∧ Below w.heap.size w w' := by
  have t0 : (((keys.length : Int)) != (items.length : Int)) = false := by simp; omega
  have HR := Lib.hid hr
  have HT := Lib.hid ht
  have HN := Lib.hid hd
  have HI := Lib.hid hi
  have HS := Lib.hid hs
  have HE := Lib.hid he
  have hle : items.length ≤ 100000 := by omega
  have hli : items.length ≤ T.sizes items := T.len_sizes items
  obtain ⟨i0, hii, hz0, hz1, hz2⟩ := info_parts infoVal
  have hmk : ∀ W : World, (Instr.makeSlice 26 (.int .i64 items.length) (.int .i64 items.length)).run Tryd.prog W = .ok (.slice (some ⟨W.heap.size, 0, none⟩) items.length items.length) (W.alloc (.cells (madeCells #[.int .i64 0, .bool false, .int .i64 0, .string ⟨#[]⟩, .slice none 0 0, .slice none 0 0] (items.length * 6)) 29)) := by
    intro W
    have := run_make (P := Tryd.prog) W 26 29 i0 _ Tryd.underlying26 hii hz0 .i64 .i64 items.length items.length (by omega) (by omega) (by rw [hz2]; omega) (by omega)
    rw [hz1] at this
    exact this
  clear hr ht he hd hi hs hz0 hz1 hz2 hii
  go_enter Tryd.func15, Tryd.ntmps15
  go_wp2_with fail
  have h0 : Below w.heap.size w (w.alloc (.cells zeros 29)) := (Below.refl _ _).alloc (Nat.le_refl _) _
  refine (texts_yes keys A c _ hl HT.out (HR.out.on h0)).mono ?_
  rintro e w2 ⟨rfl, hb2⟩
  have hB2 : Blk w2 w.heap.size 29 zeros := (Blk.new w 29 zeros).onto hb2
  have hR2 : w.heap.size < w2.heap.size := hB2.lt
  have H2 := Lib.hid (h0.trans (hb2.mono h0.size))
  have HB2 := Lib.hid hB2
  clear hb2 hB2 h0
  go_wp2_with fail
  refine (clone_own keys A c _ hl (HR.out.on H2.out)).mono ?_
  rintro e w3 ⟨v, rfl, ho, hb3⟩
  obtain ⟨B, d, rfl, hdl, _⟩ := own_keys ho
  have HO := Lib.hid ho
  have Hb3 := Lib.hid hb3
  clear ho hb3
  go_wp2_with fail
  refine (sort_any keys _ w2.heap.size _ hl Hb3.out.size HO.out).mono ?_
  rintro e w4 ⟨rfl, ho4, hb4⟩
  have hb24 := Hb3.out.trans hb4
  have ho5 := ho4
  rw [← srt_len keys] at ho5
  obtain ⟨B1, d1, e1, _, hk4⟩ := own_keys ho5
  rw [srt_len] at e1
  injection e1 with e1 _ e2
  subst e1 e2
  have hcon := rising_yes (srt keys) B d w4 (by rw [srt_len]; exact hl) (srt_rising HN.out) (hk4.sreads.wide fun b hb => hb.2)
  rw [srt_len] at hcon
  have H4 := Lib.hid (H2.out.trans (hb24.mono H2.out.size))
  have HB4 := Lib.hid (HB2.out.onto hb24)
  have HC := Lib.hid hcon
  have HK4 := Lib.hid hk4
  clear ho4 ho5 hb4 hb24 hk4 hcon HO Hb3 H2 HB2
  go_wp2_with fail
  refine HC.out.mono ?_
  rintro e w5 ⟨rfl, hb5⟩
  have HB5 := Lib.hid (HB4.out.onto hb5)
  have H5 := Lib.hid (H4.out.trans (hb5.mono H4.out.size))
  have HK5 : OwnKeys w5 w2.heap.size w5.heap.size (srt keys) B := by
    intro hn
    obtain ⟨g, cs, e, h1, h2, hb, h3, h4⟩ := HK4.out hn
    exact ⟨g, cs, e, h1, Nat.lt_of_lt_of_le h2 hb5.size, hb.onto hb5, h3, h4⟩
  have hR5 : w.heap.size < w5.heap.size := HB5.out.lt
  clear hb5 HC HB4 H4 HK4
  go_wp2_with fail
  have hnl := HE.out
  have h6 := H5.out.alloc H5.out.size (.cells (madeCells #[.int .i64 0, .bool false, .int .i64 0, .string ⟨#[]⟩, .slice none 0 0, .slice none 0 0] (items.length * 6)) 29)
  have hB6 := HB5.out.alloc (.cells (madeCells #[.int .i64 0, .bool false, .int .i64 0, .string ⟨#[]⟩, .slice none 0 0, .slice none 0 0] (items.length * 6)) 29)
  have hP6 := Blk.new w5 29 (madeCells #[.int .i64 0, .bool false, .int .i64 0, .string ⟨#[]⟩, .slice none 0 0, .slice none 0 0] (items.length * 6))
  have hZ6 : (w5.alloc (.cells (madeCells #[.int .i64 0, .bool false, .int .i64 0, .string ⟨#[]⟩, .slice none 0 0, .slice none 0 0] (items.length * 6)) 29)).heap.size = w5.heap.size + 1 := by simp
  have hK6 : SReads (w5.alloc (.cells (madeCells #[.int .i64 0, .bool false, .int .i64 0, .string ⟨#[]⟩, .slice none 0 0, .slice none 0 0] (items.length * 6)) 29)) (fun b => w.heap.size < b ∧ b < w5.heap.size + 1 ∧ b ≠ w5.heap.size) B (srt keys) :=
    ((HK5.sreads).keep fun b hb => Below.heap_alloc _ _ _ hb.2).wide fun b hb => ⟨by omega, by omega, by omega⟩
  generalize (w5.alloc (.cells (madeCells #[.int .i64 0, .bool false, .int .i64 0, .string ⟨#[]⟩, .slice none 0 0, .slice none 0 0] (items.length * 6)) 29)) = w6 at *
  have HNL := Lib.hid hnl
  have H6 := Lib.hid h6
  have HB6 := Lib.hid hB6
  have HP6 := Lib.hid hP6
  have HK6 := Lib.hid hK6
  have HZ6 := Lib.hid hZ6
  clear hnl h6 hB6 hP6 hK6 hZ6 HK5 HB5 H5 hmk
  go_loopw [35] (fun i wr => ∃ k : Nat, k ≤ keys.length ∧ i = .int .i64 k ∧ Placed wr w.heap.size w5.heap.size keys items k ∧ Blk wr w.heap.size 29 zeros ∧ SReads wr (fun b => w.heap.size < b ∧ b < wr.heap.size ∧ b ≠ w5.heap.size) B (srt keys) ∧ Below w.heap.size w wr) (fun i _ => keys.length - (intOf i).toNat)
  case atStart =>
    refine ⟨0, Nat.zero_le _, rfl, ⟨_, HP6.out, by rw [size_madeCells, HNL.out], fun i p s x h => absurd h (by omega)⟩, HB6.out, ?_, H6.out⟩
    rw [HZ6.out]
    exact HK6.out
  case round =>
    obtain ⟨k, hk, rfl, hpl, hbx, hsk, hbel⟩ := hrel
    have HPL := Lib.hid hpl
    have HBX := Lib.hid hbx
    have HSK := Lib.hid hsk
    have Hbel := Lib.hid hbel
    clear hpl hbx hsk hbel
    by_cases hlt : k < keys.length
    · have u1 : decide (k < keys.length) = true := decide_eq_true hlt
      obtain ⟨b, o, s, rfl, hb, hx, hc⟩ := HR.out.at_ hlt
      have e0 := ((Keeps.of_below Hbel.out).cell hb (o + k)).trans hc
      have Hx := Lib.hid hx
      have hms : s ∈ srt keys := (srt_perm keys).mem_iff.2 (List.mem_of_getElem? hx)
      obtain ⟨p, hp⟩ := List.mem_iff_getElem?.1 hms
      have hpl := lt_of_get hp
      have hpk : p < keys.length := by rw [srt_len] at hpl; exact hpl
      have hpi : p < items.length := by have := HNL.out; omega
      obtain ⟨gs, os, rfl, hgs, hcs⟩ := HSK.out (by intro h; rw [h] at hpl; simp at hpl)
      have hcon := fun W (hW : ∀ o, W.cell? ⟨gs, o, none⟩ = wr.cell? ⟨gs, o, none⟩) => search_any (srt keys) gs os d p s W (by rw [srt_len]; exact hl) (srt_rising HN.out) hp (fun i x hi => (hW _).trans (hcs i x hi))
      rw [srt_len] at hcon
      have HC := Lib.hid hcon
      have Hp := Lib.hid hp
      obtain ⟨bi, oi, x, D, dd, D', dd', rfl, hbi, hxi, h6i, hXi⟩ := HI.out.at_ (show k < items.length by have := HNL.out; omega)
      obtain ⟨y0, y1, y2, y3, y4, y5⟩ := h6i.keep hbi (.of_below Hbel.out)
      have hkl2 : k < items.length := lt_of_get hxi
      have hxs := T.mem_size (List.mem_of_getElem? hxi)
      have HXs := Lib.hid (HS.out x (List.mem_of_getElem? hxi))
      have HX := Lib.hid hXi
      have Hxi := Lib.hid hxi
      clear hc hx hms hp hpl hcs hcon hXi h6i hxi
      go_wp2_with fail
      refine (HC.out _ (fun _ => rfl)).mono ?_
      rintro e w7 ⟨rfl, q, rfl⟩
      clear HC
      go_wp2_with fail
      have hd7 : Below wr.heap.size wr (wr.drewN q) := below_drewN (Below.refl _ _) q
      refine (copy_any x D dd D' dd' _ (by omega) HXs.out (HX.out.on (Hbel.out.trans (hd7.mono Hbel.out.size)))).mono ?_
      rintro e w8 ⟨C, f, C', f', rfl, ho8, hb8⟩
      unfold T.agg
      have hb78 : Below wr.heap.size wr w8 := hd7.trans hb8
      have hP8 := HPL.out.onto hb78
      obtain ⟨cs, hbk, hzk⟩ := hP8.blk
      obtain ⟨v0, v1, v2, v3, v4, v5, f0, f1, f2, f3, f4, f5⟩ := hbk.six (o := p * 6) (by omega)
      have z0 := hbk.free (p * 6)
      have z1 := hbk.free (p * 6 + 1)
      have z2 := hbk.free (p * 6 + 2)
      have z3 := hbk.free (p * 6 + 3)
      have z4 := hbk.free (p * 6 + 4)
      have z5 := hbk.free (p * 6 + 5)
      have hg5 : w5.heap.size < wr.heap.size := by
        obtain ⟨_, hq, _⟩ := HPL.out.blk
        exact hq.lt
      have hR5' : w.heap.size < wr.heap.size := HBX.out.lt
      have ht8 : TV w8 (fun b => w.heap.size < b ∧ b < w8.heap.size ∧ b ≠ w5.heap.size) x C f C' f' := ho8.tv.wide fun b hb => by
        have h1 : wr.heap.size ≤ b := hb.1
        exact ⟨by omega, hb.2, by omega⟩
      have HST := Lib.hid (hP8.step HN.out Hx.out Hp.out Hxi.out ht8)
      have HB8 := Lib.hid (HBX.out.onto hb78)
      have HS8 := Lib.hid ((HSK.out.keep (w' := w8) (fun b hb => hb78.block b hb.2.1)).wide (S' := fun b => w.heap.size < b ∧ b < w8.heap.size ∧ b ≠ w5.heap.size) fun b hb => ⟨hb.1, Nat.lt_of_lt_of_le hb.2.1 hb78.size, hb.2.2⟩)
      have Hb8 := Lib.hid (Hbel.out.trans (hb78.mono Hbel.out.size))
      clear hd7 hb8 ho8 hb78 hP8 hbk hzk ht8
      go_wp2_with fail
      go_roundw
      case rel =>
        refine ⟨k + 1, hlt, by go_num, HST.out, ((((((HB8.out.far ?_ _).far ?_ _).far ?_ _).far ?_ _).far ?_ _).far ?_ _), (HS8.out.keep fun b hb => ?_).wide fun b hb => ⟨hb.1, by simpa [World.setCell] using hb.2.1, hb.2.2⟩, (((((Hb8.out.setCell ?_ _).setCell ?_ _).setCell ?_ _).setCell ?_ _).setCell ?_ _).setCell ?_ _⟩
        all_goals first
          | (show w.heap.size ≠ w5.heap.size; omega)
          | (show w.heap.size ≤ w5.heap.size; omega)
          | (rw [Below.heap_setCell _ _ _ _ hb.2.2, Below.heap_setCell _ _ _ _ hb.2.2, Below.heap_setCell _ _ _ _ hb.2.2, Below.heap_setCell _ _ _ _ hb.2.2, Below.heap_setCell _ _ _ _ hb.2.2, Below.heap_setCell _ _ _ _ hb.2.2])
      case measure => simp [intOf]; omega
    · obtain rfl : keys.length = k := by omega
      have r0 : wr.cell? ⟨w.heap.size, 0, none⟩ = some (.int .i64 0) := HBX.out.cell 0
      have r1 : wr.cell? ⟨w.heap.size, 1, none⟩ = some (.bool false) := HBX.out.cell 1
      have r2 : wr.cell? ⟨w.heap.size, 2, none⟩ = some (.int .i64 0) := HBX.out.cell 2
      have r3 : wr.cell? ⟨w.heap.size, 3, none⟩ = some (.string ⟨#[]⟩) := HBX.out.cell 3
      have r4 : wr.cell? ⟨w.heap.size, 4, none⟩ = some (.slice none 0 0) := HBX.out.cell 4
      have r5 : wr.cell? ⟨w.heap.size, 5, none⟩ = some (.slice none 0 0) := HBX.out.cell 5
      have x0 := HBX.out.free 0
      have x1 := HBX.out.free 1
      have x2 := HBX.out.free 2
      have x3 := HBX.out.free 3
      have x4 := HBX.out.free 4
      have x5 := HBX.out.free 5
      have hg5 : w5.heap.size < wr.heap.size := by
        obtain ⟨_, hq, _⟩ := HPL.out.blk
        exact hq.lt
      go_wp2_with fail
      have hL1 : (objT keys items).items.length = items.length := (placed_len keys items).trans HNL.out
      have hL2 : (objT keys items).keys.length = keys.length := srt_len keys
      have hF := res_put HBX.out rfl (objT keys items) (some ⟨w5.heap.size, 0, none⟩) items.length B d
      rw [hL1, hL2] at hF
      have hK : Keeps (fun b => b ≠ w.heap.size) wr (((((((wr.setCell ⟨w.heap.size, 0, none⟩ (.int .i64 5)).setCell ⟨w.heap.size, 1, none⟩ (.bool false)).setCell ⟨w.heap.size, 2, none⟩ (.int .i64 0)).setCell ⟨w.heap.size, 3, none⟩ (.string ⟨#[]⟩)).setCell ⟨w.heap.size, 4, none⟩ (.slice (some ⟨w5.heap.size, 0, none⟩) items.length items.length)).setCell ⟨w.heap.size, 5, none⟩ (.slice B keys.length d))) := by
        intro b hb
        rw [Below.heap_setCell _ _ _ _ hb, Below.heap_setCell _ _ _ _ hb, Below.heap_setCell _ _ _ _ hb, Below.heap_setCell _ _ _ _ hb, Below.heap_setCell _ _ _ _ hb, Below.heap_setCell _ _ _ _ hb]
      have hZ : (((((((wr.setCell ⟨w.heap.size, 0, none⟩ (.int .i64 5)).setCell ⟨w.heap.size, 1, none⟩ (.bool false)).setCell ⟨w.heap.size, 2, none⟩ (.int .i64 0)).setCell ⟨w.heap.size, 3, none⟩ (.string ⟨#[]⟩)).setCell ⟨w.heap.size, 4, none⟩ (.slice (some ⟨w5.heap.size, 0, none⟩) items.length items.length)).setCell ⟨w.heap.size, 5, none⟩ (.slice B keys.length d))).heap.size = wr.heap.size := by simp [World.setCell]
      have hE : Below w.heap.size w (((((((wr.setCell ⟨w.heap.size, 0, none⟩ (.int .i64 5)).setCell ⟨w.heap.size, 1, none⟩ (.bool false)).setCell ⟨w.heap.size, 2, none⟩ (.int .i64 0)).setCell ⟨w.heap.size, 3, none⟩ (.string ⟨#[]⟩)).setCell ⟨w.heap.size, 4, none⟩ (.slice (some ⟨w5.heap.size, 0, none⟩) items.length items.length)).setCell ⟨w.heap.size, 5, none⟩ (.slice B keys.length d))) := (((((Hbel.out.setCell (Nat.le_refl _) _).setCell (Nat.le_refl _) _).setCell (Nat.le_refl _) _).setCell (Nat.le_refl _) _).setCell (Nat.le_refl _) _).setCell (Nat.le_refl _) _
      change Blk (((((((wr.setCell ⟨w.heap.size, 0, none⟩ (.int .i64 5)).setCell ⟨w.heap.size, 1, none⟩ (.bool false)).setCell ⟨w.heap.size, 2, none⟩ (.int .i64 0)).setCell ⟨w.heap.size, 3, none⟩ (.string ⟨#[]⟩)).setCell ⟨w.heap.size, 4, none⟩ (.slice (some ⟨w5.heap.size, 0, none⟩) items.length items.length)).setCell ⟨w.heap.size, 5, none⟩ (.slice B keys.length d))) _ _ _ at hF
      generalize (((((((wr.setCell ⟨w.heap.size, 0, none⟩ (.int .i64 5)).setCell ⟨w.heap.size, 1, none⟩ (.bool false)).setCell ⟨w.heap.size, 2, none⟩ (.int .i64 0)).setCell ⟨w.heap.size, 3, none⟩ (.string ⟨#[]⟩)).setCell ⟨w.heap.size, 4, none⟩ (.slice (some ⟨w5.heap.size, 0, none⟩) items.length items.length)).setCell ⟨w.heap.size, 5, none⟩ (.slice B keys.length d))) = W at *
      have m0 : W.cell? ⟨w.heap.size, 0, none⟩ = some (.int .i64 5) := hF.cell 0
      have m1 : W.cell? ⟨w.heap.size, 1, none⟩ = some (.bool false) := hF.cell 1
      have m2 : W.cell? ⟨w.heap.size, 2, none⟩ = some (.int .i64 0) := hF.cell 2
      have m3 : W.cell? ⟨w.heap.size, 3, none⟩ = some (.string ⟨#[]⟩) := hF.cell 3
      have m4 : W.cell? ⟨w.heap.size, 4, none⟩ = some (.slice (some ⟨w5.heap.size, 0, none⟩) items.length items.length) := by
        have := hF.cell 4
        simp only [T.cs, hL1] at this
        exact this
      have m5 : W.cell? ⟨w.heap.size, 5, none⟩ = some (.slice B keys.length d) := by
        have := hF.cell 5
        simp only [T.cs, hL2] at this
        exact this
      refine bodyPost_ret (v := .tuple #[.agg #[.int .i64 5, .bool false, .int .i64 0, .string ⟨#[]⟩, .slice (some ⟨w5.heap.size, 0, none⟩) items.length items.length, .slice B keys.length d], .int .i64 0]) (by simp [results, Tryd.results15, go_sem, m0, m1, m2, m3, m4, m5]) rfl ⟨⟨some ⟨w5.heap.size, 0, none⟩, items.length, B, d, ?_, ?_⟩, hE⟩
      · unfold T.agg
        rw [hL1, hL2]
        rfl
      · have hrow := HPL.out.row HN.out HNL.out
        refine TV.of (by rw [hL1]; exact Nat.le_refl _) (by rw [hL2]; exact hdl) (fun _ => ⟨w5.heap.size, 0, rfl, by show _ < _; omega, fun i x hx => ?_⟩) ((HSK.out.keep (hK.mono fun b hb => by omega)).wide fun b hb => by show _ < _; omega)
        obtain ⟨C, e, C', e', k6, kt⟩ := hrow i x hx
        exact ⟨C, e, C', e', by rw [Nat.zero_add]; exact k6.on_blk (hK _ (by omega)), (kt.keep (hK.mono fun b hb => by omega)).wide fun b hb => by show _ < _; omega⟩
end Go.Proofs.YtgiapdmoiaiofaaDoor
