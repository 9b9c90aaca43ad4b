/- The law's spoil: what it leaves alone. -/
import Derived.Test.YtffagnejedgjbaaCells
import Derived.Outline
namespace Go.Proofs.Ytffagnejedgjbaa
open Go.RowKit
set_option linter.unusedVariables false

/-- w' is as w was, but for blocks from lo on, below hi, and new ones -/
def Apart (lo hi : Nat) (w w' : World) : Prop := Below lo w w' ∧ ∀ b, hi ≤ b → b < w.heap.size → w'.heap[b]? = w.heap[b]?
def SpoilPost (lo hi : Nat) (w : World) (e : Ending) (w' : World) : Prop := e = .returned (.tuple #[]) ∧ Apart lo hi w w'
/-- in the midst of the keys -/
def SpKeys (lo m hi gk : Nat) (n k : Nat) (w W wr : World) : Prop := Below lo w wr ∧ (∀ b, b < W.heap.size → b < m ∨ hi ≤ b → wr.heap[b]? = W.heap[b]?) ∧ W.heap.size ≤ wr.heap.size ∧
  (0 < n → ∃ cs, Blk wr gk 9 cs ∧ n ≤ cs.size ∧ ∀ j, k ≤ j → j < n → ∃ s, cs[j]? = some (.string s) ∧ s.size ≤ 60)
theorem SpKeys.step {lo m hi gk n k : Nat} {w W wr : World} (h : SpKeys lo m hi gk n k w W wr) (hk : k < n) (h1 : lo ≤ gk) (h2 : m ≤ gk) (h3 : gk < hi) (u : Value) : SpKeys lo m hi gk n (k + 1) w W (wr.setCell ⟨gk, k, none⟩ u) := by
  obtain ⟨hb, ho, hz, hc⟩ := h
  obtain ⟨cs, hB, hn, hs⟩ := hc (by omega)
  refine ⟨hb.setCell h1 _, fun b hbW hbo => (Below.heap_setCell _ _ _ _ (by show b ≠ gk; omega)).trans (ho b hbW hbo), by simp [World.setCell]; exact hz, fun _ => ⟨_, hB.set_ k u, by simpa using hn, fun j hj hjn => ?_⟩⟩
  obtain ⟨s, e, hs'⟩ := hs j (by omega) hjn
  exact ⟨s, by rw [Array.getElem?_setIfInBounds_ne (by omega)]; exact e, hs'⟩
/-- in the midst of the items -/
def SpItems (lo hi g : Nat) (h : Nat → Nat) (hA : Nat → Option Addr) (hc : Nat → Nat) (hA' : Nat → Option Addr) (hc' : Nat → Nat) (l : List T) (k : Nat) (w W wr : World) : Prop := Below lo w wr ∧ (∀ b, b < W.heap.size → b < lo ∨ hi ≤ b → wr.heap[b]? = W.heap[b]?) ∧ W.heap.size ≤ wr.heap.size ∧
  (l ≠ [] → ∃ cs, Blk wr g 34 cs ∧ l.length * 6 ≤ cs.size ∧ ∀ j x, k ≤ j → l[j]? = some x → Six wr g (j * 6) x (hA j) (hc j) (hA' j) (hc' j) ∧ Own wr (h j) (h (j + 1)) x (hA j) (hc j) (hA' j) (hc' j))
theorem six_far {wr : World} {g : Nat} {k j : Nat} {x : T} {A : Option Addr} {c : Nat} {A' : Option Addr} {c' : Nat} {cs : Array Value} (hb : Blk wr g 34 cs) (h : Six wr g (j * 6) x A c A' c') (hjk : k < j) {v0 v1 v2 v3 v4 v5 : Value} :
    Six ((((((wr.setCell ⟨g, k * 6, none⟩ v0).setCell ⟨g, k * 6 + 1, none⟩ v1).setCell ⟨g, k * 6 + 2, none⟩ v2).setCell ⟨g, k * 6 + 3, none⟩ v3).setCell ⟨g, k * 6 + 4, none⟩ v4).setCell ⟨g, k * 6 + 5, none⟩ v5) g (j * 6) x A c A' c' := by
  have hb6 := ((((((hb.set_ (k * 6) v0).set_ (k * 6 + 1) v1).set_ (k * 6 + 2) v2).set_ (k * 6 + 3) v3).set_ (k * 6 + 4) v4).set_ (k * 6 + 5) v5)
  have hc : ∀ i, i < 6 → (((((((wr.setCell ⟨g, k * 6, none⟩ v0).setCell ⟨g, k * 6 + 1, none⟩ v1).setCell ⟨g, k * 6 + 2, none⟩ v2).setCell ⟨g, k * 6 + 3, none⟩ v3).setCell ⟨g, k * 6 + 4, none⟩ v4).setCell ⟨g, k * 6 + 5, none⟩ v5)).cell? ⟨g, j * 6 + i, none⟩ = wr.cell? ⟨g, j * 6 + i, none⟩ := fun i hi => by
    rw [hb6.cell, hb.cell]
    rw [Array.getElem?_setIfInBounds_ne (by omega), Array.getElem?_setIfInBounds_ne (by omega), Array.getElem?_setIfInBounds_ne (by omega), Array.getElem?_setIfInBounds_ne (by omega), Array.getElem?_setIfInBounds_ne (by omega), Array.getElem?_setIfInBounds_ne (by omega)]
  obtain ⟨e0, e1, e2, e3, e4, e5⟩ := h
  exact ⟨(hc 0 (by omega)).trans e0, (hc 1 (by omega)).trans e1, (hc 2 (by omega)).trans e2, (hc 3 (by omega)).trans e3, (hc 4 (by omega)).trans e4, (hc 5 (by omega)).trans e5⟩
theorem SpItems.step {lo hi g : Nat} {h : Nat → Nat} {hA : Nat → Option Addr} {hc : Nat → Nat} {hA' : Nat → Option Addr} {hc' : Nat → Nat} {l : List T} {k : Nat} {w W wr w2 : World} (hs : SpItems lo hi g h hA hc hA' hc' l k w W wr) (hk : k < l.length)
    (hm : ∀ i, i < l.length → h i ≤ h (i + 1)) (hlo : lo ≤ h 0) (hhi : h l.length ≤ hi) (hg0 : lo ≤ g) (hg1 : g < h 0) (hW : hi ≤ W.heap.size) (ha : Apart (h k) (h (k + 1)) wr w2) (hgw : g < wr.heap.size) {v0 v1 v2 v3 v4 v5 : Value} :
    SpItems lo hi g h hA hc hA' hc' l (k + 1) w W ((((((w2.setCell ⟨g, k * 6, none⟩ v0).setCell ⟨g, k * 6 + 1, none⟩ v1).setCell ⟨g, k * 6 + 2, none⟩ v2).setCell ⟨g, k * 6 + 3, none⟩ v3).setCell ⟨g, k * 6 + 4, none⟩ v4).setCell ⟨g, k * 6 + 5, none⟩ v5) := by
  obtain ⟨hb, ho, hz, hi'⟩ := hs
  obtain ⟨cs, hB, hn, hx⟩ := hi' (by intro e; rw [e] at hk; simp at hk)
  obtain ⟨ha1, ha2⟩ := ha
  have u0 := up_to hm k (by omega) 0 (by omega)
  have u1 := up_to hm l.length (Nat.le_refl _) (k + 1) (by omega)
  have u2 := hm k hk
  have hB2 : Blk w2 g 34 cs := (ha1.block g (by omega)).trans hB
  have hkeep : ∀ b, b ≠ g → (((((((w2.setCell ⟨g, k * 6, none⟩ v0).setCell ⟨g, k * 6 + 1, none⟩ v1).setCell ⟨g, k * 6 + 2, none⟩ v2).setCell ⟨g, k * 6 + 3, none⟩ v3).setCell ⟨g, k * 6 + 4, none⟩ v4).setCell ⟨g, k * 6 + 5, none⟩ v5)).heap[b]? = w2.heap[b]? := by
    intro b hne
    rw [Below.heap_setCell _ _ _ _ hne, Below.heap_setCell _ _ _ _ hne, Below.heap_setCell _ _ _ _ hne, Below.heap_setCell _ _ _ _ hne, Below.heap_setCell _ _ _ _ hne, Below.heap_setCell _ _ _ _ hne]
  refine ⟨?_, fun b hbW hbo => ?_, ?_, fun _ => ⟨_, ((((((hB2.set_ (k * 6) v0).set_ (k * 6 + 1) v1).set_ (k * 6 + 2) v2).set_ (k * 6 + 3) v3).set_ (k * 6 + 4) v4).set_ (k * 6 + 5) v5), by simpa using hn, fun j x hj hxj => ?_⟩⟩
  · exact ((((((hb.trans (ha1.mono (by omega))).setCell hg0 _).setCell hg0 _).setCell hg0 _).setCell hg0 _).setCell hg0 _).setCell hg0 _
  · refine (hkeep b (by omega)).trans (Eq.trans ?_ (ho b hbW hbo))
    rcases hbo with hbo | hbo
    · exact ha1.block b (by omega)
    · exact ha2 b (by omega) (by omega)
  · simp [World.setCell]; have := ha1.size; omega
  · have hjl := lt_of_get hxj
    obtain ⟨h6, hown⟩ := hx j x (by omega) hxj
    have u3 := up_to hm j (by omega) (k + 1) (by omega)
    have u4 := up_to hm l.length (Nat.le_refl _) (j + 1) (by omega)
    refine ⟨six_far hB2 (h6.on_blk (ha1.block g (by omega))) (by omega), hown.keep fun b hb' => ?_⟩
    have hb1 := hb'.1
    have hb2 := hb'.2
    have u5 := up_to hm j (by omega) 0 (by omega)
    exact (hkeep b (by omega)).trans (ha2 b (by omega) (by omega))

def SpoilAt (n : Nat) : Prop := ∀ (t : T) (A : Option Addr) (c : Nat) (A' : Option Addr) (c' : Nat) (lo hi : Nat) (w : World), t.size ≤ n → n ≤ 100000 → t.Small → T.All Fit t → hi ≤ w.heap.size → Own w lo hi t A c A' c' →
    Calls Try.prog 29 #[t.agg A c A' c'] w (SpoilPost lo hi w)
set_option maxRecDepth 100000 in
set_option maxHeartbeats 4000000 in
theorem spoil_at (n : Nat) : SpoilAt n := by
  induction n with
  | zero => intro t _ _ _ _ _ _ _ h; have := t.size_pos; omega
  | succ n ih =>
    intro t A c A' c' lo hi w ht hn hsm hft hhw how
    have IH := Lib.hid ih
    have HSM := Lib.hid hsm
    have HFT := Lib.hid hft
    have hkl := hsm.here
    have hls := t.len_size
    clear ih hsm hft
    cases how with
    | mk _ _ _ _ _ _ _ h hA hc hA' hc' h1 h2 hrow hlo hmono hhi hkey hin =>
    have u0 := up_to hmono t.items.length (Nat.le_refl _) 0 (by omega)
    have HMO := Lib.hid hmono
    unfold T.agg
    go_enter Try.func29, Try.ntmps29
    go_wp2_with fail
    have hW : Below lo w (w.alloc (.cells #[.int .i64 t.kind, .bool t.tr, .int .i64 t.num, .string t.str, .slice A t.items.length c, .slice A' t.keys.length c'] 34)) := ((Below.refl w.heap.size w).alloc (Nat.le_refl _) _).mono (by omega)
    have hB : Blk (w.alloc (.cells #[.int .i64 t.kind, .bool t.tr, .int .i64 t.num, .string t.str, .slice A t.items.length c, .slice A' t.keys.length c'] 34)) w.heap.size 34 #[.int .i64 t.kind, .bool t.tr, .int .i64 t.num, .string t.str, .slice A t.items.length c, .slice A' t.keys.length c'] := Blk.new w _ _
    have hbl : ∀ b, b < w.heap.size → (w.alloc (.cells #[.int .i64 t.kind, .bool t.tr, .int .i64 t.num, .string t.str, .slice A t.items.length c, .slice A' t.keys.length c'] 34)).heap[b]? = w.heap[b]? := fun b hb => Below.heap_alloc _ _ _ hb
    have hWz : (w.alloc (.cells #[.int .i64 t.kind, .bool t.tr, .int .i64 t.num, .string t.str, .slice A t.items.length c, .slice A' t.keys.length c'] 34)).heap.size = w.heap.size + 1 := by simp
    change Code.wp _ _ _ _ (w.alloc (.cells #[.int .i64 t.kind, .bool t.tr, .int .i64 t.num, .string t.str, .slice A t.items.length c, .slice A' t.keys.length c'] 34))
    generalize (w.alloc (.cells #[.int .i64 t.kind, .bool t.tr, .int .i64 t.num, .string t.str, .slice A t.items.length c, .slice A' t.keys.length c'] 34)) = W at *
    obtain ⟨gk, HK⟩ : ∃ gk, Hid (0 < t.keys.length → (∃ cs, A' = some ⟨gk, 0, none⟩ ∧ h t.items.length ≤ gk ∧ gk < hi ∧ Blk W gk 9 cs ∧ t.keys.length ≤ cs.size ∧ ∀ (j : Nat), j < t.keys.length → ∃ s, cs[j]? = some (.string s) ∧ s.size ≤ 60)) := by
      by_cases hk0 : t.keys = []
      · exact ⟨0, Lib.hid (fun h => by rw [hk0] at h; simp at h)⟩
      · obtain ⟨gk, cs, e, g1, g2, gb, gz, gs⟩ := hkey hk0
        exact ⟨gk, Lib.hid (fun _ => ⟨cs, e, g1, g2, (hbl gk (by omega)).trans gb, gz, fun j hj => ⟨_, gs j _ (List.getElem?_eq_getElem hj), HFT.out.here.keys _ (List.getElem_mem _)⟩⟩)⟩
    obtain ⟨g, HG⟩ : ∃ g, Hid (t.items ≠ [] → (A = some ⟨g, 0, none⟩ ∧ lo ≤ g ∧ g < h 0 ∧ ∃ cs, Blk w g 34 cs ∧ t.items.length * 6 ≤ cs.size ∧ ∀ j x, t.items[j]? = some x → Six w g (j * 6) x (hA j) (hc j) (hA' j) (hc' j) ∧ Own w (h j) (h (j + 1)) x (hA j) (hc j) (hA' j) (hc' j))) := by
      by_cases hk0 : t.items = []
      · exact ⟨0, Lib.hid (fun h => absurd hk0 h)⟩
      · obtain ⟨g, cs, e, g1, g2, gb, gz, gs⟩ := hrow hk0
        exact ⟨g, Lib.hid (fun _ => ⟨e, g1, g2, cs, gb, gz, fun j x hx => ⟨gs j x hx, hin j x hx⟩⟩)⟩
    have HW := Lib.hid hW
    have HB := Lib.hid hB
    have HBL := Lib.hid hbl
    have HWZ := Lib.hid hWz
    have a5 : W.cell? ⟨w.heap.size, 5, none⟩ = some (.slice A' t.keys.length c') := hB.cell 5
    clear hW hB hbl hWz hkey hrow hin hmono
    go_loopw [7] (fun i wr => ∃ k : Nat, k ≤ t.keys.length ∧ i = .int .i64 k ∧ SpKeys lo (h t.items.length) hi gk t.keys.length k w W wr) (fun i _ => t.keys.length - (intOf i).toNat)
    case atStart =>
      refine ⟨0, Nat.zero_le _, rfl, HW.out, fun b _ _ => rfl, Nat.le_refl _, fun hn => ?_⟩
      obtain ⟨cs, _, _, _, gb, gz, gs⟩ := HK.out hn
      exact ⟨cs, gb, gz, fun j _ hj => gs j hj⟩
    case round =>
      clear a5
      obtain ⟨k, hk, rfl, hsp⟩ := hrel
      have HSP := Lib.hid hsp
      obtain ⟨hb, ho, hz, hcs⟩ := hsp
      have a5 : wr.cell? ⟨w.heap.size, 5, none⟩ = some (.slice A' t.keys.length c') := (World.cell?_of_block (a := ⟨w.heap.size, 5, none⟩) (ho w.heap.size HB.out.lt (.inr hhw))).trans (HB.out.cell 5)
      by_cases hlt : k < t.keys.length
      · have v1 : decide (k < t.keys.length) = true := decide_eq_true hlt
        obtain ⟨_, eA, g1, g2, _, _, _⟩ := HK.out (by omega)
        obtain ⟨cs, gb, gz, gs⟩ := hcs (by omega)
        obtain ⟨s, es, hs60⟩ := gs k (Nat.le_refl _) hlt
        have c0 : wr.cell? ⟨gk, k, none⟩ = some (.string s) := (gb.cell k).trans es
        have f0 := gb.free k
        have hl2 : lo ≤ gk := by omega
        subst eA
        clear hcs gs es gb ho hb
        go_wp2_with fail
        go_roundw
        case rel => exact ⟨k + 1, hlt, by go_num, HSP.out.step hlt hl2 g1 g2 _⟩
        case measure => simp [intOf]; omega
      · obtain rfl : t.keys.length = k := by omega
        have a4 : wr.cell? ⟨w.heap.size, 4, none⟩ = some (.slice A t.items.length c) := (World.cell?_of_block (a := ⟨w.heap.size, 4, none⟩) (ho w.heap.size HB.out.lt (.inr hhw))).trans (HB.out.cell 4)
        have HO := Lib.hid ho
        have HBE := Lib.hid hb
        clear ho hb hcs
        go_wp2_with fail
        go_loopw [21] (fun i wx => ∃ k : Nat, k ≤ t.items.length ∧ i = .int .i64 k ∧ SpItems lo hi g h hA hc hA' hc' t.items k w W wx) (fun i _ => t.items.length - (intOf i).toNat)
        case atStart =>
          refine ⟨0, Nat.zero_le _, rfl, HBE.out, fun b hbW hbo => HO.out b hbW (by omega), hz, fun hn => ?_⟩
          obtain ⟨e, g1, g2, cs, gb, gz, gx⟩ := HG.out hn
          have kk : ∀ b, b < h t.items.length → wr.heap[b]? = w.heap[b]? := fun b hb' => (HO.out b (by have := HWZ.out; omega) (.inl hb')).trans (HBL.out b (by omega))
          refine ⟨cs, (kk g (by omega)).trans gb, gz, fun j x _ hx => ?_⟩
          obtain ⟨h6, hown⟩ := gx j x hx
          have hjl := lt_of_get hx
          have u4 := up_to HMO.out t.items.length (Nat.le_refl _) (j + 1) (by omega)
          exact ⟨h6.on_blk (kk g (by omega)), hown.keep fun b hb' => kk b (by have := hb'.2; omega)⟩
        case round =>
          clear a4 a5 HO HBE HSP hz
          obtain ⟨wo, rfl⟩ : ∃ wo : World, wo = wr := ⟨_, rfl⟩
          obtain ⟨k, hk2, rfl, hsp⟩ := hrel
          have HSP := Lib.hid hsp
          obtain ⟨hb, ho, hz, hcs⟩ := hsp
          have a4 : wo.cell? ⟨w.heap.size, 4, none⟩ = some (.slice A t.items.length c) := (World.cell?_of_block (a := ⟨w.heap.size, 4, none⟩) (ho w.heap.size HB.out.lt (.inr hhw))).trans (HB.out.cell 4)
          by_cases hlt2 : k < t.items.length
          · have v1 : decide (k < t.items.length) = true := decide_eq_true hlt2
            have hne : t.items ≠ [] := by intro e; rw [e] at hlt2; simp at hlt2
            obtain ⟨eA, g1, g2, _⟩ := HG.out hne
            obtain ⟨cs, gb, gz, gx⟩ := hcs hne
            have hx : t.items[k]? = some (t.items[k]) := List.getElem?_eq_getElem hlt2
            generalize t.items[k] = x at hx
            obtain ⟨h6, hown⟩ := gx k x (Nat.le_refl _) hx
            have hxs := T.at_size hx
            have HXS := Lib.hid (HSM.out.at_ hx)
            have HXF := Lib.hid (HFT.out.at_ hx)
            have HOW := Lib.hid hown
            have HGB := Lib.hid gb
            have v2 := HMO.out k hlt2
            have v3 := up_to HMO.out t.items.length (Nat.le_refl _) (k + 1) (by omega)
            have v4 := up_to HMO.out k (by omega) 0 (by omega)
            have hWz := HWZ.out
            obtain ⟨e0, e1, e2, e3, e4, e5⟩ := h6
            subst eA
            clear hcs gx gb ho hb hx hown hne
            go_wp2_with fail
            refine (IH.out x (hA k) (hc k) (hA' k) (hc' k) (h k) (h (k + 1)) _ (by omega) (by omega) HXS.out HXF.out (by omega) HOW.out).mono ?_
            rintro e w2 ⟨rfl, hap⟩
            have gb2 : Blk w2 g 34 cs := (hap.1.block g (by omega)).trans HGB.out
            obtain ⟨p0, p1, p2, p3, p4, p5, q0, q1, q2, q3, q4, q5⟩ := gb2.six (o := k * 6) (by omega)
            have z0 := gb2.free (k * 6)
            have z1 := gb2.free (k * 6 + 1)
            have z2 := gb2.free (k * 6 + 2)
            have z3 := gb2.free (k * 6 + 3)
            have z4 := gb2.free (k * 6 + 4)
            have z5 := gb2.free (k * 6 + 5)
            have b4 : w2.cell? ⟨w.heap.size, 4, none⟩ = some (.slice (some ⟨g, 0, none⟩) t.items.length c) := (World.cell?_of_block (a := ⟨w.heap.size, 4, none⟩) (hap.2 w.heap.size (by omega) (by omega))).trans a4
            have HAP := Lib.hid hap
            have hgw : g < wo.heap.size := HGB.out.lt
            clear hap gb2
            go_wp2_with fail
            go_roundw
            case rel => exact ⟨k + 1, hlt2, by go_num, HSP.out.step hlt2 HMO.out hlo hhi g1 g2 (by omega) HAP.out hgw⟩
            case measure => simp [intOf]; omega
          · obtain rfl : t.items.length = k := by omega
            have v1 : decide (t.items.length < t.items.length) = false := decide_eq_false (by omega)
            have HBE := Lib.hid hb
            have HO := Lib.hid ho
            clear hb ho hcs
            go_wp2_with fail
            go_end0
            exact ⟨rfl, HBE.out, fun b h1 h2 => (HO.out b (by have := HWZ.out; omega) (.inr h1)).trans (HBL.out b h2)⟩
theorem spoil_any (t : T) (A : Option Addr) (c : Nat) (A' : Option Addr) (c' : Nat) (lo hi : Nat) (w : World) (ht : t.Nice) (hh : hi ≤ w.heap.size) (how : Own w lo hi t A c A' c') :
    Calls Try.prog 29 #[.agg #[.int .i64 t.kind, .bool t.tr, .int .i64 t.num, .string t.str, .slice A t.items.length c, .slice A' t.keys.length c']] w (SpoilPost lo hi w) := spoil_at 100000 t A c A' c' lo hi w ht.le (Nat.le_refl _) ht.small ht.fit hh how
end Go.Proofs.Ytffagnejedgjbaa
