/- reach, as Set uses it: contract. -/
import Derived.Test.YthkpeomdklcnmaaDoorWay
import Derived.Test.YthkpeomdklcnmaaDoorZip
import Derived.Test.YthkpeomdklcnmaaDoorCells
import Derived.Outline
namespace Go.Proofs.YthkpeomdklcnmaaDoor
open Go.RowKit
set_option linter.unusedVariables false

/-- x, copied, is stored at (b, o) -/
def SetAt (b o : Nat) (x : T) (w : World) (e : Ending) (w' : World) : Prop := ∃ w2 D d D' d', e = .returned (.bool true) ∧ Below w.heap.size w w2 ∧ TV w2 (fun k => w.heap.size ≤ k ∧ k < w2.heap.size) x D d D' d' ∧ w' = ((((((w2.setCell ⟨b, o, none⟩ (.int .i64 x.kind)).setCell ⟨b, o + 1, none⟩ (.bool x.tr)).setCell ⟨b, o + 2, none⟩ (.int .i64 x.num)).setCell ⟨b, o + 3, none⟩ (.string x.str)).setCell ⟨b, o + 4, none⟩ (.slice D x.items.length d)).setCell ⟨b, o + 5, none⟩ (.slice D' x.keys.length d'))
set_option maxRecDepth 100000 in
set_option maxHeartbeats 4000000 in
theorem set1_any (x : T) (C : Option Addr) (f : Nat) (C' : Option Addr) (f' : Nat) (b o gw : Nat) (cs : Array Value) (w : World) (hn : x.Nice) (hb : Blk w b 32 cs) (ho : o + 6 ≤ cs.size) (hg : Blk w gw 32 #[.int .i64 x.kind, .bool x.tr, .int .i64 x.num, .string x.str, .slice C x.items.length f, .slice C' x.keys.length f']) (hv : TV w (· < w.heap.size) x C f C' f') :
    Calls Tryd.prog 32 #[.pointer (some ⟨b, o, none⟩), .pointer (some ⟨gw, 0, none⟩)] w (SetAt b o x w) := by
  have a0 : w.cell? ⟨gw, 0, none⟩ = some (.int .i64 x.kind) := hg.cell 0
  have a1 : w.cell? ⟨gw, 1, none⟩ = some (.bool x.tr) := hg.cell 1
  have a2 : w.cell? ⟨gw, 2, none⟩ = some (.int .i64 x.num) := hg.cell 2
  have a3 : w.cell? ⟨gw, 3, none⟩ = some (.string x.str) := hg.cell 3
  have a4 : w.cell? ⟨gw, 4, none⟩ = some (.slice C x.items.length f) := hg.cell 4
  have a5 : w.cell? ⟨gw, 5, none⟩ = some (.slice C' x.keys.length f') := hg.cell 5
  have HN := Lib.hid hn
  have HV := Lib.hid hv
  have HB := Lib.hid hb
  clear hn hv hg hb
  go_enter Tryd.func32, Tryd.ntmps32
  go_wp2_with fail
  refine (copy_cells x C f C' f' _ HN.out.le HN.out.small HV.out).mono ?_
  rintro e w2 ⟨D, d, D', d', rfl, hT, hb2⟩
  unfold T.agg
  have hbk := HB.out.onto hb2
  obtain ⟨v0, v1, v2, v3, v4, v5, f0, f1, f2, f3, f4, f5⟩ := hbk.six (o := o) ho
  have z0 := hbk.free o
  have z1 := hbk.free (o + 1)
  have z2 := hbk.free (o + 2)
  have z3 := hbk.free (o + 3)
  have z4 := hbk.free (o + 4)
  have z5 := hbk.free (o + 5)
  have HT := Lib.hid hT.tv
  have H2 := Lib.hid hb2
  clear hbk hT hb2 a0 a1 a2 a3 a4 a5
  go_wp2_with fail
  go_ret
  exact ⟨w2, D, d, D', d', rfl, H2.out, HT.out, rfl⟩
/-- where reach stands in a value that lies in rows of its own -/
def StandsS (w : World) (g0 LO HI : Nat) (t : T) (p : List ByteArray) (j : Nat) (s : Value) (wr : World) : Prop :=
  ∃ (y : T) (b o lo hi : Nat) (A : Option Addr) (c : Nat) (A' : Option Addr) (c' : Nat) (cs : Array Value), s = .pointer (some ⟨b, o, none⟩) ∧ b < w.heap.size ∧ Six wr b o y A c A' c' ∧ Own wr lo hi y A c A' c' ∧ (b < lo ∨ hi ≤ b) ∧ (b = g0 ∨ (LO ≤ b ∧ b < HI)) ∧ LO ≤ lo ∧ hi ≤ HI ∧
    Blk wr b 32 cs ∧ o + 6 ≤ cs.size ∧ Zip g0 LO HI wr t p y (p.drop j) lo hi b o ∧ y.Fine ∧ (∀ x, Leads t p x ↔ Leads y (p.drop j) x) ∧ Below w.heap.size w wr
/-- how it ends -/
def ReachSPost (g0 LO : Nat) (t : T) (p : List ByteArray) (x : T) (w : World) (e : Ending) (w' : World) : Prop :=
  (∃ y r D d D' d', Leads t p y ∧ Sets t p x r ∧ e = .returned (.bool true) ∧ Six w' g0 0 r D d D' d' ∧ TV w' (fun k => LO ≤ k ∧ k < w'.heap.size) r D d D' d' ∧ Below LO w w') ∨
  ((∀ y, ¬ Leads t p y) ∧ e = .returned (.bool false) ∧ Below w.heap.size w w')
theorem put6_heap {w : World} {g o : Nat} {v0 v1 v2 v3 v4 v5 : Value} {k : Nat} (h : k ≠ g) : (((((((w.setCell ⟨g, o, none⟩ v0).setCell ⟨g, o + 1, none⟩ v1).setCell ⟨g, o + 2, none⟩ v2).setCell ⟨g, o + 3, none⟩ v3).setCell ⟨g, o + 4, none⟩ v4).setCell ⟨g, o + 5, none⟩ v5)).heap[k]? = w.heap[k]? := by
  rw [Below.heap_setCell _ _ _ _ h, Below.heap_setCell _ _ _ _ h, Below.heap_setCell _ _ _ _ h, Below.heap_setCell _ _ _ _ h, Below.heap_setCell _ _ _ _ h, Below.heap_setCell _ _ _ _ h]
theorem put6_size {w : World} {g o : Nat} {v0 v1 v2 v3 v4 v5 : Value} : (((((((w.setCell ⟨g, o, none⟩ v0).setCell ⟨g, o + 1, none⟩ v1).setCell ⟨g, o + 2, none⟩ v2).setCell ⟨g, o + 3, none⟩ v3).setCell ⟨g, o + 4, none⟩ v4).setCell ⟨g, o + 5, none⟩ v5)).heap.size = w.heap.size := by simp [World.setCell]
theorem put6_below {B : Nat} {a w : World} {g o : Nat} {v0 v1 v2 v3 v4 v5 : Value} (h : Below B a w) (hg : B ≤ g) : Below B a ((((((w.setCell ⟨g, o, none⟩ v0).setCell ⟨g, o + 1, none⟩ v1).setCell ⟨g, o + 2, none⟩ v2).setCell ⟨g, o + 3, none⟩ v3).setCell ⟨g, o + 4, none⟩ v4).setCell ⟨g, o + 5, none⟩ v5) :=
  (((((h.setCell hg _).setCell hg _).setCell hg _).setCell hg _).setCell hg _).setCell hg _
/-- what is stored at the end of the way makes of the whole -/
theorem zip_end {g0 LO HI : Nat} {wr w2 : World} {t : T} {p : List ByteArray} {y x : T} {lo hi b o : Nat} {cs : Array Value} {D : Option Addr} {d : Nat} {D' : Option Addr} {d' : Nat}
    (hz : Zip g0 LO HI wr t p y [] lo hi b o) (hb : Blk wr b 32 cs) (ho : o + 6 ≤ cs.size) (hbg : b = g0 ∨ (LO ≤ b ∧ b < HI)) (hg0 : g0 < wr.heap.size) (hH : HI ≤ wr.heap.size) (hL : LO ≤ wr.heap.size) (h2 : Below wr.heap.size wr w2) (hT : TV w2 (fun k => wr.heap.size ≤ k ∧ k < w2.heap.size) x D d D' d') :
    ∃ r E e E' e', Sets t p x r ∧ Six ((((((w2.setCell ⟨b, o, none⟩ (.int .i64 x.kind)).setCell ⟨b, o + 1, none⟩ (.bool x.tr)).setCell ⟨b, o + 2, none⟩ (.int .i64 x.num)).setCell ⟨b, o + 3, none⟩ (.string x.str)).setCell ⟨b, o + 4, none⟩ (.slice D x.items.length d)).setCell ⟨b, o + 5, none⟩ (.slice D' x.keys.length d')) g0 0 r E e E' e' ∧ TV ((((((w2.setCell ⟨b, o, none⟩ (.int .i64 x.kind)).setCell ⟨b, o + 1, none⟩ (.bool x.tr)).setCell ⟨b, o + 2, none⟩ (.int .i64 x.num)).setCell ⟨b, o + 3, none⟩ (.string x.str)).setCell ⟨b, o + 4, none⟩ (.slice D x.items.length d)).setCell ⟨b, o + 5, none⟩ (.slice D' x.keys.length d')) (fun k => LO ≤ k ∧ k < (((((((w2.setCell ⟨b, o, none⟩ (.int .i64 x.kind)).setCell ⟨b, o + 1, none⟩ (.bool x.tr)).setCell ⟨b, o + 2, none⟩ (.int .i64 x.num)).setCell ⟨b, o + 3, none⟩ (.string x.str)).setCell ⟨b, o + 4, none⟩ (.slice D x.items.length d)).setCell ⟨b, o + 5, none⟩ (.slice D' x.keys.length d'))).heap.size) r E e E' e' := by
  have hbl := hb.lt
  obtain ⟨F, f1, f2⟩ := hz
  obtain ⟨cs', hb', hz', h6', hfar⟩ := six_put (hb.onto h2) ho x D d D' d'
  have hsz : (((((((w2.setCell ⟨b, o, none⟩ (.int .i64 x.kind)).setCell ⟨b, o + 1, none⟩ (.bool x.tr)).setCell ⟨b, o + 2, none⟩ (.int .i64 x.num)).setCell ⟨b, o + 3, none⟩ (.string x.str)).setCell ⟨b, o + 4, none⟩ (.slice D x.items.length d)).setCell ⟨b, o + 5, none⟩ (.slice D' x.keys.length d'))).heap.size = w2.heap.size := put6_size
  have hw2 := h2.size
  have o1 : ∀ k, (k = g0 ∨ (LO ≤ k ∧ k < HI)) → ¬ (lo ≤ k ∧ k < hi) → k ≠ b → (((((((w2.setCell ⟨b, o, none⟩ (.int .i64 x.kind)).setCell ⟨b, o + 1, none⟩ (.bool x.tr)).setCell ⟨b, o + 2, none⟩ (.int .i64 x.num)).setCell ⟨b, o + 3, none⟩ (.string x.str)).setCell ⟨b, o + 4, none⟩ (.slice D x.items.length d)).setCell ⟨b, o + 5, none⟩ (.slice D' x.keys.length d'))).heap[k]? = wr.heap[k]? := fun k hk _ hne => (put6_heap hne).trans (h2.block k (by rcases hk with rfl | hk <;> omega))
  have o2 : ∀ i, (i < o ∨ o + 6 ≤ i) → (((((((w2.setCell ⟨b, o, none⟩ (.int .i64 x.kind)).setCell ⟨b, o + 1, none⟩ (.bool x.tr)).setCell ⟨b, o + 2, none⟩ (.int .i64 x.num)).setCell ⟨b, o + 3, none⟩ (.string x.str)).setCell ⟨b, o + 4, none⟩ (.slice D x.items.length d)).setCell ⟨b, o + 5, none⟩ (.slice D' x.keys.length d'))).cell? ⟨b, i, none⟩ = wr.cell? ⟨b, i, none⟩ := fun i hi => by rw [hb'.cell, hfar i hi, hb.cell]
  have o3 : TV ((((((w2.setCell ⟨b, o, none⟩ (.int .i64 x.kind)).setCell ⟨b, o + 1, none⟩ (.bool x.tr)).setCell ⟨b, o + 2, none⟩ (.int .i64 x.num)).setCell ⟨b, o + 3, none⟩ (.string x.str)).setCell ⟨b, o + 4, none⟩ (.slice D x.items.length d)).setCell ⟨b, o + 5, none⟩ (.slice D' x.keys.length d')) (fun k => LO ≤ k ∧ k < (((((((w2.setCell ⟨b, o, none⟩ (.int .i64 x.kind)).setCell ⟨b, o + 1, none⟩ (.bool x.tr)).setCell ⟨b, o + 2, none⟩ (.int .i64 x.num)).setCell ⟨b, o + 3, none⟩ (.string x.str)).setCell ⟨b, o + 4, none⟩ (.slice D x.items.length d)).setCell ⟨b, o + 5, none⟩ (.slice D' x.keys.length d'))).heap.size) x D d D' d' := by
    refine (hT.keep fun k hk => put6_heap (by omega)).wide fun k hk => ⟨by omega, by rw [hsz]; exact hk.2⟩
  obtain ⟨E, e, E', e', k6, kv⟩ := f2 ((((((w2.setCell ⟨b, o, none⟩ (.int .i64 x.kind)).setCell ⟨b, o + 1, none⟩ (.bool x.tr)).setCell ⟨b, o + 2, none⟩ (.int .i64 x.num)).setCell ⟨b, o + 3, none⟩ (.string x.str)).setCell ⟨b, o + 4, none⟩ (.slice D x.items.length d)).setCell ⟨b, o + 5, none⟩ (.slice D' x.keys.length d')) x D d D' d' o1 o2 (by rw [hsz]; omega) h6' o3
  exact ⟨F x, E, e, E', e', f1 x x rfl, k6, kv⟩
set_option maxRecDepth 100000 in
set_option maxHeartbeats 8000000 in
theorem reachS_any (t x : T) (p : List ByteArray) (P : Option Addr) (cp : Nat) (A : Option Addr) (c : Nat) (A' : Option Addr) (c' : Nat) (C : Option Addr) (f : Nat) (C' : Option Addr) (f' : Nat) (g0 LO HI gw : Nat) (w : World) (hn : t.Fine) (hx : x.Nice) (he : Errs w) (hp60 : ∀ q ∈ p, q.size ≤ 1000) (hpl : p.length ≤ 1000) (hp : SReads w (· < w.heap.size) P p)
    (hg0 : Blk w g0 32 #[.int .i64 t.kind, .bool t.tr, .int .i64 t.num, .string t.str, .slice A t.items.length c, .slice A' t.keys.length c']) (hgo : g0 < LO ∨ HI ≤ g0) (hL : LO ≤ HI) (hLg : LO ≤ g0) (hO : Own w LO HI t A c A' c') (hH : HI ≤ w.heap.size) (hgw : Blk w gw 32 #[.int .i64 x.kind, .bool x.tr, .int .i64 x.num, .string x.str, .slice C x.items.length f, .slice C' x.keys.length f']) (hv : TV w (· < w.heap.size) x C f C' f') :
    Calls Tryd.prog 28 #[.pointer (some ⟨g0, 0, none⟩), .slice P p.length cp, .func (.func 32) #[] #[.pointer (some ⟨gw, 0, none⟩)]] w (ReachSPost g0 LO t p x w) := by
  have hgl := hg0.lt
  have HE := Lib.hid he
  have HP60 := Lib.hid hp60
  have HP := Lib.hid hp
  have HG := Lib.hid hgw
  have HX := Lib.hid hx
  have HXV := Lib.hid hv
  have HST := Lib.hid (show StandsS w g0 LO HI t p 0 (.pointer (some ⟨g0, 0, none⟩)) w from ⟨t, g0, 0, LO, HI, A, c, A', c', _, rfl, hgl, ⟨hg0.cell 0, hg0.cell 1, hg0.cell 2, hg0.cell 3, hg0.cell 4, hg0.cell 5⟩, hO, hgo, .inl rfl, Nat.le_refl _, Nat.le_refl _, hg0, Nat.le_refl _, zip_start g0 LO HI w t p, hn, fun x => by simp, Below.refl _ _⟩)
  clear hn he hp60 hp hg0 hO hgw hv hx
  go_enter Tryd.func28, Tryd.ntmps28
  go_wp2_with fail
  go_loopw [0, 13] (fun s0 s13 wr => ∃ j : Nat, j ≤ p.length ∧ s13 = .int .i64 j ∧ StandsS w g0 LO HI t p j s0 wr) (fun _ s _ => p.length - (intOf s).toNat)
  case atStart => exact ⟨0, Nat.zero_le _, rfl, HST.out⟩
  case round =>
    obtain ⟨j, hj, rfl, y, b, o, lo, hi, A, c, A', c', cs, rfl, hbw, h6, hO, hbo, hbg, hlo, hhi, hbk, hos, hz, hn, hl, hbel⟩ := hrel
    obtain ⟨e0, e1, e2, e3, e4, e5⟩ := h6
    have HO := Lib.hid hO
    have HN := Lib.hid hn
    have HL := Lib.hid hl
    have HZ := Lib.hid hz
    have HBk := Lib.hid hbk
    have HBl := Lib.hid hbel
    have hgr : w.heap.size ≤ wr.heap.size := hbel.size
    have hi80 := hn.items80
    have HS6 := Lib.hid (show Six wr b o y A c A' c' from ⟨e0, e1, e2, e3, e4, e5⟩)
    have HV := Lib.hid (show TV wr (· < wr.heap.size) y A c A' c' from hO.tv.wide fun k hk => by show k < wr.heap.size; omega)
    clear hO hn hl hz hbk hbel
    by_cases hlt : j < p.length
    · have u1 : decide (j < p.length) = true := decide_eq_true hlt
      have u2 : decide ((j : Int) < (p.length : Int)) = true := decide_eq_true (by omega)
      obtain ⟨bp, op, rfl, hbp, hcp⟩ := (HP.out) (by intro hz; rw [hz] at hlt; simp at hlt)
      obtain ⟨q, hq⟩ : ∃ q, p[j]? = some q := ⟨_, List.getElem?_eq_getElem hlt⟩
      have ep : wr.cell? ⟨bp, op + j, none⟩ = some (.string q) := (HBl.out.cell (p := ⟨bp, op + j, none⟩) hbp).trans (hcp j q hq)
      have HQ := Lib.hid hq
      have hq60 := HP60.out q (List.mem_of_getElem? hq)
      clear hcp hq
      by_cases hk : ∃ k, IsAt y q k
      · obtain ⟨k, hk⟩ := hk
        have hkl := hk.1
        obtain ⟨z, hz⟩ : ∃ z, y.items[k]? = some z := ⟨_, List.getElem?_eq_getElem hkl⟩
        have HK := Lib.hid hk
        have HZz := Lib.hid hz
        have hstep := HZ.out
        rw [drop_at HQ.out] at hstep
        obtain ⟨g, lo', hi', B, d, B', d', rfl, k6, kO, ⟨cs2, kb, ks⟩, ksep, kg, klo, khi, kz⟩ := zip_step hstep HS6.out HO.out hbo hbg hlo hhi hk hz
        have K6 := Lib.hid k6
        have KO := Lib.hid kO
        have KB := Lib.hid kb
        have KZ := Lib.hid kz
        have hgr2 : g < wr.heap.size := kb.lt
        clear hk hz k6 kO kb kz hstep
        go_wp2_with fail
        refine (place_yes y q k _ c A' c' _ HN.out HK.out HV.out).mono ?_
        rintro e w2 ⟨rfl, hb2⟩
        have e4' : w2.cell? ⟨b, o + 4, none⟩ = some (.slice (some ⟨g, 0, none⟩) y.items.length c) := (hb2.cell (p := ⟨b, o + 4, none⟩) (show b < wr.heap.size by omega)).trans e4
        have H2 := Lib.hid hb2
        have i1 : (k : Int) < (y.items.length : Int) := by omega
        have i2 : (0 : Int) ≤ (k : Int) := by omega
        clear hb2 e0 e1 e2 e3 e4 e5 ep
        go_wp2_with fail
        go_roundw
        case rel =>
          refine ⟨j + 1, hlt, by go_num, z, g, k * 6, lo', hi', B, d, B', d', cs2, by go_num, by omega, ?_, ?_, ksep, .inr kg, klo, khi, KB.out.onto H2.out, ks, KZ.out.onto (by omega) (by omega) hgr2 H2.out, HN.out.at_ HZz.out, fun x => ?_, HBl.out.trans (H2.out.mono HBl.out.size)⟩
          · exact K6.out.on_blk (H2.out.block g hgr2)
          · exact KO.out.keep fun k hk => H2.out.block k (by omega)
          · rw [HL.out x, drop_at HQ.out]
            exact leads_cons HN.out HK.out HZz.out
        case measure => simp [intOf]; omega
      · have HK := Lib.hid (show ∀ k, ¬ IsAt y q k from fun k h => hk ⟨k, h⟩)
        clear hk
        go_wp2_with fail
        refine (place_no y q A c A' c' _ HN.out (HE.out.on HBl.out) hq60 HK.out HV.out).mono ?_
        rintro e w2 ⟨⟨n, rfl⟩, hb2⟩
        have H2 := Lib.hid (HBl.out.trans (hb2.mono HBl.out.size))
        clear hb2 e0 e1 e2 e3 e4 e5 ep
        go_wp2_with fail
        go_ret
        refine .inr ⟨fun x hx => ?_, rfl, H2.out⟩
        have h1 := (HL.out x).1 hx
        rw [drop_at HQ.out] at h1
        obtain ⟨k, _, h2, _⟩ := h1
        exact HK.out k h2
    · have u1 : decide (j < p.length) = false := decide_eq_false hlt
      have u2 : decide ((j : Int) < (p.length : Int)) = false := decide_eq_false (by omega)
      have hnil : p.drop j = [] := List.drop_eq_nil_of_le (by omega)
      have HY := Lib.hid (show Leads t p y from (HL.out y).2 (by rw [hnil]; exact rfl))
      have HZE := Lib.hid (show Zip g0 LO HI wr t p y [] lo hi b o from hnil ▸ HZ.out)
      have hLb : LO ≤ b := by rcases hbg with rfl | h <;> omega
      clear e0 e1 e2 e3 e4 e5 hnil
      go_wp2_with fail
      refine (set1_any x C f C' f' b o gw cs _ HX.out HBk.out hos (HG.out.onto HBl.out) (HXV.out.on HBl.out)).mono ?_
      rintro e w2 ⟨w3, D, d, D', d', rfl, h3, hT, rfl⟩
      have HH := Lib.hid (zip_end HZE.out HBk.out hos hbg (by omega) (by omega) (by omega) h3 hT)
      have HB3 := Lib.hid (put6_below (o := o) (v0 := .int .i64 x.kind) (v1 := .bool x.tr) (v2 := .int .i64 x.num) (v3 := .string x.str) (v4 := .slice D x.items.length d) (v5 := .slice D' x.keys.length d') ((HBl.out.trans (h3.mono hgr)).mono (show LO ≤ w.heap.size by omega)) hLb)
      clear h3 hT
      generalize ((((((w3.setCell ⟨b, o, none⟩ (.int .i64 x.kind)).setCell ⟨b, o + 1, none⟩ (.bool x.tr)).setCell ⟨b, o + 2, none⟩ (.int .i64 x.num)).setCell ⟨b, o + 3, none⟩ (.string x.str)).setCell ⟨b, o + 4, none⟩ (.slice D x.items.length d)).setCell ⟨b, o + 5, none⟩ (.slice D' x.keys.length d')) = W3 at *
      go_wp2_with fail
      go_ret
      obtain ⟨r, E, e, E', e', h1, h2, h3⟩ := HH.out
      exact .inl ⟨y, r, E, e, E', e', HY.out, h1, rfl, h2, h3, HB3.out⟩
end Go.Proofs.YthkpeomdklcnmaaDoor
