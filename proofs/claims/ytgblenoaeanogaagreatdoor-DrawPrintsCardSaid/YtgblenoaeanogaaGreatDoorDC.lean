/- Numbers of a list's value: the program's integers. The program's Parse of a sequence. -/
import Derived.Test.YtgblenoaeanogaaGreatDoorDB
import Derived.Laws.OwnMore
import Derived.Deep.RegionHeld3
import Derived.Deep.DrawnRows
import Derived.Deep.DeepCutAuto
import Derived.Test.YtgblenoaeanogaaGreatDoorMS
set_option linter.unusedVariables false
set_option maxRecDepth 100000
set_option maxHeartbeats 8000000
open Go.Lib (hid)
namespace Go.Proofs.YtgblenoaeanogaaGreatDoor
open Go.RowKit
attribute [local go_sem ↓] Go.wp_at_zero Go.wp_at_succ
def allInt (l : List T) : Bool := l.all (fun x => x.kind == 2)
def numsL (l : List T) : List Int := l.map T.num
def numC (l : List T) (k : Nat) : Array Value := ((List.range l.length).map (fun i => Value.int .i64 (if i < k then (numsL l).getD i 0 else 0))).toArray
theorem numC_at {l : List T} {k i : Nat} (h : i < l.length) : (numC l k)[i]? = some (.int .i64 (if i < k then (numsL l).getD i 0 else 0)) := by
 unfold numC
 simp [h]
theorem numC_zero (l : List T) : numC l 0 = madeCells #[.int .i64 0] l.length := by
 apply Array.ext_getElem?
 intro i
 have h1 := toList_madeCells_one (.int .i64 0) l.length
 have h2 : madeCells #[.int .i64 0] l.length = (List.replicate l.length (Value.int .i64 0)).toArray := by rw [← h1]
 rw [h2]
 unfold numC
 by_cases h : i < l.length
 · simp [h]
 · simp [h]
theorem numC_succ {l : List T} {k : Nat} (h : k < l.length) : (numC l k).setIfInBounds k (.int .i64 ((numsL l).getD k 0)) = numC l (k + 1) := by
 apply Array.ext_getElem?
 intro i
 rw [Array.getElem?_setIfInBounds]
 by_cases hi : i < l.length
 ·
  by_cases he : k = i
  ·
   subst he
   rw [if_pos rfl, if_pos (by unfold numC; simpa using h), numC_at h, if_pos (by omega)]
  ·
   rw [if_neg he, numC_at hi, numC_at hi]
   congr 2
   by_cases h2 : i < k
   · rw [if_pos h2, if_pos (by omega)]
   · rw [if_neg h2, if_neg (by omega)]
 ·
  have h2 : (numC l (k + 1))[i]? = none := by unfold numC; simp; omega
  have h3 : (numC l k)[i]? = none := by unfold numC; simp; omega
  rw [h2, if_neg (by omega), h3]
theorem allInt_take {l : List T} {k : Nat} {x : T} (hx : l[k]? = some x) : allInt (l.take (k + 1)) = (allInt (l.take k) && (x.kind == 2)) := by
 unfold allInt
 rw [List.take_add_one, hx, List.all_append]
 simp
theorem allInt_no {l : List T} {k : Nat} {x : T} (hx : l[k]? = some x) (h : (x.kind == 2) = false) : allInt l = false := by
 unfold allInt
 rw [List.all_eq_false]
 exact ⟨x, List.mem_of_getElem? hx, by simpa using h⟩
theorem numsL_at {l : List T} {k : Nat} {x : T} (hx : l[k]? = some x) : (numsL l).getD k 0 = x.num := by
 unfold numsL
 rw [List.getD_eq_getElem?_getD, List.getElem?_map, hx]
 rfl
def NGives (t : T) (w : World) (e : Ending) (w' : World) : Prop :=
 Below w.heap.size w w' ∧ ((t.kind = 4 ∧ allInt t.items = true) → ∃ A c, e = .returned (.tuple #[.slice A (numsL t.items).length c, .bool true]) ∧ RI w' w'.heap.size A (numsL t.items)) ∧
  (¬ (t.kind = 4 ∧ allInt t.items = true) → e = .returned (.tuple #[.slice none 0 0, .bool false]))
theorem dints_any (t : T) (A : Option Addr) (c : Nat) (A' : Option Addr) (c' : Nat) (w : World) (hl : t.items.length ≤ 100000) (hv : TV w (· < w.heap.size) t A c A' c') :
 Calls Tryz.prog 18 #[.agg #[.int .i64 t.kind, .bool t.tr, .int .i64 t.num, .string t.str, .slice A t.items.length c, .slice A' t.keys.length c']] w (NGives t w) := by
 obtain ⟨i0, hi, hz0, hz1, hz2⟩ := info_parts infoInt12
 have hmk : ∀ W : World, (Instr.makeSlice 23 (.int .i64 t.items.length) (.int .i64 t.items.length)).run Tryz.prog W = .ok (.slice (some ⟨W.heap.size, 0, none⟩) t.items.length t.items.length) (W.alloc (.cells (madeCells #[.int .i64 0] t.items.length) 3)) := by
  intro W
  have := run_make (P := Tryz.prog) W 23 3 i0 _ Tryz.underlying23 hi hz0 .i64 .i64 t.items.length t.items.length (by omega) (by omega) (by rw [hz2]; omega) (by omega)
  rw [hz1, Nat.mul_one] at this
  exact this
 have HV := hid hv
 clear hz0 hz1 hz2 hi hv
 by_cases h4 : t.kind = 4
 ·
  have t4 : (t.kind != 4) = false := by simp; exact h4
  have HK := hid h4
  clear h4
  go_enter Tryz.func18, Tryz.ntmps18
  go_upto_region 1 with fail
  have hp := Blk.new w 43 #[.int .i64 t.kind, .bool t.tr, .int .i64 t.num, .string t.str, .slice A t.items.length c, .slice A' t.keys.length c']
  have hbw : Below w.heap.size w (w.alloc (.cells #[.int .i64 t.kind, .bool t.tr, .int .i64 t.num, .string t.str, .slice A t.items.length c, .slice A' t.keys.length c'] 43)) := (Below.refl _ _).alloc (Nat.le_refl _) _
  change Code.wp _ _ _ _ (w.alloc (.cells #[.int .i64 t.kind, .bool t.tr, .int .i64 t.num, .string t.str, .slice A t.items.length c, .slice A' t.keys.length c'] 43))
  generalize (w.alloc (.cells #[.int .i64 t.kind, .bool t.tr, .int .i64 t.num, .string t.str, .slice A t.items.length c, .slice A' t.keys.length c'] 43)) = W at *
  have a0 := hp.cell 0
  have a4 := hp.cell 4
  have HP := hid hp
  have HBW := hid hbw
  have hgw : w.heap.size < W.heap.size := hp.lt
  generalize hpp : w.heap.size = p at *
  have HPP := hid hpp
  clear hp hbw hpp
  go_upto_region 4 with fail
  have hm := Blk.new W 3 (madeCells #[.int .i64 0] t.items.length)
  have hb2 : Below W.heap.size W (W.alloc (.cells (madeCells #[.int .i64 0] t.items.length) 3)) := (Below.refl _ _).alloc (Nat.le_refl _) _
  have hp2 := HP.out.onto hb2
  change Code.wp _ _ _ _ (W.alloc (.cells (madeCells #[.int .i64 0] t.items.length) 3))
  generalize (W.alloc (.cells (madeCells #[.int .i64 0] t.items.length) 3)) = W2 at *
  rw [← numC_zero] at hm
  have HB2 := hid (HBW.out.trans (hb2.mono (Nat.le_of_lt hgw)))
  have HM := hid hm
  have HGW := hid hgw
  clear hmk a0 a4
  have a4 := hp2.cell 4
  generalize W.heap.size = g at *
  clear hb2 hp2 hm HP HBW hgw
  go_wp2_with fail
  go_loopw [5, 6, 17] (fun _ _ i wr => ∃ k : Nat, k ≤ t.items.length ∧ i = .int .i64 k ∧ allInt (t.items.take k) = true ∧ Blk wr g 3 (numC t.items k) ∧ Below p w wr) (fun _ _ i _ => t.items.length - (intOf i).toNat)
  case atStart => exact ⟨0, Nat.zero_le _, rfl, rfl, HM.out, HB2.out⟩
  case round =>
   obtain ⟨k, hk, rfl, hok, kb, kw⟩ := hrel
   have KB := hid kb
   have KW := hid kw
   have HOK := hid hok
   have hgl : g < wr.heap.size := kb.lt
   clear kb kw hok
   by_cases hlt : k < t.items.length
   ·
    have u1 : decide (k < t.items.length) = true := decide_eq_true hlt
    obtain ⟨b, o, x, B, d, B', d', rfl, hb, hx, h6, _⟩ := HV.out.at_ hlt
    have HX := hid hx
    have HN := hid (numsL_at hx)
    have HSU := hid (numC_succ hlt)
    have HAT := hid (allInt_take hx)
    obtain ⟨e0, e1, e2, e3, e4, e5⟩ := h6.keep hb (.of_below KW.out)
    clear hx h6
    go_upto_region 7 with fail
    have hq := Blk.new wr 43 #[.int .i64 x.kind, .bool x.tr, .int .i64 x.num, .string x.str, .slice B x.items.length d, .slice B' x.keys.length d']
    have hb3 : Below wr.heap.size wr (wr.alloc (.cells #[.int .i64 x.kind, .bool x.tr, .int .i64 x.num, .string x.str, .slice B x.items.length d, .slice B' x.keys.length d'] 43)) := (Below.refl _ _).alloc (Nat.le_refl _) _
    have kb3 := KB.out.onto hb3
    have KW3 := hid (KW.out.trans (hb3.mono (show p ≤ wr.heap.size by have := KW.out.size; have := HGW.out; omega)))
    change Code.wp _ _ _ _ (wr.alloc (.cells #[.int .i64 x.kind, .bool x.tr, .int .i64 x.num, .string x.str, .slice B x.items.length d, .slice B' x.keys.length d'] 43))
    generalize (wr.alloc (.cells #[.int .i64 x.kind, .bool x.tr, .int .i64 x.num, .string x.str, .slice B x.items.length d, .slice B' x.keys.length d'] 43)) = w3 at *
    have KB3 := hid kb3
    clear e0 e1 e2 e3 e4 e5 hb3 KB KW
    have hgne : wr.heap.size ≠ g := by omega
    generalize wr.heap.size = q at *
    have a0 := hq.cell 0
    have a2 := hq.cell 2
    have m1 := (kb3.cell k).trans (numC_at hlt)
    have f1 := kb3.free k
    clear hq kb3
    by_cases hx2 : x.kind = 2
    ·
     have v1 : (x.kind != 2) = false := by simp; exact hx2
     have HX2 := hid hx2
     clear hx2
     generalize x.num = y at *
     go_wp2_with fail
     go_roundw
     case rel => exact ⟨k + 1, by omega, by go_num, by rw [HAT.out, HOK.out, HX2.out]; rfl, by rw [← HSU.out, HN.out]; exact KB3.out.set_ k _, KW3.out.setCell (show p ≤ g from Nat.le_of_lt HGW.out) _⟩
     case measure => simp [intOf]; omega
    ·
     have v1 : (x.kind != 2) = true := by simp; exact hx2
     have HNO := hid (allInt_no HX.out (by simpa using hx2))
     clear hx2
     go_wp2_with fail
     go_ret2
     exact ⟨HPP.out ▸ KW3.out, (fun h => by rw [HNO.out] at h; cases h.2), fun _ => rfl⟩
   ·
    obtain rfl : t.items.length = k := by omega
    rw [List.take_length] at HOK
    go_wp2_with fail
    go_ret2
    have hnl : (numsL t.items).length = t.items.length := by unfold numsL; rw [List.length_map]
    refine ⟨HPP.out ▸ KW.out, fun _ => ⟨some ⟨g, 0, none⟩, t.items.length, by rw [hnl]; rfl, fun _ => ⟨g, 0, rfl, KB.out.lt, fun i hi => ?_⟩⟩, fun h => absurd ⟨HK.out, HOK.out⟩ h⟩
    rw [hnl] at hi
    rw [Nat.zero_add, KB.out.cell, numC_at hi, if_pos hi]
 ·
  have t4 : (t.kind != 4) = true := by simp; exact h4
  have HK := hid h4
  clear h4 hmk
  go_enter Tryz.func18, Tryz.ntmps18
  go_wp2_with fail
  go_ret2
  exact ⟨(Below.refl _ _).alloc (Nat.le_refl _) _, fun h => absurd h.1 HK.out, fun _ => rfl⟩
open Go.RowKit
attribute [local go_sem ↓] Go.wp_at_zero Go.wp_at_succ
def ansV (v : T) : List Int × Int × Int :=
 if v.kind = 4 ∧ allInt v.items = true then (if 4096 < (numsL v.items).length then ([], 0, 7) else if goodD (numsL v.items) = true then (numsL v.items, 0, 0) else ([], 0, 17)) else ([], 0, 1)
def ansD : Rd.Res → List Int × Int × Int
 | .err p c => ([], p, c)
 | .val v _ => ansV v
 | .out => ([], 0, 0)
def SGives (a : List Int × Int × Int) (w : World) (e : Ending) (w' : World) : Prop :=
 ∃ A c, e = .returned (.tuple #[.slice A a.1.length c, .int .i64 a.2.1, .int .i64 a.2.2]) ∧ RI w' w'.heap.size A a.1 ∧ Below w.heap.size w w'
theorem parseR_val {s : ByteArray} {d : Int} {v : T} {p : Nat} (h : Rd.parseR s d = .val v p) : Rd.G v ∧ v.txt.length ≤ s.size ∧ s.size ≤ 16384 := by
 unfold Rd.parseR at h
 split at h
 · cases h
 ·
  split at h
  · cases h
  ·
   have := Rd.whole_good h
   exact ⟨this.1, this.2.2, by omega⟩
theorem dparse_any (s : ByteArray) (w : World) (hE : RangeErr w) : Calls Tryz.prog 7 #[.string s] w (SGives (ansD (Rd.parseR s 1)) w) := by
 have HP := hid (parse_any6 s 1 w hE)
 have hout := parseR_out s 1
 have HVL := hid (fun v p (h : Rd.parseR s 1 = .val v p) => parseR_val h)
 have HCD := hid (fun p c (h : Rd.parseR s 1 = .err p c) => parseR_code s 1 h)
 generalize Rd.parseR s 1 = res at *
 clear hE
 cases res with
 | out => exact absurd rfl hout
 | err p c =>
  have hc := HCD.out p c rfl
  have v1 : (c != 0) = true := by simp; exact hc
  clear HCD HVL hout hc
  go_enter Tryz.func7, Tryz.ntmps7
  go_wp2_with fail
  refine HP.out.mono ?_
  rintro e w2 ⟨rfl, hb2⟩
  have H2 := hid hb2
  clear hb2
  unfold T.agg
  go_wp2_with fail
  go_ret3
  exact ⟨none, 0, rfl, RI.nil _ _ _, H2.out.alloc H2.out.size _⟩
 | val v q =>
  obtain ⟨hG, hvl, hs⟩ := HVL.out v q rfl
  have hsz := size_txt v hG.1
  have hle := T.len_sizes v.items
  have hse := v.size_eq
  have hil : v.items.length ≤ 100000 := by omega
  clear HCD HVL hout hG hvl hs hsz hle hse
  have HAN := hid (show ansD (.val v q) = ansV v from rfl)
  generalize ansD (.val v q) = an at *
  go_enter Tryz.func7, Tryz.ntmps7
  go_wp2_with fail
  refine HP.out.mono ?_
  rintro e w2 ⟨A, c, A', c', rfl, hv2, hb2⟩
  have H2 := hid hb2
  have HV := hid (hv2.wide (S' := (· < w2.heap.size)) (fun b hb => hb.2))
  clear hb2 hv2
  unfold T.agg
  go_upto_region 2 with fail
  have hq := Blk.new w2 43 #[.int .i64 v.kind, .bool v.tr, .int .i64 v.num, .string v.str, .slice A v.items.length c, .slice A' v.keys.length c']
  have hb3 : Below w2.heap.size w2 (w2.alloc (.cells #[.int .i64 v.kind, .bool v.tr, .int .i64 v.num, .string v.str, .slice A v.items.length c, .slice A' v.keys.length c'] 43)) := (Below.refl _ _).alloc (Nat.le_refl _) _
  change Code.wp _ _ _ _ (w2.alloc (.cells #[.int .i64 v.kind, .bool v.tr, .int .i64 v.num, .string v.str, .slice A v.items.length c, .slice A' v.keys.length c'] 43))
  have HV3 := hid (HV.out.on hb3)
  have H3 := hid (H2.out.trans (hb3.mono H2.out.size))
  generalize (w2.alloc (.cells #[.int .i64 v.kind, .bool v.tr, .int .i64 v.num, .string v.str, .slice A v.items.length c, .slice A' v.keys.length c'] 43)) = w3 at *
  generalize w2.heap.size = p at *
  have a0 := hq.cell 0
  have a1 := hq.cell 1
  have a2 := hq.cell 2
  have a3 := hq.cell 3
  have a4 := hq.cell 4
  have a5 := hq.cell 5
  clear hq hb3 HV H2
  have HI := hid (dints_any v A c A' c' w3 hil HV3.out)
  clear hil
  go_wp2_with fail
  refine HI.out.mono ?_
  rintro e w4 ⟨hb4, hyes, hno⟩
  have H4 := hid (H3.out.trans (hb4.mono H3.out.size))
  clear hb4
  by_cases hk : v.kind = 4 ∧ allInt v.items = true
  ·
   obtain ⟨B, d, rfl, hri⟩ := hyes hk
   have HAV := hid (HAN.out.trans (show ansV v = (if 4096 < (numsL v.items).length then ([], 0, 7) else if goodD (numsL v.items) = true then (numsL v.items, 0, 0) else ([], 0, 17)) from if_pos hk))
   have hnl : (numsL v.items).length = v.items.length := by unfold numsL; rw [List.length_map]
   have HRI := hid hri
   clear hyes hno hk hri
   generalize numsL v.items = L at *
   by_cases h4 : 4096 < L.length
   ·
    have v1 : decide ((4096 : Int) < (L.length : Int)) = true := decide_eq_true (by omega)
    have HA := hid (HAV.out.trans (if_pos h4))
    clear HAV hnl
    go_wp2_with fail
    go_ret3
    rw [HA.out]
    exact ⟨none, 0, rfl, RI.nil _ _ _, H4.out⟩
   ·
    have v1 : decide ((4096 : Int) < (L.length : Int)) = false := decide_eq_false (by omega)
    have HAV2 := hid (HAV.out.trans (if_neg h4))
    have HG := hid (dgood_any L B d w4 (by omega) HRI.out)
    clear HAV hnl
    go_wp2_with fail
    refine HG.out.mono ?_
    rintro e w5 ⟨rfl, rfl⟩
    cases hg : goodD L
    ·
     have HA := hid (HAV2.out.trans (if_neg (by rw [hg]; decide)))
     clear HAV2
     go_wp2_with fail
     go_ret3
     rw [HA.out]
     exact ⟨none, 0, rfl, RI.nil _ _ _, H4.out⟩
    ·
     have HA := hid (HAV2.out.trans (if_pos hg))
     clear HAV2
     go_wp2_with fail
     go_ret3
     rw [HA.out]
     exact ⟨B, d, rfl, HRI.out, H4.out⟩
  ·
   obtain rfl := hno hk
   have HA := hid (HAN.out.trans (show ansV v = ([], 0, 1) from if_neg hk))
   clear hyes hno hk
   go_wp2_with fail
   go_ret3
   rw [HA.out]
   exact ⟨none, 0, rfl, RI.nil _ _ _, H4.out⟩
end Go.Proofs.YtgblenoaeanogaaGreatDoor
