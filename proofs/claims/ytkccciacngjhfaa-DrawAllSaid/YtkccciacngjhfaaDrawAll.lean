/- DrawAll: by a script of each number below the weights' sum, each place comes as often as its weight says. No conditions: any bytes (the law itself asks nothing of none, or of more than 10). -/
import Derived.Test.YtkccciacngjhfaaRows
import Derived.Test.YtkccciacngjhfaaDwG
import Derived.Test.YtkccciacngjhfaaDwF
import Derived.Test.YtkccciacngjhfaaDwH
import Derived.Test.YtkccciacngjhfaaDwJ
import Derived.Test.YtkccciacngjhfaaDwL
import Derived.WalkKit
import Derived.BigQuiet
import Derived.Deep.DrawnRows
import Derived.ProofKit
import Derived.OpenShut
import Derived.ChangeOld
import Derived.Below
namespace Go.Proofs.Ytkccciacngjhfaa.drawAll
open Go.ChangeShapes Go.WideShapes Go.ChangeAt Go.RowKit
set_option linter.unusedVariables false
attribute [local go_sem ↓] Go.wp_at_zero Go.wp_at_succ

theorem own : ownKnob Try.prog.godebug = none := by kernel_rfl
theorem laidOut : laidOutB Try.prog = true := by kernel_rfl

def wt (x : Int) : Int := 1 + x.tmod 20
theorem wt_bd {x : Int} (h0 : 0 ≤ x) : 0 ≤ x.tmod 20 ∧ x.tmod 20 < 20 := ⟨Int.tmod_nonneg _ h0, Int.tmod_lt_of_pos _ (by decide)⟩
def wtL (ws : List Int) (k : Nat) : List Int := (ws.take k).map wt
theorem wtL_succ {ws : List Int} {k : Nat} (hk : k < ws.length) : wtL ws (k + 1) = wtL ws k ++ [1 + (ws.getD k 0).tmod 20] := by
  unfold wtL
  rw [List.take_add_one, List.getD_eq_getElem?_getD, List.getElem?_eq_getElem hk, List.map_append]
  rfl
theorem wtL_len {ws : List Int} {k : Nat} (hk : k ≤ ws.length) : (wtL ws k).length = k := by unfold wtL; rw [List.length_map, List.length_take]; omega
theorem wtL_ok {ws : List Int} (h : ∀ x ∈ ws, 0 ≤ x ∧ x ≤ 255) (k : Nat) : okW (wtL ws k) := by
  intro y hy
  unfold wtL at hy
  rw [List.mem_map] at hy
  obtain ⟨x, hx, rfl⟩ := hy
  have := wt_bd (h x (List.mem_of_mem_take hx)).1
  unfold wt
  omega
theorem wtL_sum {ws : List Int} (h : ∀ x ∈ ws, 0 ≤ x ∧ x ≤ 255) {k : Nat} (hk : k ≤ ws.length) : 0 ≤ (wtL ws k).sum ∧ (wtL ws k).sum ≤ 1000 * (k : Int) := by
  have := sumT_bd (wtL_ok h k) (wtL ws k).length (Nat.le_refl _)
  rw [sumT_all, wtL_len hk] at this
  omega
theorem nx_one {k : Nat} {S : Int} (h1 : 1 ≤ S) (h2 : S ≤ 4294967296) (hk : (k : Int) < S) : nxS [(k : Int)] S 0 = k := by
  unfold nxS
  rw [if_pos (show isB S from ⟨h1, h2⟩), if_pos (by simp)]
  show remI k S = k
  unfold remI
  rw [Int.tmod_eq_emod_of_nonneg (by omega), Int.emod_eq_of_lt (by omega) hk, if_neg (by omega)]
theorem at8 {w : World} {A : Option Addr} {l : List Int} (hr : l ≠ [] → ∃ b o, A = some ⟨b, o, none⟩ ∧ b < w.heap.size ∧ ∀ i, i < l.length → w.cell? ⟨b, o + i, none⟩ = some (.int .u8 (l.getD i 0))) {w' : World} (hb : Below w.heap.size w w') {k : Nat} (hk : k < l.length) :
    ∃ b o, A = some ⟨b, o, none⟩ ∧ w'.cell? ⟨b, o + k, none⟩ = some (.int .u8 (l.getD k 0)) := by
  obtain ⟨b, o, e, hlt, hc⟩ := hr (by rintro rfl; simp at hk)
  exact ⟨b, o, e, (hb.cell (p := ⟨b, o + k, none⟩) hlt).trans (hc k hk)⟩
set_option maxRecDepth 100000 in
set_option maxHeartbeats 8000000 in
theorem walk (ws : List Int) (A : Option Addr) (c : Nat) (w : World) (hnil : A = none → c = 0 ∧ ws = []) (hw8 : ∀ x ∈ ws, 0 ≤ x ∧ x ≤ 255) (hr : ws ≠ [] → ∃ b o, A = some ⟨b, o, none⟩ ∧ b < w.heap.size ∧ ∀ i, i < ws.length → w.cell? ⟨b, o + i, none⟩ = some (.int .u8 (ws.getD i 0))) :
    Calls Try.prog 7 #[.slice A ws.length c] w fun e w' => e = .returned (.bool true) ∧ Below w.heap.size w w' := by
  by_cases hN : 0 < ws.length ∧ ws.length ≤ 10
  · obtain ⟨hp, h10⟩ := hN
    have t0 : ((ws.length : Int) == 0) = false := beq_eq_false_iff_ne.2 (by omega)
    have t1 : decide ((10 : Int) < (ws.length : Int)) = false := decide_eq_false (by omega)
    have HR := Lib.hid (fun (w' : World) (hb : Below w.heap.size w w') (k : Nat) (hk : k < ws.length) => at8 hr hb hk)
    have HW8 := Lib.hid hw8
    clear hr hw8 hnil
    obtain ⟨i0, hi, hz0, hz1, hz2⟩ := info_parts infoInt12
    have HI := Lib.hid hi
    have HZ0 := Lib.hid hz0
    have HZ1 := Lib.hid hz1
    have HZ2 := Lib.hid hz2
    clear hi hz0 hz1 hz2
    go_enter Try.func7, Try.ntmps7
    go_wp2_with fail
    refine (awake12_any _).mono ?_
    rintro e w1 ⟨rfl, hb⟩
    have HB1 := Lib.hid hb
    clear hb
    go_wp2_with fail
    go_loopw [3, 4, 6, 27] (fun v0 s _ i wr => ∃ (k : Nat) (v : Value), v0 = v ∧ k ≤ ws.length ∧ i = .int .i64 k ∧ s = .int .i64 (wtL ws k).sum ∧ wr.ownsRow w.heap.size 3 1 v (wtL ws k).length ((wtL ws k).map (Value.int .i64)) ∧ Below w.heap.size w wr) (fun _ _ _ i _ => ws.length - (intOf i).toNat)
    case atStart => exact ⟨0, _, rfl, Nat.zero_le _, rfl, rfl, World.ownsRow_nil _ _ _ _, HB1.out⟩
    case round =>
      obtain ⟨k, v, rfl, hk, rfl, rfl, hown, hbel⟩ := hrel
      have Hown := Lib.hid hown
      have Hbel := Lib.hid hbel
      clear hown hbel
      by_cases hlt : k < ws.length
      · have u1 : decide (k < ws.length) = true := decide_eq_true hlt
        obtain ⟨b1, o1, rfl, e1⟩ := HR.out _ Hbel.out k hlt
        have HS := Lib.hid (wtL_succ hlt)
        have hsum := wtL_sum HW8.out hk
        have hlen := wtL_len hk
        have HSN := Lib.hid (show (wtL ws (k + 1)).sum = (wtL ws k).sum + (1 + (ws.getD k 0).tmod 20) by rw [wtL_succ hlt, List.sum_append]; simp)
        have hx0 : 0 ≤ (ws.getD k 0).tmod 20 ∧ (ws.getD k 0).tmod 20 < 20 := wt_bd (by rw [List.getD_eq_getElem?_getD, List.getElem?_eq_getElem hlt]; exact (HW8.out _ (List.getElem_mem hlt)).1)
        obtain ⟨A0, c0, rfl, _, _, _⟩ := own_ri Hown.out
        generalize ws.getD k 0 = x at *
        generalize hrr : x.tmod 20 = r at *
        generalize hL : wtL ws k = L at *
        generalize L.sum = s at *
        have HL := Lib.hid hlen
        have hl10 : L.length ≤ 10 := by omega
        clear hL hlen
        go_wp2_with (at_builtin; refine app_one rfl _ _ rfl w.heap.size (.slice A0 L.length c0) L (1 + r) rfl rfl Hown.out (by omega) (by have := Hbel.out.size; omega) ?_)
        intro v' w' h1 h2
        have H1 := Lib.hid h1
        have H2 := Lib.hid (h2 w Hbel.out)
        clear h1 h2
        go_wp2_with fail
        go_roundw
        case rel => exact ⟨k + 1, v', rfl, by omega, by go_num, by rw [HSN.out], by rw [HS.out, List.length_append, List.map_append]; exact H1.out, H2.out⟩
        case measure => simp [intOf]; omega
      · obtain rfl : ws.length = k := by omega
        obtain ⟨A', c', rfl, hcc, hri, _⟩ := own_ri Hown.out
        have hsum := wtL_sum HW8.out hk
        have hlen := wtL_len hk
        have HOK := Lib.hid (wtL_ok HW8.out ws.length)
        have HRI := Lib.hid hri
        have HCC := Lib.hid hcc
        generalize wtL ws ws.length = L at *
        have hL1 : 1 ≤ L.length := by omega
        have hL2 : L.length ≤ 10 := by omega
        have hne : L ≠ [] := List.length_pos_iff.1 (by omega)
        have hsm := sumT_bd HOK.out L.length (Nat.le_refl _)
        rw [sumT_all] at hsm
        obtain ⟨hs1, hs2⟩ := hsm
        obtain ⟨w2, hrun, hown2, hg2⟩ := run_make_full (P := Try.prog) wr wr.heap.size 22 3 i0 (.int .i64 0) 1 Try.underlying22 HI.out HZ0.out HZ1.out .i64 .i64 L.length (by rw [HZ2.out]; omega) (by unfold maxLen; omega) (Nat.le_refl _)
        have hblk := made_blk wr w2 L.length hown2
        rw [← cntC_zero] at hblk
        have hb2 : Below wr.heap.size wr w2 := (Below.refl _ _).grown hg2 (Nat.le_refl _) (fun k hk => by cases hk)
        have HBLK := Lib.hid hblk
        have HB2 := Lib.hid (Hbel.out.trans (hb2.mono Hbel.out.size))
        have HRI2 := Lib.hid (hri.below hb2 (Nat.le_refl _))
        have hgw : w.heap.size ≤ wr.heap.size := Hbel.out.size
        generalize wr.heap.size = gc at *
        have HGW := Lib.hid hgw
        have HLEN := Lib.hid hlen
        have hm1 : ∀ w : World, (method 187 59 (.pointer (some ⟨0, 0, none⟩)) "Next").run Try.prog w = .ok (44, .pointer (some ⟨0, 0, none⟩)) w := fun _ => by kernel_rfl
        clear hown2 hg2 hblk hb2 hri hgw hcc hlen Hown Hbel hm1 hsum
        generalize hS : L.sum = S at *
        have HS := Lib.hid hS
        clear hS
        go_wp2_with fail
        go_loopw [8, 9, 10, 49] (fun _ _ _ i wr => ∃ k : Nat, (k : Int) ≤ S ∧ i = .int .i64 k ∧ Blk wr gc 3 (cntC L k) ∧ RI wr gc A' L ∧ Below w.heap.size w wr) (fun _ _ _ i _ => S.toNat - (intOf i).toNat)
        case atStart => exact ⟨0, by omega, rfl, HBLK.out, HRI2.out, HB2.out⟩
        case round =>
          obtain ⟨k, hk, rfl, kb, kr, kw⟩ := hrel
          have KB := Lib.hid kb
          have KR := Lib.hid kr
          have KW := Lib.hid kw
          have HGL := Lib.hid (show gc < wr.heap.size from kb.lt)
          clear kb kr kw
          by_cases hlt : (k : Int) < S
          · have u1 : decide ((k : Int) < S) = true := decide_eq_true hlt
            have hpl := plc_lt (n := (k : Int)) hne (by rw [HS.out]; exact hlt)
            have HNX := Lib.hid (nx_one (k := k) (show 1 ≤ S by omega) (by omega) hlt)
            have HCS := Lib.hid (cntC_succ hpl)
            go_wp2_with fail
            have hr3 := ri_one wr k
            have hb3 : Below wr.heap.size wr (wr.alloc (.cells #[.int .i64 k] 3)) := (Below.refl _ _).alloc (Nat.le_refl _) _
            have KB3 := Lib.hid (KB.out.onto hb3)
            have KR3 := Lib.hid (KR.out.below hb3 (Nat.le_of_lt HGL.out))
            have KW3 := Lib.hid (KW.out.trans (hb3.mono KW.out.size))
            have HGL3 := Lib.hid (Nat.lt_of_lt_of_le HGL.out hb3.size)
            generalize (wr.alloc (.cells #[.int .i64 k] 3)) = w3 at *
            generalize wr.heap.size = p3 at *
            clear hb3 KB KR KW HGL
            refine (script_any (some ⟨p3, 0, none⟩) [(k : Int)] 1 _ (fun h => by cases h) (by simp) hr3).mono ?_
            rintro e w4 ⟨g, rfl, hg, hs4, hb4⟩
            have HGG := Lib.hid (Nat.lt_of_lt_of_le HGL3.out hg)
            have KB4 := Lib.hid (KB3.out.onto hb4)
            have KR4 := Lib.hid (KR3.out.below hb4 (Nat.le_of_lt HGL3.out))
            have KW4 := Lib.hid (KW3.out.trans (hb4.mono KW3.out.size))
            have HS4 := Lib.hid hs4
            clear hr3 hg hs4 hb4 KB3 KR3 KW3 HGL3
            generalize w3.heap.size = lo at *
            have HM1 := Lib.hid (show ∀ w : World, (method 187 59 (.pointer (some ⟨g, 0, none⟩)) "Next").run Try.prog w = .ok (44, .pointer (some ⟨g, 0, none⟩)) w from fun _ => by kernel_rfl)
            have HCL := Lib.hid (show Calls Try.prog 44 #[.pointer (some ⟨g, 0, none⟩), .int .i64 L.sum] w4 fun e w' => e = .returned (.int .i64 k) ∧ Apt g w4 w' from by
              rw [HS.out]
              refine (pS lo g S 0 [(k : Int)] w4 (by omega) HS4.out).mono ?_
              rintro e w' ⟨rfl, _, h⟩
              exact ⟨by rw [HNX.out], h⟩)
            go_wp2_with fail
            refine (pweigh_ok 59 44 g L A' c' k (fun w' => Apt g w4 w') _ hne HCC.out (by omega) HOK.out HM1.out (Go.Proofs.enters_of Try.func44 (by kernel_rfl) rfl) HCL.out (by omega) (by rw [HS.out]; exact hlt) (KR4.out.more (Nat.le_of_lt KB4.out.lt)) (fun w' h => (KR4.out.below (h.below (Below.refl gc _) (Nat.le_of_lt HGG.out) (Nat.le_of_lt KB4.out.lt)) (Nat.le_refl _)).more (Nat.le_of_lt (Nat.lt_of_lt_of_le KB4.out.lt h.size)))).mono ?_
            rintro e w5 ⟨rfl, ha⟩
            have hk5 := ha.blk (Nat.ne_of_lt HGG.out) KB4.out
            have KB5 := Lib.hid hk5
            have KR5 := Lib.hid (KR4.out.below (ha.below (Below.refl gc _) (Nat.le_of_lt HGG.out) (Nat.le_of_lt KB4.out.lt)) (Nat.le_refl _))
            have KW5 := Lib.hid (ha.below KW4.out (show w.heap.size ≤ g from Nat.le_trans HGW.out (Nat.le_of_lt HGG.out)) KW4.out.size)
            have e1 : w5.cell? ⟨gc, plc k L, none⟩ = some (.int .i64 (cntN L k (plc k L))) := (hk5.cell _).trans (cntC_at hpl)
            have f1 := hk5.free (plc k L)
            have hcn : cntN L k (plc k L) ≤ k := by
              unfold cntN
              have := List.countP_le_length (p := fun j : Nat => plc (j : Int) L == plc k L) (l := List.range k)
              simpa using this
            clear ha hk5 KB4 KR4 KW4 HS4 HCL
            generalize plc k L = pv at *
            generalize cntN L k pv = q at *
            have v1 : decide ((pv : Int) < 0) = false := decide_eq_false (by omega)
            have v2 : decide ((L.length : Int) ≤ (pv : Int)) = false := decide_eq_false (by omega)
            have v3 : decide (L.length ≤ pv) = false := decide_eq_false (by omega)
            go_wp2_with fail
            go_roundw
            case rel => exact ⟨k + 1, by omega, by go_num, by rw [← HCS.out]; exact KB5.out.set_ pv _, KR5.out.below ((Below.refl gc w5).setCell (Nat.le_refl _) _) (Nat.le_refl _), KW5.out.setCell HGW.out _⟩
            case measure => simp [intOf]; omega
          · obtain rfl : S = (k : Int) := by omega
            have HALL := Lib.hid (fun (i : Nat) (hi : i < L.length) => show wr.cell? ⟨gc, i, none⟩ = some (.int .i64 (L.getD i 0)) from by
              rw [KB.out.cell, cntC_at hi]
              have h1 := cntN_all L (fun x hx => by have := HOK.out x hx; omega) i hi
              rw [HS.out] at h1
              rw [← h1]
              simp)
            clear HS hs1 hs2 hk hlt
            go_wp2_with fail
            go_loopw [11, 81] (fun _ i wq => ∃ (k q : Nat), k ≤ L.length ∧ i = .int .i64 k ∧ wq = wr.drewN q) (fun _ i _ => L.length - (intOf i).toNat)
            case atStart => exact ⟨0, 0, Nat.zero_le _, rfl, rfl⟩
            case round =>
              obtain ⟨j, q, hj, rfl, rfl⟩ := hrel
              by_cases hjl : j < L.length
              · have u1 : decide (j < L.length) = true := decide_eq_true hjl
                obtain ⟨b2, o2, rfl, hb2, c2⟩ := KR.out.at_ hjl
                have e1 := HALL.out j hjl
                have e2 := c2 j hjl
                have hjl2 : (j : Int) < L.length := by omega
                clear c2
                generalize L.getD j 0 = y at *
                have v1 : (y != y) = false := by simp
                go_wp2_with fail
                go_quiet (fail)
                go_wp2_with fail
                go_roundw
                case rel => exact ⟨j + 1, _, by omega, by go_num, rfl⟩
                case measure => simp [intOf]; omega
              · obtain rfl : L.length = j := by omega
                go_wp2_with fail
                go_ret
                exact ⟨rfl, below_drewN KW.out _⟩
  · have short : ∀ (b1 b2 : Bool), ((ws.length : Int) == 0) = b1 → decide ((10 : Int) < (ws.length : Int)) = b2 → (b1 = true ∨ b2 = true) → Calls Try.prog 7 #[.slice A ws.length c] w fun e w' => e = .returned (.bool true) ∧ Below w.heap.size w w' := by
      intro b1 b2 t0 t1 hb
      clear hr hnil hw8 hN
      cases b1
      · cases b2
        · simp at hb
        · go_enter Try.func7, Try.ntmps7
          go_wp2_with fail
          refine (awake12_any _).mono ?_
          rintro e w1 ⟨rfl, hb⟩
          have HB1 := Lib.hid hb
          clear hb
          go_wp2_with fail
          refine (awake12_any _).mono ?_
          rintro e w2 ⟨rfl, hb2⟩
          have HB2 := Lib.hid (HB1.out.trans (hb2.mono HB1.out.size))
          clear hb2
          go_wp2_with fail
          go_ret
          exact ⟨rfl, HB2.out⟩
      · go_enter Try.func7, Try.ntmps7
        go_wp2_with fail
        refine (awake12_any _).mono ?_
        rintro e w1 ⟨rfl, hb⟩
        have HB1 := Lib.hid hb
        clear hb
        go_wp2_with fail
        refine (awake12_any _).mono ?_
        rintro e w2 ⟨rfl, hb2⟩
        have HB2 := Lib.hid (HB1.out.trans (hb2.mono HB1.out.size))
        clear hb2
        go_wp2_with fail
        go_ret
        exact ⟨rfl, HB2.out⟩
    refine short _ _ rfl rfl ?_
    by_cases h : 0 < ws.length
    · right
      exact decide_eq_true (by omega)
    · left
      rw [beq_iff_eq]
      omega

set_option maxRecDepth 100000 in
theorem lifted (os : Os) (started : os.Started) (H : Type) (enc : TypeId × Value → H) :
    ReturnsInHanded {} Try.checked os 7 .any (Rows.drawAllSpec.pre6 enc Try.prog Try.f7 Rows.drawAllRow.domain false) (Rows.drawAllSpec.post enc Try.prog Try.f7 false true false false) := by
  refine returnsInHanded_of_change (C := Try.checked) own started (by kernel_rfl) Try.func7
    (ChangeSpec.witness6 (enc := enc) (C := Try.checked) false ⟨#[], #[.slice none 0 0], []⟩ 8 (by kernel_rfl) (by kernel_rfl) (by kernel_rfl) (by kernel_rfl)) ?_
  intro W base args ds gs before hval0 hW hcnd _
  have hval : ∀ (j : Nat) t v, Try.f7.params[j]? = some t → args[j]? = some v → Value.okWide Try.prog W .any base t v := hval0
  have hW' := hW
  obtain ⟨p, q, hA0, hV, rfl, hfz, hnd⟩ := hW
  have hA : DataW.TrodAll enc Try.prog W 0 (fun _ => true) true Try.f7.params.toList args.toList ds p := hA0
  rw [Try.params7] at hA hval
  obtain ⟨v0, vs0, d0, ds0, p0, q0, hargs, rfl, rfl, h0, r0⟩ := trodAll_cons hA
  obtain ⟨rfl, rfl, rfl⟩ := trodAll_nil r0
  obtain rfl : args = #[v0] := by cases args; simp_all
  obtain ⟨rfl, rfl⟩ := trodVars_none hV
  obtain ⟨a0, n0, c0, rfl⟩ := okWide_slice Try.underlying50 (hval 0 50 v0 rfl rfl)
  have k0 := h0
  have lt0 : ∀ x ∈ p0, x.block < W.heap.size := by obtain ⟨m, hm⟩ := k0; exact DataW.trod_lt m _ _ _ hm
  obtain ⟨f0, hf0⟩ := h0
  obtain ⟨l0, rfl, _, hm0, hn0, hw0, hr0⟩ := row_open Try.underlying50 Try.underlying5 (by kernel_rfl) (show DataW.trod enc Try.prog W 0 _ _ f0 50 [.slice a0 n0 c0] = some (d0, p0) from hf0)
  clear hA0 hval0
  refine (walk l0 a0 c0 W hn0 (fun y hy => in8_wf (hw0 y hy)) hr0).mono fun e W' ⟨he, bel⟩ => ?_
  subst he
  exact ⟨_, rfl, _, _, _, [], _, [], hW', trodAll_mk1 (shut_bool Try.underlying4 _), (trodAll_cons_mk (Below.trod laidOut (by kernel_rfl) (of_decide_eq_true (by kernel_rfl)) k0 bel lt0) trodAll_mk0), rfl, bel.frame _, fun h => by cases h⟩

theorem over : Rows.drawAllRow.holds Try.pinned (OpenSpec.ofChange Rows.drawAllSpec) :=
  OpenClaim.holds_of_wide 7 Try.f7 rfl rfl rfl rfl rfl rfl rfl ⟨rfl, rfl, rfl, rfl, rfl⟩ rfl rfl rfl rfl rfl (by kernel_rfl) Try.func7 (by kernel_rfl)
    (of_decide_eq_true (by kernel_rfl)) (by unfold Func.isWrapper; first | (rw [if_pos (by decide +kernel)]; kernel_rfl) | (rw [if_neg (by decide +kernel)]; exact ⟨rfl, rfl⟩))
    (fun os started H enc _ => lifted os started H enc)

/-- The statement. -/
theorem proved : Rows.DrawAllSaid := over
end Go.Proofs.Ytkccciacngjhfaa.drawAll
