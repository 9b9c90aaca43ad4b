/- The reference's Parse of a sequence. -/
import Derived.Test.YtgblenoaeanogaaGreatDoorDC
import Derived.Test.YtgblenoaeanogaaGreatDoorNH
set_option linter.unusedVariables false
set_option maxRecDepth 100000
set_option maxHeartbeats 8000000
open Go.Lib (hid)
namespace Go.Proofs.YtgblenoaeanogaaGreatDoor
open Go.RowKit
attribute [local go_sem ↓] Go.wp_at_zero Go.wp_at_succ
def allD (l : List Int) : Bool := !(l.any fun n => !isD n)
theorem allD_snoc (l : List Int) (x : Int) : allD (l ++ [x]) = (allD l && isD x) := by
 unfold allD
 rw [List.any_append]
 cases h : isD x <;> simp [h]
theorem numsL_take {l : List T} {k : Nat} {x : T} (hx : l[k]? = some x) : numsL (l.take (k + 1)) = numsL (l.take k) ++ [x.num] := by
 unfold numsL
 rw [List.take_add_one, hx, List.map_append]
 rfl
theorem numsL_len (l : List T) (k : Nat) (hk : k ≤ l.length) : (numsL (l.take k)).length = k := by unfold numsL; rw [List.length_map, List.length_take]; omega
theorem app_oneV {ops : Array Oper} {rest : List Oper} {o : Oper} {a : Act} {Q : Exit → Act → World → Prop} {w : World} (hgd : o.guard = none) (s x : Operand)
 (ho : o.op = .call { callee := .builtin .append, args := #[s, x], argTypes := #[23, 23] })
 (base : Nat) (A : Option Addr) (c : Nat) (l l2 : List Int) (y : Int) (hl2 : l2 = l ++ [y]) (hs : a.eval s = .slice A l.length c) (hx : a.eval x = .slice (some ⟨w.heap.size, 0, none⟩) 1 1)
 (hown : w.ownsRow base 3 1 (.slice A l.length c) l.length (l.map (Value.int .i64))) (hn : l.length ≤ 1000000) (hbase : base ≤ w.heap.size)
 (h : ∀ (A' : Option Addr) (c' : Nat) (w' : World), w'.ownsRow base 3 1 (.slice A' l2.length c') l2.length (l2.map (Value.int .i64)) → Below base w w' → wpList Tryz.prog ops Q rest (a.put o.dst (.slice A' l2.length c')) w') :
 wpList Tryz.prog ops Q (o :: rest) a (w.alloc (.cells #[.int .i64 y] 3)) := by
 subst hl2
 refine app_one hgd s x ho base _ l y hs hx hown hn hbase ?_
 intro v' w' h1 h2
 obtain ⟨A', c', rfl, _⟩ := own_ri h1
 exact h A' c' w' h1 (h2 w (Below.refl base w))
theorem rdparse_any (s : ByteArray) (hs5 : s.size ≤ 520) (w : World) : Calls Tryz.prog 8 #[.string s] w (SGives (ansD (Rd.parseR s 1)) w) := by
 have HP := hid (r6parse_any s hs5 1 w)
 have hout := parseR_out s 1
 have HVL := hid (fun v p (h : Rd.parseR s 1 = .val v p) => parseR_val h)
 have HCD := hid (fun p c (h : Rd.parseR s 1 = .err p c) => parseR_code s 1 h)
 generalize Rd.parseR s 1 = res at *
 cases res with
 | out => exact absurd rfl hout
 | err p c =>
  have hc := HCD.out p c rfl
  have v1 : (c != 0) = true := by simp; exact hc
  clear HCD HVL hout hc
  go_enter Tryz.func8, Tryz.ntmps8
  go_wp2_with fail
  refine HP.out.mono ?_
  rintro e w2 ⟨rfl, hb2⟩
  have H2 := hid hb2
  clear hb2
  unfold T.agg
  go_wp2_with fail
  go_ret3
  exact ⟨none, 0, rfl, RI.nil _ _ _, H2.out.alloc H2.out.size _⟩
 | val v q =>
  obtain ⟨hG, hvl, hs⟩ := HVL.out v q rfl
  have hsz := size_txt v hG.1
  have hle := T.len_sizes v.items
  have hse := v.size_eq
  have hil : v.items.length ≤ 520 := by omega
  clear HCD HVL hout hG hvl hs hsz hle hse
  have HAN := hid (show ansD (.val v q) = ansV v from rfl)
  generalize ansD (.val v q) = an at *
  by_cases h4 : v.kind = 4
  ·
   have v4 : (v.kind != 4) = false := by simp; exact h4
   have HK4 := hid h4
   clear h4
   go_enter Tryz.func8, Tryz.ntmps8
   go_wp2_with fail
   refine HP.out.mono ?_
   rintro e w2 ⟨A, c, A', c', rfl, hv2, hb2⟩
   have H2 := hid hb2
   have HV := hid (hv2.wide (S' := (· < w2.heap.size)) (fun b hb => hb.2))
   clear hb2 hv2
   unfold T.agg
   go_upto_region 2 with fail
   have hq := Blk.new w2 50 #[.int .i64 v.kind, .bool v.tr, .int .i64 v.num, .string v.str, .slice A v.items.length c, .slice A' v.keys.length c']
   have hb3 : Below w2.heap.size w2 (w2.alloc (.cells #[.int .i64 v.kind, .bool v.tr, .int .i64 v.num, .string v.str, .slice A v.items.length c, .slice A' v.keys.length c'] 50)) := (Below.refl _ _).alloc (Nat.le_refl _) _
   change Code.wp _ _ _ _ (w2.alloc (.cells #[.int .i64 v.kind, .bool v.tr, .int .i64 v.num, .string v.str, .slice A v.items.length c, .slice A' v.keys.length c'] 50))
   have HV3 := hid (HV.out.on hb3)
   have H3 := hid (H2.out.trans (hb3.mono H2.out.size))
   have hw3 : w.heap.size ≤ w2.heap.size := H2.out.size
   generalize (w2.alloc (.cells #[.int .i64 v.kind, .bool v.tr, .int .i64 v.num, .string v.str, .slice A v.items.length c, .slice A' v.keys.length c'] 50)) = w3 at *
   have hpl : w2.heap.size < w3.heap.size := hq.lt
   generalize w2.heap.size = p at *
   have HQ := hid hq
   have a0 := hq.cell 0
   have a4 := hq.cell 4
   clear hq hb3 HV H2
   go_wp2_with fail
   go_loopw [8, 9, 10, 11, 28] (fun o g _ _ i wr => ∃ (k : Nat) (B : Option Addr) (d : Nat), k ≤ v.items.length ∧ i = .int .i64 k ∧ o = .slice B (numsL (v.items.take k)).length d ∧ g = .bool (allD (numsL (v.items.take k))) ∧ allInt (v.items.take k) = true ∧
    wr.ownsRow w3.heap.size 3 1 (.slice B (numsL (v.items.take k)).length d) (numsL (v.items.take k)).length ((numsL (v.items.take k)).map (Value.int .i64)) ∧ Below w3.heap.size w3 wr) (fun _ _ _ _ i _ => v.items.length - (intOf i).toNat)
   case atStart => exact ⟨0, none, 0, Nat.zero_le _, rfl, rfl, rfl, rfl, World.ownsRow_nil _ _ _ _, Below.refl _ _⟩
   case round =>
    obtain ⟨k, B, d, hk, rfl, rfl, rfl, hok, hown, hbel⟩ := hrel
    have KO := hid hown
    have KB := hid hbel
    have HOK := hid hok
    have b0 := (HQ.out.onto hbel).cell 0
    have b4 := (HQ.out.onto hbel).cell 4
    clear hown hbel hok
    have hnl : (numsL (v.items.take k)).length ≤ 520 := by rw [numsL_len v.items k hk]; omega
    by_cases hlt : k < v.items.length
    ·
     have u1 : decide (k < v.items.length) = true := decide_eq_true hlt
     obtain ⟨b, o, x, C, f, C', f', rfl, hb, hx, h6, _⟩ := HV3.out.at_ hlt
     have HX := hid hx
     have HAT := hid (allInt_take hx)
     have HNT := hid (numsL_take hx)
     have HSN := hid (allD_snoc (numsL (v.items.take k)) x.num)
     obtain ⟨e0, e1, e2, e3, e4, e5⟩ := h6.keep hb (.of_below KB.out)
     clear hx h6 e1 e3 e4 e5
     generalize numsL (v.items.take k) = L at *
     by_cases hx2 : x.kind = 2
     ·
      have v2 : (x.kind != 2) = false := by simp; exact hx2
      have HX2 := hid (show allInt (v.items.take (k + 1)) = true by rw [HAT.out, HOK.out, hx2]; rfl)
      clear hx2 HAT HOK HX
      generalize x.num = y at *
      generalize hL2 : numsL (v.items.take (k + 1)) = L2 at *
      have HL2 := hid hL2
      clear hL2
      cases hgd : allD L
      ·
       have GV : allD L2 = false := by rw [HNT.out, HSN.out, hgd]; rfl
       rw [hgd] at *
       go_wp2_with (at_builtin; refine app_oneV rfl _ _ rfl w3.heap.size B d L L2 y HNT.out rfl rfl KO.out (by omega) KB.out.size ?_)
       intro B5 d5 w5 h1 h5
       have h5 := KB.out.trans (h5.mono (Nat.le_refl _))
       have KO5 := hid h1
       have KB5 := hid h5
       clear h1 h5
       go_wp2_with fail
       go_roundw
       case rel => exact ⟨k + 1, B5, d5, by omega, by go_num, by rw [HL2.out], by rw [HL2.out, GV], by rw [HX2.out], by rw [HL2.out]; exact KO5.out, KB5.out⟩
       case measure => simp [intOf]; omega
      ·
       by_cases hy0 : 0 ≤ y
       ·
        have y0 : decide (0 ≤ y) = true := decide_eq_true hy0
        by_cases hy1 : y < 4294967296
        ·
         have y1 : decide (y < 4294967296) = true := decide_eq_true hy1
         have GV : allD L2 = true := by rw [HNT.out, HSN.out, hgd]; unfold isD; rw [y0, y1]; rfl
         go_wp2_with (at_builtin; refine app_oneV rfl _ _ rfl w3.heap.size B d L L2 y HNT.out rfl rfl KO.out (by omega) KB.out.size ?_)
         intro B5 d5 w5 h1 h5
         have h5 := KB.out.trans (h5.mono (Nat.le_refl _))
         have KO5 := hid h1
         have KB5 := hid h5
         clear h1 h5
         go_wp2_with fail
         go_roundw
         case rel => exact ⟨k + 1, B5, d5, by omega, by go_num, by rw [HL2.out], by rw [HL2.out, GV], by rw [HX2.out], by rw [HL2.out]; exact KO5.out, KB5.out⟩
         case measure => simp [intOf]; omega
        ·
         have y1 : decide (y < 4294967296) = false := decide_eq_false hy1
         have GV : allD L2 = false := by rw [HNT.out, HSN.out, hgd]; unfold isD; rw [y0, y1]; rfl
         go_wp2_with (at_builtin; refine app_oneV rfl _ _ rfl w3.heap.size B d L L2 y HNT.out rfl rfl KO.out (by omega) KB.out.size ?_)
         intro B5 d5 w5 h1 h5
         have h5 := KB.out.trans (h5.mono (Nat.le_refl _))
         have KO5 := hid h1
         have KB5 := hid h5
         clear h1 h5
         go_wp2_with fail
         go_roundw
         case rel => exact ⟨k + 1, B5, d5, by omega, by go_num, by rw [HL2.out], by rw [HL2.out, GV], by rw [HX2.out], by rw [HL2.out]; exact KO5.out, KB5.out⟩
         case measure => simp [intOf]; omega
       ·
        have y0 : decide (0 ≤ y) = false := decide_eq_false hy0
        have GV : allD L2 = false := by rw [HNT.out, HSN.out, hgd]; unfold isD; rw [y0]; rfl
        go_wp2_with (at_builtin; refine app_oneV rfl _ _ rfl w3.heap.size B d L L2 y HNT.out rfl rfl KO.out (by omega) KB.out.size ?_)
        intro B5 d5 w5 h1 h5
        have h5 := KB.out.trans (h5.mono (Nat.le_refl _))
        have KO5 := hid h1
        have KB5 := hid h5
        clear h1 h5
        go_wp2_with fail
        go_roundw
        case rel => exact ⟨k + 1, B5, d5, by omega, by go_num, by rw [HL2.out], by rw [HL2.out, GV], by rw [HX2.out], by rw [HL2.out]; exact KO5.out, KB5.out⟩
        case measure => simp [intOf]; omega
     ·
      have v2 : (x.kind != 2) = true := by simp; exact hx2
      have HNO := hid (allInt_no HX.out (by simpa using hx2))
      clear hx2
      have HA := hid (HAN.out.trans (show ansV v = ([], 0, 1) from if_neg (fun h => by rw [HNO.out] at h; cases h.2)))
      go_wp2_with fail
      go_ret3
      rw [HA.out]
      exact ⟨none, 0, rfl, RI.nil _ _ _, H3.out.trans (KB.out.mono H3.out.size)⟩
    ·
     obtain rfl : v.items.length = k := by omega
     rw [List.take_length] at KO HOK hnl
     rw [List.take_length]
     have HAV := hid (HAN.out.trans (show ansV v = (if 4096 < (numsL v.items).length then ([], 0, 7) else if goodD (numsL v.items) = true then (numsL v.items, 0, 0) else ([], 0, 17)) from if_pos ⟨HK4.out, HOK.out⟩))
     have HGD := hid (show goodD (numsL v.items) = allD (numsL v.items) by unfold goodD allD; rw [decide_eq_true (by omega)]; rfl)
     clear HAN HOK
     generalize numsL v.items = L at *
     have y1 : decide ((4096 : Int) < (L.length : Int)) = false := decide_eq_false (by omega)
     obtain ⟨B5, d5, hsl, _, hri, _⟩ := own_ri KO.out
     injection hsl with hs1 hs2 hs3
     subst hs1 hs3
     have HRI := hid hri
     have HAV2 := hid (HAV.out.trans (if_neg (by omega)))
     have H9 := hid (H3.out.trans (KB.out.mono H3.out.size))
     clear hri HAV
     cases hgd : allD L
     ·
      have HA := hid (HAV2.out.trans (if_neg (by rw [HGD.out, hgd]; decide)))
      go_wp2_with fail
      go_ret3
      rw [HA.out]
      exact ⟨none, 0, rfl, RI.nil _ _ _, H9.out⟩
     ·
      have HA := hid (HAV2.out.trans (if_pos (by rw [HGD.out, hgd])))
      go_wp2_with fail
      go_ret3
      rw [HA.out]
      exact ⟨B, d, rfl, HRI.out, H9.out⟩
  ·
   have v4 : (v.kind != 4) = true := by simp; exact h4
   have HA := hid (HAN.out.trans (show ansV v = ([], 0, 1) from if_neg (fun h => h4 h.1)))
   clear h4
   go_enter Tryz.func8, Tryz.ntmps8
   go_wp2_with fail
   refine HP.out.mono ?_
   rintro e w2 ⟨A, c, A', c', rfl, hv2, hb2⟩
   have H2 := hid hb2
   clear hb2 hv2
   unfold T.agg
   go_wp2_with fail
   go_ret3
   rw [HA.out]
   exact ⟨none, 0, rfl, RI.nil _ _ _, H2.out.alloc H2.out.size _⟩
end Go.Proofs.YtgblenoaeanogaaGreatDoor
