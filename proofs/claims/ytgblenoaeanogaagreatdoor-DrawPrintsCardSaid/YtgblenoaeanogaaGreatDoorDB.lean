/- Sources: slices.Clone at ints, Script, Mix, Used, counts, Next of a script. The fixed fact of layer 12. -/
import Derived.Test.YtgblenoaeanogaaGreatDoorDA
import Derived.Laws.AppendOwnNone
import Derived.Laws.OwnMore
set_option linter.unusedVariables false
set_option maxRecDepth 100000
set_option maxHeartbeats 8000000
open Go.Lib (hid)
namespace Go.Proofs.YtgblenoaeanogaaGreatDoor
open Go.RowKit
theorem infoInt12 : (Tryz.prog.info? 3).map (fun i => (i.zero, i.size, i.bytes)) = some (some (.int .i64 0), 1, 8) := by kernel_rfl
theorem own_ri {w : World} {base : Nat} {v : Value} {l : List Int} (h : w.ownsRow base 3 1 v l.length (l.map (Value.int .i64))) : ∃ A c, v = .slice A l.length c ∧ l.length ≤ c ∧ RI w w.heap.size A l ∧ ∀ a, A = some a → base ≤ a.block := by
 rcases h.2 with ⟨rfl, h0⟩ | ⟨g, cap, cur, rfl, hb, hh, hle, _⟩
 ·
  obtain rfl : l = [] := List.eq_nil_of_length_eq_zero h0
  exact ⟨none, 0, rfl, Nat.le_refl _, fun hn => absurd rfl hn, fun a h => nomatch h⟩
 ·
  refine ⟨_, _, rfl, hle, fun _ => ⟨g, 0, rfl, (Array.getElem?_eq_some_iff.1 hh).1, fun i hi => ?_⟩, fun a h => by injection h with h; rw [← h]; exact hb⟩
  have := h.cells (g := g) rfl i (.int .i64 (l.getD i 0)) (by simp [List.getElem?_eq_getElem hi])
  have hadd : (⟨g, 0, none⟩ : Addr).add i = ⟨g, 0 + i, none⟩ := by unfold Addr.add; split <;> simp_all
  rwa [hadd] at this
theorem app_row {ops : Array Oper} {rest : List Oper} {o : Oper} {a : Act} {Q : Exit → Act → World → Prop} {w : World} (hgd : o.guard = none) (s x : Operand)
 (ho : o.op = .call { callee := .builtin .append, args := #[s, x], argTypes := #[23, 23] })
 (base : Nat) (l : List Int) (A : Option Addr) (c : Nat) (hs : a.eval s = .slice (some ⟨w.heap.size, 0, none⟩) 0 0) (hx : a.eval x = .slice A l.length c)
 (hnil : A = none → c = 0 ∧ l = []) (hr : RI w w.heap.size A l) (hl : l.length ≤ 1000) (hbase : base ≤ w.heap.size)
 (h : ∀ (A' : Option Addr) (c' : Nat) (w' : World), l.length ≤ c' → RI w' w'.heap.size A' l → (∀ a, A' = some a → base ≤ a.block) → Below base w w' → wpList Tryz.prog ops Q rest (a.put o.dst (.slice A' l.length c')) w') :
 wpList Tryz.prog ops Q (o :: rest) a (w.alloc (.cells #[] 3)) := by
 obtain ⟨i0, hi, hz0, hz1, hz2⟩ := info_parts infoInt12
 have hown : (w.alloc (.cells #[] 3)).ownsRow base 3 1 (.slice (some ⟨w.heap.size, 0, none⟩) 0 0) 0 [] := by
  have := World.ownsRow_lit (base := base) (size := 1) (e := 3) w #[] 0 hbase (Nat.zero_le _) rfl
  simpa using this
 have hb1 : Below base w (w.alloc (.cells #[] 3)) := (Below.refl _ _).alloc hbase _
 cases A with
 | none =>
  obtain ⟨rfl, rfl⟩ := hnil rfl
  refine wpList_append_own_none hgd s x 23 ho base 3 i0 1 Tryz.underlying23 hi _ 0 [] hs hown hx ?_
  exact h (some ⟨w.heap.size, 0, none⟩) 0 _ (Nat.le_refl _) (RI.nil _ _ _) (fun a h => by injection h with h; rw [← h]; exact hbase) hb1
 | some ad =>
  refine wpList_append_own _ hgd s x 23 ho base 3 i0 (.int .i64 0) 1 8 Tryz.underlying23 hi hz0 hz1 hz2 rfl (by decide) _ 0 [] hs hown ad l.length c (l.map (Value.int .i64)) hx (by simp) ?_ ?_ ?_ ?_ ?_ ?_
  ·
   intro j u hu
   rw [List.getElem?_map] at hu
   rcases Nat.lt_or_ge j l.length with hj | hj
   ·
    obtain ⟨b, o', e, hb, hc⟩ := hr.at_ hj
    injection e with e
    subst e
    rw [List.getElem?_eq_getElem hj] at hu
    simp at hu
    subst hu
    have hadd : (⟨b, o', none⟩ : Addr).add j = ⟨b, o' + j, none⟩ := by unfold Addr.add; split <;> simp_all
    have hcj := hc j hj
    rw [List.getD_eq_getElem?_getD, List.getElem?_eq_getElem hj] at hcj
    rw [hadd]
    exact (World.cell?_of_block (Below.heap_alloc _ _ _ hb)).trans hcj
   · rw [List.getElem?_eq_none hj] at hu; cases hu
  · intro u hu; simp at hu; obtain ⟨y, _, rfl⟩ := hu; rfl
  · unfold maxLen; omega
  · omega
  · simp; omega
  ·
   intro v' w' h1 h2 _
   rw [Nat.zero_add, List.nil_append] at h1
   obtain ⟨A', c', rfl, hle, hri, hlo⟩ := own_ri h1
   exact h A' c' w' hle hri hlo (hb1.grown h2 (by simp; omega) (fun k hk => (hown.lt k hk).1))
theorem app_one {ops : Array Oper} {rest : List Oper} {o : Oper} {a : Act} {Q : Exit → Act → World → Prop} {w : World} (hgd : o.guard = none) (s x : Operand)
 (ho : o.op = .call { callee := .builtin .append, args := #[s, x], argTypes := #[23, 23] })
 (base : Nat) (v : Value) (l : List Int) (y : Int) (hs : a.eval s = v) (hx : a.eval x = .slice (some ⟨w.heap.size, 0, none⟩) 1 1)
 (hown : w.ownsRow base 3 1 v l.length (l.map (Value.int .i64))) (hn : l.length ≤ 1000000) (hbase : base ≤ w.heap.size)
 (h : ∀ (v' : Value) (w' : World), w'.ownsRow base 3 1 v' (l ++ [y]).length ((l ++ [y]).map (Value.int .i64)) → (∀ W, Below base W w → Below base W w') → wpList Tryz.prog ops Q rest (a.put o.dst v') w') :
 wpList Tryz.prog ops Q (o :: rest) a (w.alloc (.cells #[.int .i64 y] 3)) := by
 obtain ⟨i0, hi, hz0, hz1, hz2⟩ := info_parts infoInt12
 refine wpList_append_own _ hgd s x 23 ho base 3 i0 (.int .i64 0) 1 8 Tryz.underlying23 hi hz0 hz1 hz2 rfl (by decide) v l.length _ hs (hown.alloc _) ⟨w.heap.size, 0, none⟩ 1 1 [.int .i64 y] hx rfl ?_ ?_ ?_ ?_ ?_ ?_
 ·
  intro j u hu
  match j, hu with
  | 0, hu => simp at hu; subst hu; simp [Addr.add]
 · intro u hu; simp at hu; subst hu; rfl
 · unfold maxLen; omega
 · omega
 · simp; omega
 ·
  intro v' w' h1 h2 _
  refine h v' w' (by rw [List.length_append, List.map_append]; exact h1) (fun W hW => ?_)
  exact (hW.alloc hbase _).grown h2 (by simp; omega) (fun k hk => (hown.lt k hk).1)
theorem cloneI_nil (w : World) : Calls Tryz.prog 30 #[.slice none 0 0] w fun e w' => e = .returned (.slice none 0 0) ∧ w = w' := by
 have hq : ∀ w : World, (binOp .eql 23 (.slice none 0 0) (.slice none 0 0)).run Tryz.prog w = .ok (.bool true) w := fun _ => by kernel_rfl
 go_enter Tryz.func30, Tryz.ntmps30
 go_wp2_with fail
 go_ret
 exact ⟨rfl, rfl⟩
theorem cloneI_some (ad : Addr) (l : List Int) (c : Nat) (w : World) (hl : l.length ≤ 1000) (hr : RI w w.heap.size (some ad) l) :
 Calls Tryz.prog 30 #[.slice (some ad) l.length c] w fun e w' => ∃ A' c', e = .returned (.slice A' l.length c') ∧ l.length ≤ c' ∧ RI w' w'.heap.size A' l ∧ (∀ a, A' = some a → w.heap.size ≤ a.block) ∧ Below w.heap.size w w' := by
 have Hr := hid hr
 clear hr
 have hq : ∀ (n c : Nat) (w : World), (binOp .eql 23 (.slice (some ad) n c) (.slice none 0 0)).run Tryz.prog w = .ok (.bool false) w := fun _ _ _ => by kernel_rfl
 go_enter Tryz.func30, Tryz.ntmps30
 go_wp2_with (at_builtin; refine app_row rfl _ _ rfl w.heap.size l (some ad) c rfl rfl (fun h => by cases h) Hr.out hl (Nat.le_refl _) ?_)
 intro A' c' w' h1 h2 h4 h3
 have H4 := hid h4
 have H1 := hid h1
 have H2 := hid h2
 have H3 := hid h3
 clear h1 h2 h3 h4
 go_wp2_with fail
 go_ret
 exact ⟨A', c', rfl, H1.out, H2.out, H4.out, H3.out⟩
theorem cloneI_any (A : Option Addr) (l : List Int) (c : Nat) (w : World) (hnil : A = none → c = 0 ∧ l = []) (hl : l.length ≤ 1000) (hr : RI w w.heap.size A l) :
 Calls Tryz.prog 30 #[.slice A l.length c] w fun e w' => ∃ A' c', e = .returned (.slice A' l.length c') ∧ l.length ≤ c' ∧ RI w' w'.heap.size A' l ∧ (∀ a, A' = some a → w.heap.size ≤ a.block) ∧ Below w.heap.size w w' := by
 cases A with
 | none =>
  obtain ⟨rfl, rfl⟩ := hnil rfl
  refine (cloneI_nil w).mono ?_
  rintro e w' ⟨rfl, rfl⟩
  exact ⟨none, 0, rfl, Nat.le_refl _, RI.nil _ _ _, (fun a h => nomatch h), Below.refl _ _⟩
 | some ad => exact cloneI_some ad l c w hl hr
def ScrB (w : World) (lo g : Nat) (u : Int) (rest : List Int) : Prop := ∃ A c, Blk w g 68 #[.int .i64 u, .slice A rest.length c] ∧ rest.length ≤ c ∧ RI w g A rest ∧ ∀ a, A = some a → lo ≤ a.block
theorem script_any (A : Option Addr) (l : List Int) (c : Nat) (w : World) (hnil : A = none → c = 0 ∧ l = []) (hl : l.length ≤ 1000) (hr : RI w w.heap.size A l) :
 Calls Tryz.prog 15 #[.slice A l.length c] w fun e w' => ∃ g, e = .returned (.iface 63 (.pointer (some ⟨g, 0, none⟩))) ∧ w.heap.size ≤ g ∧ ScrB w' w.heap.size g 0 l ∧ Below w.heap.size w w' := by
 have H := hid (cloneI_any A l c w hnil hl hr)
 clear hnil hr hl
 go_enter Tryz.func15, Tryz.ntmps15
 go_wp2_with fail
 refine H.out.mono ?_
 rintro e w' ⟨A', c', rfl, h1, h2, h4, h3⟩
 have H4 := hid h4
 have H1 := hid h1
 have H2 := hid h2
 have H3 := hid h3
 clear h1 h2 h3 h4
 go_wp2_with fail
 go_ret
 exact ⟨w'.heap.size, rfl, H3.out.size, ⟨A', c', Blk.new w' _ _, H1.out, H2.out.below ((Below.refl _ _).alloc (Nat.le_refl _) _) (Nat.le_refl _), H4.out⟩, H3.out.alloc H3.out.size _⟩
theorem mix_any (z : Int) (w : World) :
 Calls Tryz.prog 16 #[.int .i64 z] w fun e w' => ∃ g, e = .returned (.iface 69 (.pointer (some ⟨g, 0, none⟩))) ∧ w.heap.size ≤ g ∧ Blk w' g 72 #[.int .i64 0, .int .u64 (z % 18446744073709551616)] ∧ Below w.heap.size w w' := by
 go_enter Tryz.func16, Tryz.ntmps16
 go_wp2_with fail
 go_ret
 exact ⟨w.heap.size, rfl, Nat.le_refl _, Blk.new w _ _, (Below.refl _ _).alloc (Nat.le_refl _) _⟩
open Go.RowKit
theorem ri_one (w : World) (y : Int) : RI (w.alloc (.cells #[.int .i64 y] 3)) (w.alloc (.cells #[.int .i64 y] 3)).heap.size (some ⟨w.heap.size, 0, none⟩) [y] := fun _ =>
 ⟨_, 0, rfl, by simp, fun i hi => by
  obtain rfl : i = 0 := by simpa using hi
  exact (Blk.new w 3 #[.int .i64 y]).cell 0⟩
theorem awake12_any (w : World) : Calls Tryz.prog 6 #[] w fun e w' => e = .returned (.bool true) ∧ Below w.heap.size w w' := by
 have hq1 : ∀ (g : Nat) (w : World), (binOp .neq 37 (.iface 63 (.pointer (some ⟨g, 0, none⟩))) .nilIface).run Tryz.prog w = .ok (.bool true) w := fun _ _ => by kernel_rfl
 have hq2 : ∀ (g : Nat) (w : World), (binOp .neq 37 (.iface 69 (.pointer (some ⟨g, 0, none⟩))) .nilIface).run Tryz.prog w = .ok (.bool true) w := fun _ _ => by kernel_rfl
 have HB := hid (Below.refl w.heap.size w)
 go_enter Tryz.func6, Tryz.ntmps6
 go_wp2_with fail
 have hr1 := ri_one w 0
 have hb1 : Below w.heap.size w (w.alloc (.cells #[.int .i64 0] 3)) := (Below.refl _ _).alloc (Nat.le_refl _) _
 generalize w.alloc (.cells #[.int .i64 0] 3) = w1 at hr1 hb1 ⊢
 have HB1 := hid hb1
 refine (dorder_any [] [0] none (some ⟨w.heap.size, 0, none⟩) 0 1 _ (by simp) (RI.nil _ _ _) hr1).mono ?_
 rintro e w' ⟨rfl, rfl⟩
 rw [show ordI [] [0] = -1 from rfl]
 clear hr1 hb1
 go_wp2_with fail
 have hr1 := (ri_one w1 0).onto ((Below.refl _ _).alloc (Nat.le_refl _) (.cells #[.int .i64 1] 3))
 have hr2 := ri_one (w1.alloc (.cells #[.int .i64 0] 3)) 1
 have hb2 : Below w.heap.size w ((w1.alloc (.cells #[.int .i64 0] 3)).alloc (.cells #[.int .i64 1] 3)) := (HB1.out.alloc HB1.out.size _).alloc (by have := HB1.out.size; simp; omega) _
 rw [show (w1.alloc (.cells #[.int .i64 0] 3)).heap.size = w1.heap.size + 1 by simp] at hr2
 generalize (w1.alloc (.cells #[.int .i64 0] 3)).alloc (.cells #[.int .i64 1] 3) = w2 at hr1 hr2 hb2 ⊢
 have HB2 := hid hb2
 refine (dorder_any [0] [1] (some ⟨w1.heap.size, 0, none⟩) (some ⟨w1.heap.size + 1, 0, none⟩) 1 1 _ (by simp) hr1 hr2).mono ?_
 rintro e w' ⟨rfl, rfl⟩
 rw [show ordI [0] [1] = -1 from rfl]
 clear hr1 hr2 hb2
 go_wp2_with fail
 have hr1 := ri_one w2 1
 have hb3 : Below w.heap.size w (w2.alloc (.cells #[.int .i64 1] 3)) := HB2.out.alloc HB2.out.size _
 generalize w2.alloc (.cells #[.int .i64 1] 3) = w3 at hr1 hb3 ⊢
 have HB3 := hid hb3
 refine (dgood_any [1] (some ⟨w2.heap.size, 0, none⟩) 1 _ (by simp) hr1).mono ?_
 rintro e w' ⟨rfl, rfl⟩
 rw [show goodD [1] = true from rfl]
 clear hr1 hb3
 go_wp2_with fail
 refine (script_any none [] 0 _ (fun _ => ⟨rfl, rfl⟩) (by simp) (RI.nil _ _ _)).mono ?_
 rintro e w4 ⟨g, rfl, _, _, hb4⟩
 have HB4 := hid (HB3.out.trans (hb4.mono HB3.out.size))
 clear hb4
 go_wp2_with fail
 refine (mix_any 1 _).mono ?_
 rintro e w5 ⟨g2, rfl, _, _, hb5⟩
 have HB5 := hid (HB4.out.trans (hb5.mono HB4.out.size))
 clear hb5
 go_wp2_with fail
 go_ret
 exact ⟨rfl, HB5.out⟩
end Go.Proofs.YtgblenoaeanogaaGreatDoor
