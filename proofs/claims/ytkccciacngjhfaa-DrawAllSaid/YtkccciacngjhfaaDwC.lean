/- Sources: slices.Clone at ints, Script, Mix, Used, counts, Next of a script. -/
import Derived.Test.YtkccciacngjhfaaDwA
import Derived.Laws.AppendOwnNone
import Derived.Laws.OwnMore
namespace Go.Proofs.Ytkccciacngjhfaa
open Go.RowKit

theorem infoInt12 : (Try.prog.info? 3).map (fun i => (i.zero, i.size, i.bytes)) = some (some (.int .i64 0), 1, 8) := by kernel_rfl
/-- a row of the call's own, read -/
theorem own_ri {w : World} {base : Nat} {v : Value} {l : List Int} (h : w.ownsRow base 3 1 v l.length (l.map (Value.int .i64))) : ∃ A c, v = .slice A l.length c ∧ l.length ≤ c ∧ RI w w.heap.size A l ∧ ∀ a, A = some a → base ≤ a.block := by
  rcases h.2 with ⟨rfl, h0⟩ | ⟨g, cap, cur, rfl, hb, hh, hle, _⟩
  · obtain rfl : l = [] := List.eq_nil_of_length_eq_zero h0
    exact ⟨none, 0, rfl, Nat.le_refl _, fun hn => absurd rfl hn, fun a h => nomatch h⟩
  · refine ⟨_, _, rfl, hle, fun _ => ⟨g, 0, rfl, (Array.getElem?_eq_some_iff.1 hh).1, fun i hi => ?_⟩, fun a h => by injection h with h; rw [← h]; exact hb⟩
    have := h.cells (g := g) rfl i (.int .i64 (l.getD i 0)) (by simp [List.getElem?_eq_getElem hi])
    have hadd : (⟨g, 0, none⟩ : Addr).add i = ⟨g, 0 + i, none⟩ := by unfold Addr.add; split <;> simp_all
    rwa [hadd] at this
set_option maxRecDepth 100000 in
/-- a copy of a row, appended to an empty row of the call's own -/
theorem app_row {ops : Array Oper} {rest : List Oper} {o : Oper} {a : Act} {Q : Exit → Act → World → Prop} {w : World} (hgd : o.guard = none) (s x : Operand)
    (ho : o.op = .call { callee := .builtin .append, args := #[s, x], argTypes := #[22, 22] })
    (base : Nat) (l : List Int) (A : Option Addr) (c : Nat) (hs : a.eval s = .slice (some ⟨w.heap.size, 0, none⟩) 0 0) (hx : a.eval x = .slice A l.length c)
    (hnil : A = none → c = 0 ∧ l = []) (hr : RI w w.heap.size A l) (hl : l.length ≤ 1000) (hbase : base ≤ w.heap.size)
    (h : ∀ (A' : Option Addr) (c' : Nat) (w' : World), l.length ≤ c' → RI w' w'.heap.size A' l → (∀ a, A' = some a → base ≤ a.block) → Below base w w' → wpList Try.prog ops Q rest (a.put o.dst (.slice A' l.length c')) w') :
    wpList Try.prog ops Q (o :: rest) a (w.alloc (.cells #[] 3)) := by
  obtain ⟨i0, hi, hz0, hz1, hz2⟩ := info_parts infoInt12
  have hown : (w.alloc (.cells #[] 3)).ownsRow base 3 1 (.slice (some ⟨w.heap.size, 0, none⟩) 0 0) 0 [] := by
    have := World.ownsRow_lit (base := base) (size := 1) (e := 3) w #[] 0 hbase (Nat.zero_le _) rfl
    simpa using this
  have hb1 : Below base w (w.alloc (.cells #[] 3)) := (Below.refl _ _).alloc hbase _
  cases A with
  | none =>
    obtain ⟨rfl, rfl⟩ := hnil rfl
    refine wpList_append_own_none hgd s x 22 ho base 3 i0 1 Try.underlying22 hi _ 0 [] hs hown hx ?_
    exact h (some ⟨w.heap.size, 0, none⟩) 0 _ (Nat.le_refl _) (RI.nil _ _ _) (fun a h => by injection h with h; rw [← h]; exact hbase) hb1
  | some ad =>
    refine wpList_append_own _ hgd s x 22 ho base 3 i0 (.int .i64 0) 1 8 Try.underlying22 hi hz0 hz1 hz2 rfl (by decide) _ 0 [] hs hown ad l.length c (l.map (Value.int .i64)) hx (by simp) ?_ ?_ ?_ ?_ ?_ ?_
    · intro j u hu
      rw [List.getElem?_map] at hu
      rcases Nat.lt_or_ge j l.length with hj | hj
      · obtain ⟨b, o', e, hb, hc⟩ := hr.at_ hj
        injection e with e
        subst e
        rw [List.getElem?_eq_getElem hj] at hu
        simp at hu
        subst hu
        have hadd : (⟨b, o', none⟩ : Addr).add j = ⟨b, o' + j, none⟩ := by unfold Addr.add; split <;> simp_all
        have hcj := hc j hj
        rw [List.getD_eq_getElem?_getD, List.getElem?_eq_getElem hj] at hcj
        rw [hadd]
        exact (World.cell?_of_block (Below.heap_alloc _ _ _ hb)).trans hcj
      · rw [List.getElem?_eq_none hj] at hu; cases hu
    · intro u hu; simp at hu; obtain ⟨y, _, rfl⟩ := hu; rfl
    · unfold maxLen; omega
    · omega
    · simp; omega
    · intro v' w' h1 h2 _
      rw [Nat.zero_add, List.nil_append] at h1
      obtain ⟨A', c', rfl, hle, hri, hlo⟩ := own_ri h1
      exact h A' c' w' hle hri hlo (hb1.grown h2 (by simp; omega) (fun k hk => (hown.lt k hk).1))

set_option maxRecDepth 100000 in
theorem clone_nil (w : World) : Calls Try.prog 26 #[.slice none 0 0] w fun e w' => e = .returned (.slice none 0 0) ∧ w = w' := by
  have hq : ∀ w : World, (binOp .eql 22 (.slice none 0 0) (.slice none 0 0)).run Try.prog w = .ok (.bool true) w := fun _ => by kernel_rfl
  go_enter Try.func26, Try.ntmps26
  go_wp2_with fail
  go_ret
  exact ⟨rfl, rfl⟩
set_option maxRecDepth 100000 in
theorem clone_some (ad : Addr) (l : List Int) (c : Nat) (w : World) (hl : l.length ≤ 1000) (hr : RI w w.heap.size (some ad) l) :
    Calls Try.prog 26 #[.slice (some ad) l.length c] w fun e w' => ∃ A' c', e = .returned (.slice A' l.length c') ∧ l.length ≤ c' ∧ RI w' w'.heap.size A' l ∧ (∀ a, A' = some a → w.heap.size ≤ a.block) ∧ Below w.heap.size w w' := by
  have Hr := Lib.hid hr
  clear hr
  have hq : ∀ (n c : Nat) (w : World), (binOp .eql 22 (.slice (some ad) n c) (.slice none 0 0)).run Try.prog w = .ok (.bool false) w := fun _ _ _ => by kernel_rfl
  go_enter Try.func26, Try.ntmps26
  go_wp2_with (at_builtin; refine app_row rfl _ _ rfl w.heap.size l (some ad) c rfl rfl (fun h => by cases h) Hr.out hl (Nat.le_refl _) ?_)
  intro A' c' w' h1 h2 h4 h3
  have H4 := Lib.hid h4
  have H1 := Lib.hid h1
  have H2 := Lib.hid h2
  have H3 := Lib.hid h3
  clear h1 h2 h3 h4
  go_wp2_with fail
  go_ret
  exact ⟨A', c', rfl, H1.out, H2.out, H4.out, H3.out⟩
theorem clone_any (A : Option Addr) (l : List Int) (c : Nat) (w : World) (hnil : A = none → c = 0 ∧ l = []) (hl : l.length ≤ 1000) (hr : RI w w.heap.size A l) :
    Calls Try.prog 26 #[.slice A l.length c] w fun e w' => ∃ A' c', e = .returned (.slice A' l.length c') ∧ l.length ≤ c' ∧ RI w' w'.heap.size A' l ∧ (∀ a, A' = some a → w.heap.size ≤ a.block) ∧ Below w.heap.size w w' := by
  cases A with
  | none =>
    obtain ⟨rfl, rfl⟩ := hnil rfl
    refine (clone_nil w).mono ?_
    rintro e w' ⟨rfl, rfl⟩
    exact ⟨none, 0, rfl, Nat.le_refl _, RI.nil _ _ _, (fun a h => nomatch h), Below.refl _ _⟩
  | some ad => exact clone_some ad l c w hl hr

/-- a script of the program: how many it told, and which are left -/
def ScrB (w : World) (lo g : Nat) (u : Int) (rest : List Int) : Prop := ∃ A c, Blk w g 64 #[.int .i64 u, .slice A rest.length c] ∧ rest.length ≤ c ∧ RI w g A rest ∧ ∀ a, A = some a → lo ≤ a.block
theorem script_any (A : Option Addr) (l : List Int) (c : Nat) (w : World) (hnil : A = none → c = 0 ∧ l = []) (hl : l.length ≤ 1000) (hr : RI w w.heap.size A l) :
    Calls Try.prog 17 #[.slice A l.length c] w fun e w' => ∃ g, e = .returned (.iface 59 (.pointer (some ⟨g, 0, none⟩))) ∧ w.heap.size ≤ g ∧ ScrB w' w.heap.size g 0 l ∧ Below w.heap.size w w' := by
  have H := Lib.hid (clone_any A l c w hnil hl hr)
  clear hnil hr hl
  go_enter Try.func17, Try.ntmps17
  go_wp2_with fail
  refine H.out.mono ?_
  rintro e w' ⟨A', c', rfl, h1, h2, h4, h3⟩
  have H4 := Lib.hid h4
  have H1 := Lib.hid h1
  have H2 := Lib.hid h2
  have H3 := Lib.hid h3
  clear h1 h2 h3 h4
  go_wp2_with fail
  go_ret
  exact ⟨w'.heap.size, rfl, H3.out.size, ⟨A', c', Blk.new w' _ _, H1.out, H2.out.below ((Below.refl _ _).alloc (Nat.le_refl _) _) (Nat.le_refl _), H4.out⟩, H3.out.alloc H3.out.size _⟩
theorem mix_any (z : Int) (w : World) :
    Calls Try.prog 18 #[.int .i64 z] w fun e w' => ∃ g, e = .returned (.iface 65 (.pointer (some ⟨g, 0, none⟩))) ∧ w.heap.size ≤ g ∧ Blk w' g 67 #[.int .i64 0, .int .u64 (z % 18446744073709551616)] ∧ Below w.heap.size w w' := by
  go_enter Try.func18, Try.ntmps18
  go_wp2_with fail
  go_ret
  exact ⟨w.heap.size, rfl, Nat.le_refl _, Blk.new w _ _, (Below.refl _ _).alloc (Nat.le_refl _) _⟩

theorem used_any (g : Nat) (u : Int) (w : World) (h0 : w.cell? ⟨g, 0, none⟩ = some (.int .i64 u)) :
    Calls Try.prog 45 #[.pointer (some ⟨g, 0, none⟩)] w fun e w' => e = .returned (.int .i64 u) ∧ w = w' := by
  go_enter Try.func45, Try.ntmps45
  go_wp2_with fail
  go_ret
  exact ⟨rfl, rfl⟩
/-- a bound by which a number may be asked for -/
def isB (b : Int) : Prop := 1 ≤ b ∧ b ≤ 4294967296
theorem counts_no (g : Nat) (b : Int) (w : World) (hb : ¬ isB b) :
    Calls Try.prog 46 #[.pointer (some ⟨g, 0, none⟩), .int .i64 b] w fun e w' => e = .returned (.bool false) ∧ w = w' := by
  unfold isB at hb
  rcases (by omega : b < 1 ∨ (¬ b < 1 ∧ 4294967296 < b)) with h1 | ⟨h1, h2⟩
  all_goals
    clear hb
    go_enter Try.func46, Try.ntmps46
    go_wp2_with fail
    go_ret
    exact ⟨rfl, rfl⟩
theorem counts_yes (g : Nat) (b u : Int) (w : World) (hb : isB b) (h0 : w.cell? ⟨g, 0, none⟩ = some (.int .i64 u)) (hf : w.frozen? ⟨g, 0, none⟩ = false) (hu0 : 0 ≤ u) (hu : u ≤ 1000000) :
    Calls Try.prog 46 #[.pointer (some ⟨g, 0, none⟩), .int .i64 b] w fun e w' => e = .returned (.bool true) ∧ w' = w.setCell ⟨g, 0, none⟩ (.int .i64 (u + 1)) := by
  obtain ⟨hb1, hb2⟩ := hb
  have t1 : decide (b < 1) = false := decide_eq_false (by omega)
  have t2 : decide (4294967296 < b) = false := decide_eq_false (by omega)
  go_enter Try.func46, Try.ntmps46
  go_wp2_with fail
  go_ret
  exact ⟨rfl, rfl⟩
end Go.Proofs.Ytkccciacngjhfaa
