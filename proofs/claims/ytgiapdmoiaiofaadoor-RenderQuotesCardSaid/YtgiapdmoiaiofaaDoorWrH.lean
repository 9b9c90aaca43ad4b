/- A value's text; the fixed fact of layer 7: contracts. -/
import Derived.Test.YtgiapdmoiaiofaaDoorWrG
import Derived.Test.YtgiapdmoiaiofaaDoorAwake
import Derived.Test.YtgiapdmoiaiofaaDoorList
import Derived.Outline
namespace Go.Proofs.YtgiapdmoiaiofaaDoor
open Go.RowKit
set_option linter.unusedVariables false

theorem itoa_ne (n : Int) : Lib.itoa n ≠ [] := by
  intro e
  have h := (De.itoa_form n).1
  rw [e] at h
  revert h
  decide
theorem txt_ne (t : T) : t.txt ≠ [] := by
  rw [T.txt_eq]
  split
  · split <;> simp
  split
  · exact itoa_ne _
  split
  · unfold Q.quo; simp
  split
  · simp
  split
  · simp
  · simp
theorem wr_new2 (c0 : Array Value) (c2 c3 c4 c5 : Value) (w : World) : Wr w.heap.size (w.heap.size + 1) [] c2 c3 c4 c5 ((w.alloc (.cells c0 29)).alloc (.cells #[.pointer none, .slice none 0 0, c2, c3, c4, c5] 56)) := by
  refine ⟨Nat.le_succ _, .pointer none, .slice none 0 0, .inl rfl, ?_, rfl, .inl ⟨rfl, rfl⟩⟩
  have := Blk.new (w.alloc (.cells c0 29)) 56 #[.pointer none, .slice none 0 0, c2, c3, c4, c5]
  simpa using this
set_option maxHeartbeats 4000000 in
set_option maxRecDepth 100000 in
theorem rntext_any (t : T) (A : Option Addr) (c : Nat) (A' : Option Addr) (c' : Nat) (w : World) (hn : t.Fine) (ht : Lib.TabIs Tryd.prog w "internal/strconv.uint64pow10" .u64 Lib.pow10Tab) (hv : TV w (· < w.heap.size) t A c A' c') :
    Calls Tryd.prog 9 #[.agg #[.int .i64 t.kind, .bool t.tr, .int .i64 t.num, .string t.str, .slice A t.items.length c, .slice A' t.keys.length c']] w fun e w' => e = .returned (.string (mkB t.txt)) ∧ Below w.heap.size w w' := by
  have hsz := hn.size
  have HN := Lib.hid hn
  have HT := Lib.hid (tab_of ht)
  have HV := Lib.hid hv
  clear hn ht hv
  go_enter Tryd.func9, Tryd.ntmps9
  go_upto_region 2 with fail
  have hW := wr_new2 #[.int .i64 t.kind, .bool t.tr, .int .i64 t.num, .string t.str, .slice A t.items.length c, .slice A' t.keys.length c'] (.string ⟨#[58]⟩) (.func (.func 21) #[] #[]) (.int .i64 0) (.int .i64 0) w
  have hB0 : Blk ((w.alloc (.cells #[.int .i64 t.kind, .bool t.tr, .int .i64 t.num, .string t.str, .slice A t.items.length c, .slice A' t.keys.length c'] 29)).alloc (.cells #[.pointer none, .slice none 0 0, .string ⟨#[58]⟩, .func (.func 21) #[] #[], .int .i64 0, .int .i64 0] 56)) w.heap.size 29 #[.int .i64 t.kind, .bool t.tr, .int .i64 t.num, .string t.str, .slice A t.items.length c, .slice A' t.keys.length c'] := (Blk.new w _ _).alloc _
  have hb : Below w.heap.size w ((w.alloc (.cells #[.int .i64 t.kind, .bool t.tr, .int .i64 t.num, .string t.str, .slice A t.items.length c, .slice A' t.keys.length c'] 29)).alloc (.cells #[.pointer none, .slice none 0 0, .string ⟨#[58]⟩, .func (.func 21) #[] #[], .int .i64 0, .int .i64 0] 56)) := ((Below.refl _ _).alloc (Nat.le_refl _) _).alloc (by simp) _
  change Code.wp _ _ _ _ ((w.alloc (.cells #[.int .i64 t.kind, .bool t.tr, .int .i64 t.num, .string t.str, .slice A t.items.length c, .slice A' t.keys.length c'] 29)).alloc (.cells #[.pointer none, .slice none 0 0, .string ⟨#[58]⟩, .func (.func 21) #[] #[], .int .i64 0, .int .i64 0] 56))
  generalize ((w.alloc (.cells #[.int .i64 t.kind, .bool t.tr, .int .i64 t.num, .string t.str, .slice A t.items.length c, .slice A' t.keys.length c'] 29)).alloc (.cells #[.pointer none, .slice none 0 0, .string ⟨#[58]⟩, .func (.func 21) #[] #[], .int .i64 0, .int .i64 0] 56)) = W at *
  obtain ⟨a0, a1, a2, a3, a4, a5⟩ : W.cell? ⟨w.heap.size, 0, none⟩ = some (.int .i64 t.kind) ∧ W.cell? ⟨w.heap.size, 1, none⟩ = some (.bool t.tr) ∧ W.cell? ⟨w.heap.size, 2, none⟩ = some (.int .i64 t.num) ∧ W.cell? ⟨w.heap.size, 3, none⟩ = some (.string t.str) ∧ W.cell? ⟨w.heap.size, 4, none⟩ = some (.slice A t.items.length c) ∧ W.cell? ⟨w.heap.size, 5, none⟩ = some (.slice A' t.keys.length c') := ⟨hB0.cell 0, hB0.cell 1, hB0.cell 2, hB0.cell 3, hB0.cell 4, hB0.cell 5⟩
  have HW := Lib.hid hW
  have HB := Lib.hid hb
  clear hW hb hB0
  go_wp2_with fail
  refine (value_at 80 w.heap.size (w.heap.size + 1) [] 0 t A c A' c' _ hsz HN.out (Int.le_refl _) (by omega) (by simp; omega) (HT.out.on HB.out) (HV.out.under HB.out) HW.out HB.out.size).mono ?_
  rintro e w2 ⟨rfl, h2, k2⟩
  have H2 := Lib.hid h2
  have K2 := Lib.hid k2
  clear h2 k2
  go_wp2_with fail
  refine (string_any w.heap.size (w.heap.size + 1) t.txt _ _ _ _ _ H2.out (txt_ne t)).mono ?_
  rintro e w3 ⟨rfl, hb3⟩
  have H3 := Lib.hid (HB.out.trans (K2.out.1.trans hb3))
  clear hb3
  go_wp2_with fail
  go_ret
  exact ⟨rfl, H3.out⟩
theorem srt_ab : srt [sa, sb] = [sa, sb] := by
  have h : (([97] : List UInt8) ≤ [98]) := by decide
  simp [srt, sa, sb, List.mergeSort, h]
def t1 : T := T.ofList [T.ofNum 1]
def abN : T := .mk 5 false 0 ⟨#[]⟩ [t1, T.zero] [sa, sb]
theorem obj_ab : objT [sa, sb] [t1, T.zero] = abN := by
  unfold objT placed
  rw [srt_ab]
  rfl
end Go.Proofs.YtgiapdmoiaiofaaDoor
