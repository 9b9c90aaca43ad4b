/- A text's text: contract. -/
import Derived.Test.YtgiapdmoiaiofaaDoorWrI
import Derived.Test.YtgiapdmoiaiofaaDoorRquo
import Derived.Outline
namespace Go.Proofs.YtgiapdmoiaiofaaDoor
open Go.RowKit
set_option linter.unusedVariables false

set_option maxRecDepth 100000 in
set_option maxHeartbeats 4000000 in
theorem wvalue_str (B b : Nat) (l : List UInt8) (c2 c3 c4 c5 : Value) (s : ByteArray) (w : World) (hs : s.size ≤ 1000) (hlen : l.length ≤ 600000) (h : Wr B b l c2 c3 c4 c5 w) (hBw : B ≤ w.heap.size) :
    Calls Tryd.prog 22 #[.pointer (some ⟨b, 0, none⟩), .agg #[.int .i64 3, .bool false, .int .i64 0, .string s, .slice none 0 0, .slice none 0 0]] w (Wrote B b l (Q.quo s.data.toList) c2 c3 c4 c5 w) := by
  have hbb : Below w.heap.size w (w.alloc (.cells #[.int .i64 3, .bool false, .int .i64 0, .string s, .slice none 0 0, .slice none 0 0] 29)) := (Below.refl _ _).alloc (Nat.le_refl _) _
  have hB0 : Blk (w.alloc (.cells #[.int .i64 3, .bool false, .int .i64 0, .string s, .slice none 0 0, .slice none 0 0] 29)) w.heap.size 29 #[.int .i64 3, .bool false, .int .i64 0, .string s, .slice none 0 0, .slice none 0 0] := Blk.new w _ _
  have HW := Lib.hid (h.on hbb)
  have HK := Lib.hid (Kept.of (b := b) hbb hBw)
  have hs1 := Nat.le_trans hBw hbb.size
  clear h
  go_enter Tryd.func22, Tryd.ntmps22
  go_upto_region 1 with fail
  change Code.wp _ _ _ _ (w.alloc (.cells #[.int .i64 3, .bool false, .int .i64 0, .string s, .slice none 0 0, .slice none 0 0] 29))
  generalize (w.alloc (.cells #[.int .i64 3, .bool false, .int .i64 0, .string s, .slice none 0 0, .slice none 0 0] 29)) = W at *
  have a0 : W.cell? ⟨w.heap.size, 0, none⟩ = some (.int .i64 3) := hB0.cell 0
  have a3 : W.cell? ⟨w.heap.size, 3, none⟩ = some (.string s) := hB0.cell 3
  clear hB0 hbb
  go_wp2_with fail
  refine (quote_any7 B b l _ _ _ _ s _ HW.out (by omega) hs hs1).mono ?_
  rintro e w9 ⟨rfl, h9, k9⟩
  have H9 := Lib.hid h9
  have K9 := Lib.hid (HK.out.trans k9)
  clear h9 k9
  go_wp2_with fail
  go_end0
  exact ⟨rfl, H9.out, K9.out⟩
set_option maxHeartbeats 4000000 in
set_option maxRecDepth 100000 in
theorem rntext_str (s : ByteArray) (w : World) (hs : s.size ≤ 1000) :
    Calls Tryd.prog 9 #[.agg #[.int .i64 3, .bool false, .int .i64 0, .string s, .slice none 0 0, .slice none 0 0]] w fun e w' => e = .returned (.string (mkB (Q.quo s.data.toList))) ∧ Below w.heap.size w w' := by
  go_enter Tryd.func9, Tryd.ntmps9
  go_upto_region 2 with fail
  have hW := wr_new2 #[.int .i64 3, .bool false, .int .i64 0, .string s, .slice none 0 0, .slice none 0 0] (.string ⟨#[58]⟩) (.func (.func 21) #[] #[]) (.int .i64 0) (.int .i64 0) w
  have hB0 : Blk ((w.alloc (.cells #[.int .i64 3, .bool false, .int .i64 0, .string s, .slice none 0 0, .slice none 0 0] 29)).alloc (.cells #[.pointer none, .slice none 0 0, .string ⟨#[58]⟩, .func (.func 21) #[] #[], .int .i64 0, .int .i64 0] 56)) w.heap.size 29 #[.int .i64 3, .bool false, .int .i64 0, .string s, .slice none 0 0, .slice none 0 0] := (Blk.new w _ _).alloc _
  have hb : Below w.heap.size w ((w.alloc (.cells #[.int .i64 3, .bool false, .int .i64 0, .string s, .slice none 0 0, .slice none 0 0] 29)).alloc (.cells #[.pointer none, .slice none 0 0, .string ⟨#[58]⟩, .func (.func 21) #[] #[], .int .i64 0, .int .i64 0] 56)) := ((Below.refl _ _).alloc (Nat.le_refl _) _).alloc (by simp) _
  change Code.wp _ _ _ _ ((w.alloc (.cells #[.int .i64 3, .bool false, .int .i64 0, .string s, .slice none 0 0, .slice none 0 0] 29)).alloc (.cells #[.pointer none, .slice none 0 0, .string ⟨#[58]⟩, .func (.func 21) #[] #[], .int .i64 0, .int .i64 0] 56))
  generalize ((w.alloc (.cells #[.int .i64 3, .bool false, .int .i64 0, .string s, .slice none 0 0, .slice none 0 0] 29)).alloc (.cells #[.pointer none, .slice none 0 0, .string ⟨#[58]⟩, .func (.func 21) #[] #[], .int .i64 0, .int .i64 0] 56)) = W at *
  obtain ⟨a0, a1, a2, a3, a4, a5⟩ : W.cell? ⟨w.heap.size, 0, none⟩ = some (.int .i64 3) ∧ W.cell? ⟨w.heap.size, 1, none⟩ = some (.bool false) ∧ W.cell? ⟨w.heap.size, 2, none⟩ = some (.int .i64 0) ∧ W.cell? ⟨w.heap.size, 3, none⟩ = some (.string s) ∧ W.cell? ⟨w.heap.size, 4, none⟩ = some (.slice none 0 0) ∧ W.cell? ⟨w.heap.size, 5, none⟩ = some (.slice none 0 0) := ⟨hB0.cell 0, hB0.cell 1, hB0.cell 2, hB0.cell 3, hB0.cell 4, hB0.cell 5⟩
  have HW := Lib.hid hW
  have HB := Lib.hid hb
  clear hW hb hB0
  go_wp2_with fail
  refine (wvalue_str w.heap.size (w.heap.size + 1) [] _ _ _ _ s _ hs (by simp) HW.out HB.out.size).mono ?_
  rintro e w2 ⟨rfl, h2, k2⟩
  have H2 := Lib.hid h2
  have K2 := Lib.hid k2
  clear h2 k2
  go_wp2_with fail
  refine (string_any w.heap.size (w.heap.size + 1) (Q.quo s.data.toList) _ _ _ _ _ H2.out (by unfold Q.quo; simp)).mono ?_
  rintro e w3 ⟨rfl, hb3⟩
  have H3 := Lib.hid (HB.out.trans (K2.out.1.trans hb3))
  clear hb3
  go_wp2_with fail
  go_ret
  exact ⟨rfl, H3.out⟩
end Go.Proofs.YtgiapdmoiaiofaaDoor
