/- A text in quotation marks: contracts. -/
import Derived.Test.YtgiapdmoiaiofaaDoorWrC
import Derived.Outline
namespace Go.Proofs.YtgiapdmoiaiofaaDoor
open Go.RowKit
set_option linter.unusedVariables false

def mkB (l : List UInt8) : ByteArray := ⟨l.toArray⟩
def QuotePost (B b : Nat) (l : List UInt8) (s : ByteArray) (c2 c3 c4 c5 : Value) (w : World) (e : Ending) (w' : World) : Prop := e = .returned (.tuple #[]) ∧ Wr B b (l ++ Q.quo s.data.toList) c2 c3 c4 c5 w' ∧ Kept B b w w'
theorem take_flat {s : ByteArray} {j : Nat} (hj : j < s.size) : (s.data.toList.take (j + 1)).flatMap Q.esc = (s.data.toList.take j).flatMap Q.esc ++ Q.esc s[j] := by
  have h : s.data.toList[j]? = some s[j] := by
    rw [Array.getElem?_toList]
    exact Array.getElem?_eq_getElem (by simpa using hj)
  rw [List.take_add_one, h, List.flatMap_append]
  simp
theorem flat_take_len (l : List UInt8) (j : Nat) (n : Nat) (h : l.length ≤ n) : ((l.take j).flatMap Q.esc).length ≤ 6 * n := by
  have := Q.flat_len (l.take j)
  have h2 : (l.take j).length ≤ l.length := by rw [List.length_take]; omega
  omega
set_option maxHeartbeats 4000000 in
set_option maxRecDepth 100000 in
theorem quote_any7 (B b : Nat) (l : List UInt8) (c2 c3 c4 c5 : Value) (s : ByteArray) (w : World) (h : Wr B b l c2 c3 c4 c5 w) (hlen : l.length ≤ 700000) (hs : s.size ≤ 1000) (hBw : B ≤ w.heap.size) :
    Calls Tryd.prog 19 #[.pointer (some ⟨b, 0, none⟩), .string s] w (QuotePost B b l s c2 c3 c4 c5 w) := by
  have H := Lib.hid h
  clear h
  go_enter Tryd.func19, Tryd.ntmps19
  go_wp2_with fail
  refine (wstr_any B b l c2 c3 c4 c5 ⟨#[34]⟩ _ H.out (by show l.length + 1 ≤ 900000; omega) hBw).mono ?_
  rintro e w1 ⟨rfl, h1, k1⟩
  have H1 := Lib.hid (show Wr B b (l ++ [34]) c2 c3 c4 c5 w1 from h1)
  have K1 := Lib.hid k1
  clear h1 k1
  go_wp2_with fail
  go_loopw [11] (fun x wr => ∃ j : Nat, j ≤ s.size ∧ x = .int .i64 j ∧ Wr B b (l ++ ([34] ++ (s.data.toList.take j).flatMap Q.esc)) c2 c3 c4 c5 wr ∧ Kept B b w wr) (fun x _ => s.size - (intOf x).toNat)
  case atStart => exact ⟨0, Nat.zero_le _, rfl, by simpa using H1.out, K1.out⟩
  case round =>
    obtain ⟨j, hj, rfl, hwr, hk⟩ := hrel
    have HR := Lib.hid hwr
    have HK := Lib.hid hk
    have hsr := Nat.le_trans hBw (Kept.size hk)
    have hfl := flat_take_len s.data.toList j s.size (by simp)
    clear hwr hk
    by_cases hlt : j < s.size
    · have u1 : decide (j < s.size) = true := decide_eq_true hlt
      have u2 : decide ((j : Int) < (s.size : Int)) = true := decide_eq_true (by omega)
      have i1 : (j : Int) < (s.size : Int) := by omega
      have i2 : (0 : Int) ≤ (j : Int) := by omega
      go_wp2_with fail
      refine (char_any7 s[j] B b _ c2 c3 c4 c5 _ HR.out (by simp only [List.length_append, List.length_singleton]; omega) hsr).mono ?_
      rintro e w2 ⟨rfl, h2, k2⟩
      have H2 := Lib.hid h2
      have K2 := Lib.hid (HK.out.trans k2)
      clear h2 k2
      go_wp2_with fail
      go_roundw
      case rel => exact ⟨j + 1, hlt, by go_num, by rw [take_flat hlt]; have := H2.out; simpa only [List.append_assoc] using this, K2.out⟩
      case measure => simp [intOf]; omega
    · have u1 : decide (j < s.size) = false := decide_eq_false hlt
      have u2 : decide ((j : Int) < (s.size : Int)) = false := decide_eq_false (by omega)
      have hfull : s.data.toList.take j = s.data.toList := List.take_of_length_le (by simp; omega)
      have HF := Lib.hid (show Wr B b (l ++ ([34] ++ s.data.toList.flatMap Q.esc)) c2 c3 c4 c5 wr from hfull ▸ HR.out)
      rw [hfull] at hfl
      clear hfull HR
      go_wp2_with fail
      refine (wstr_any B b _ c2 c3 c4 c5 ⟨#[34]⟩ _ HF.out (by show (l ++ ([34] ++ s.data.toList.flatMap Q.esc)).length + 1 ≤ 900000; simp only [List.length_append, List.length_singleton]; omega) hsr).mono ?_
      rintro e w3 ⟨rfl, h3, k3⟩
      have H3 := Lib.hid h3
      have K3 := Lib.hid (HK.out.trans k3)
      clear h3 k3
      go_wp2_with fail
      go_end0
      refine ⟨rfl, ?_, K3.out⟩
      have := H3.out
      unfold Q.quo
      simpa only [List.append_assoc, List.singleton_append, List.cons_append, List.nil_append] using this
theorem wr_new (c2 c3 c4 c5 : Value) (w : World) : Wr w.heap.size w.heap.size [] c2 c3 c4 c5 (w.alloc (.cells #[.pointer none, .slice none 0 0, c2, c3, c4, c5] 56)) :=
  ⟨Nat.le_refl _, .pointer none, .slice none 0 0, .inl rfl, Blk.new w _ _, rfl, .inl ⟨rfl, rfl⟩⟩
set_option maxHeartbeats 4000000 in
set_option maxRecDepth 100000 in
theorem rnquote_any (s : ByteArray) (w : World) (hs : s.size ≤ 1000) :
    Calls Tryd.prog 7 #[.string s] w fun e w' => e = .returned (.string (mkB (Q.quo s.data.toList))) ∧ Below w.heap.size w w' := by
  go_enter Tryd.func7, Tryd.ntmps7
  go_upto_region 2 with fail
  have hW := Lib.hid (wr_new (.string ⟨#[]⟩) .nilFunc (.int .i64 0) (.int .i64 0) w)
  have hb := Lib.hid (show Below w.heap.size w (w.alloc (.cells #[.pointer none, .slice none 0 0, .string ⟨#[]⟩, .nilFunc, .int .i64 0, .int .i64 0] 56)) from (Below.refl _ _).alloc (Nat.le_refl _) _)
  change Code.wp _ _ _ _ (w.alloc (.cells #[.pointer none, .slice none 0 0, .string ⟨#[]⟩, .nilFunc, .int .i64 0, .int .i64 0] 56))
  generalize (w.alloc (.cells #[.pointer none, .slice none 0 0, .string ⟨#[]⟩, .nilFunc, .int .i64 0, .int .i64 0] 56)) = W at *
  go_wp2_with fail
  refine (quote_any7 w.heap.size w.heap.size [] _ _ _ _ s _ hW.out (by simp) hs hb.out.size).mono ?_
  rintro e w2 ⟨rfl, h2, k2⟩
  have H2 := Lib.hid h2
  have K2 := Lib.hid k2
  clear h2 k2
  go_wp2_with fail
  refine (string_any w.heap.size w.heap.size (Q.quo s.data.toList) _ _ _ _ _ H2.out (by unfold Q.quo; simp)).mono ?_
  rintro e w3 ⟨rfl, hb3⟩
  have H3 := Lib.hid (hb.out.trans (K2.out.1.trans hb3))
  clear hb3
  go_wp2_with fail
  go_ret
  exact ⟨rfl, H3.out⟩
end Go.Proofs.YtgiapdmoiaiofaaDoor
