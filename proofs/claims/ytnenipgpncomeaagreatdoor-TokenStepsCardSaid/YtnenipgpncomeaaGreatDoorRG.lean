/- The reference's All, and whether a token is the document's: contracts. -/
import Derived.Test.YtnenipgpncomeaaGreatDoorRF
import Derived.Test.YtnenipgpncomeaaGreatDoorLexN
namespace Go.Proofs.YtnenipgpncomeaaGreatDoor
open Go.RowKit
open Tk
open Pl
set_option linter.unusedVariables false

theorem infoT5 : (Tryz.prog.info? 33).map (fun i => (i.zero, i.size, i.bytes)) = some (some (.agg #[.int .i64 0, .string ⟨#[]⟩, .int .i64 0, .int .i64 0, .int .i64 0]), 5, 48) := by kernel_rfl
theorem own_kept5 {w w' : World} {base : Nat} {e : TypeId} {size n : Nat} {v : Value} {xs : List Value} (h : w.ownsRow base e size v n xs) (hb : Below w.heap.size w w') : w'.ownsRow base e size v n xs :=
  World.ownsRow.kept h (row := none) ⟨hb.os, hb.tape, hb.output, hb.size, fun a ha _ => hb.block a ha⟩ (by cases v <;> simp [Value.ownBlock] <;> split <;> simp)
set_option maxRecDepth 100000 in
set_option maxHeartbeats 8000000 in
theorem rall_any (s : ByteArray) (w : World) (hs : s.size ≤ 400) : Calls Tryz.prog 7 #[.string s] w (AllGives (all s 0 []) w) := by
  obtain ⟨i0, hi, hz0, hz1, hz2⟩ := info_parts infoT5
  generalize hfr : all s 0 [] = fr at *
  have HF := Lib.hid hfr
  clear hfr
  go_enter Tryz.func7, Tryz.ntmps7
  go_wp2_with fail
  go_loopw [5, 6] (fun v x wr => ∃ (i : Nat) (l : List Tok), i ≤ s.size ∧ l.length ≤ i ∧ all s i l = fr ∧ x = .int .i64 i ∧ wr.ownsRow w.heap.size 33 5 v l.length (toksCells l) ∧ Below w.heap.size w wr) (fun _ x _ => s.size + 1 - (intOf x).toNat)
  case atStart => exact ⟨0, [], Nat.zero_le _, Nat.le_refl _, HF.out, rfl, World.ownsRow_nil _ _ _ _, Below.refl _ _⟩
  case round =>
    obtain ⟨i, l, hil, hll, hfr, rfl, hown, hbel⟩ := hrel
    have HFR := Lib.hid hfr
    have HOWN := Lib.hid hown
    have HBEL := Lib.hid hbel
    clear hfr hown hbel
    go_wp2_with fail
    refine (rnext_any s i _ hs hil).mono ?_
    rintro e w2 ⟨rfl, hb2⟩
    have HB2 := Lib.hid (HBEL.out.trans (hb2.mono HBEL.out.size))
    have HO2 := Lib.hid (own_kept5 HOWN.out hb2)
    have hwz : w.heap.size ≤ w2.heap.size := HB2.out.size
    clear hb2 HBEL HOWN
    cases hn : next s i with
    | err p c =>
      have HE := Lib.hid (show fr = .bad p c from HFR.out.symm.trans (all_bad hil hn))
      have hc0 := err_num s (span isBl s i) p c hn
      have v1 : (c != 0) = true := by rw [bne_iff_ne]; omega
      have v2 : ¬ c = 0 := by omega
      clear hn hc0
      unfold Ans.val
      go_wp2_with fail
      go_ret3
      exact ⟨by rw [HE.out]; exact rfl, HB2.out.alloc hwz _⟩
    | tok t =>
      obtain ⟨-, h4, h5, h6, h7, h8⟩ := next_tok hil hn
      unfold Ans.val
      by_cases hk : t.kind = 0
      · have HE := Lib.hid (show fr = .toks (l ++ [t]) from HFR.out.symm.trans (all_end hil hn hk))
        have v3 : (t.kind == 0) = true := beq_iff_eq.2 hk
        clear hn hk h7 h8
        go_upto_region 6 with fail
        have hb3 : Below w2.heap.size w2 (w2.alloc (.cells #[.int .i64 t.kind, .string t.text, .int .i64 t.num, .int .i64 t.at_, .int .i64 t.fin] 33)) := (Below.refl _ _).alloc (Nat.le_refl _) _
        have hk3 : Blk (w2.alloc (.cells #[.int .i64 t.kind, .string t.text, .int .i64 t.num, .int .i64 t.at_, .int .i64 t.fin] 33)) w2.heap.size 33 #[.int .i64 t.kind, .string t.text, .int .i64 t.num, .int .i64 t.at_, .int .i64 t.fin] := Blk.new w2 _ _
        have ho3 := HO2.out.alloc (.cells #[.int .i64 t.kind, .string t.text, .int .i64 t.num, .int .i64 t.at_, .int .i64 t.fin] 33)
        change Code.wp _ _ _ _ (w2.alloc (.cells #[.int .i64 t.kind, .string t.text, .int .i64 t.num, .int .i64 t.at_, .int .i64 t.fin] 33))
        generalize (w2.alloc (.cells #[.int .i64 t.kind, .string t.text, .int .i64 t.num, .int .i64 t.at_, .int .i64 t.fin] 33)) = W3 at *
        have HB3 := Lib.hid (HB2.out.trans (hb3.mono hwz))
        have hKs : w2.heap.size < W3.heap.size := hk3.lt
        have HKN := Lib.hid (fun k hk => (HO2.out.lt k hk).2)
        generalize w2.heap.size = K at *
        have HK3 := Lib.hid hk3
        have HO3 := Lib.hid ho3
        have g0 := hk3.cell 0
        have g1 := hk3.cell 1
        have g2 := hk3.cell 2
        have g3 := hk3.cell 3
        have g4 := hk3.cell 4
        clear hb3 hk3 ho3 HO2 HB2
        have hwz3 : w.heap.size ≤ W3.heap.size := by omega
        go_wp2_with (at_builtin; refine wpList_append_own _ rfl _ _ 27 rfl w.heap.size 33 i0 (.agg #[.int .i64 0, .string ⟨#[]⟩, .int .i64 0, .int .i64 0, .int .i64 0]) 5 48 Tryz.underlying27 hi hz0 hz1 hz2 rfl (by decide) _ _ _ rfl (HO3.out.alloc _) ⟨W3.heap.size, 0, none⟩ 1 1 t.cells rfl rfl ?c1 ?c2 ?c3 ?c4 ?c5 ?_)
        case c1 =>
          intro a u hu
          match a, hu with
          | 0, hu => simp [Tok.cells] at hu; subst hu; simp [Addr.add]
          | 1, hu => simp [Tok.cells] at hu; subst hu; simp [Addr.add]
          | 2, hu => simp [Tok.cells] at hu; subst hu; simp [Addr.add]
          | 3, hu => simp [Tok.cells] at hu; subst hu; simp [Addr.add]
          | 4, hu => simp [Tok.cells] at hu; subst hu; simp [Addr.add]
        case c2 =>
          intro u hu
          simp [Tok.cells] at hu
          rcases hu with rfl | rfl | rfl | rfl | rfl <;> rfl
        case c3 => unfold maxLen; omega
        case c4 => omega
        case c5 => simp; omega
        intro v' w4 hown4 hgrow _
        have HO4 := Lib.hid hown4
        have hBa := HB3.out.alloc hwz3 (.cells #[.int .i64 t.kind, .string t.text, .int .i64 t.num, .int .i64 t.at_, .int .i64 t.fin] 33)
        have HB4 := Lib.hid (hBa.grown hgrow (by simp; omega) (fun k hk => ((HO3.out.lt k hk).1)))
        have hKa := HK3.out.alloc (.cells #[.int .i64 t.kind, .string t.text, .int .i64 t.num, .int .i64 t.at_, .int .i64 t.fin] 33)
        have hk4 : Blk w4 K 33 #[.int .i64 t.kind, .string t.text, .int .i64 t.num, .int .i64 t.at_, .int .i64 t.fin] := (hgrow.block K (by simp; omega) (fun e => absurd (HKN.out K e.symm) (by omega))).trans hKa
        have q0 := hk4.cell 0
        have q4 := hk4.cell 4
        clear hown4 hgrow hBa hKa g0 g1 g2 g3 g4 hk4
        go_wp2_with fail
        have hO4 := HO4.out
        rw [← toksCells_snoc, show l.length + 1 = (l ++ [t]).length by simp] at hO4
        obtain ⟨A, c, hv, hc, hrd⟩ := own_treads hO4
        subst hv
        go_ret3
        exact ⟨by rw [HE.out]; exact ⟨A, c, rfl, hc, hrd⟩, HB4.out⟩
      · have HE := Lib.hid (show all s t.fin (l ++ [t]) = fr from (all_more hil hn hk).symm.trans HFR.out)
        have v3 : (t.kind == 0) = false := beq_eq_false_iff_ne.2 hk
        have h9 := h8 hk
        clear hn hk h7 h8
        go_upto_region 6 with fail
        have hb3 : Below w2.heap.size w2 (w2.alloc (.cells #[.int .i64 t.kind, .string t.text, .int .i64 t.num, .int .i64 t.at_, .int .i64 t.fin] 33)) := (Below.refl _ _).alloc (Nat.le_refl _) _
        have hk3 : Blk (w2.alloc (.cells #[.int .i64 t.kind, .string t.text, .int .i64 t.num, .int .i64 t.at_, .int .i64 t.fin] 33)) w2.heap.size 33 #[.int .i64 t.kind, .string t.text, .int .i64 t.num, .int .i64 t.at_, .int .i64 t.fin] := Blk.new w2 _ _
        have ho3 := HO2.out.alloc (.cells #[.int .i64 t.kind, .string t.text, .int .i64 t.num, .int .i64 t.at_, .int .i64 t.fin] 33)
        change Code.wp _ _ _ _ (w2.alloc (.cells #[.int .i64 t.kind, .string t.text, .int .i64 t.num, .int .i64 t.at_, .int .i64 t.fin] 33))
        generalize (w2.alloc (.cells #[.int .i64 t.kind, .string t.text, .int .i64 t.num, .int .i64 t.at_, .int .i64 t.fin] 33)) = W3 at *
        have HB3 := Lib.hid (HB2.out.trans (hb3.mono hwz))
        have hKs : w2.heap.size < W3.heap.size := hk3.lt
        have HKN := Lib.hid (fun k hk => (HO2.out.lt k hk).2)
        generalize w2.heap.size = K at *
        have HK3 := Lib.hid hk3
        have HO3 := Lib.hid ho3
        have g0 := hk3.cell 0
        have g1 := hk3.cell 1
        have g2 := hk3.cell 2
        have g3 := hk3.cell 3
        have g4 := hk3.cell 4
        clear hb3 hk3 ho3 HO2 HB2
        have hwz3 : w.heap.size ≤ W3.heap.size := by omega
        go_wp2_with (at_builtin; refine wpList_append_own _ rfl _ _ 27 rfl w.heap.size 33 i0 (.agg #[.int .i64 0, .string ⟨#[]⟩, .int .i64 0, .int .i64 0, .int .i64 0]) 5 48 Tryz.underlying27 hi hz0 hz1 hz2 rfl (by decide) _ _ _ rfl (HO3.out.alloc _) ⟨W3.heap.size, 0, none⟩ 1 1 t.cells rfl rfl ?c1 ?c2 ?c3 ?c4 ?c5 ?_)
        case c1 =>
          intro a u hu
          match a, hu with
          | 0, hu => simp [Tok.cells] at hu; subst hu; simp [Addr.add]
          | 1, hu => simp [Tok.cells] at hu; subst hu; simp [Addr.add]
          | 2, hu => simp [Tok.cells] at hu; subst hu; simp [Addr.add]
          | 3, hu => simp [Tok.cells] at hu; subst hu; simp [Addr.add]
          | 4, hu => simp [Tok.cells] at hu; subst hu; simp [Addr.add]
        case c2 =>
          intro u hu
          simp [Tok.cells] at hu
          rcases hu with rfl | rfl | rfl | rfl | rfl <;> rfl
        case c3 => unfold maxLen; omega
        case c4 => omega
        case c5 => simp; omega
        intro v' w4 hown4 hgrow _
        have HO4 := Lib.hid hown4
        have hBa := HB3.out.alloc hwz3 (.cells #[.int .i64 t.kind, .string t.text, .int .i64 t.num, .int .i64 t.at_, .int .i64 t.fin] 33)
        have HB4 := Lib.hid (hBa.grown hgrow (by simp; omega) (fun k hk => ((HO3.out.lt k hk).1)))
        have hKa := HK3.out.alloc (.cells #[.int .i64 t.kind, .string t.text, .int .i64 t.num, .int .i64 t.at_, .int .i64 t.fin] 33)
        have hk4 : Blk w4 K 33 #[.int .i64 t.kind, .string t.text, .int .i64 t.num, .int .i64 t.at_, .int .i64 t.fin] := (hgrow.block K (by simp; omega) (fun e => absurd (HKN.out K e.symm) (by omega))).trans hKa
        have q0 := hk4.cell 0
        have q4 := hk4.cell 4
        clear hown4 hgrow hBa hKa g0 g1 g2 g3 g4 hk4
        go_wp2_with fail
        go_roundw
        case rel => exact ⟨t.fin, l ++ [t], h6, by simp; omega, HE.out, rfl, by rw [toksCells_snoc, show (l ++ [t]).length = l.length + 1 by simp]; exact HO4.out, HB4.out⟩
        case measure => simp [intOf]; omega
set_option maxRecDepth 100000 in
theorem lis_any (t : Tok) (w : World) : Calls Tryz.prog 8 #[.agg #[.int .i64 t.kind, .string t.text, .int .i64 t.num, .int .i64 t.at_, .int .i64 t.fin], .agg #[.int .i64 t.kind, .string t.text, .int .i64 t.num, .int .i64 t.at_, .int .i64 t.fin]] w fun e w' => e = .returned (.bool true) ∧ Below w.heap.size w w' := by
  go_enter Tryz.func8, Tryz.ntmps8
  go_wp2_with fail
  go_ret
  exact ⟨rfl, ((Below.refl _ _).alloc (Nat.le_refl _) _).alloc (by simp) _⟩
end Go.Proofs.YtnenipgpncomeaaGreatDoor
