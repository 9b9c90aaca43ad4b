/- The lexer's All and New: contracts. -/
import Derived.Test.YtnenipgpncomeaaDoorLexM
import Derived.Test.YtnenipgpncomeaaDoorTokAll
import Derived.Laws.AppendOwn
import Derived.OwnWalk
namespace Go.Proofs.YtnenipgpncomeaaDoor
open Go.RowKit
open Tk
open Pl
set_option linter.unusedVariables false

theorem infoTok : (Tryd.prog.info? 28).map (fun i => (i.zero, i.size, i.bytes)) = some (some (.agg #[.int .i64 0, .string ⟨#[]⟩, .int .i64 0, .int .i64 0, .int .i64 0]), 5, 48) := by kernel_rfl
theorem new_any5 (s : ByteArray) (w : World) : Calls Tryd.prog 16 #[.string s] w fun e w' => e = .returned (.pointer (some ⟨w.heap.size, 0, none⟩)) ∧ w' = w.alloc (.cells #[.string s, .int .i64 0] 54) := by
  go_enter Tryd.func16, Tryd.ntmps16
  go_wp2_with fail
  go_ret
  exact ⟨rfl, rfl⟩
def Tk.Tok.cells (t : Tok) : List Value := [.int .i64 t.kind, .string t.text, .int .i64 t.num, .int .i64 t.at_, .int .i64 t.fin]
def Tk.toksCells (l : List Tok) : List Value := l.flatMap Tok.cells
theorem toksCells_snoc (l : List Tok) (t : Tok) : toksCells (l ++ [t]) = toksCells l ++ t.cells := by simp [toksCells]
theorem toksCells_at (l : List Tok) : ∀ (i j : Nat) (t : Tok), l[i]? = some t → j < 5 → (toksCells l)[5 * i + j]? = t.cells[j]? := by
  induction l with
  | nil => intro i j t h _; cases h
  | cons a l ih =>
    intro i j t h hj
    have e : toksCells (a :: l) = a.cells ++ toksCells l := by simp [toksCells]
    have hl : a.cells.length = 5 := rfl
    rw [e]
    cases i with
    | zero =>
      simp at h; subst h
      rw [List.getElem?_append_left (by omega)]
      congr 1; omega
    | succ i =>
      simp at h
      rw [List.getElem?_append_right (by omega), hl, ← ih i j t h hj]
      congr 1; omega
theorem add_lit5 (b o i : Nat) : (⟨b, o, none⟩ : Addr).add i = ⟨b, o + i, none⟩ := by unfold Addr.add; split <;> simp_all
/-- a slice of tokens l, from a block's first cell on -/
def TReads (w : World) (B : Nat) (A : Option Addr) (l : List Tok) : Prop :=
  l ≠ [] → ∃ b, A = some ⟨b, 0, none⟩ ∧ b < B ∧ ∀ i t, l[i]? = some t → w.cell? ⟨b, 5 * i, none⟩ = some (.int .i64 t.kind) ∧ w.cell? ⟨b, 5 * i + 1, none⟩ = some (.string t.text) ∧ w.cell? ⟨b, 5 * i + 2, none⟩ = some (.int .i64 t.num) ∧ w.cell? ⟨b, 5 * i + 3, none⟩ = some (.int .i64 t.at_) ∧ w.cell? ⟨b, 5 * i + 4, none⟩ = some (.int .i64 t.fin)
theorem own_treads {w : World} {base : Nat} {v : Value} {l : List Tok} {ty : TypeId} (h : w.ownsRow base ty 5 v l.length (toksCells l)) : ∃ A c, v = .slice A l.length c ∧ l.length ≤ c ∧ TReads w w.heap.size A l := by
  have h0 := h
  rcases h.2 with ⟨rfl, h1⟩ | ⟨g, cap, cur, rfl, h1, hh, h3, h4⟩
  · obtain rfl : l = [] := List.eq_nil_of_length_eq_zero h1
    exact ⟨none, 0, rfl, Nat.le_refl _, fun h => absurd rfl h⟩
  · have hg : g < w.heap.size := (Array.getElem?_eq_some_iff.1 hh).1
    refine ⟨_, cap, rfl, h3, fun _ => ⟨g, rfl, hg, fun i t ht => ?_⟩⟩
    have key : ∀ j u, j < 5 → t.cells[j]? = some u → w.cell? ⟨g, 5 * i + j, none⟩ = some u := fun j u hj hu => by
      have := h0.cells (g := g) rfl (5 * i + j) u ((toksCells_at l i j t ht hj).trans hu)
      rwa [add_lit5, Nat.zero_add] at this
    exact ⟨key 0 _ (by decide) rfl, key 1 _ (by decide) rfl, key 2 _ (by decide) rfl, key 3 _ (by decide) rfl, key 4 _ (by decide) rfl⟩
theorem TReads.on {w w' : World} {A : Option Addr} {l : List Tok} (h : TReads w w.heap.size A l) (hb : Below w.heap.size w w') : TReads w' w'.heap.size A l := by
  intro hn
  obtain ⟨b, e, hlt, hc⟩ := h hn
  refine ⟨b, e, Nat.lt_of_lt_of_le hlt hb.size, fun i t ht => ?_⟩
  obtain ⟨c0, c1, c2, c3, c4⟩ := hc i t ht
  exact ⟨(hb.cell (p := ⟨b, 5 * i, none⟩) hlt).trans c0, (hb.cell (p := ⟨b, 5 * i + 1, none⟩) hlt).trans c1, (hb.cell (p := ⟨b, 5 * i + 2, none⟩) hlt).trans c2, (hb.cell (p := ⟨b, 5 * i + 3, none⟩) hlt).trans c3, (hb.cell (p := ⟨b, 5 * i + 4, none⟩) hlt).trans c4⟩
theorem all_code {s : ByteArray} {p : Nat} {c : Int} (h : all s 0 [] = .bad p c) : c = 1 ∨ c = 2 ∨ c = 3 ∨ c = 4 := by
  have key : ∀ n i acc, allF s n i acc = .bad p c → c = 1 ∨ c = 2 ∨ c = 3 ∨ c = 4 := by
    intro n
    induction n with
    | zero => intro i acc h; unfold allF at h; injection h with _ h; omega
    | succ n ih =>
      intro i acc h
      unfold allF at h
      split at h
      · split at h
        · cases h
        · exact ih _ _ h
      · rename_i q d hq
        injection h with _ h
        subst h
        exact err_num s _ _ _ hq
  exact key _ _ _ h
def AllGives (r : Al) (w : World) (e : Ending) (w' : World) : Prop :=
  (match r with
    | .toks l => ∃ A c, e = .returned (.tuple #[.slice A l.length c, .int .i64 0, .int .i64 0]) ∧ l.length ≤ c ∧ TReads w' w'.heap.size A l
    | .bad p c => e = .returned (.tuple #[.slice none 0 0, .int .i64 p, .int .i64 c])) ∧ Below w.heap.size w w'
def lxAt (w : World) (b : Nat) : Nat := match w.cell? ⟨b, 1, none⟩ with | some v => (intOf v).toNat | none => 0
theorem Lx.at_ {w : World} {b : Nat} {s : ByteArray} {i : Nat} (h : Lx w b s i) : lxAt w b = i := by
  unfold lxAt
  rw [show w.cell? ⟨b, 1, none⟩ = some (.int .i64 i) from Blk.cell h 1]
  simp [intOf]
theorem own_ne5 {w : World} {base : Nat} {e t : TypeId} {size n : Nat} {v : Value} {xs : List Value} {g : Nat} {cs : Array Value} {fz : Nat × Nat}
    (h : w.ownsRow base e size v n xs) (hg : w.heap[g]? = some (.cells cs t fz)) (hne : e ≠ t) : some g ≠ v.ownBlock := by
  rcases h.2 with ⟨rfl, _⟩ | ⟨g', cap, cur, rfl, _, hh, _⟩
  · simp [Value.ownBlock]
  · intro he
    have e1 : g = g' := by simpa [Value.ownBlock] using he
    rw [e1, hh] at hg
    injection hg with hg
    injection hg with _ h2 _
    exact hne h2
theorem Aside.own {b : Nat} {w w' : World} (h : Aside b w w') {base : Nat} {e t : TypeId} {size n : Nat} {v : Value} {xs : List Value} (ho : w.ownsRow base e size v n xs) {cs : Array Value} (hb : Blk w b t cs) (hne : e ≠ t) : w'.ownsRow base e size v n xs :=
  World.ownsRow.kept ho (row := some b) ⟨h.os, h.tape, h.output, h.size, fun a h1 h2 => h.block a h1 (fun e => h2 (by rw [e]))⟩ (.inr (Ne.symm (own_ne5 ho hb hne)))
set_option maxRecDepth 100000 in
set_option maxHeartbeats 8000000 in
theorem all_any5 (s : ByteArray) (w : World) (hs : s.size ≤ 90000) (hr : RangeErr w) : Calls Tryd.prog 8 #[.string s] w (AllGives (all s 0 []) w) := by
  obtain ⟨i0, hi, hz0, hz1, hz2⟩ := info_parts infoTok
  generalize hfr : all s 0 [] = fr at *
  have HF := Lib.hid hfr
  have HR := Lib.hid hr
  clear hfr hr
  go_enter Tryd.func8, Tryd.ntmps8
  go_wp2_with fail
  refine (new_any5 s _).mono ?_
  rintro e w1 ⟨rfl, hw1⟩
  have hb1 : Below w.heap.size w w1 := by rw [hw1]; exact (Below.refl _ _).alloc (Nat.le_refl _) _
  have hl1 : Lx w1 w.heap.size s 0 := by rw [hw1]; exact Blk.new w _ _
  have HB1 := Lib.hid hb1
  have HL1 := Lib.hid hl1
  clear hw1 hb1 hl1
  generalize hbb : w.heap.size = b at *
  have HBB := Lib.hid hbb
  clear hbb
  go_wp2_with fail
  go_loopw [5] (fun v wr => ∃ (i : Nat) (l : List Tok), i ≤ s.size ∧ l.length ≤ i ∧ all s i l = fr ∧ Lx wr b s i ∧ wr.ownsRow b 28 5 v l.length (toksCells l) ∧ Below b w wr) (fun _ wr => s.size + 1 - lxAt wr b)
  case atStart => exact ⟨0, [], Nat.zero_le _, Nat.le_refl _, HF.out, HL1.out, World.ownsRow_nil _ _ _ _, HB1.out⟩
  case round =>
    obtain ⟨i, l, hil, hll, hfr, hlx, hown, hbel⟩ := hrel
    have HFR := Lib.hid hfr
    have HLX := Lib.hid hlx
    have HOWN := Lib.hid hown
    have HBEL := Lib.hid hbel
    have HRW := Lib.hid (HR.out.on (hbel.mono (Nat.le_of_eq HBB.out)))
    clear hfr hlx hown hbel
    go_wp2_with fail
    refine (next_any5 b s i _ hs HLX.out hil HRW.out).mono ?_
    rintro e w2 ⟨rfl, ha2, hl2⟩
    have HA := Lib.hid ha2
    have HL2 := Lib.hid hl2
    have hbw : b < wr.heap.size := HLX.out.lt
    have HB2 := Lib.hid (ha2.below HBEL.out (Nat.le_refl b) (Nat.le_of_lt hbw))
    have HO2 := Lib.hid (ha2.own HOWN.out HLX.out (by decide))
    have hsz2 : wr.heap.size ≤ w2.heap.size := ha2.size
    have HAT := Lib.hid (show lxAt wr b = i from HLX.out.at_)
    clear ha2 hl2
    cases hn : next s i with
    | err p c =>
      have HE := Lib.hid (show fr = .bad p c from HFR.out.symm.trans (all_bad hil hn))
      have hc0 := err_num s (span isBl s i) p c hn
      have v1 : (c != 0) = true := by rw [bne_iff_ne]; omega
      have v2 : ¬ c = 0 := by omega
      clear hn hc0
      unfold Ans.val
      go_wp2_with fail
      go_ret3
      exact ⟨by rw [HE.out]; exact rfl, (HB2.out.alloc (by omega) _).mono (Nat.le_of_eq HBB.out)⟩
    | tok t =>
      have hpl : placeOf s i = t.fin := by unfold placeOf; rw [hn]
      rw [hpl] at HL2
      obtain ⟨-, h4, h5, h6, h7, h8⟩ := next_tok hil hn
      unfold Ans.val
      by_cases hk : t.kind = 0
      · have HE := Lib.hid (show fr = .toks (l ++ [t]) from HFR.out.symm.trans (all_end hil hn hk))
        have v3 : (t.kind == 0) = true := beq_iff_eq.2 hk
        clear hn hk hpl h7 h8
        go_upto_region 6 with fail
        have hb3 : Below w2.heap.size w2 (w2.alloc (.cells #[.int .i64 t.kind, .string t.text, .int .i64 t.num, .int .i64 t.at_, .int .i64 t.fin] 28)) := (Below.refl _ _).alloc (Nat.le_refl _) _
        have hk3 : Blk (w2.alloc (.cells #[.int .i64 t.kind, .string t.text, .int .i64 t.num, .int .i64 t.at_, .int .i64 t.fin] 28)) w2.heap.size 28 #[.int .i64 t.kind, .string t.text, .int .i64 t.num, .int .i64 t.at_, .int .i64 t.fin] := Blk.new w2 _ _
        have ho3 := HO2.out.alloc (.cells #[.int .i64 t.kind, .string t.text, .int .i64 t.num, .int .i64 t.at_, .int .i64 t.fin] 28)
        change Code.wp _ _ _ _ (w2.alloc (.cells #[.int .i64 t.kind, .string t.text, .int .i64 t.num, .int .i64 t.at_, .int .i64 t.fin] 28))
        generalize (w2.alloc (.cells #[.int .i64 t.kind, .string t.text, .int .i64 t.num, .int .i64 t.at_, .int .i64 t.fin] 28)) = W3 at *
        have HL3 := Lib.hid (show Lx W3 b s t.fin from HL2.out.onto hb3)
        have HB3 := Lib.hid (HB2.out.trans (hb3.mono (show b ≤ w2.heap.size by omega)))
        have hbK : b < w2.heap.size := by omega
        have hKs : w2.heap.size < W3.heap.size := hk3.lt
        have HKN := Lib.hid (fun k hk => (HO2.out.lt k hk).2)
        generalize w2.heap.size = K at *
        have HK3 := Lib.hid hk3
        have HO3 := Lib.hid ho3
        have g0 := hk3.cell 0
        have g1 := hk3.cell 1
        have g2 := hk3.cell 2
        have g3 := hk3.cell 3
        have g4 := hk3.cell 4
        clear hb3 hk3 ho3 HO2 HL2 HB2
        go_wp2_with (at_builtin; refine wpList_append_own _ rfl _ _ 23 rfl b 28 i0 (.agg #[.int .i64 0, .string ⟨#[]⟩, .int .i64 0, .int .i64 0, .int .i64 0]) 5 48 Tryd.underlying23 hi hz0 hz1 hz2 rfl (by decide) _ _ _ rfl (HO3.out.alloc _) ⟨W3.heap.size, 0, none⟩ 1 1 t.cells rfl rfl ?c1 ?c2 ?c3 ?c4 ?c5 ?_)
        case c1 =>
          intro a u hu
          match a, hu with
          | 0, hu => simp [Tok.cells] at hu; subst hu; simp [Addr.add]
          | 1, hu => simp [Tok.cells] at hu; subst hu; simp [Addr.add]
          | 2, hu => simp [Tok.cells] at hu; subst hu; simp [Addr.add]
          | 3, hu => simp [Tok.cells] at hu; subst hu; simp [Addr.add]
          | 4, hu => simp [Tok.cells] at hu; subst hu; simp [Addr.add]
        case c2 =>
          intro u hu
          simp [Tok.cells] at hu
          rcases hu with rfl | rfl | rfl | rfl | rfl <;> rfl
        case c3 => unfold maxLen; omega
        case c4 => omega
        case c5 => simp; omega
        intro v' w4 hown4 hgrow _
        have HO4 := Lib.hid hown4
        have hBa := HB3.out.alloc (show b ≤ W3.heap.size by omega) (.cells #[.int .i64 t.kind, .string t.text, .int .i64 t.num, .int .i64 t.at_, .int .i64 t.fin] 28)
        have HB4 := Lib.hid (hBa.grown hgrow (by simp; omega) (fun k hk => ((HO3.out.lt k hk).1)))
        have hLa := HL3.out.alloc (.cells #[.int .i64 t.kind, .string t.text, .int .i64 t.num, .int .i64 t.at_, .int .i64 t.fin] 28)
        have hKa := HK3.out.alloc (.cells #[.int .i64 t.kind, .string t.text, .int .i64 t.num, .int .i64 t.at_, .int .i64 t.fin] 28)
        have HL4 := Lib.hid (show Lx w4 b s t.fin from (hgrow.block b (by simp; omega) (own_ne5 (HO3.out.alloc (.cells #[.int .i64 t.kind, .string t.text, .int .i64 t.num, .int .i64 t.at_, .int .i64 t.fin] 28)) hLa (by decide))).trans hLa)
        have hk4 : Blk w4 K 28 #[.int .i64 t.kind, .string t.text, .int .i64 t.num, .int .i64 t.at_, .int .i64 t.fin] := (hgrow.block K (by simp; omega) (fun e => absurd (HKN.out K e.symm) (by omega))).trans hKa
        have q0 := hk4.cell 0
        clear hown4 hgrow hBa hLa hKa g0 g1 g2 g3 g4 hk4
        go_wp2_with fail
        have hO4 := HO4.out
        rw [← toksCells_snoc, show l.length + 1 = (l ++ [t]).length by simp] at hO4
        obtain ⟨A, c, hv, hc, hrd⟩ := own_treads hO4
        subst hv
        go_ret3
        exact ⟨by rw [HE.out]; exact ⟨A, c, rfl, hc, hrd⟩, HB4.out.mono (Nat.le_of_eq HBB.out)⟩
      · have HE := Lib.hid (show all s t.fin (l ++ [t]) = fr from (all_more hil hn hk).symm.trans HFR.out)
        have v3 : (t.kind == 0) = false := beq_eq_false_iff_ne.2 hk
        have h9 := h8 hk
        clear hn hk hpl h7 h8
        go_upto_region 6 with fail
        have hb3 : Below w2.heap.size w2 (w2.alloc (.cells #[.int .i64 t.kind, .string t.text, .int .i64 t.num, .int .i64 t.at_, .int .i64 t.fin] 28)) := (Below.refl _ _).alloc (Nat.le_refl _) _
        have hk3 : Blk (w2.alloc (.cells #[.int .i64 t.kind, .string t.text, .int .i64 t.num, .int .i64 t.at_, .int .i64 t.fin] 28)) w2.heap.size 28 #[.int .i64 t.kind, .string t.text, .int .i64 t.num, .int .i64 t.at_, .int .i64 t.fin] := Blk.new w2 _ _
        have ho3 := HO2.out.alloc (.cells #[.int .i64 t.kind, .string t.text, .int .i64 t.num, .int .i64 t.at_, .int .i64 t.fin] 28)
        change Code.wp _ _ _ _ (w2.alloc (.cells #[.int .i64 t.kind, .string t.text, .int .i64 t.num, .int .i64 t.at_, .int .i64 t.fin] 28))
        generalize (w2.alloc (.cells #[.int .i64 t.kind, .string t.text, .int .i64 t.num, .int .i64 t.at_, .int .i64 t.fin] 28)) = W3 at *
        have HL3 := Lib.hid (show Lx W3 b s t.fin from HL2.out.onto hb3)
        have HB3 := Lib.hid (HB2.out.trans (hb3.mono (show b ≤ w2.heap.size by omega)))
        have hbK : b < w2.heap.size := by omega
        have hKs : w2.heap.size < W3.heap.size := hk3.lt
        have HKN := Lib.hid (fun k hk => (HO2.out.lt k hk).2)
        generalize w2.heap.size = K at *
        have HK3 := Lib.hid hk3
        have HO3 := Lib.hid ho3
        have g0 := hk3.cell 0
        have g1 := hk3.cell 1
        have g2 := hk3.cell 2
        have g3 := hk3.cell 3
        have g4 := hk3.cell 4
        clear hb3 hk3 ho3 HO2 HL2 HB2
        go_wp2_with (at_builtin; refine wpList_append_own _ rfl _ _ 23 rfl b 28 i0 (.agg #[.int .i64 0, .string ⟨#[]⟩, .int .i64 0, .int .i64 0, .int .i64 0]) 5 48 Tryd.underlying23 hi hz0 hz1 hz2 rfl (by decide) _ _ _ rfl (HO3.out.alloc _) ⟨W3.heap.size, 0, none⟩ 1 1 t.cells rfl rfl ?c1 ?c2 ?c3 ?c4 ?c5 ?_)
        case c1 =>
          intro a u hu
          match a, hu with
          | 0, hu => simp [Tok.cells] at hu; subst hu; simp [Addr.add]
          | 1, hu => simp [Tok.cells] at hu; subst hu; simp [Addr.add]
          | 2, hu => simp [Tok.cells] at hu; subst hu; simp [Addr.add]
          | 3, hu => simp [Tok.cells] at hu; subst hu; simp [Addr.add]
          | 4, hu => simp [Tok.cells] at hu; subst hu; simp [Addr.add]
        case c2 =>
          intro u hu
          simp [Tok.cells] at hu
          rcases hu with rfl | rfl | rfl | rfl | rfl <;> rfl
        case c3 => unfold maxLen; omega
        case c4 => omega
        case c5 => simp; omega
        intro v' w4 hown4 hgrow _
        have HO4 := Lib.hid hown4
        have hBa := HB3.out.alloc (show b ≤ W3.heap.size by omega) (.cells #[.int .i64 t.kind, .string t.text, .int .i64 t.num, .int .i64 t.at_, .int .i64 t.fin] 28)
        have HB4 := Lib.hid (hBa.grown hgrow (by simp; omega) (fun k hk => ((HO3.out.lt k hk).1)))
        have hLa := HL3.out.alloc (.cells #[.int .i64 t.kind, .string t.text, .int .i64 t.num, .int .i64 t.at_, .int .i64 t.fin] 28)
        have hKa := HK3.out.alloc (.cells #[.int .i64 t.kind, .string t.text, .int .i64 t.num, .int .i64 t.at_, .int .i64 t.fin] 28)
        have HL4 := Lib.hid (show Lx w4 b s t.fin from (hgrow.block b (by simp; omega) (own_ne5 (HO3.out.alloc (.cells #[.int .i64 t.kind, .string t.text, .int .i64 t.num, .int .i64 t.at_, .int .i64 t.fin] 28)) hLa (by decide))).trans hLa)
        have hk4 : Blk w4 K 28 #[.int .i64 t.kind, .string t.text, .int .i64 t.num, .int .i64 t.at_, .int .i64 t.fin] := (hgrow.block K (by simp; omega) (fun e => absurd (HKN.out K e.symm) (by omega))).trans hKa
        have q0 := hk4.cell 0
        clear hown4 hgrow hBa hLa hKa g0 g1 g2 g3 g4 hk4
        go_wp2_with fail
        go_roundw
        case rel => exact ⟨t.fin, l ++ [t], h6, by simp; omega, HE.out, HL4.out, by rw [toksCells_snoc, show (l ++ [t]).length = l.length + 1 by simp]; exact HO4.out, HB4.out⟩
        case measure =>
          have e1 : lxAt w4 b = t.fin := HL4.out.at_
          have e2 := HAT.out
          omega
end Go.Proofs.YtnenipgpncomeaaDoor
