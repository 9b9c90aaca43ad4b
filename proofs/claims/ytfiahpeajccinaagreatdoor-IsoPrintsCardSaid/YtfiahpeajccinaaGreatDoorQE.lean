/- The lexer's All and New: contracts. A string that begins at a place is the one that the text from there on begins with: plain mathematics. Isos' parser: the Key behind a name. The reference's isos: where a number's text ends. Texts that are no number's: plain mathematics. Isos' parser: what begins at a place, with all names. -/
import Derived.Test.YtfiahpeajccinaaGreatDoorPF
import Derived.Test.YtfiahpeajccinaaGreatDoorPA
import Derived.Laws.AppendOwn
import Derived.OwnWalk
namespace Go.Proofs.YtfiahpeajccinaaGreatDoor
open Go.RowKit
open Tk
open Pl
set_option linter.unusedVariables false

theorem infoTok : (Tryz.prog.info? 168).map (fun i => (i.zero, i.size, i.bytes)) = some (some (.agg #[.int .i64 0, .string ⟨#[]⟩, .int .i64 0, .int .i64 0, .int .i64 0]), 5, 48) := by kernel_rfl
theorem new_any5 (s : ByteArray) (w : World) : Calls Tryz.prog 125 #[.string s] w fun e w' => e = .returned (.pointer (some ⟨w.heap.size, 0, none⟩)) ∧ w' = w.alloc (.cells #[.string s, .int .i64 0] 190) := by
  go_enter Tryz.func125, Tryz.ntmps125
  go_wp2_with fail
  go_ret
  exact ⟨rfl, rfl⟩
def Tk.Tok.cells (t : Tok) : List Value := [.int .i64 t.kind, .string t.text, .int .i64 t.num, .int .i64 t.at_, .int .i64 t.fin]
def Tk.toksCells (l : List Tok) : List Value := l.flatMap Tok.cells
theorem toksCells_snoc (l : List Tok) (t : Tok) : toksCells (l ++ [t]) = toksCells l ++ t.cells := by simp [toksCells]
theorem toksCells_at (l : List Tok) : ∀ (i j : Nat) (t : Tok), l[i]? = some t → j < 5 → (toksCells l)[5 * i + j]? = t.cells[j]? := by
  induction l with
  | nil => intro i j t h _; cases h
  | cons a l ih =>
    intro i j t h hj
    have e : toksCells (a :: l) = a.cells ++ toksCells l := by simp [toksCells]
    have hl : a.cells.length = 5 := rfl
    rw [e]
    cases i with
    | zero =>
      simp at h; subst h
      rw [List.getElem?_append_left (by omega)]
      congr 1; omega
    | succ i =>
      simp at h
      rw [List.getElem?_append_right (by omega), hl, ← ih i j t h hj]
      congr 1; omega
theorem add_lit5 (b o i : Nat) : (⟨b, o, none⟩ : Addr).add i = ⟨b, o + i, none⟩ := by unfold Addr.add; split <;> simp_all
/-- a slice of tokens l, from a block's first cell on -/
def TReads (w : World) (B : Nat) (A : Option Addr) (l : List Tok) : Prop :=
  l ≠ [] → ∃ b, A = some ⟨b, 0, none⟩ ∧ b < B ∧ ∀ i t, l[i]? = some t → w.cell? ⟨b, 5 * i, none⟩ = some (.int .i64 t.kind) ∧ w.cell? ⟨b, 5 * i + 1, none⟩ = some (.string t.text) ∧ w.cell? ⟨b, 5 * i + 2, none⟩ = some (.int .i64 t.num) ∧ w.cell? ⟨b, 5 * i + 3, none⟩ = some (.int .i64 t.at_) ∧ w.cell? ⟨b, 5 * i + 4, none⟩ = some (.int .i64 t.fin)
theorem own_treads {w : World} {base : Nat} {v : Value} {l : List Tok} {ty : TypeId} (h : w.ownsRow base ty 5 v l.length (toksCells l)) : ∃ A c, v = .slice A l.length c ∧ l.length ≤ c ∧ TReads w w.heap.size A l := by
  have h0 := h
  rcases h.2 with ⟨rfl, h1⟩ | ⟨g, cap, cur, rfl, h1, hh, h3, h4⟩
  · obtain rfl : l = [] := List.eq_nil_of_length_eq_zero h1
    exact ⟨none, 0, rfl, Nat.le_refl _, fun h => absurd rfl h⟩
  · have hg : g < w.heap.size := (Array.getElem?_eq_some_iff.1 hh).1
    refine ⟨_, cap, rfl, h3, fun _ => ⟨g, rfl, hg, fun i t ht => ?_⟩⟩
    have key : ∀ j u, j < 5 → t.cells[j]? = some u → w.cell? ⟨g, 5 * i + j, none⟩ = some u := fun j u hj hu => by
      have := h0.cells (g := g) rfl (5 * i + j) u ((toksCells_at l i j t ht hj).trans hu)
      rwa [add_lit5, Nat.zero_add] at this
    exact ⟨key 0 _ (by decide) rfl, key 1 _ (by decide) rfl, key 2 _ (by decide) rfl, key 3 _ (by decide) rfl, key 4 _ (by decide) rfl⟩
theorem TReads.on {w w' : World} {A : Option Addr} {l : List Tok} (h : TReads w w.heap.size A l) (hb : Below w.heap.size w w') : TReads w' w'.heap.size A l := by
  intro hn
  obtain ⟨b, e, hlt, hc⟩ := h hn
  refine ⟨b, e, Nat.lt_of_lt_of_le hlt hb.size, fun i t ht => ?_⟩
  obtain ⟨c0, c1, c2, c3, c4⟩ := hc i t ht
  exact ⟨(hb.cell (p := ⟨b, 5 * i, none⟩) hlt).trans c0, (hb.cell (p := ⟨b, 5 * i + 1, none⟩) hlt).trans c1, (hb.cell (p := ⟨b, 5 * i + 2, none⟩) hlt).trans c2, (hb.cell (p := ⟨b, 5 * i + 3, none⟩) hlt).trans c3, (hb.cell (p := ⟨b, 5 * i + 4, none⟩) hlt).trans c4⟩
theorem all_code {s : ByteArray} {p : Nat} {c : Int} (h : all s 0 [] = .bad p c) : c = 1 ∨ c = 2 ∨ c = 3 ∨ c = 4 := by
  have key : ∀ n i acc, allF s n i acc = .bad p c → c = 1 ∨ c = 2 ∨ c = 3 ∨ c = 4 := by
    intro n
    induction n with
    | zero => intro i acc h; unfold allF at h; injection h with _ h; omega
    | succ n ih =>
      intro i acc h
      unfold allF at h
      split at h
      · split at h
        · cases h
        · exact ih _ _ h
      · rename_i q d hq
        injection h with _ h
        subst h
        exact err_num s _ _ _ hq
  exact key _ _ _ h
def AllGives (r : Al) (w : World) (e : Ending) (w' : World) : Prop :=
  (match r with
    | .toks l => ∃ A c, e = .returned (.tuple #[.slice A l.length c, .int .i64 0, .int .i64 0]) ∧ l.length ≤ c ∧ TReads w' w'.heap.size A l
    | .bad p c => e = .returned (.tuple #[.slice none 0 0, .int .i64 p, .int .i64 c])) ∧ Below w.heap.size w w'
def lxAt (w : World) (b : Nat) : Nat := match w.cell? ⟨b, 1, none⟩ with | some v => (intOf v).toNat | none => 0
theorem Lx.at_ {w : World} {b : Nat} {s : ByteArray} {i : Nat} (h : Lx w b s i) : lxAt w b = i := by
  unfold lxAt
  rw [show w.cell? ⟨b, 1, none⟩ = some (.int .i64 i) from Blk.cell h 1]
  simp [intOf]
theorem own_ne5 {w : World} {base : Nat} {e t : TypeId} {size n : Nat} {v : Value} {xs : List Value} {g : Nat} {cs : Array Value} {fz : Nat × Nat}
    (h : w.ownsRow base e size v n xs) (hg : w.heap[g]? = some (.cells cs t fz)) (hne : e ≠ t) : some g ≠ v.ownBlock := by
  rcases h.2 with ⟨rfl, _⟩ | ⟨g', cap, cur, rfl, _, hh, _⟩
  · simp [Value.ownBlock]
  · intro he
    have e1 : g = g' := by simpa [Value.ownBlock] using he
    rw [e1, hh] at hg
    injection hg with hg
    injection hg with _ h2 _
    exact hne h2
theorem Aside.own {b : Nat} {w w' : World} (h : Aside b w w') {base : Nat} {e t : TypeId} {size n : Nat} {v : Value} {xs : List Value} (ho : w.ownsRow base e size v n xs) {cs : Array Value} (hb : Blk w b t cs) (hne : e ≠ t) : w'.ownsRow base e size v n xs :=
  World.ownsRow.kept ho (row := some b) ⟨h.os, h.tape, h.output, h.size, fun a h1 h2 => h.block a h1 (fun e => h2 (by rw [e]))⟩ (.inr (Ne.symm (own_ne5 ho hb hne)))
end Go.Proofs.YtfiahpeajccinaaGreatDoor
namespace Go.Proofs.YtfiahpeajccinaaGreatDoor.Tk
open Pl
set_option linter.unusedVariables false

def Ch.shift (a : Nat) : Ch → Ch
  | .pt n e => .pt n (a + e)
  | .bad p c => .bad (a + p) c
def St.shift (a : Nat) : St → St
  | .pts l e => .pts l (a + e)
  | .bad p c => .bad (a + p) c
def Ans.shift (a : Nat) : Ans → Ans
  | .tok t => .tok ⟨t.kind, t.text, t.num, a + t.at_, a + t.fin⟩
  | .err p c => .err (a + p) c
theorem suf_list (s : ByteArray) (a : Nat) : (s.extract a s.size).data.toList = s.data.toList.drop a := by
  rw [show (s.extract a s.size).data.toList = (s.data.toList.drop a).take (s.size - a) from sub_list s a s.size]
  exact List.take_of_length_le (by rw [List.length_drop, size_toList]; exact Nat.le_refl _)
theorem suf_size (s : ByteArray) (a : Nat) : (s.extract a s.size).size = s.size - a := by
  rw [ByteArray.size_extract]; omega
theorem suf_drop (s : ByteArray) (a p : Nat) : (s.extract a s.size).data.toList.drop p = s.data.toList.drop (a + p) := by
  rw [suf_list, List.drop_drop]
theorem suf_bt (s : ByteArray) (a i : Nat) : bt (s.extract a s.size) i = bt s (a + i) := by
  unfold bt
  rw [suf_list, List.getD_eq_getElem?_getD, List.getD_eq_getElem?_getD, List.getElem?_drop]
theorem suf_fourF (s : ByteArray) (a : Nat) : ∀ k i n, fourF s k (a + i) n = ((fourF (s.extract a s.size) k i n).1, a + (fourF (s.extract a s.size) k i n).2) := by
  intro k
  induction k with
  | zero => intro i n; rfl
  | succ k ih =>
    intro i n
    simp only [fourF]
    rw [suf_bt]
    split
    · rfl
    · exact ih (i + 1) _
theorem suf_four (s : ByteArray) (a i : Nat) : four s (a + i) = ((four (s.extract a s.size) i).1, a + (four (s.extract a s.size) i).2) := suf_fourF s a 4 i 0
theorem suf_uni (s : ByteArray) (a p : Nat) : uniCh s (a + p) = (uniCh (s.extract a s.size) p).shift a := by
  unfold uniCh
  rw [show a + p + 2 = a + (p + 2) from rfl, show a + p + 8 = a + (p + 8) from rfl, show a + p + 6 = a + (p + 6) from rfl, show a + p + 7 = a + (p + 7) from rfl, suf_four s a (p + 2), suf_four s a (p + 8), ← suf_bt s a (p + 6), ← suf_bt s a (p + 7)]
  generalize four (s.extract a s.size) (p + 2) = f
  generalize four (s.extract a s.size) (p + 8) = g
  dsimp only
  by_cases h1 : f.1 < 0
  · rw [if_pos h1, if_pos h1]; rfl
  · rw [if_neg h1, if_neg h1]
    by_cases h2 : pt f.1 = true
    · rw [if_pos h2, if_pos h2]; rfl
    · rw [if_neg h2, if_neg h2]
      split
      · rfl
      · rfl
theorem suf_ch (s : ByteArray) (a p : Nat) (ha : a ≤ s.size) : chAt s (a + p) = (chAt (s.extract a s.size) p).shift a := by
  unfold chAt
  rw [suf_bt, suf_size]
  by_cases h1 : s.size ≤ a + p ∨ bt s (a + p) < 32
  · rw [if_pos h1, if_pos (show s.size - a ≤ p ∨ bt s (a + p) < 32 by omega)]; rfl
  · rw [if_neg h1, if_neg (show ¬ (s.size - a ≤ p ∨ bt s (a + p) < 32) by omega)]
    by_cases h2 : bt s (a + p) = 92
    · rw [if_pos h2, if_pos h2]
      unfold escCh
      rw [show a + p + 1 = a + (p + 1) from rfl, suf_bt]
      split
      · rfl
      · split
        · exact suf_uni s a p
        · rfl
    · rw [if_neg h2, if_neg h2]
      unfold rawCh
      rw [suf_drop]
      split
      · show Ch.pt _ _ = Ch.pt _ _; rw [Nat.add_assoc]
      · rfl
theorem suf_strF (s : ByteArray) (a : Nat) (ha : a ≤ s.size) : ∀ n p acc, strF s n (a + p) acc = (strF (s.extract a s.size) n p acc).shift a := by
  intro n
  induction n with
  | zero => intro p acc; rfl
  | succ n ih =>
    intro p acc
    unfold strF
    rw [suf_bt, suf_ch s a p ha]
    split
    · rfl
    · cases hc : chAt (s.extract a s.size) p with
      | pt m e => exact ih e _
      | bad q c => rfl
theorem suf_str (s : ByteArray) (a : Nat) (ha : a < s.size) : strAns s a = (strAns (s.extract a s.size) 0).shift a := by
  unfold strAns str
  rw [suf_size, show s.size + 1 - (a + 1) = s.size - a by omega, show s.size - a + 1 - (0 + 1) = s.size - a by omega, suf_strF s a (by omega)]
  cases strF (s.extract a s.size) (s.size - a) (0 + 1) [] with
  | pts l e => rfl
  | bad q c => rfl
/-- an error's place is not far -/
theorem chAt_far {s : ByteArray} {p q : Nat} {c : Int} (hp : p ≤ s.size) (h : chAt s p = .bad q c) : q ≤ s.size + 8 := by
  unfold chAt at h
  split at h
  · injection h with h _; omega
  · split at h
    · unfold escCh at h
      split at h
      · cases h
      · split at h
        · unfold uniCh at h
          have h1 := four_range s (p + 2)
          split at h
          · injection h with h _; omega
          · split at h
            · cases h
            · split at h
              · cases h
              · injection h with h _; omega
        · injection h with h _; omega
    · unfold rawCh at h
      split at h
      · cases h
      · injection h with h _; omega
theorem strF_far {s : ByteArray} : ∀ n p acc q c, p ≤ s.size + 1 → strF s n p acc = .bad q c → q ≤ s.size + 8 := by
  intro n
  induction n with
  | zero => intro p acc q c hp h; unfold strF at h; injection h with h _; omega
  | succ n ih =>
    intro p acc q c hp h
    unfold strF at h
    split at h
    · cases h
    · split at h
      · rename_i m e hc
        obtain ⟨_, h4, h5⟩ := chAt_pt hc
        exact ih _ _ _ _ (by omega) h
      · rename_i q' c' hc
        injection h with h1 h2
        subst h1 h2
        rcases Nat.lt_or_ge s.size p with h3 | h3
        · unfold chAt at hc
          rw [if_pos (.inl (by omega))] at hc
          injection hc with hc _
          omega
        · exact chAt_far h3 hc
theorem strAns_far {s : ByteArray} {a p : Nat} {c : Int} (ha : a ≤ s.size) (h : strAns s a = .err p c) : p ≤ s.size + 8 := by
  unfold strAns at h
  split at h
  · cases h
  · rename_i q' c' hq
    injection h with h1 h2
    subst h1 h2
    exact strF_far _ _ _ _ _ (by omega) hq
/-- the first token of what begins with a quotation mark -/
theorem suf_next (s : ByteArray) (a : Nat) (h : bt s a = 34) : next (s.extract a s.size) 0 = strAns (s.extract a s.size) 0 := by
  have h0 : bt (s.extract a s.size) 0 = 34 := by rw [suf_bt]; exact h
  have h1 : a < s.size := lt_of_bt (by rw [h]; decide)
  have h2 := suf_size s a
  unfold next
  rw [span_no (by rw [h0]; rfl)]
  unfold ansAt
  rw [if_neg (by omega), if_neg (by rw [h0]; decide), if_pos h0]
end Go.Proofs.YtfiahpeajccinaaGreatDoor.Tk
namespace Go.Proofs.YtfiahpeajccinaaGreatDoor
open Go.RowKit
open Tk Ex
set_option linter.unusedVariables false
set_option linter.unusedSimpArgs false

theorem keyI_no {s nm : ByteArray} {a : Nat} (h : ¬ bt s a = 34) : Iz.keyI s nm a = .err a 1 := by unfold Iz.keyI; rw [if_neg h]
theorem keyI_tok {s nm : ByteArray} {a : Nat} {t : Tok} (h : bt s a = 34) (hx : next (s.extract a s.size) 0 = .tok t) : Iz.keyI s nm a = .ok ⟨nm, 0, t.text⟩ (a + t.fin) := by
  have ha : a < s.size := lt_of_bt (by rw [h]; decide)
  unfold Iz.keyI
  rw [if_pos h, suf_str s a ha, ← suf_next s a h, hx]
  rfl
theorem keyI_err {s nm : ByteArray} {a p : Nat} {c : Int} (h : bt s a = 34) (hx : next (s.extract a s.size) 0 = .err p c) : Iz.keyI s nm a = .err (a + p) c := by
  have ha : a < s.size := lt_of_bt (by rw [h]; decide)
  unfold Iz.keyI
  rw [if_pos h, suf_str s a ha, ← suf_next s a h, hx]
  rfl
theorem blk_placeK {w : World} {b : Nat} {t : TypeId} {s : ByteArray} {v0 : Value} (h : Blk w b t #[.string s, v0]) (v : Value) : Blk (w.setCell ⟨b, 1, none⟩ v) b t #[.string s, v] := h.set_ 1 v
theorem blk_farK {w : World} {b R : Nat} {t : TypeId} {cs : Array Value} (h : Blk w b t cs) (hne : ¬ b = R) (x0 x1 x2 : Value) :
    Blk (((w.setCell ⟨R, 0, none⟩ x0).setCell ⟨R, 1, none⟩ x1).setCell ⟨R, 2, none⟩ x2) b t cs :=
  ((h.far (p := ⟨R, 0, none⟩) hne x0).far (p := ⟨R, 1, none⟩) hne x1).far (p := ⟨R, 2, none⟩) hne x2
theorem next_far {s : ByteArray} {a : Nat} (h : bt s a = 34) : (∀ t, next (s.extract a s.size) 0 = .tok t → s.size ≤ 90000 → t.fin ≤ 100000) ∧ (∀ p c, next (s.extract a s.size) 0 = .err p c → s.size ≤ 90000 → p ≤ 100000) := by
  have ha : a < s.size := lt_of_bt (by rw [h]; decide)
  have hsz := suf_size s a
  rw [suf_next s a h]
  refine ⟨fun t ht hs => ?_, fun p c hp hs => ?_⟩
  · have := str_fin (s := s.extract a s.size) (a := 0) (t := t) (by omega) ht
    omega
  · have := strAns_far (s := s.extract a s.size) (a := 0) (Nat.zero_le _) hp
    omega
set_option maxRecDepth 100000 in
set_option maxHeartbeats 8000000 in
theorem keyed_any (b : Nat) (t : TypeId) (s name : ByteArray) (i : Nat) (w : World) (hs : s.size ≤ 90000) (hP : Blk w b t #[.string s, .int .i64 i]) (hi : i ≤ s.size) (hr : RangeErr w) :
    Calls Tryz.prog 100 #[.pointer (some ⟨b, 0, none⟩), .string name] w fun e w' => e = .returned (Iz.keyI s name (bl s i)).val ∧ Aside b w w' ∧ ∀ x p, Iz.keyI s name (bl s i) = .ok x p → Blk w' b t #[.string s, .int .i64 p] := by
  have hb := hP.lt
  have ha := bl_le hi
  have HNX := Lib.hid (fun w1 h h2 => nextI_any b s i w1 (by omega) h h2 hi)
  have HPR := Lib.hid (fun w1 => begins_any 34 s (bl s i) ha (by decide) _ rfl w1)
  have hD1 : (bt s (bl s i) == (34 : UInt8).toNat) = true → bt s (bl s i) = 34 := fun h => by simpa using h
  have hD0 : (bt s (bl s i) == (34 : UInt8).toNat) = false → ¬ bt s (bl s i) = 34 := fun h => by simpa using h
  have hcs : (s.extract (bl s i) s.size).size ≤ 90000 := by rw [ByteArray.size_extract]; omega
  have H0 := Lib.hid (fun h => keyI_no (s := s) (nm := name) (a := bl s i) h)
  have H1 := Lib.hid (fun t h hx => keyI_tok (s := s) (nm := name) (a := bl s i) (t := t) h hx)
  have H2 := Lib.hid (fun p c h hx => keyI_err (s := s) (nm := name) (a := bl s i) (p := p) (c := c) h hx)
  have HNE := Lib.hid (fun p c h => err_num (s.extract (bl s i) s.size) (span isBl (s.extract (bl s i) s.size) 0) p c h)
  have HPF := Lib.hid (fun (h : bt s (bl s i) = 34) => next_far (s := s) (a := bl s i) h)
  have HTK := Lib.hid (fun L w1 hl hr1 => next_any5 L (s.extract (bl s i) s.size) 0 w1 hcs hl (Nat.zero_le _) hr1)
  have hnx : next (s.extract (bl s i) s.size) 0 = ansAt (s.extract (bl s i) s.size) (span isBl (s.extract (bl s i) s.size) 0) := rfl
  rw [← hnx] at HNE
  clear hnx hcs
  generalize Iz.keyI s name (bl s i) = res at *
  generalize (bt s (bl s i) == (34 : UInt8).toNat) = d at *
  generalize bt s (bl s i) = ch at *
  have HX := Lib.hid (show ∃ an, next (s.extract (bl s i) s.size) 0 = an from ⟨_, rfl⟩)
  obtain ⟨an, han⟩ := HX.out
  rw [han] at HTK HNE H1 H2 HPF
  generalize bl s i = a at *
  have HD1 := Lib.hid hD1
  have HD0 := Lib.hid hD0
  have i1 : (0 : Int) ≤ (a : Int) := by omega
  have i2 : (a : Int) ≤ (s.size : Int) := by omega
  clear hD1 hD0 HX han
  go_enter Tryz.func100, Tryz.ntmps100
  go_upto_region 1 with fail
  refine alloc_gz (fun W hW hB => ?_)
  have hlR := hB.lt
  have HP := Lib.hid (hP.onto hW)
  have HR := Lib.hid (hr.on hW)
  have HA := Lib.hid hW
  have HB := Lib.hid hB
  clear hP hr hW hB
  have k0 := HP.out.cell 0
  have k1 := HP.out.cell 1
  go_wp2_with fail
  refine (HNX.out _ k0 k1).mono ?_
  rintro e w2 ⟨rfl, hb2⟩
  clear k0 k1
  have HP := Lib.hid (HP.out.onto hb2)
  have HB := Lib.hid (HB.out.onto hb2)
  have HR := Lib.hid (HR.out.on hb2)
  have HA := Lib.hid (HA.out.trans (hb2.mono HA.out.size))
  clear hb2
  have k0 := HP.out.cell 0
  go_wp2_with fail
  refine (HPR.out _).mono ?_
  rintro e w3 ⟨rfl, rfl⟩
  have hne : ¬ b = w.heap.size := by omega
  cases d
  · have HRS := Lib.hid (H0.out (HD0.out (by trivial)))
    have c0 := HB.out.cell 0
    have c1 := HB.out.cell 1
    have c2 := HB.out.cell 2
    have f0 := HB.out.free 0
    have f1 := HB.out.free 1
    have f2 := HB.out.free 2
    go_wp2_with fail
    refine bodyPost_ret (v := res.val) (by rw [HRS.out]; simp [results, Tryz.results100, go_sem, Iz.IRes.val, izV, nix, c0, c1, c2]) rfl ⟨rfl, (Aside.of HA.out).put3 (Nat.le_refl _) _ _ _, fun x p h => ?_⟩
    rw [HRS.out] at h; cases h
  · have h34 := HD1.out (by trivial)
    go_wp2_with fail
    clear k0
    refine (new_any5 _ _).mono ?_
    rintro e w4 ⟨rfl, rfl⟩
    have hbn := (Below.refl w2.heap.size w2).alloc (Nat.le_refl _) (.cells #[.string (s.extract a s.size), .int .i64 0] 190)
    have hL : Lx (w2.alloc (.cells #[.string (s.extract a s.size), .int .i64 0] 190)) w2.heap.size (s.extract a s.size) 0 := Blk.new w2 _ _
    go_wp2_with fail
    refine (HTK.out _ _ hL (HR.out.on hbn)).mono ?_
    rintro e w5 ⟨rfl, ha5, _⟩
    have hb5 := ha5.below hbn (Nat.le_refl _) hbn.size
    have HP := Lib.hid (HP.out.onto hb5)
    have HB := Lib.hid (HB.out.onto hb5)
    have HA := Lib.hid (HA.out.trans (hb5.mono HA.out.size))
    clear ha5 hb5 hbn hL
    cases an with
    | err p c =>
      have hc0 := HNE.out p c rfl
      have v1 : (c != 0) = true := by rw [bne_iff_ne]; omega
      have v2 : ¬ c = 0 := by omega
      have HRS := Lib.hid (H2.out p c h34 rfl)
      have hpf : p ≤ 100000 := (HPF.out h34).2 p c rfl hs
      have i3 : (0 : Int) ≤ (p : Int) := by omega
      have i4 : (p : Int) ≤ 100000 := by omega
      clear hpf
      unfold Ans.val
      go_upto_region 5 with fail
      refine alloc_gz (fun w6 hw6 hT => ?_)
      have HP := Lib.hid (HP.out.onto hw6)
      have HB := Lib.hid (HB.out.onto hw6)
      have HA := Lib.hid (HA.out.trans (hw6.mono HA.out.size))
      clear hw6 hT hc0
      have c0 := HB.out.cell 0
      have c1 := HB.out.cell 1
      have c2 := HB.out.cell 2
      have f0 := HB.out.free 0
      have f1 := HB.out.free 1
      have f2 := HB.out.free 2
      go_wp2_with fail
      refine bodyPost_ret (v := res.val) (by rw [HRS.out]; simp [results, Tryz.results100, go_sem, Iz.IRes.val, izV, nix, c0, c1, c2]) rfl ⟨rfl, (Aside.of HA.out).put3 (Nat.le_refl _) _ _ _, fun x p h => ?_⟩
      rw [HRS.out] at h; cases h
    | tok tk =>
      have hlt5 := Lib.hid (show b < w5.heap.size from HP.out.lt)
      have HRS := Lib.hid (H1.out tk h34 rfl)
      have hpf : tk.fin ≤ 100000 := (HPF.out h34).1 tk rfl hs
      have i3 : (0 : Int) ≤ (tk.fin : Int) := by omega
      have i4 : (tk.fin : Int) ≤ 100000 := by omega
      clear hpf
      unfold Ans.val
      go_upto_region 5 with fail
      refine alloc_gz (fun w6 hw6 hT => ?_)
      have HP := Lib.hid (HP.out.onto hw6)
      have HB := Lib.hid (HB.out.onto hw6)
      have HA := Lib.hid (HA.out.trans (hw6.mono HA.out.size))
      have t1 := hT.cell 1
      have t4 := hT.cell 4
      clear hw6
      have k0 := HP.out.cell 0
      have k1 := HP.out.cell 1
      have kf := HP.out.free 1
      have c0 := HB.out.cell 0
      have c1 := HB.out.cell 1
      have c2 := HB.out.cell 2
      have f0 := HB.out.free 0
      have f1 := HB.out.free 1
      have f2 := HB.out.free 2
      have hT1 : ¬ w5.heap.size = b := fun e => by have := hlt5.out; omega
      have hT2 : ¬ b = w5.heap.size := fun e => hT1 e.symm
      have hne2 : ¬ w.heap.size = b := fun e => hne e.symm
      clear hT
      go_wp2_with fail
      refine bodyPost_ret (v := res.val) (by rw [HRS.out]; simp [results, Tryz.results100, go_sem, Iz.IRes.val, izV, nix, c0, c1, c2]) rfl ⟨rfl, ((Aside.of HA.out).set (o := 1) _).put3 (Nat.le_refl _) _ _ _, fun x p h => ?_⟩
      have hp := ok_inj (HRS.out.symm.trans h)
      rw [← hp, show ((a + tk.fin : Nat) : Int) = (a : Int) + (tk.fin : Int) by omega]
      exact blk_farK (blk_placeK HP.out _) hne _ _ _
end Go.Proofs.YtfiahpeajccinaaGreatDoor
namespace Go.Proofs.YtfiahpeajccinaaGreatDoor
open Go.RowKit
open Tk Ex
set_option linter.unusedVariables false
set_option linter.unusedSimpArgs false

set_option maxRecDepth 100000 in
set_option maxHeartbeats 4000000 in
theorem rend_any (s : ByteArray) (a : Nat) (w : World) (hs : s.size ≤ 1000000) (ha : a ≤ s.size) :
    Calls Tryz.prog 64 #[.string s, .int .i64 a] w fun e w' => e = .returned (.int .i64 (span isDg s (signE s a) : Nat)) ∧ w = w' := by
  have hF := signE_le ha
  have HE := Lib.hid (span_le isDg hF)
  have i1 : (0 : Int) ≤ (a : Int) := by omega
  have i2 : (a : Int) ≤ (s.size : Int) := by omega
  obtain ⟨F, hFe⟩ : ∃ F, signE s a = F := ⟨_, rfl⟩
  have hcase : (¬ a < s.size ∧ F = a) ∨ (∃ h : a < s.size, (s[a]'h).toNat = 45 ∧ F = a + 1) ∨ (∃ h : a < s.size, ¬ (s[a]'h).toNat = 45 ∧ F = a) := by
    rw [← hFe]
    unfold signE
    by_cases h : a < s.size
    · rw [← bt_at s a h]
      by_cases h2 : (s[a]'h).toNat = 45
      · exact .inr (.inl ⟨h, h2, if_pos h2⟩)
      · exact .inr (.inr ⟨h, h2, if_neg h2⟩)
    · refine .inl ⟨h, if_neg ?_⟩
      rw [bt_end (by omega)]
      decide
  rw [hFe] at HE ⊢
  rw [hFe] at hF
  clear hFe
  go_enter Tryz.func64, Tryz.ntmps64
  rcases hcase with ⟨h, rfl⟩ | ⟨h, h2, hf⟩ | ⟨h, h2, rfl⟩
  case' inl =>
    have u1 : decide ((F : Int) < (s.size : Int)) = false := decide_eq_false (by omega)
    have u2 : ¬ (F : Int) < (s.size : Int) := by omega
    go_wp2_with fail
  case' inr.inl =>
    have u1 : decide ((a : Int) < (s.size : Int)) = true := decide_eq_true (by omega)
    have u2 : (a : Int) < (s.size : Int) := by omega
    have e1 : (((s[a]'h).toNat : Int) == 45) = true := by rw [h2]; rfl
    have e2 : decide (((s[a]'h).toNat : Int) = 45) = true := decide_eq_true (by omega)
    have HFF := Lib.hid hf
    clear hf
    go_wp2_with fail
  case' inr.inr =>
    have u1 : decide ((F : Int) < (s.size : Int)) = true := decide_eq_true (by omega)
    have u2 : (F : Int) < (s.size : Int) := by omega
    have e1 : (((s[F]'h).toNat : Int) == 45) = false := beq_eq_false_iff_ne.2 (by omega)
    have e2 : decide (((s[F]'h).toNat : Int) = 45) = false := decide_eq_false (by omega)
    go_wp2_with fail
  all_goals
    go_loop [1] (fun i => ∃ k : Nat, F ≤ k ∧ k ≤ span isDg s F ∧ i = .int .i64 k) (fun i => span isDg s F - (intOf i).toNat)
    case atStart => exact ⟨F, Nat.le_refl _, span_ge _ _ _, by first | rfl | (rw [HFF.out]; go_num)⟩
    case round =>
      obtain ⟨k, h1, h3, rfl⟩ := hrel
      have hle := HE.out
      by_cases hlt : k < span isDg s F
      · have hd := isDg_iff.1 (span_in (p := isDg) h1 hlt)
        have hk : k < s.size := by omega
        have hb := bt_at s k hk
        rw [← hb] at hd
        have v1 : decide ((k : Int) < (s.size : Int)) = true := decide_eq_true (by omega)
        have v2 : (k : Int) < (s.size : Int) := by omega
        have d1 : decide (((s[k]'hk).toNat : Int) ≥ 48) = true := decide_eq_true (by omega)
        have d2 : decide (((s[k]'hk).toNat : Int) ≤ 57) = true := decide_eq_true (by omega)
        have d3 : decide ((48 : Int) ≤ ((s[k]'hk).toNat : Int)) = true := d1
        have j1 : (0 : Int) ≤ (k : Int) := by omega
        clear hd hb
        go_wp2_with fail
        go_round
        case rel => exact ⟨k + 1, by omega, hlt, by go_num⟩
        case measure => simp [intOf]; omega
      · have hk0 : k = span isDg s F := by omega
        have HK := Lib.hid hk0
        have j1 : (0 : Int) ≤ (k : Int) := by omega
        rcases Nat.lt_or_ge k s.size with hk | hk
        · have ho : isDg (bt s k) = false := by rw [hk0]; exact span_out (p := isDg) (by omega)
          have hd := isDg_no.1 ho
          have hb := bt_at s k hk
          rw [← hb] at hd
          have v1 : decide ((k : Int) < (s.size : Int)) = true := decide_eq_true (by omega)
          have v2 : (k : Int) < (s.size : Int) := by omega
          clear hb ho hk0
          rcases hd with hd | hd
          · have d1 : decide (((s[k]'hk).toNat : Int) ≥ 48) = false := decide_eq_false (by omega)
            have d3 : decide ((48 : Int) ≤ ((s[k]'hk).toNat : Int)) = false := d1
            go_wp2_with fail
            go_ret
            exact ⟨by rw [← HK.out] <;> rfl, rfl⟩
          · have d1 : decide (((s[k]'hk).toNat : Int) ≥ 48) = true := decide_eq_true (by omega)
            have d3 : decide ((48 : Int) ≤ ((s[k]'hk).toNat : Int)) = true := d1
            have d2 : decide (((s[k]'hk).toNat : Int) ≤ 57) = false := decide_eq_false (by omega)
            go_wp2_with fail
            go_ret
            exact ⟨by rw [← HK.out] <;> rfl, rfl⟩
        · have v1 : decide ((k : Int) < (s.size : Int)) = false := decide_eq_false (by omega)
          have v2 : ¬ (k : Int) < (s.size : Int) := by omega
          clear hk0
          go_wp2_with fail
          go_ret
          exact ⟨by rw [← HK.out] <;> rfl, rfl⟩
end Go.Proofs.YtfiahpeajccinaaGreatDoor
namespace Go.Proofs.YtfiahpeajccinaaGreatDoor.Tk
open Pl Ex
set_option linter.unusedVariables false

theorem sign_cases (s : ByteArray) (a : Nat) : signE s a = a ∧ bt s a ≠ 45 ∨ signE s a = a + 1 ∧ bt s a = 45 := by
  unfold signE
  split
  · rename_i h; exact .inr ⟨rfl, h⟩
  · rename_i h; exact .inl ⟨rfl, h⟩
theorem form_bad1 {s : ByteArray} {a : Nat} (h : isDg (bt s (signE s a)) = false) : De.form (sub s a (signE s a)).data.toList = false := by
  rcases sign_cases s a with ⟨h1, _⟩ | ⟨h1, h45⟩
  · rw [h1, sub_list, Nat.sub_self, List.take_zero]; rfl
  · have ha : a < s.size := lt_of_bt (by rw [h45]; decide)
    rw [h1, sub_list, show a + 1 - a = 0 + 1 by omega, drop_cons ha, List.take_succ_cons, List.take_zero, (bt_eq ha (by decide)).1 h45]
    decide
theorem form_bad2 {s : ByteArray} {a : Nat} (h : isDg (bt s (signE s a)) = true) (h2 : bt s (signE s a) = 48) (h3 : signE s a + 1 < span isDg s (signE s a)) : De.form (sub s a (span isDg s (signE s a))).data.toList = false := by
  have hf : signE s a < s.size := lt_of_bt (fun e => by rw [e] at h; cases h)
  have he := span_le isDg (s := s) (Nat.le_of_lt hf)
  generalize span isDg s (signE s a) = e at *
  have hd : De.digs (sub s a e).data.toList = (s.data.toList.drop (signE s a)).take (e - signE s a) := by
    unfold De.digs
    rw [sub_list]
    rcases sign_cases s a with ⟨h1, hne⟩ | ⟨h1, h45⟩
    · rw [h1] at hf h3 ⊢
      obtain ⟨n, hn⟩ : ∃ n, e - a = n + 1 := ⟨e - a - 1, by omega⟩
      rw [if_neg]
      rw [hn, drop_cons hf, List.take_succ_cons, List.head?_cons]
      intro h6
      injection h6 with h6
      exact hne ((bt_eq hf (by decide)).2 h6)
    · rw [h1] at hf h3 ⊢
      have ha : a < s.size := by omega
      obtain ⟨n, hn⟩ : ∃ n, e - a = n + 1 := ⟨e - a - 1, by omega⟩
      rw [hn, drop_cons ha, List.take_succ_cons, List.head?_cons, if_pos (by rw [(bt_eq ha (by decide)).1 h45]; rfl), List.tail_cons, show e - (a + 1) = n by omega]
  unfold De.form
  rw [hd]
  generalize signE s a = f at *
  unfold De.formD
  obtain ⟨n, hn⟩ : ∃ n, e - f = n + 1 + 1 := ⟨e - f - 2, by omega⟩
  have hlen : ((s.data.toList.drop f).take (e - f)).length = n + 1 + 1 := by
    rw [List.length_take, List.length_drop, hn]
    have := size_toList s
    omega
  have hh : ((s.data.toList.drop f).take (e - f)).head? = some 48 := by
    rw [hn, drop_cons hf, List.take_succ_cons, List.head?_cons, (bt_eq hf (by decide)).1 h2]
    rfl
  rw [hlen, hh]
  simp
end Go.Proofs.YtfiahpeajccinaaGreatDoor.Tk
namespace Go.Proofs.YtfiahpeajccinaaGreatDoor
open Go.RowKit
open Tk Ex
set_option linter.unusedVariables false

theorem iprefix_any (s : ByteArray) (i : Nat) (w : World) (hs : s.size ≤ 90000) (hi : i ≤ s.size) (hr : RangeErr w) : Calls Tryz.prog 10 #[.string s, .int .i64 i] w (PrefGives (Iz.isos s i) w) :=
  prefix_in s i w hs hi hr (fun b j _ hj _ w1 hP hb => keyed_any b _ s (wd s j) (wE s (bl s j)) w1 hs hP (Iz.wE_le (bl_le hj)) (hr.on hb))
theorem isosF_code {s : ByteArray} : ∀ (f : Nat) (acc : List Iz.Iso) (i p : Nat) (c : Int), Iz.isosF s f acc i = .err p c → c ≠ 0
  | 0, acc, i, p, c, h => by cases h
  | f + 1, acc, i, p, c, h => by
    rw [Iz.isosF] at h
    cases hx : Iz.oneI s i with
    | err q d =>
      rw [hx] at h
      injection h with _ h
      subst h
      exact oneI_err hx
    | ok x q =>
      rw [hx] at h
      dsimp only at h
      split at h
      · exact isosF_code f _ _ _ _ h
      · cases h
theorem isosF_len {s : ByteArray} : ∀ (f : Nat) (acc : List Iz.Iso) (i p : Nat) (l : List Iz.Iso), i ≤ s.size → acc.length ≤ i → Iz.isosF s f acc i = .ok l p → l ≠ [] ∧ l.length ≤ s.size
  | 0, acc, i, p, l, hi, ha, h => by cases h
  | f + 1, acc, i, p, l, hi, ha, h => by
    rw [Iz.isosF] at h
    cases hx : Iz.oneI s i with
    | err q d => rw [hx] at h; cases h
    | ok x q =>
      have h1 := Iz.oneI_le hi hx
      rw [hx] at h
      dsimp only at h
      split at h
      · rename_i hb
        have := bl_ge s q
        have hlt := lt_of_bt (s := s) (i := bl s q) (by rw [hb]; decide)
        exact isosF_len f _ _ _ _ (by omega) (by simp; omega) h
      · injection h with h2 h3
        subst h2
        exact ⟨by simp, by simp; omega⟩
end Go.Proofs.YtfiahpeajccinaaGreatDoor
