/- Arguments of the laws, opened: strings, bytes, nodes. -/
import Derived.Test.YtaeimlfehlbiiaaGreatDoorMZ
import Derived.Deep.Slices
import Derived.Deep.Fields
import Derived.ChangeSame
import Derived.SliceStrings
import Derived.ChangeSlices
import Derived.Lib.SmallJoins
import Derived.ChangeMaps5
namespace Go.Proofs.YtaeimlfehlbiiaaGreatDoor
open Go.RowKit Go.ChangeShapes Go.WideShapes Go.Deep
theorem Bytes8.wide {w : World} {S S' : Nat → Prop} {A : Option Addr} {m : Nat} (h : Bytes8 w S A m) (hs : ∀ b, S b → S' b) : Bytes8 w S' A m := fun j hj => by
 obtain ⟨b, o, d, e, h0, r⟩ := h j hj
 exact ⟨b, o, d, e, hs b h0, r⟩
theorem Strs.wide {w : World} {S S' : Nat → Prop} {A : Option Addr} {m : Nat} (h : Strs w S A m) (hs : ∀ b, S b → S' b) : Strs w S' A m := fun j hj => by
 obtain ⟨b, o, d, e, h0, r⟩ := h j hj
 exact ⟨b, o, d, e, hs b h0, r⟩
theorem Nodes.on {w w' : World} {A : Option Addr} {n : Nat} (h : Nodes w (· < w.heap.size) A n) (hb : Below w.heap.size w w') : Nodes w' (· < w'.heap.size) A n := fun i hi => by
 obtain ⟨b, o, e, hs, k, m, s, I, mi, ci, K, mk, ck, h0, h1, h2, h3, c0, c1, c2, c3, c4, hI, hK⟩ := (h.keep (.of_below hb)) i hi
 have hw : ∀ b, b < w.heap.size → b < w'.heap.size := fun b hb' => Nat.lt_of_lt_of_le hb' hb.size
 exact ⟨b, o, e, hw b hs, k, m, s, I, mi, ci, K, mk, ck, h0, h1, h2, h3, c0, c1, c2, c3, c4, hI.wide hw, hK.wide hw⟩
section
variable {H : Type} {enc : TypeId × Value → H} {P : Program} {w : World} {base : Nat} {spare : Nat → Bool} {held : Bool}
theorem open_fields {t e : TypeId} {fs : Array Field} {fuel : Nat} {cs : List Value} {x : DataW H × List MemPlace} (ht : P.underlying t = some (.slice e)) (he : P.underlying e = some (.struct fs))
 (hone : oneCellFields P fs = true) (hC : P.cellsOf e = fs.size) (h : DataW.trod enc P w base spare held fuel t cs = some x) :
 cs = [.slice none 0 0] ∨
 ∃ (a : Addr) (len cap : Nat), cs = [.slice (some a) len cap] ∧ len ≤ cap ∧ cap ≤ maxLen ∧
  ∀ i, i < len → ∃ (ys : List (DataW H × List MemPlace)) (n : Nat),
   ∀ (j : Nat) (f : Field), fs[j]? = some f → ∃ (v : Value) (y : DataW H × List MemPlace), w.cell? (a.add (i * fs.size + j)) = some v ∧ ys[j]? = some y ∧ DataW.trod enc P w base spare held n f.type [v] = some y := by
 rcases open_slice ht h with h0 | ⟨a, len, cap, m, n, D, Pl, hcs, hb, hl, hm, hmm, hx, hi⟩
 · exact .inl h0.1
 ·
  refine .inr ⟨a, len, cap, hcs, hl, hm, fun i hil => ?_⟩
  obtain ⟨cs', hc, ht'⟩ := hi i (by rw [hmm]; split <;> omega)
  rw [hC] at hc
  obtain ⟨ys, n', hn', hy, hlen, hyl, hf⟩ := DataW.trod_struct he ht'
  obtain ⟨_, hcl, hat⟩ := World.cells?_some hc
  refine ⟨ys, n', fun j f hj => ?_⟩
  obtain ⟨ho, hk⟩ := hone_of hone j f hj
  have hjl : j < fs.size := (Array.getElem?_eq_some_iff.1 hj).1
  have hcell := hat j hjl
  have hv : cs'[j]? = some (cs'[j]'(by omega)) := List.getElem?_eq_getElem (by omega)
  have h1 := hf j f hj
  rw [ho, hk] at h1
  have hone' : (cs'.drop j).take 1 = [cs'[j]'(by omega)] := by
   rw [List.drop_eq_getElem_cons (by omega)]
   rfl
  rw [hone'] at h1
  have hys : ys[j]? = some (ys[j]'(by omega)) := List.getElem?_eq_getElem (by omega)
  refine ⟨_, _, ?_, hys, h1.trans hys⟩
  rw [← Go.Deep.add_add, hcell, hv]
end
section
variable {H : Type} {enc : TypeId × Value → H} {w : World} {spare : Nat → Bool} {held : Bool}
theorem spot_none {a : Addr} {v : Value} (h : w.cell? (a.add 0) = some v) : ∃ b o, a = ⟨b, o, none⟩ ∧ b < w.heap.size := by
 obtain ⟨b, o, spot⟩ := a
 have hs : spot = none := by simpa [Addr.add] using World.cell?_spot h
 subst hs
 rw [add_lit] at h
 exact ⟨b, o, rfl, World.block_lt_of_cell? (w := w) (a := ⟨b, o + 0, none⟩) h⟩
theorem strs_open {A : Option Addr} {n c fuel : Nat} {x : DataW H × List MemPlace} (h : DataW.trod enc Tryz.prog w 0 spare held fuel 25 [.slice A n c] = some x) :
 n ≤ c ∧ c ≤ maxLen ∧ ∃ l : List ByteArray, l.length = n ∧ SReads w (· < w.heap.size) A l ∧ ∀ s ∈ l, s.size ≤ maxLen := by
 rcases open_strings Tryz.underlying25 Tryz.underlying9 (by kernel_rfl) h with ⟨hcs, _⟩ | ⟨a, len, cap, ss, hcs, _, hl, hm, hz, _, hcell, hwz⟩
 ·
  simp at hcs
  obtain ⟨rfl, rfl, rfl⟩ := hcs
  exact ⟨Nat.le_refl _, Nat.zero_le _, [], rfl, SReads.none_ _ _ _, fun s hs => by cases hs⟩
 ·
  simp at hcs
  obtain ⟨rfl, rfl, rfl⟩ := hcs
  have hle : n ≤ ss.length := by rw [hz]; split <;> omega
  refine ⟨hl, hm, ss.take n, by rw [List.length_take]; omega, fun hn => ?_, fun s hs => hwz s (List.mem_of_mem_take hs)⟩
  have hn0 : 0 < n := by
   rcases Nat.eq_zero_or_pos n with h0 | h0
   · subst h0; simp at hn
   · exact h0
  obtain ⟨b, o, rfl, hb⟩ := spot_none (hcell 0 (by omega))
  refine ⟨b, o, rfl, hb, fun i s hi => ?_⟩
  have hil := lt_of_get hi
  rw [List.length_take] at hil
  have h1 := hcell i (by omega)
  rw [add_lit] at h1
  rw [h1, List.getD_eq_getElem?_getD]
  rw [List.getElem?_take_of_lt (by omega)] at hi
  rw [hi]; rfl
theorem bytes_open {A : Option Addr} {n c fuel : Nat} {x : DataW H × List MemPlace} (h : DataW.trod enc Tryz.prog w 0 spare held fuel 42 [.slice A n c] = some x) :
 n ≤ c ∧ c ≤ maxLen ∧ Bytes8 w (· < w.heap.size) A n := by
 rcases open_ints Tryz.underlying42 Tryz.underlying5 (by kernel_rfl) h with ⟨hcs, _⟩ | ⟨a, len, cap, zs, hcs, _, hl, hm, hz, _, hcell, hwz⟩
 ·
  simp at hcs
  obtain ⟨rfl, rfl, rfl⟩ := hcs
  exact ⟨Nat.le_refl _, Nat.zero_le _, fun j hj => absurd hj (by omega)⟩
 ·
  simp at hcs
  obtain ⟨rfl, rfl, rfl⟩ := hcs
  have hle : n ≤ zs.length := by rw [hz]; split <;> omega
  refine ⟨hl, hm, fun j hj => ?_⟩
  have h1 := hcell j (by omega)
  obtain ⟨b, o, rfl, hb⟩ := spot_none (hcell 0 (by omega))
  rw [add_lit] at h1
  have hw := hwz (zs.getD j 0) (by rw [List.getD_eq_getElem?_getD, List.getElem?_eq_getElem (by omega)]; exact List.getElem_mem _)
  have e0 : IntKind.u8.min = 0 := rfl
  have e1 : IntKind.u8.max = 255 := rfl
  simp only [Lit.wf, decide_eq_true_eq, Bool.and_eq_true] at hw
  exact ⟨b, o, _, rfl, hb, by omega, by omega, h1⟩
theorem SReads.strs {S : Nat → Prop} {A : Option Addr} {l : List ByteArray} (h : SReads w S A l) : Strs w S A l.length := fun j hj => by
 obtain ⟨b, o, e, hs, hc⟩ := h (by intro hn; rw [hn] at hj; simp at hj)
 exact ⟨b, o, _, e, hs, hc j _ (List.getElem?_eq_getElem hj)⟩
theorem strs_open' {A : Option Addr} {n c fuel : Nat} {x : DataW H × List MemPlace} (h : DataW.trod enc Tryz.prog w 0 spare held fuel 25 [.slice A n c] = some x) : Strs w (· < w.heap.size) A n := by
 obtain ⟨_, _, l, rfl, hr, _⟩ := strs_open h
 exact hr.strs
theorem slice_cell {t e : TypeId} {P : Program} {base fuel : Nat} {v : Value} {x : DataW H × List MemPlace} (ht : P.underlying t = some (.slice e)) (h : DataW.trod enc P w base spare held fuel t [v] = some x) : ∃ A n c, v = .slice A n c := by
 rcases open_slice ht h with ⟨hcs, _⟩ | ⟨a, len, cap, _, _, _, _, hcs, _⟩
 ·
  injection hcs with h1 _
  exact ⟨_, _, _, h1⟩
 ·
  injection hcs with h1 _
  exact ⟨_, _, _, h1⟩
theorem nodes_open {A : Option Addr} {n c fuel : Nat} {x : DataW H × List MemPlace} (h : DataW.trod enc Tryz.prog w 0 spare held fuel 22 [.slice A n c] = some x) :
 n ≤ c ∧ c ≤ maxLen ∧ Nodes w (· < w.heap.size) A n := by
 rcases open_fields Tryz.underlying22 Tryz.underlying53 (by kernel_rfl) (by kernel_rfl) h with hcs | ⟨a, len, cap, hcs, hl, hm, hi⟩
 ·
  simp at hcs
  obtain ⟨rfl, rfl, rfl⟩ := hcs
  exact ⟨Nat.le_refl _, Nat.zero_le _, fun i hi => absurd hi (by omega)⟩
 ·
  simp at hcs
  obtain ⟨rfl, rfl, rfl⟩ := hcs
  refine ⟨hl, hm, fun i hin => ?_⟩
  obtain ⟨ys, q, hf⟩ := hi i hin
  obtain ⟨v0, y0, c0, _, t0⟩ := hf 0 _ rfl
  obtain ⟨v1, y1, c1, _, t1⟩ := hf 1 _ rfl
  obtain ⟨v2, y2, c2, _, t2⟩ := hf 2 _ rfl
  obtain ⟨v3, y3, c3, _, t3⟩ := hf 3 _ rfl
  obtain ⟨v4, y4, c4, _, t4⟩ := hf 4 _ rfl
  obtain ⟨ys', q', hf'⟩ := hi 0 (by omega)
  obtain ⟨v9, y9, c9, _, _⟩ := hf' 0 _ rfl
  rw [Nat.zero_mul, Nat.zero_add] at c9
  obtain ⟨b, o, rfl, hb⟩ := spot_none c9
  rw [add_lit] at c0 c1 c2 c3 c4
  obtain ⟨k, e0, _, w0⟩ := DataW.trod_int Tryz.underlying5 t0
  obtain ⟨m, e1, _, w1⟩ := DataW.trod_int Tryz.underlying2 t1
  obtain ⟨s, e2, _, _⟩ := DataW.trod_string Tryz.underlying9 t2
  injection e0 with e0 _
  injection e1 with e1 _
  injection e2 with e2 _
  subst e0 e1 e2
  obtain ⟨I, mi, ci, rfl⟩ := slice_cell Tryz.underlying42 t3
  obtain ⟨K, mk, ck, rfl⟩ := slice_cell Tryz.underlying25 t4
  have w0' := w0
  have w1' := w1
  have e0 : IntKind.u8.min = 0 := rfl
  have e1 : IntKind.u8.max = 255 := rfl
  have e2 : IntKind.i64.min = -9223372036854775808 := rfl
  have e3 : IntKind.i64.max = 9223372036854775807 := rfl
  simp only [Lit.wf, decide_eq_true_eq, Bool.and_eq_true] at w0' w1'
  exact ⟨b, o, rfl, hb, k, m, s, I, mi, ci, K, mk, ck, by omega, by omega, by omega, by omega, c0, c1, c2, c3, c4, (bytes_open t3).2.2, strs_open' t4⟩
end
end Go.Proofs.YtaeimlfehlbiiaaGreatDoor
