/- All paths from a value, each with what it leads to: plain mathematics; and rows of them in memory. -/
import Derived.Test.YthkpeomdklcnmaaGreatDoorWay
import Derived.Test.YthkpeomdklcnmaaGreatDoorCells
import Derived.Test.YthkpeomdklcnmaaGreatDoorAppS
namespace Go.Proofs.YthkpeomdklcnmaaGreatDoor
open Go.RowKit
set_option linter.unusedVariables false

/-- the step that leads to item i, of kind k and with these keys -/
def stepOf (k : Int) (ks : List ByteArray) (i : Nat) : ByteArray := if k = 5 then ks.getD i ⟨#[]⟩ else decB i
mutual
def T.parts : T → List ByteArray → List (List ByteArray × T)
  | .mk k b n s l ks, p => (p, .mk k b n s l ks) :: T.partsL k ks p l 0
def T.partsL (k : Int) (ks : List ByteArray) (p : List ByteArray) : List T → Nat → List (List ByteArray × T)
  | [], _ => []
  | x :: r, i => x.parts (p ++ [stepOf k ks i]) ++ T.partsL k ks p r (i + 1)
end
theorem parts_eq (t : T) (p : List ByteArray) : t.parts p = (p, t) :: T.partsL t.kind t.keys p t.items 0 := by cases t; rfl
theorem partsL_take {k : Int} {ks : List ByteArray} {p : List ByteArray} : ∀ {l : List T} {j i : Nat} {x : T}, l[j]? = some x → T.partsL k ks p (l.take (j + 1)) i = T.partsL k ks p (l.take j) i ++ x.parts (p ++ [stepOf k ks (i + j)])
  | [], j, i, x, h => by simp at h
  | y :: l, 0, i, x, h => by
    simp only [List.getElem?_cons_zero, Option.some.injEq] at h
    subst h
    simp [T.partsL]
  | y :: l, j + 1, i, x, h => by
    simp only [List.getElem?_cons_succ] at h
    rw [List.take_succ_cons, List.take_succ_cons, T.partsL, T.partsL, partsL_take h, List.append_assoc, show i + 1 + j = i + (j + 1) by omega]
/-- each of them leads there -/
theorem parts_leads : ∀ (n : Nat) (t : T) (p : List ByteArray), t.size ≤ n → t.Good → T.All Fit t → t.size ≤ 1000 → ∀ qx ∈ t.parts p, ∃ q, qx.1 = p ++ q ∧ Leads t q qx.2 ∧ q.length < t.size ∧ ∀ s ∈ q, s.size ≤ 1000 := by
  intro n
  induction n with
  | zero => intro t p h; have := t.size_pos; omega
  | succ n ih =>
    intro t p hn hg hf hs qx hqx
    rw [parts_eq] at hqx
    rcases List.mem_cons.1 hqx with rfl | hqx
    · exact ⟨[], by simp, rfl, t.size_pos, fun s hs => by cases hs⟩
    · have key : ∀ (l : List T) (i : Nat), (∀ (j : Nat) (x : T), l[j]? = some x → t.items[i + j]? = some x) → qx ∈ T.partsL t.kind t.keys p l i → ∃ (j : Nat) (x : T), t.items[j]? = some x ∧ qx ∈ x.parts (p ++ [stepOf t.kind t.keys j]) := by
        intro l
        induction l with
        | nil => intro i _ h; cases h
        | cons x r ihr =>
          intro i hi h
          rw [T.partsL] at h
          rcases List.mem_append.1 h with h | h
          · exact ⟨i, x, by simpa using hi 0 x rfl, h⟩
          · exact ihr (i + 1) (fun j y hy => by have := hi (j + 1) y (by simpa using hy); rwa [show i + 1 + j = i + (j + 1) by omega]) h
      obtain ⟨j, x, hx, hm⟩ := key t.items 0 (fun j x h => by rwa [Nat.zero_add]) hqx
      have hxs := T.at_size hx
      have hjl := lt_of_get hx
      have hil := T.len_size t
      obtain ⟨q, h1, h2, h3, h4⟩ := ih x _ (by omega) (hg.at_ hx) (hf.at_ hx) (by omega) qx hm
      have hk : IsAt t (stepOf t.kind t.keys j) j := by
        refine ⟨hjl, ?_⟩
        have gi := hg.here
        by_cases h5 : t.kind = 5
        · right
          refine ⟨h5, ?_⟩
          have hkl : j < t.keys.length := by rw [gi.lens h5]; exact hjl
          unfold stepOf
          rw [if_pos h5, List.getD_eq_getElem?_getD, List.getElem?_eq_getElem hkl]; rfl
        · left
          refine ⟨?_, by unfold stepOf; rw [if_neg h5]⟩
          by_cases h4 : t.kind = 4
          · exact h4
          · have := gi.items h4 h5
            rw [this] at hx; simp at hx
      have hz : (stepOf t.kind t.keys j).size ≤ 1000 := by
        rcases hk.2 with ⟨_, h⟩ | ⟨_, h⟩
        · rw [h]; have := decB_size (k := j) (by omega); omega
        · have := hf.here.keys _ (List.mem_of_getElem? h); omega
      refine ⟨stepOf t.kind t.keys j :: q, by rw [h1, List.append_assoc]; rfl, ⟨j, x, hk, hx, h2⟩, by simp only [List.length_cons]; omega, fun s hs => ?_⟩
      rcases List.mem_cons.1 hs with rfl | hs
      · exact hz
      · exact h4 s hs
mutual
theorem parts_len : ∀ (t : T) (p : List ByteArray), (t.parts p).length = t.size
  | .mk k b n s l ks, p => by rw [T.parts, T.size, List.length_cons, partsL_len k ks p l 0]; omega
theorem partsL_len (k : Int) (ks : List ByteArray) (p : List ByteArray) : ∀ (l : List T) (i : Nat), (T.partsL k ks p l i).length = T.sizes l
  | [], _ => rfl
  | x :: r, i => by rw [T.partsL, T.sizes, List.length_append, parts_len x, partsL_len k ks p r (i + 1)]
end
/-- a part's seven cells -/
def partCs (q : List ByteArray) (P : Option Addr) (cp : Nat) (x : T) (B : Option Addr) (e : Nat) (B' : Option Addr) (e' : Nat) : List Value := .slice P q.length cp :: (x.cs B e B' e').toList
/-- the cells xs are those of the parts L, whose rows lie in S -/
def PCells (w : World) (S : Nat → Prop) (L : List (List ByteArray × T)) (xs : List Value) : Prop :=
  xs.length = L.length * 7 ∧ (∀ u ∈ xs, u.oneCell' = true) ∧ ∀ i qx, L[i]? = some qx → ∃ P cp B e B' e', (∀ j, j < 7 → xs[i * 7 + j]? = (partCs qx.1 P cp qx.2 B e B' e')[j]?) ∧ qx.1.length ≤ cp ∧ SReads w S P qx.1 ∧ TV w S qx.2 B e B' e'
theorem PCells.wide {w : World} {S S' : Nat → Prop} {L : List (List ByteArray × T)} {xs : List Value} (h : PCells w S L xs) (hs : ∀ b, S b → S' b) : PCells w S' L xs :=
  ⟨h.1, h.2.1, fun i qx hx => by
    obtain ⟨P, cp, B, e, B', e', h1, h2, h3, h4⟩ := h.2.2 i qx hx
    exact ⟨P, cp, B, e, B', e', h1, h2, h3.wide hs, h4.wide hs⟩⟩
theorem PCells.keep {w w' : World} {S : Nat → Prop} {L : List (List ByteArray × T)} {xs : List Value} (h : PCells w S L xs) (hk : Keeps S w w') : PCells w' S L xs :=
  ⟨h.1, h.2.1, fun i qx hx => by
    obtain ⟨P, cp, B, e, B', e', h1, h2, h3, h4⟩ := h.2.2 i qx hx
    exact ⟨P, cp, B, e, B', e', h1, h2, h3.keep hk, h4.keep hk⟩⟩
theorem PCells.on {w w' : World} {L : List (List ByteArray × T)} {xs : List Value} (h : PCells w (· < w.heap.size) L xs) (hb : Below w.heap.size w w') : PCells w' (· < w'.heap.size) L xs :=
  (h.keep (.of_below hb)).wide fun b hb' => Nat.lt_of_lt_of_le hb' hb.size
theorem PCells.append {w : World} {S : Nat → Prop} {L M : List (List ByteArray × T)} {xs ys : List Value} (h : PCells w S L xs) (k : PCells w S M ys) : PCells w S (L ++ M) (xs ++ ys) := by
  refine ⟨by rw [List.length_append, List.length_append, h.1, k.1, Nat.add_mul], fun u hu => ?_, fun i qx hx => ?_⟩
  · rcases List.mem_append.1 hu with hu | hu
    · exact h.2.1 u hu
    · exact k.2.1 u hu
  · rcases Nat.lt_or_ge i L.length with hi | hi
    · rw [List.getElem?_append_left hi] at hx
      obtain ⟨P, cp, B, e, B', e', h1, h2⟩ := h.2.2 i qx hx
      exact ⟨P, cp, B, e, B', e', fun j hj => by rw [List.getElem?_append_left (by rw [h.1]; omega)]; exact h1 j hj, h2⟩
    · rw [List.getElem?_append_right hi] at hx
      obtain ⟨P, cp, B, e, B', e', h1, h2⟩ := k.2.2 _ qx hx
      refine ⟨P, cp, B, e, B', e', fun j hj => ?_, h2⟩
      rw [List.getElem?_append_right (by rw [h.1]; omega), h.1, show i * 7 + j - L.length * 7 = (i - L.length) * 7 + j by omega]
      exact h1 j hj
theorem partCs_one {q : List ByteArray} {P : Option Addr} {cp : Nat} {x : T} {B : Option Addr} {e : Nat} {B' : Option Addr} {e' : Nat} : ∀ u ∈ partCs q P cp x B e B' e', u.oneCell' = true := by
  intro u hu
  rcases List.mem_cons.1 hu with rfl | hu
  · rfl
  · exact cs_one u hu
theorem PCells.one {w : World} {S : Nat → Prop} {q : List ByteArray} {P : Option Addr} {cp : Nat} {x : T} {B : Option Addr} {e : Nat} {B' : Option Addr} {e' : Nat} (hc : q.length ≤ cp) (hp : SReads w S P q) (h : TV w S x B e B' e') : PCells w S [(q, x)] (partCs q P cp x B e B' e') := by
  refine ⟨rfl, partCs_one, fun i qx hi => ?_⟩
  obtain ⟨rfl, rfl⟩ : i = 0 ∧ qx = (q, x) := by
    match i, hi with
    | 0, hi => injection hi with hi; exact ⟨rfl, hi.symm⟩
    | i + 1, hi => simp at hi
  exact ⟨P, cp, B, e, B', e', fun j _ => by rw [Nat.zero_mul, Nat.zero_add], hc, hp, h⟩
/-- a slice value whose elements are the parts L -/
def PReads (w : World) (S : Nat → Prop) (A : Option Addr) (n : Nat) (L : List (List ByteArray × T)) : Prop := n = L.length ∧ ∃ xs, PCells w S L xs ∧ (L ≠ [] → ∃ b o, A = some ⟨b, o, none⟩ ∧ S b ∧ ∀ j u, xs[j]? = some u → w.cell? ⟨b, o + j, none⟩ = some u)
theorem PReads.src {w : World} {S : Nat → Prop} {B : Nat} {A : Option Addr} {n : Nat} {L : List (List ByteArray × T)} (h : PReads w S A n L) (hS : ∀ b, S b → b < B) : ∃ xs, PCells w S L xs ∧ ∀ W2, Below B w W2 → Src W2 A n 7 xs := by
  obtain ⟨rfl, xs, hc, hs⟩ := h
  refine ⟨xs, hc, fun W2 hb => ⟨hc.1, fun hm => ?_⟩⟩
  obtain ⟨b, o, e, hlt, hcell⟩ := hs (by intro hn; rw [hn] at hm; simp at hm)
  refine ⟨_, e, fun j u hu => ?_⟩
  rw [add_lit]
  exact ((Keeps.of_below hb).cell (hS b hlt) _).trans (hcell j u hu)
theorem PReads.of_own {ty : TypeId} {w : World} {S : Nat → Prop} {base n : Nat} {A : Option Addr} {c : Nat} {L : List (List ByteArray × T)} {xs : List Value} (hn : n = L.length) (ho : w.ownsRow base ty 7 (.slice A n c) n xs) (hS : ∀ b, base ≤ b → b < w.heap.size → S b) (hc : PCells w S L xs) : n ≤ c ∧ PReads w S A n L := by
  subst hn
  rcases ho.2 with ⟨he, h0⟩ | ⟨g, cap, cur, he, hb, hh, hle, hm, hs, ht⟩
  · injection he with e1 _ e3
    subst e1 e3
    exact ⟨by omega, rfl, xs, hc, fun h => absurd (List.eq_nil_of_length_eq_zero h0) h⟩
  · injection he with e1 _ e3
    subst e1 e3
    refine ⟨hle, rfl, xs, hc, fun _ => ⟨g, 0, rfl, hS g hb (Array.getElem?_eq_some_iff.1 hh).1, fun j u hu => ?_⟩⟩
    have hj : j < L.length * 7 := by have := lt_of_get hu; rwa [hc.1] at this
    rw [Nat.zero_add, cell_of_row w g j cur ty (0, 0) hh]
    have h1 : (cur.toList.take (L.length * 7))[j]? = xs[j]? := by rw [ht]
    rw [List.getElem?_take_of_lt hj, Array.getElem?_toList] at h1
    rw [h1]; exact hu
theorem PReads.at_ {w : World} {S : Nat → Prop} {A : Option Addr} {n : Nat} {L : List (List ByteArray × T)} (h : PReads w S A n L) {i : Nat} {qx : List ByteArray × T} (hi : L[i]? = some qx) :
    ∃ b o P cp, A = some ⟨b, o, none⟩ ∧ S b ∧ w.cell? ⟨b, o + i * 7, none⟩ = some (.slice P qx.1.length cp) ∧ qx.1.length ≤ cp ∧ SReads w S P qx.1 := by
  obtain ⟨rfl, xs, hc, hs⟩ := h
  obtain ⟨b, o, e, hlt, hcell⟩ := hs (by intro hn; rw [hn] at hi; simp at hi)
  obtain ⟨P, cp, B, e1, B', e1', h1, h2, h3, _⟩ := hc.2.2 i qx hi
  refine ⟨b, o, P, cp, e, hlt, hcell _ _ ?_, h2, h3⟩
  have := h1 0 (by omega)
  rw [Nat.add_zero] at this
  rw [this]; rfl
/-- a row of texts of the call's own, readable -/
theorem own_strs2 {w : World} {base n : Nat} {A : Option Addr} {c : Nat} {l : List ByteArray} (hn : n = l.length) (h : w.ownsRow base 9 1 (.slice A n c) n (l.map Value.string)) : n ≤ c ∧ SReads w (fun b => base ≤ b ∧ b < w.heap.size) A l := by
  subst hn
  rcases h.2 with ⟨he, h0⟩ | ⟨g, cap, cur, he, hb, hh, hle, hm, hs, ht⟩
  · injection he with e1 _ e3
    subst e1 e3
    obtain rfl : l = [] := List.eq_nil_of_length_eq_zero h0
    exact ⟨Nat.le_refl _, SReads.none_ _ _ _⟩
  · injection he with e1 _ e3
    subst e1 e3
    refine ⟨hle, fun _ => ⟨g, 0, rfl, ⟨hb, (Array.getElem?_eq_some_iff.1 hh).1⟩, fun i s hi => ?_⟩⟩
    have hl := lt_of_get hi
    have h1 : (cur.toList.take (l.length * 1))[i]? = (l.map Value.string)[i]? := by rw [ht]
    rw [List.getElem?_take_of_lt (by omega), Array.getElem?_toList, List.getElem?_map, hi] at h1
    rw [cell_of_row w g (0 + i) cur 9 _ hh, Nat.zero_add]
    exact h1
end Go.Proofs.YthkpeomdklcnmaaGreatDoor
