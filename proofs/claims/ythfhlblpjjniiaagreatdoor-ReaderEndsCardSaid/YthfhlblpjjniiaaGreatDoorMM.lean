/- A text in quotation marks, a value's text: plain mathematics. Good values, and the program's Good of them. List: contract. The values that the law's Tree gives: plain mathematics. As Nice, but of up to eighty parts: plain mathematics. A value's text: its parts, its length: plain mathematics. -/
import Derived.Test.YthfhlblpjjniiaaGreatDoorMA
import Derived.Lib.ItoaNum
import Derived.Lib.Bytealg
import Derived.Test.YthfhlblpjjniiaaGreatDoorMJ
import Derived.Test.YthfhlblpjjniiaaGreatDoorMG
import Derived.Test.YthfhlblpjjniiaaGreatDoorMH
import Derived.Test.YthfhlblpjjniiaaGreatDoorML
import Derived.Test.YthfhlblpjjniiaaGreatDoorNA
namespace Go.Proofs.YthfhlblpjjniiaaGreatDoor
set_option linter.unusedVariables false
namespace Q
def hex (d : UInt8) : UInt8 := if d < 10 then 48 + d else 87 + d
def esc (c : UInt8) : List UInt8 :=
 if c = 34 then [92, 34] else if c = 92 then [92, 92] else if c = 8 then [92, 98] else if c = 12 then [92, 102] else if c = 10 then [92, 110] else if c = 13 then [92, 114] else if c = 9 then [92, 116]
 else if c < 32 then [92, 117, 48, 48, hex (c / 16), hex (c % 16)] else [c]
def quo (l : List UInt8) : List UInt8 := 34 :: (l.flatMap esc ++ [34])
theorem esc_shape (c : UInt8) : (∃ a, esc c = [a] ∧ a ≠ 92 ∧ a ≠ 34) ∨ (∃ b, esc c = [92, b] ∧ b ≠ 117) ∨ ∃ p q, esc c = [92, 117, 48, 48, p, q] := by
 unfold esc
 split
 · exact .inr (.inl ⟨34, rfl, by decide⟩)
 split
 · exact .inr (.inl ⟨92, rfl, by decide⟩)
 split
 · exact .inr (.inl ⟨98, rfl, by decide⟩)
 split
 · exact .inr (.inl ⟨102, rfl, by decide⟩)
 split
 · exact .inr (.inl ⟨110, rfl, by decide⟩)
 split
 · exact .inr (.inl ⟨114, rfl, by decide⟩)
 split
 · exact .inr (.inl ⟨116, rfl, by decide⟩)
 split
 · exact .inr (.inr ⟨_, _, rfl⟩)
 ·
  rename_i h1 h2 _ _ _ _ _ _
  exact .inl ⟨c, rfl, h2, h1⟩
theorem esc_len (c : UInt8) : (esc c).length ≤ 6 := by
 rcases esc_shape c with ⟨a, h, _⟩ | ⟨b, h, _⟩ | ⟨p, q, h⟩ <;> rw [h] <;> simp
end Q
namespace T
mutual
def txt : T → List UInt8
 | .mk k tr n s l ks => if k = 1 then (if tr then [116, 114, 117, 101] else [102, 97, 108, 115, 101]) else if k = 2 then Lib.itoa n else if k = 3 then Q.quo s.toList
  else if k = 4 then 91 :: (txts ks l 0 ++ [93]) else if k = 5 then 123 :: (txts ks l 0 ++ [125]) else [110, 117, 108, 108]
def txts : List ByteArray → List T → Nat → List UInt8
 | _, [], _ => []
 | ks, x :: r, i => (if i = 0 then [] else [44]) ++ ((match ks[i]? with | some q => Q.quo q.toList ++ [58] | none => []) ++ (x.txt ++ txts ks r (i + 1)))
end
end T
end Go.Proofs.YthfhlblpjjniiaaGreatDoor
namespace Go.Proofs.YthfhlblpjjniiaaGreatDoor
namespace Q
end Q
end Go.Proofs.YthfhlblpjjniiaaGreatDoor
namespace Go.Proofs.YthfhlblpjjniiaaGreatDoor
open Go.RowKit
structure GoodAt (t : T) : Prop where
 k0 : 0 ≤ t.kind
 k5 : t.kind ≤ 5
 tr : t.kind ≠ 1 → t.tr = false
 num : t.kind ≠ 2 → t.num = 0
 str : t.kind ≠ 3 → t.str = ⟨#[]⟩
 items : t.kind ≠ 4 → t.kind ≠ 5 → t.items = []
 keys : t.kind ≠ 5 → t.keys = []
 lens : t.kind = 5 → t.keys.length = t.items.length
 txt : okText t.str
 ktxt : AllText t.keys
 kris : Rising t.keys
def T.Good : T → Prop := T.All GoodAt
theorem T.Good.kinds {t : T} (h : t.Good) : t.Kinds := h.imp fun _ g => ⟨g.k0, g.k5⟩
theorem GoodAt.klen {t : T} (h : GoodAt t) : t.keys.length ≤ t.items.length := by
 by_cases h5 : t.kind = 5
 · exact Nat.le_of_eq (h.lens h5)
 · rw [h.keys h5]; exact Nat.zero_le _
theorem T.Good.small {t : T} (h : t.Good) (hs : t.size ≤ 100000) : t.Small := by
 unfold T.Good at h
 induction h with
 | mk t h hm ih =>
  refine .mk t ?_ fun x hx => ih x hx ?_
  · have := h.klen; have := t.len_size; omega
  · have := T.mem_size hx; rw [T.size_eq] at hs; omega
end Go.Proofs.YthfhlblpjjniiaaGreatDoor
namespace Go.Proofs.YthfhlblpjjniiaaGreatDoor
open Go.RowKit
def T.ofList (l : List T) : T := .mk 4 false 0 ⟨#[]⟩ l []
end Go.Proofs.YthfhlblpjjniiaaGreatDoor
namespace Go.Proofs.YthfhlblpjjniiaaGreatDoor
open Go.RowKit
structure Fit (t : T) : Prop where
 n0 : -9223372036854775808 ≤ t.num
 n1 : t.num ≤ 9223372036854775807
 str : t.str.size ≤ 60
 keys : ∀ s ∈ t.keys, s.size ≤ 60
structure T.Nice (t : T) : Prop where
 good : t.Good
 size : t.size ≤ 40
 fit : T.All Fit t
theorem T.Nice.small {t : T} (h : t.Nice) : t.Small := h.good.small (by have := h.size; omega)
theorem T.Nice.le {t : T} (h : t.Nice) : t.size ≤ 100000 := by have := h.size; omega
theorem T.Nice.mem {t x : T} (h : t.Nice) (hx : x ∈ t.items) : x.Nice :=
 ⟨h.good.mem hx, by have := T.mem_size hx; have := h.size; rw [T.size_eq] at this; omega, h.fit.mem hx⟩
theorem T.Nice.at_ {t x : T} (h : t.Nice) {k : Nat} (hx : t.items[k]? = some x) : x.Nice := h.mem (List.mem_of_getElem? hx)
theorem allText_nil : AllText [] := fun _ h => by cases h
theorem rising_nil : Rising [] := fun i a b h _ => by simp at h
theorem emp60 : (⟨#[]⟩ : ByteArray).size ≤ 60 := by decide
theorem okText_emp : okText ⟨#[]⟩ := okText_nil
theorem nice_zero : T.zero.Nice :=
 ⟨T.leaf_all ⟨(show (0 : Int) ≤ 0 by omega), (show (0 : Int) ≤ 5 by omega), fun _ => rfl, fun _ => rfl, fun _ => rfl, fun _ _ => rfl, fun _ => rfl, fun h => absurd h (show (0 : Int) ≠ 5 by omega), okText_emp, allText_nil, rising_nil⟩ rfl,
  show 1 ≤ 40 by omega, T.leaf_all ⟨(show (-9223372036854775808 : Int) ≤ 0 by omega), (show (0 : Int) ≤ 9223372036854775807 by omega), emp60, fun _ h => by cases h⟩ rfl⟩
theorem nice_bool (b : Bool) : (T.ofBool b).Nice :=
 ⟨T.leaf_all ⟨(show (0 : Int) ≤ 1 by omega), (show (1 : Int) ≤ 5 by omega), fun h => absurd rfl h, fun _ => rfl, fun _ => rfl, fun _ _ => rfl, fun _ => rfl, fun h => absurd h (show (1 : Int) ≠ 5 by omega), okText_emp, allText_nil, rising_nil⟩ rfl,
  show 1 ≤ 40 by omega, T.leaf_all ⟨(show (-9223372036854775808 : Int) ≤ 0 by omega), (show (0 : Int) ≤ 9223372036854775807 by omega), emp60, fun _ h => by cases h⟩ rfl⟩
theorem nice_num {n : Int} (h0 : -9223372036854775808 ≤ n) (h1 : n ≤ 9223372036854775807) : (T.ofNum n).Nice :=
 ⟨T.leaf_all ⟨(show (0 : Int) ≤ 2 by omega), (show (2 : Int) ≤ 5 by omega), fun _ => rfl, fun h => absurd rfl h, fun _ => rfl, fun _ _ => rfl, fun _ => rfl, fun h => absurd h (show (2 : Int) ≠ 5 by omega), okText_emp, allText_nil, rising_nil⟩ rfl,
  show 1 ≤ 40 by omega, T.leaf_all ⟨h0, h1, emp60, fun _ h => by cases h⟩ rfl⟩
theorem nice_str {s : ByteArray} (h0 : okText s) (h1 : s.size ≤ 60) : (T.ofStr s).Nice :=
 ⟨T.leaf_all ⟨(show (0 : Int) ≤ 3 by omega), (show (3 : Int) ≤ 5 by omega), fun _ => rfl, fun _ => rfl, fun h => absurd rfl h, fun _ _ => rfl, fun _ => rfl, fun h => absurd h (show (3 : Int) ≠ 5 by omega), h0, allText_nil, rising_nil⟩ rfl,
  show 1 ≤ 40 by omega, T.leaf_all ⟨(show (-9223372036854775808 : Int) ≤ 0 by omega), (show (0 : Int) ≤ 9223372036854775807 by omega), h1, fun _ h => by cases h⟩ rfl⟩
theorem nice_nil : (T.ofList []).Nice :=
 ⟨T.leaf_all ⟨(show (0 : Int) ≤ 4 by omega), (show (4 : Int) ≤ 5 by omega), fun _ => rfl, fun _ => rfl, fun _ => rfl, fun _ _ => rfl, fun _ => rfl, fun h => absurd h (show (4 : Int) ≠ 5 by omega), okText_emp, allText_nil, rising_nil⟩ rfl,
  show 1 ≤ 40 by omega, T.leaf_all ⟨(show (-9223372036854775808 : Int) ≤ 0 by omega), (show (0 : Int) ≤ 9223372036854775807 by omega), emp60, fun _ h => by cases h⟩ rfl⟩
theorem list_size (l : List T) : (T.ofList l).size = 1 + T.sizes l := T.size_eq _
theorem nice_app {l : List T} {x : T} (h : (T.ofList l).Nice) (hx : x.Nice) (hs : (T.ofList l).size + x.size ≤ 40) : (T.ofList (l ++ [x])).Nice := by
 have hm : ∀ y ∈ (T.ofList (l ++ [x])).items, y ∈ (T.ofList l).items ∨ y = x := fun y hy => by
  rcases List.mem_append.1 (show y ∈ l ++ [x] from hy) with h1 | h1
  · exact .inl h1
  · exact .inr (by simpa using h1)
 have g := h.good.here
 have f := h.fit.here
 refine ⟨.mk _ ⟨g.k0, g.k5, g.tr, g.num, g.str, fun h4 _ => absurd rfl h4, g.keys, fun h5 => absurd h5 (show (4 : Int) ≠ 5 by omega), g.txt, g.ktxt, g.kris⟩ fun y hy => ?_, ?_, .mk _ ⟨f.n0, f.n1, f.str, f.keys⟩ fun y hy => ?_⟩
 ·
  rcases hm y hy with h1 | rfl
  · exact h.good.mem h1
  · exact hx.good
 ·
  rw [list_size, T.sizes_append]; rw [list_size] at hs
  show 1 + (T.sizes l + (x.size + 0)) ≤ 40
  omega
 ·
  rcases hm y hy with h1 | rfl
  · exact h.fit.mem h1
  · exact hx.fit
def T.ofObj (l : List T) (ks : List ByteArray) : T := .mk 5 false 0 ⟨#[]⟩ l ks
theorem nice_obj : (T.ofObj [] []).Nice :=
 ⟨T.leaf_all ⟨(show (0 : Int) ≤ 5 by omega), (show (5 : Int) ≤ 5 by omega), fun _ => rfl, fun _ => rfl, fun _ => rfl, fun _ _ => rfl, fun _ => rfl, fun _ => rfl, okText_emp, allText_nil, rising_nil⟩ rfl,
  show 1 ≤ 40 by omega, T.leaf_all ⟨(show (-9223372036854775808 : Int) ≤ 0 by omega), (show (0 : Int) ≤ 9223372036854775807 by omega), emp60, fun _ h => by cases h⟩ rfl⟩
theorem rank_mem {l : List ByteArray} {q : ByteArray} (h : Rising l) (hq : q ∈ l) : l[rank l q]? = some q := by
 obtain ⟨j, hj⟩ := List.mem_iff_getElem?.1 hq
 have hl := lt_of_get hj
 have : rank l q = j := rank_eq (fun i k hi hk => h.mono hk j q hi hj) (by omega) (fun k hk => by rw [hj] at hk; injection hk with hk; subst hk; exact sl_irrefl _)
 rw [this]; exact hj
theorem rising_of {l : List ByteArray} (h : l.Pairwise fun a b => sl a b = true) : Rising l := fun i a b ha hb => get_pair h ha hb (by omega)
theorem nice_put {l : List T} {ks : List ByteArray} {q : ByteArray} {x : T} (h : (T.ofObj l ks).Nice) (hx : x.Nice) (hs : (T.ofObj l ks).size + x.size ≤ 40) (hq : okText q) (h60 : q.size ≤ 60) (hn : ¬ ks[rank ks q]? = some q) : (T.ofObj (l.take (rank ks q) ++ x :: l.drop (rank ks q)) (insK ks q)).Nice := by
 have hm : ∀ y ∈ l.take (rank ks q) ++ x :: l.drop (rank ks q), y ∈ (T.ofObj l ks).items ∨ y = x := fun y hy => by
  rcases List.mem_append.1 hy with h1 | h1
  · exact .inl (List.mem_of_mem_take h1)
  ·
   rcases List.mem_cons.1 h1 with h1 | h1
   · exact .inr h1
   · exact .inl (List.mem_of_mem_drop h1)
 have g := h.good.here
 have f := h.fit.here
 have hr : Rising ks := g.kris
 have hqn : q ∉ ks := fun hq => hn (rank_mem hr hq)
 have hlen : ks.length = l.length := g.lens rfl
 have hrl := rank_le ks q
 refine ⟨.mk _ ⟨g.k0, g.k5, g.tr, g.num, g.str, fun _ h5 => absurd rfl h5, fun h5 => absurd rfl h5, fun _ => ?_, g.txt, fun s hs => ?_, rising_of (insK_pair hr hqn)⟩ fun y hy => ?_, ?_, .mk _ ⟨f.n0, f.n1, f.str, fun s hs => ?_⟩ fun y hy => ?_⟩
 ·
  show (insK ks q).length = (l.take (rank ks q) ++ x :: l.drop (rank ks q)).length
  rw [(insK_perm ks q).length_eq]
  simp; omega
 ·
  rcases List.mem_cons.1 ((insK_perm ks q).mem_iff.1 (show s ∈ insK ks q from hs)) with rfl | h1
  · exact hq
  · exact g.ktxt s h1
 ·
  rcases hm y hy with h1 | rfl
  · exact h.good.mem h1
  · exact hx.good
 ·
  rw [T.size_eq] at hs ⊢
  show 1 + T.sizes (l.take (rank ks q) ++ x :: l.drop (rank ks q)) ≤ 40
  have e := T.sizes_append (l.take (rank ks q)) (l.drop (rank ks q))
  rw [List.take_append_drop] at e
  rw [T.sizes_append]
  have : T.sizes (T.ofObj l ks).items = T.sizes l := rfl
  simp only [T.sizes]
  omega
 ·
  rcases List.mem_cons.1 ((insK_perm ks q).mem_iff.1 (show s ∈ insK ks q from hs)) with rfl | h1
  · exact h60
  · exact f.keys s h1
 ·
  rcases hm y hy with h1 | rfl
  · exact h.fit.mem h1
  · exact hx.fit
end Go.Proofs.YthfhlblpjjniiaaGreatDoor
namespace Go.Proofs.YthfhlblpjjniiaaGreatDoor
structure T.Fine (t : T) : Prop where
 good : t.Good
 size : t.size ≤ 80
 fit : T.All Fit t
theorem T.Fine.small {t : T} (h : t.Fine) : t.Small := h.good.small (by have := h.size; omega)
theorem T.Fine.le {t : T} (h : t.Fine) : t.size ≤ 100000 := by have := h.size; omega
theorem T.Fine.mem {t x : T} (h : t.Fine) (hx : x ∈ t.items) : x.Fine :=
 ⟨h.good.mem hx, by have := T.mem_size hx; have := h.size; rw [T.size_eq] at this; omega, h.fit.mem hx⟩
theorem T.Fine.at_ {t x : T} (h : t.Fine) {k : Nat} (hx : t.items[k]? = some x) : x.Fine := h.mem (List.mem_of_getElem? hx)
end Go.Proofs.YthfhlblpjjniiaaGreatDoor
namespace Go.Proofs.YthfhlblpjjniiaaGreatDoor
set_option linter.unusedVariables false
end Go.Proofs.YthfhlblpjjniiaaGreatDoor
