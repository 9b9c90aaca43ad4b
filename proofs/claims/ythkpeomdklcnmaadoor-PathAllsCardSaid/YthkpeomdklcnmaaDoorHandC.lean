/- Appending to a row whose spare room is shared: what lay in it stays. -/
import Derived.Test.YthkpeomdklcnmaaDoorHandB
import Derived.Test.YthkpeomdklcnmaaDoorAppS
import Derived.Outline
namespace Go.Proofs.YthkpeomdklcnmaaDoor
open Go.RowKit
set_option linter.unusedVariables false

/-- append onto a row of the call's own, of one element or more: it stays where it is, or all is laid anew -/
def Onto (w : World) (v v' : Value) (n N : Nat) (w' : World) : Prop := (∃ g cap, v = .slice (some ⟨g, 0, none⟩) n cap ∧ v' = .slice (some ⟨g, 0, none⟩) N cap) ∨ (v'.ownBlock = some w.heap.size ∧ w.grownBy w' none)
theorem app_onto {P : Program} {w : World} {base : Nat} {t ty e : TypeId} {i : TypeInfo} {z : Value} {size bytes : Nat} (ht : P.underlying t = some (.slice e)) (hi : P.info? e = some i) (hz : i.zero = some z)
    (hsize : i.size = size) (hby : i.bytes = bytes) (hzs : z.cells.size = size) (hsz : 0 < size)
    {v : Value} {n : Nat} {xs : List Value} (hown : w.ownsRow base e size v n xs)
    {a : Addr} {m c : Nat} {news : List Value} (hl : news.length = m * size) (hnews : ∀ j u, news[j]? = some u → w.cell? (a.add j) = some u) (h1 : ∀ u ∈ news, u.oneCell' = true) (hm : 0 < m)
    (h63 : n + m ≤ maxLen) (hbytes : (n + m) * bytes ≤ 140737488355328) (hbase : base ≤ w.heap.size) :
    ∃ v' w', (Builtin.append_ #[t, t] ty #[v, .slice (some a) m c]).run P w = .ok v' w' ∧ w'.ownsRow base e size v' (n + m) (xs ++ news) ∧ w.grownBy w' v.ownBlock ∧ Onto w v v' n (n + m) w' := by
  obtain ⟨v', w', hr, h2, h3, h4, h5⟩ := run_append_own_at (P := P) w base t ty e i z size bytes ht hi hz hsize hby hzs hsz v n xs hown a m c news hl hnews h1 h63 hbytes hbase
  refine ⟨v', w', hr, h2, h3, ?_⟩
  rcases hown.2 with ⟨rfl, rfl⟩ | ⟨g, cap, cur, rfl, hbg, hg, hnc, hcm, hcs, htake⟩
  · refine .inr ⟨?_, h3⟩
    rcases h5 with h5 | h5
    · exfalso
      rcases h2.2 with ⟨_, h0⟩ | ⟨g, cap, cur, rfl, _⟩
      · omega
      · cases h5
    · exact h5
  · by_cases hroom : n + m ≤ cap
    · left
      subst hsize
      have hfit : n * i.size + news.length ≤ cur.size := by rw [hl, hcs, ← Nat.add_mul]; exact Nat.mul_le_mul_right _ hroom
      have hr2 := run_append_room (P := P) w t ty e i ht hi g n cap cur hg a m c news hl hnews h1 hroom hfit
      rw [hr2] at hr
      injection hr with e1 e2
      exact ⟨g, cap, rfl, e1.symm⟩
    · right
      subst hsize hby
      have hsmall : n + m ≤ 9223372036854775807 := by simp only [maxLen] at h63; omega
      have holds : ∀ j u, xs[j]? = some u → w.cell? ((⟨g, 0, none⟩ : Addr).add j) = some u := hown.cells (g := g) rfl
      have hr2 := run_append_grow (P := P) w t ty e i z ht hi hz ⟨g, 0, none⟩ n cap xs hown.1 holds a m c news hl hnews (by omega) (by omega) (growslice_fits (by omega) hbytes)
      rw [hr2] at hr
      injection hr with e1 e2
      subst e1 e2
      exact ⟨rfl, rfl, rfl, rfl, by simp, fun k hk _ => Below.heap_alloc w.drew _ k hk⟩
/-- at a step of a region that draws its order -/
theorem app_onto_step {w : World} {ops : Array Oper} {o : Oper} {a : Act} {K : Act → World → Prop} {Q : Exit → Act → World → Prop} {E : Prop} (hgd : o.guard = none) (s x : Operand)
    (ho : o.op = .call { callee := .builtin .append, args := #[s, x], argTypes := #[23, 23] })
    (base : Nat) (P : Option Addr) (cp : Nat) (p : List ByteArray) (hv : a.eval s = .slice P p.length cp) (hown : w.ownsRow base 9 1 (.slice P p.length cp) p.length (p.map Value.string))
    (g c : Nat) (q : ByteArray) (hx : a.eval x = .slice (some ⟨g, 0, none⟩) 1 c) (hs : Blk w g 9 #[.string q]) (hp : p.length ≤ 1000) (hbase : base ≤ w.heap.size)
    (h : ∀ B d w', w'.ownsRow base 9 1 (.slice B (p ++ [q]).length d) (p ++ [q]).length ((p ++ [q]).map Value.string) → w.grownBy w' (Value.slice P p.length cp).ownBlock → Onto w (.slice P p.length cp) (.slice B (p ++ [q]).length d) p.length (p ++ [q]).length w' → K (a.put o.dst (.slice B (p ++ [q]).length d)) w') :
    if Region.wanted o (yielded ops a.tmps) = true then Oper.wp Tryd.prog o a w K Q else E := by
  have hw : Region.wanted o (yielded ops a.tmps) = true := by simp [Region.wanted, hgd]
  rw [if_pos hw]
  obtain ⟨i0, hi, hz0, hz1, hz2⟩ := info_parts infoStr
  obtain ⟨v', w', hr, h2, h3, h4⟩ := app_onto (P := Tryd.prog) (ty := o.type) Tryd.underlying23 hi hz0 hz1 hz2 rfl (by decide) hown (a := ⟨g, 0, none⟩) (m := 1) (c := c) (news := [.string q]) rfl
    (fun j u hu => by
      match j, hu with
      | 0, hu => simp at hu; subst hu; rw [add_lit]; exact hs.cell 0) (by simp [Value.oneCell']) (by omega) (by unfold maxLen; omega) (by omega) hbase
  unfold Oper.wp execOp
  simp only [ho, resolve, invoke, builtin, Sem.run_bind, Sem.run_pure, Result.andThen_ok, List.map_toArray, List.map_cons, List.map_nil, hv, hx, hr]
  obtain ⟨B, d, rfl⟩ := own_slice h2
  have hl : (p ++ [q]).length = p.length + 1 := by simp
  have hm : (p ++ [q]).map Value.string = p.map Value.string ++ [.string q] := by simp
  rw [← hl] at h2 h4 ⊢
  rw [← hm] at h2
  exact h B d w' h2 h3 h4
/-- what lay in the row lies there still when what was made of it has been used -/
theorem row_back {w1 w2 w3 : World} {base n : Nat} {v v' : Value} {xs ys : List Value} {D : Nat → Prop} (h1 : w1.ownsRow base 9 1 v n xs) (hg : w1.grownBy w2 v.ownBlock) (ho : Onto w1 v v' n (n + 1) w2)
    (h3 : w3.ownsRow base 9 1 v' (n + 1) (xs ++ ys)) (hb : But (fun b => D b ∨ some b = v'.ownBlock) w2 w3) (hD : ∀ b, D b → some b ≠ v.ownBlock) : w3.ownsRow base 9 1 v n xs := by
  rcases ho with ⟨g, cap, rfl, rfl⟩ | ⟨he, hk⟩
  · refine ⟨h1.1, .inr ?_⟩
    rcases h1.2 with ⟨hh, _⟩ | ⟨g1, cap1, cur1, e1, hbg, _, hnc, hcm, _, _⟩
    · cases hh
    rcases h3.2 with ⟨hh, _⟩ | ⟨g2, cap2, cur2, e2, _, hg2, _, hcm2, hcs2, ht2⟩
    · cases hh
    injection e1 with e1a e1b e1c
    injection e2 with e2a e2b e2c
    injection e2a with e2a
    injection e2a with e2a
    injection e1a with e1a
    injection e1a with e1a
    subst e1a e1c e2a e2c
    refine ⟨g, cap, cur2, rfl, hbg, hg2, hnc, hcm, hcs2, ?_⟩
    have h5 : cur2.toList.take (n * 1) = (cur2.toList.take ((n + 1) * 1)).take (n * 1) := by rw [List.take_take]; congr 1; omega
    rw [h5, ht2, List.take_left' (by rw [h1.1])]
  · have h2 : w2.ownsRow base 9 1 v n xs := h1.kept hk (by cases v.ownBlock <;> simp)
    have hlt := h1.lt
    rcases h2.2 with hn | ⟨g, cap, cur, rfl, hbg, hgg, rest⟩
    · exact ⟨h2.1, .inl hn⟩
    · refine ⟨h2.1, .inr ⟨g, cap, cur, rfl, hbg, ?_, rest⟩⟩
      have hgl := (hlt g rfl).2
      rw [hb.block g (by have := hk.size; omega) (by
        rintro (h | h)
        · exact hD g h rfl
        · rw [he] at h; injection h with h; omega)]
      exact hgg
/-- where the parts of item j stand among those of the whole -/
theorem parts_seg {t x : T} {p : List ByteArray} {j i : Nat} {qx : List ByteArray × T} (hx : t.items[j]? = some x) (h : (x.parts (p ++ [stepOf t.kind t.keys j]))[i]? = some qx) : (t.parts p)[1 + T.sizes (t.items.take j) + i]? = some qx := by
  have h1 := partsL_take (k := t.kind) (ks := t.keys) (p := p) (i := 0) hx
  have h2 : ∀ (l r : List T) (i : Nat), T.partsL t.kind t.keys p (l ++ r) i = T.partsL t.kind t.keys p l i ++ T.partsL t.kind t.keys p r (i + l.length) := by
    intro l
    induction l with
    | nil => intro r i; simp [T.partsL]
    | cons y l ih => intro r i; rw [List.cons_append, T.partsL, T.partsL, ih, List.append_assoc, List.length_cons, show i + 1 + l.length = i + (l.length + 1) by omega]
  rw [parts_eq, show 1 + T.sizes (t.items.take j) + i = (T.sizes (t.items.take j) + i) + 1 by omega, List.getElem?_cons_succ]
  rw [← List.take_append_drop (j + 1) t.items, h2, h1, Nat.zero_add, List.append_assoc, List.take_append_drop]
  have hl := partsL_len t.kind t.keys p (t.items.take j) 0
  rw [List.getElem?_append_right (by omega), hl, Nat.add_sub_cancel_left, List.getElem?_append_left (lt_of_get h)]
  exact h
end Go.Proofs.YthkpeomdklcnmaaDoor
