/- A text in quotation marks, a value's text: plain mathematics. Good values, and the program's Good of them. List: contract. The values that the law's Tree gives: plain mathematics. As Nice, but of up to eighty parts: plain mathematics. A value's text: its parts, its length: plain mathematics. Values bounded by the length of their text: plain mathematics. -/
import Derived.Lib.ItoaNum
import Derived.Lib.Bytealg
import Derived.Test.YtgblenoaeanogaaGreatDoorML
import Derived.Outline
set_option linter.unusedVariables false
set_option maxRecDepth 100000
set_option maxHeartbeats 8000000
open Go.Lib (hid)
namespace Go.Proofs.YtgblenoaeanogaaGreatDoor
namespace Q
def hex (d : UInt8) : UInt8 := if d < 10 then 48 + d else 87 + d
def esc (c : UInt8) : List UInt8 :=
 if c = 34 then [92, 34] else if c = 92 then [92, 92] else if c = 8 then [92, 98] else if c = 12 then [92, 102] else if c = 10 then [92, 110] else if c = 13 then [92, 114] else if c = 9 then [92, 116]
 else if c < 32 then [92, 117, 48, 48, hex (c / 16), hex (c % 16)] else [c]
def quo (l : List UInt8) : List UInt8 := 34 :: (l.flatMap esc ++ [34])
theorem esc_shape (c : UInt8) : (∃ a, esc c = [a] ∧ a ≠ 92 ∧ a ≠ 34) ∨ (∃ b, esc c = [92, b] ∧ b ≠ 117) ∨ ∃ p q, esc c = [92, 117, 48, 48, p, q] := by
 unfold esc
 split
 · exact .inr (.inl ⟨34, rfl, by decide⟩)
 split
 · exact .inr (.inl ⟨92, rfl, by decide⟩)
 split
 · exact .inr (.inl ⟨98, rfl, by decide⟩)
 split
 · exact .inr (.inl ⟨102, rfl, by decide⟩)
 split
 · exact .inr (.inl ⟨110, rfl, by decide⟩)
 split
 · exact .inr (.inl ⟨114, rfl, by decide⟩)
 split
 · exact .inr (.inl ⟨116, rfl, by decide⟩)
 split
 · exact .inr (.inr ⟨_, _, rfl⟩)
 ·
  rename_i h1 h2 _ _ _ _ _ _
  exact .inl ⟨c, rfl, h2, h1⟩
theorem esc_len (c : UInt8) : (esc c).length ≤ 6 := by
 rcases esc_shape c with ⟨a, h, _⟩ | ⟨b, h, _⟩ | ⟨p, q, h⟩ <;> rw [h] <;> simp
theorem flat_len (l : List UInt8) : (l.flatMap esc).length ≤ 6 * l.length := by
 induction l with
 | nil => simp
 | cons c l ih => have := esc_len c; simp only [List.flatMap_cons, List.length_append, List.length_cons]; omega
theorem quo_len (l : List UInt8) : (quo l).length ≤ 6 * l.length + 2 := by
 have := flat_len l
 unfold quo
 simp only [List.length_cons, List.length_append, List.length_nil]; omega
end Q
namespace T
mutual
def txt : T → List UInt8
 | .mk k tr n s l ks => if k = 1 then (if tr then [116, 114, 117, 101] else [102, 97, 108, 115, 101]) else if k = 2 then Lib.itoa n else if k = 3 then Q.quo s.toList
  else if k = 4 then 91 :: (txts ks l 0 ++ [93]) else if k = 5 then 123 :: (txts ks l 0 ++ [125]) else [110, 117, 108, 108]
def txts : List ByteArray → List T → Nat → List UInt8
 | _, [], _ => []
 | ks, x :: r, i => (if i = 0 then [] else [44]) ++ ((match ks[i]? with | some q => Q.quo q.toList ++ [58] | none => []) ++ (x.txt ++ txts ks r (i + 1)))
end
theorem txt_eq (t : T) : t.txt = if t.kind = 1 then (if t.tr then [116, 114, 117, 101] else [102, 97, 108, 115, 101]) else if t.kind = 2 then Lib.itoa t.num else if t.kind = 3 then Q.quo t.str.toList
 else if t.kind = 4 then 91 :: (txts t.keys t.items 0 ++ [93]) else if t.kind = 5 then 123 :: (txts t.keys t.items 0 ++ [125]) else [110, 117, 108, 108] := by cases t; rfl
end T
namespace Q
theorem idx_all : ∀ n : Fin 256, Lib.indexByte [34, 92, 8, 12, 10, 13, 9] (UInt8.ofNat n.val) = (if n.val = 34 then 0 else if n.val = 92 then 1 else if n.val = 8 then 2 else if n.val = 12 then 3 else if n.val = 10 then 4 else if n.val = 13 then 5 else if n.val = 9 then 6 else -1) := by decide +kernel
theorem idx_of (c : UInt8) : Lib.indexByte [34, 92, 8, 12, 10, 13, 9] c = (if c.toNat = 34 then 0 else if c.toNat = 92 then 1 else if c.toNat = 8 then 2 else if c.toNat = 12 then 3 else if c.toNat = 10 then 4 else if c.toNat = 13 then 5 else if c.toNat = 9 then 6 else -1) := by
 have := idx_all ⟨c.toNat, c.toNat_lt⟩
 simpa using this
end Q
open Go.RowKit
structure GoodAt (t : T) : Prop where
 k0 : 0 ≤ t.kind
 k5 : t.kind ≤ 5
 tr : t.kind ≠ 1 → t.tr = false
 num : t.kind ≠ 2 → t.num = 0
 str : t.kind ≠ 3 → t.str = ⟨#[]⟩
 items : t.kind ≠ 4 → t.kind ≠ 5 → t.items = []
 keys : t.kind ≠ 5 → t.keys = []
 lens : t.kind = 5 → t.keys.length = t.items.length
 txt : okText t.str
 ktxt : AllText t.keys
 kris : Rising t.keys
def T.Good : T → Prop := T.All GoodAt
theorem GoodAt.klen {t : T} (h : GoodAt t) : t.keys.length ≤ t.items.length := by
 by_cases h5 : t.kind = 5
 · exact Nat.le_of_eq (h.lens h5)
 · rw [h.keys h5]; exact Nat.zero_le _
theorem T.Good.small {t : T} (h : t.Good) (hs : t.size ≤ 100000) : t.Small := by
 unfold T.Good at h
 induction h with
 | mk t h hm ih =>
  refine .mk t ?_ fun x hx => ih x hx ?_
  · have := h.klen; have := t.len_size; omega
  · have := T.mem_size hx; rw [T.size_eq] at hs; omega
open Go.RowKit
def T.ofList (l : List T) : T := .mk 4 false 0 ⟨#[]⟩ l []
theorem list_any (l : List T) (A : Option Addr) (c : Nat) (w : World) (hl : T.sizes l ≤ 100000) (hs : ∀ x ∈ l, x.Small) (hv : VReads w (· < w.heap.size) A l) :
 Calls Tryz.prog 23 #[.slice A l.length c] w fun e w' => (∃ B d, e = .returned ((T.ofList l).agg B d none 0) ∧ TV w' (· < w'.heap.size) (T.ofList l) B d none 0) ∧ Below w.heap.size w w' := by
 have HV := hid hv
 have HS := hid hs
 clear hv hs
 go_enter Tryz.func23, Tryz.ntmps23
 go_wp2_with fail
 have h0 : Below w.heap.size w (w.alloc (.cells zeros 43)) := (Below.refl _ _).alloc (Nat.le_refl _) _
 refine (copies_any l A c _ hl HS.out (HV.out.on h0)).mono ?_
 rintro e w2 ⟨B, d, rfl, hd, ho, hb2⟩
 have hB2 : Blk w2 w.heap.size 43 zeros := (Blk.new w 43 zeros).onto hb2
 have ho2 : OwnRow w2 (w.heap.size + 1) w2.heap.size l B := by have := ho; simpa using this
 have Hb2 := hid (h0.trans (hb2.mono h0.size))
 have HO := hid ho2
 have r0 : w2.cell? ⟨w.heap.size, 0, none⟩ = some (.int .i64 0) := hB2.cell 0
 have r1 : w2.cell? ⟨w.heap.size, 1, none⟩ = some (.bool false) := hB2.cell 1
 have r2 : w2.cell? ⟨w.heap.size, 2, none⟩ = some (.int .i64 0) := hB2.cell 2
 have r3 : w2.cell? ⟨w.heap.size, 3, none⟩ = some (.string ⟨#[]⟩) := hB2.cell 3
 have r4 : w2.cell? ⟨w.heap.size, 4, none⟩ = some (.slice none 0 0) := hB2.cell 4
 have r5 : w2.cell? ⟨w.heap.size, 5, none⟩ = some (.slice none 0 0) := hB2.cell 5
 have x0 := hB2.free 0
 have x1 := hB2.free 1
 have x2 := hB2.free 2
 have x3 := hB2.free 3
 have x4 := hB2.free 4
 have x5 := hB2.free 5
 have HB2 := hid hB2
 clear hb2 hB2 h0 ho ho2
 go_wp2_with fail
 have hF := res_put HB2.out rfl (T.ofList l) B d none 0
 have hL : Below w.heap.size w (((((((w2.setCell ⟨w.heap.size, 0, none⟩ (.int .i64 4)).setCell ⟨w.heap.size, 1, none⟩ (.bool false)).setCell ⟨w.heap.size, 2, none⟩ (.int .i64 0)).setCell ⟨w.heap.size, 3, none⟩ (.string ⟨#[]⟩)).setCell ⟨w.heap.size, 4, none⟩ (.slice B l.length d)).setCell ⟨w.heap.size, 5, none⟩ (.slice none 0 0))) :=
  (((((Hb2.out.setCell (Nat.le_refl _) _).setCell (Nat.le_refl _) _).setCell (Nat.le_refl _) _).setCell (Nat.le_refl _) _).setCell (Nat.le_refl _) _).setCell (Nat.le_refl _) _
 have hK : Keeps (fun b => b ≠ w.heap.size) w2 (((((((w2.setCell ⟨w.heap.size, 0, none⟩ (.int .i64 4)).setCell ⟨w.heap.size, 1, none⟩ (.bool false)).setCell ⟨w.heap.size, 2, none⟩ (.int .i64 0)).setCell ⟨w.heap.size, 3, none⟩ (.string ⟨#[]⟩)).setCell ⟨w.heap.size, 4, none⟩ (.slice B l.length d)).setCell ⟨w.heap.size, 5, none⟩ (.slice none 0 0))) := by
  intro b hb
  rw [Below.heap_setCell _ _ _ _ hb, Below.heap_setCell _ _ _ _ hb, Below.heap_setCell _ _ _ _ hb, Below.heap_setCell _ _ _ _ hb, Below.heap_setCell _ _ _ _ hb, Below.heap_setCell _ _ _ _ hb]
 have hZ : (((((((w2.setCell ⟨w.heap.size, 0, none⟩ (.int .i64 4)).setCell ⟨w.heap.size, 1, none⟩ (.bool false)).setCell ⟨w.heap.size, 2, none⟩ (.int .i64 0)).setCell ⟨w.heap.size, 3, none⟩ (.string ⟨#[]⟩)).setCell ⟨w.heap.size, 4, none⟩ (.slice B l.length d)).setCell ⟨w.heap.size, 5, none⟩ (.slice none 0 0))).heap.size = w2.heap.size := by simp [World.setCell]
 change Blk (((((((w2.setCell ⟨w.heap.size, 0, none⟩ (.int .i64 4)).setCell ⟨w.heap.size, 1, none⟩ (.bool false)).setCell ⟨w.heap.size, 2, none⟩ (.int .i64 0)).setCell ⟨w.heap.size, 3, none⟩ (.string ⟨#[]⟩)).setCell ⟨w.heap.size, 4, none⟩ (.slice B l.length d)).setCell ⟨w.heap.size, 5, none⟩ (.slice none 0 0))) _ _ _ at hF
 generalize (((((((w2.setCell ⟨w.heap.size, 0, none⟩ (.int .i64 4)).setCell ⟨w.heap.size, 1, none⟩ (.bool false)).setCell ⟨w.heap.size, 2, none⟩ (.int .i64 0)).setCell ⟨w.heap.size, 3, none⟩ (.string ⟨#[]⟩)).setCell ⟨w.heap.size, 4, none⟩ (.slice B l.length d)).setCell ⟨w.heap.size, 5, none⟩ (.slice none 0 0))) = W at *
 have m0 : W.cell? ⟨w.heap.size, 0, none⟩ = some (.int .i64 4) := hF.cell 0
 have m1 : W.cell? ⟨w.heap.size, 1, none⟩ = some (.bool false) := hF.cell 1
 have m2 : W.cell? ⟨w.heap.size, 2, none⟩ = some (.int .i64 0) := hF.cell 2
 have m3 : W.cell? ⟨w.heap.size, 3, none⟩ = some (.string ⟨#[]⟩) := hF.cell 3
 have m4 : W.cell? ⟨w.heap.size, 4, none⟩ = some (.slice B l.length d) := hF.cell 4
 have m5 : W.cell? ⟨w.heap.size, 5, none⟩ = some (.slice none 0 0) := hF.cell 5
 refine bodyPost_ret (v := .agg #[.int .i64 4, .bool false, .int .i64 0, .string ⟨#[]⟩, .slice B l.length d, .slice none 0 0]) (by simp [results, Tryz.results23, go_sem, m0, m1, m2, m3, m4, m5]) rfl ⟨⟨B, d, rfl, ?_⟩, hL⟩
 refine TV.of hd (Nat.le_refl _) (fun hn => ?_) (SReads.none_ _ _ _)
 exact ((HO.out.vreads.keep (hK.mono fun b hb => by have := hb.1; show b ≠ w.heap.size; omega)).wide fun b hb => by have := hb.2; show b < W.heap.size; omega) hn
open Go.RowKit
structure Fit (t : T) : Prop where
 n0 : -9223372036854775808 ≤ t.num
 n1 : t.num ≤ 9223372036854775807
 str : t.str.size ≤ 60
 keys : ∀ s ∈ t.keys, s.size ≤ 60
structure T.Nice (t : T) : Prop where
 good : t.Good
 size : t.size ≤ 40
 fit : T.All Fit t
theorem T.Nice.small {t : T} (h : t.Nice) : t.Small := h.good.small (by have := h.size; omega)
theorem T.Nice.le {t : T} (h : t.Nice) : t.size ≤ 100000 := by have := h.size; omega
theorem T.Nice.mem {t x : T} (h : t.Nice) (hx : x ∈ t.items) : x.Nice :=
 ⟨h.good.mem hx, by have := T.mem_size hx; have := h.size; rw [T.size_eq] at this; omega, h.fit.mem hx⟩
theorem T.Nice.at_ {t x : T} (h : t.Nice) {k : Nat} (hx : t.items[k]? = some x) : x.Nice := h.mem (List.mem_of_getElem? hx)
theorem allText_nil : AllText [] := fun _ h => by cases h
theorem rising_nil : Rising [] := fun i a b h _ => by simp at h
theorem emp60 : (⟨#[]⟩ : ByteArray).size ≤ 60 := by decide
theorem okText_emp : okText ⟨#[]⟩ := okText_nil
theorem nice_zero : T.zero.Nice :=
 ⟨T.leaf_all ⟨(show (0 : Int) ≤ 0 by omega), (show (0 : Int) ≤ 5 by omega), fun _ => rfl, fun _ => rfl, fun _ => rfl, fun _ _ => rfl, fun _ => rfl, fun h => absurd h (show (0 : Int) ≠ 5 by omega), okText_emp, allText_nil, rising_nil⟩ rfl,
  show 1 ≤ 40 by omega, T.leaf_all ⟨(show (-9223372036854775808 : Int) ≤ 0 by omega), (show (0 : Int) ≤ 9223372036854775807 by omega), emp60, fun _ h => by cases h⟩ rfl⟩
def T.ofObj (l : List T) (ks : List ByteArray) : T := .mk 5 false 0 ⟨#[]⟩ l ks
structure T.Fine (t : T) : Prop where
 good : t.Good
 size : t.size ≤ 80
 fit : T.All Fit t
theorem T.Fine.small {t : T} (h : t.Fine) : t.Small := h.good.small (by have := h.size; omega)
theorem T.Fine.le {t : T} (h : t.Fine) : t.size ≤ 100000 := by have := h.size; omega
theorem T.Fine.mem {t x : T} (h : t.Fine) (hx : x ∈ t.items) : x.Fine :=
 ⟨h.good.mem hx, by have := T.mem_size hx; have := h.size; rw [T.size_eq] at this; omega, h.fit.mem hx⟩
theorem T.Fine.at_ {t x : T} (h : t.Fine) {k : Nat} (hx : t.items[k]? = some x) : x.Fine := h.mem (List.mem_of_getElem? hx)
theorem T.Fine.items80 {t : T} (h : t.Fine) : t.items.length ≤ 80 := by have h1 := T.len_size t; have := h.size; omega
theorem T.Fine.keys_le {t : T} (h : t.Fine) : t.keys.length ≤ 80 := by
 have h1 := h.items80
 by_cases h5 : t.kind = 5
 · rw [h.good.here.lens h5]; exact h1
 · rw [h.good.here.keys h5]; simp
def keyPart (ks : List ByteArray) (i : Nat) : List UInt8 := match ks[i]? with | some q => Q.quo q.toList ++ [58] | none => []
def comma (i : Nat) : List UInt8 := if i = 0 then [] else [44]
theorem txts_cons (ks : List ByteArray) (x : T) (r : List T) (i : Nat) : T.txts ks (x :: r) i = comma i ++ (keyPart ks i ++ (x.txt ++ T.txts ks r (i + 1))) := by rw [T.txts]; rfl
theorem txts_append (ks : List ByteArray) : ∀ (a b : List T) (i : Nat), T.txts ks (a ++ b) i = T.txts ks a i ++ T.txts ks b (i + a.length)
 | [], b, i => by simp [T.txts]
 | x :: a, b, i => by
  rw [List.cons_append, txts_cons, txts_cons, txts_append ks a b (i + 1), show i + 1 + a.length = i + (x :: a).length by simp; omega]
  simp only [List.append_assoc]
theorem txts_take {ks : List ByteArray} {l : List T} {j : Nat} {x : T} (h : l[j]? = some x) : T.txts ks (l.take (j + 1)) 0 = T.txts ks (l.take j) 0 ++ (comma j ++ (keyPart ks j ++ x.txt)) := by
 have hj : j < l.length := (List.getElem?_eq_some_iff.1 h).1
 rw [T.take_snoc h, txts_append, txts_cons, T.txts, List.append_nil, List.length_take, Nat.min_eq_left (Nat.le_of_lt hj), Nat.zero_add]
theorem comma_len (i : Nat) : (comma i).length ≤ 1 := by unfold comma; split <;> simp
theorem itoa_nil (n : Int) : Lib.itoa n ≠ [] := by
 intro e
 have h := (De.itoa_form n).1
 rw [e] at h
 revert h
 decide
structure T.Wide (t : T) : Prop where
 good : t.Good
 nums : T.All (fun t => -9223372036854775808 ≤ t.num ∧ t.num ≤ 9223372036854775807) t
theorem T.Wide.mem {t x : T} (h : t.Wide) (hx : x ∈ t.items) : x.Wide := ⟨h.good.mem hx, h.nums.mem hx⟩
theorem T.Wide.at_ {t x : T} (h : t.Wide) {k : Nat} (hx : t.items[k]? = some x) : x.Wide := h.mem (List.mem_of_getElem? hx)
theorem esc_pos (c : UInt8) : 1 ≤ (Q.esc c).length := by
 unfold Q.esc
 repeat' split
 all_goals simp
theorem wflat_ge : ∀ l : List UInt8, l.length ≤ (l.flatMap Q.esc).length
 | [] => by simp
 | c :: l => by
  have h1 := esc_pos c
  have h2 := wflat_ge l
  simp only [List.flatMap_cons, List.length_append, List.length_cons]; omega
theorem wquo_ge (l : List UInt8) : l.length + 2 ≤ (Q.quo l).length := by
 have := wflat_ge l
 unfold Q.quo
 simp only [List.length_cons, List.length_append, List.length_nil]; omega
theorem quo_sz (q : ByteArray) : q.size + 2 ≤ (Q.quo q.toList).length := by
 have h := wquo_ge q.toList
 have h3 : q.toList.length = q.size := by rw [ByteArray.toList_eq]; simp
 omega
theorem keyPart_ge {ks : List ByteArray} {j : Nat} {q : ByteArray} (h : ks[j]? = some q) : q.size + 3 ≤ (keyPart ks j).length := by
 have := quo_sz q
 unfold keyPart
 rw [h]
 simp only [List.length_append, List.length_singleton]; omega
theorem txts_pre (ks : List ByteArray) (l : List T) (j : Nat) : (T.txts ks (l.take j) 0).length ≤ (T.txts ks l 0).length := by
 have h := txts_append ks (l.take j) (l.drop j) 0
 rw [List.take_append_drop] at h
 rw [h, List.length_append]; omega
theorem txts_item {ks : List ByteArray} {l : List T} {j : Nat} {x : T} (h : l[j]? = some x) : (T.txts ks (l.take j) 0).length + ((comma j).length + ((keyPart ks j).length + x.txt.length)) ≤ (T.txts ks l 0).length := by
 have h1 := txts_pre ks l (j + 1)
 rw [txts_take h] at h1
 simpa only [List.length_append] using h1
theorem sizes_txts (ks : List ByteArray) : ∀ (l : List T) (i : Nat), (∀ x ∈ l, x.size ≤ x.txt.length) → T.sizes l ≤ (T.txts ks l i).length
 | [], i, _ => by simp [T.txts, T.sizes]
 | x :: l, i, hl => by
  have h1 := sizes_txts ks l (i + 1) fun y hy => hl y (List.mem_cons_of_mem _ hy)
  have h2 := hl x (List.mem_cons_self)
  rw [txts_cons]
  simp only [List.length_append, T.sizes]; omega
theorem size_txt : ∀ (t : T), t.Good → t.size ≤ t.txt.length := by
 refine T.ind ?_
 intro t ih hg
 have g := hg.here
 have hi := sizes_txts t.keys t.items 0 fun x hx => ih x hx (hg.mem hx)
 have e := T.size_eq t
 by_cases h4 : t.kind = 4
 ·
  rw [T.txt_eq, if_neg (by omega), if_neg (by omega), if_neg (by omega), if_pos h4]
  simp only [List.length_cons, List.length_append, List.length_nil]; omega
 by_cases h5 : t.kind = 5
 ·
  rw [T.txt_eq, if_neg (by omega), if_neg (by omega), if_neg (by omega), if_neg (by omega), if_pos h5]
  simp only [List.length_cons, List.length_append, List.length_nil]; omega
 have h0 : t.items = [] := g.items h4 h5
 have e1 : t.size = 1 := by rw [e, h0]; simp [T.sizes]
 have hne : t.txt ≠ [] := by
  rw [T.txt_eq]
  split
  · split <;> simp
  split
  · exact itoa_nil _
  split
  · unfold Q.quo; simp
  · simp
 have := List.length_pos_iff.2 hne
 omega
theorem str_txt {t : T} (hg : t.Good) : t.str.size ≤ t.txt.length := by
 by_cases h3 : t.kind = 3
 ·
  have := quo_sz t.str
  rw [T.txt_eq, if_neg (by omega), if_neg (by omega), if_pos h3]; omega
 · rw [hg.here.str h3]; exact Nat.zero_le _
theorem T.Wide.keys_le {t : T} (h : t.Wide) : t.keys.length ≤ t.items.length := h.good.here.klen
end Go.Proofs.YtgblenoaeanogaaGreatDoor
