/- A text in quotation marks, a value's text: plain mathematics. Good values, and the program's Good of them. List: contract. The values that the law's Tree gives: plain mathematics. As Nice, but of up to eighty parts: plain mathematics. A value's text: its parts, its length: plain mathematics. -/
import Derived.Test.YtaeimlfehlbiiaaGreatDoorMA
import Derived.Lib.ItoaNum
import Derived.Lib.Bytealg
import Derived.Test.YtaeimlfehlbiiaaGreatDoorMJ
import Derived.Test.YtaeimlfehlbiiaaGreatDoorMG
import Derived.Test.YtaeimlfehlbiiaaGreatDoorMH
import Derived.Test.YtaeimlfehlbiiaaGreatDoorML
import Derived.Test.YtaeimlfehlbiiaaGreatDoorNA
namespace Go.Proofs.YtaeimlfehlbiiaaGreatDoor
set_option linter.unusedVariables false
namespace Q
def hex (d : UInt8) : UInt8 := if d < 10 then 48 + d else 87 + d
def esc (c : UInt8) : List UInt8 :=
 if c = 34 then [92, 34] else if c = 92 then [92, 92] else if c = 8 then [92, 98] else if c = 12 then [92, 102] else if c = 10 then [92, 110] else if c = 13 then [92, 114] else if c = 9 then [92, 116]
 else if c < 32 then [92, 117, 48, 48, hex (c / 16), hex (c % 16)] else [c]
def quo (l : List UInt8) : List UInt8 := 34 :: (l.flatMap esc ++ [34])
theorem esc_shape (c : UInt8) : (∃ a, esc c = [a] ∧ a ≠ 92 ∧ a ≠ 34) ∨ (∃ b, esc c = [92, b] ∧ b ≠ 117) ∨ ∃ p q, esc c = [92, 117, 48, 48, p, q] := by
 unfold esc
 split
 · exact .inr (.inl ⟨34, rfl, by decide⟩)
 split
 · exact .inr (.inl ⟨92, rfl, by decide⟩)
 split
 · exact .inr (.inl ⟨98, rfl, by decide⟩)
 split
 · exact .inr (.inl ⟨102, rfl, by decide⟩)
 split
 · exact .inr (.inl ⟨110, rfl, by decide⟩)
 split
 · exact .inr (.inl ⟨114, rfl, by decide⟩)
 split
 · exact .inr (.inl ⟨116, rfl, by decide⟩)
 split
 · exact .inr (.inr ⟨_, _, rfl⟩)
 ·
  rename_i h1 h2 _ _ _ _ _ _
  exact .inl ⟨c, rfl, h2, h1⟩
theorem esc_len (c : UInt8) : (esc c).length ≤ 6 := by
 rcases esc_shape c with ⟨a, h, _⟩ | ⟨b, h, _⟩ | ⟨p, q, h⟩ <;> rw [h] <;> simp
theorem flat_len (l : List UInt8) : (l.flatMap esc).length ≤ 6 * l.length := by
 induction l with
 | nil => simp
 | cons c l ih => have := esc_len c; simp only [List.flatMap_cons, List.length_append, List.length_cons]; omega
theorem quo_len (l : List UInt8) : (quo l).length ≤ 6 * l.length + 2 := by
 have := flat_len l
 unfold quo
 simp only [List.length_cons, List.length_append, List.length_nil]; omega
end Q
namespace T
mutual
def txt : T → List UInt8
 | .mk k tr n s l ks => if k = 1 then (if tr then [116, 114, 117, 101] else [102, 97, 108, 115, 101]) else if k = 2 then Lib.itoa n else if k = 3 then Q.quo s.toList
  else if k = 4 then 91 :: (txts ks l 0 ++ [93]) else if k = 5 then 123 :: (txts ks l 0 ++ [125]) else [110, 117, 108, 108]
def txts : List ByteArray → List T → Nat → List UInt8
 | _, [], _ => []
 | ks, x :: r, i => (if i = 0 then [] else [44]) ++ ((match ks[i]? with | some q => Q.quo q.toList ++ [58] | none => []) ++ (x.txt ++ txts ks r (i + 1)))
end
theorem txt_eq (t : T) : t.txt = if t.kind = 1 then (if t.tr then [116, 114, 117, 101] else [102, 97, 108, 115, 101]) else if t.kind = 2 then Lib.itoa t.num else if t.kind = 3 then Q.quo t.str.toList
 else if t.kind = 4 then 91 :: (txts t.keys t.items 0 ++ [93]) else if t.kind = 5 then 123 :: (txts t.keys t.items 0 ++ [125]) else [110, 117, 108, 108] := by cases t; rfl
end T
end Go.Proofs.YtaeimlfehlbiiaaGreatDoor
namespace Go.Proofs.YtaeimlfehlbiiaaGreatDoor
namespace Q
theorem idx_all : ∀ n : Fin 256, Lib.indexByte [34, 92, 8, 12, 10, 13, 9] (UInt8.ofNat n.val) = (if n.val = 34 then 0 else if n.val = 92 then 1 else if n.val = 8 then 2 else if n.val = 12 then 3 else if n.val = 10 then 4 else if n.val = 13 then 5 else if n.val = 9 then 6 else -1) := by decide +kernel
theorem idx_of (c : UInt8) : Lib.indexByte [34, 92, 8, 12, 10, 13, 9] c = (if c.toNat = 34 then 0 else if c.toNat = 92 then 1 else if c.toNat = 8 then 2 else if c.toNat = 12 then 3 else if c.toNat = 10 then 4 else if c.toNat = 13 then 5 else if c.toNat = 9 then 6 else -1) := by
 have := idx_all ⟨c.toNat, c.toNat_lt⟩
 simpa using this
end Q
end Go.Proofs.YtaeimlfehlbiiaaGreatDoor
namespace Go.Proofs.YtaeimlfehlbiiaaGreatDoor
open Go.RowKit
structure GoodAt (t : T) : Prop where
 k0 : 0 ≤ t.kind
 k5 : t.kind ≤ 5
 tr : t.kind ≠ 1 → t.tr = false
 num : t.kind ≠ 2 → t.num = 0
 str : t.kind ≠ 3 → t.str = ⟨#[]⟩
 items : t.kind ≠ 4 → t.kind ≠ 5 → t.items = []
 keys : t.kind ≠ 5 → t.keys = []
 lens : t.kind = 5 → t.keys.length = t.items.length
 txt : okText t.str
 ktxt : AllText t.keys
 kris : Rising t.keys
def T.Good : T → Prop := T.All GoodAt
theorem GoodAt.klen {t : T} (h : GoodAt t) : t.keys.length ≤ t.items.length := by
 by_cases h5 : t.kind = 5
 · exact Nat.le_of_eq (h.lens h5)
 · rw [h.keys h5]; exact Nat.zero_le _
theorem T.Good.small {t : T} (h : t.Good) (hs : t.size ≤ 100000) : t.Small := by
 unfold T.Good at h
 induction h with
 | mk t h hm ih =>
  refine .mk t ?_ fun x hx => ih x hx ?_
  · have := h.klen; have := t.len_size; omega
  · have := T.mem_size hx; rw [T.size_eq] at hs; omega
end Go.Proofs.YtaeimlfehlbiiaaGreatDoor
namespace Go.Proofs.YtaeimlfehlbiiaaGreatDoor
open Go.RowKit
def T.ofList (l : List T) : T := .mk 4 false 0 ⟨#[]⟩ l []
set_option maxRecDepth 100000 in
set_option maxHeartbeats 2000000 in
theorem list_any (l : List T) (A : Option Addr) (c : Nat) (w : World) (hl : T.sizes l ≤ 100000) (hs : ∀ x ∈ l, x.Small) (hv : VReads w (· < w.heap.size) A l) :
 Calls Tryz.prog 19 #[.slice A l.length c] w fun e w' => (∃ B d, e = .returned ((T.ofList l).agg B d none 0) ∧ TV w' (· < w'.heap.size) (T.ofList l) B d none 0) ∧ Below w.heap.size w w' := by
 have HV := Lib.hid hv
 have HS := Lib.hid hs
 clear hv hs
 go_enter Tryz.func19, Tryz.ntmps19
 go_wp2_with fail
 have h0 : Below w.heap.size w (w.alloc (.cells zeros 32)) := (Below.refl _ _).alloc (Nat.le_refl _) _
 refine (copies_any l A c _ hl HS.out (HV.out.on h0)).mono ?_
 rintro e w2 ⟨B, d, rfl, hd, ho, hb2⟩
 have hB2 : Blk w2 w.heap.size 32 zeros := (Blk.new w 32 zeros).onto hb2
 have ho2 : OwnRow w2 (w.heap.size + 1) w2.heap.size l B := by have := ho; simpa using this
 have Hb2 := Lib.hid (h0.trans (hb2.mono h0.size))
 have HO := Lib.hid ho2
 have r0 : w2.cell? ⟨w.heap.size, 0, none⟩ = some (.int .i64 0) := hB2.cell 0
 have r1 : w2.cell? ⟨w.heap.size, 1, none⟩ = some (.bool false) := hB2.cell 1
 have r2 : w2.cell? ⟨w.heap.size, 2, none⟩ = some (.int .i64 0) := hB2.cell 2
 have r3 : w2.cell? ⟨w.heap.size, 3, none⟩ = some (.string ⟨#[]⟩) := hB2.cell 3
 have r4 : w2.cell? ⟨w.heap.size, 4, none⟩ = some (.slice none 0 0) := hB2.cell 4
 have r5 : w2.cell? ⟨w.heap.size, 5, none⟩ = some (.slice none 0 0) := hB2.cell 5
 have x0 := hB2.free 0
 have x1 := hB2.free 1
 have x2 := hB2.free 2
 have x3 := hB2.free 3
 have x4 := hB2.free 4
 have x5 := hB2.free 5
 have HB2 := Lib.hid hB2
 clear hb2 hB2 h0 ho ho2
 go_wp2_with fail
 have hF := res_put HB2.out rfl (T.ofList l) B d none 0
 have hL : Below w.heap.size w (((((((w2.setCell ⟨w.heap.size, 0, none⟩ (.int .i64 4)).setCell ⟨w.heap.size, 1, none⟩ (.bool false)).setCell ⟨w.heap.size, 2, none⟩ (.int .i64 0)).setCell ⟨w.heap.size, 3, none⟩ (.string ⟨#[]⟩)).setCell ⟨w.heap.size, 4, none⟩ (.slice B l.length d)).setCell ⟨w.heap.size, 5, none⟩ (.slice none 0 0))) :=
  (((((Hb2.out.setCell (Nat.le_refl _) _).setCell (Nat.le_refl _) _).setCell (Nat.le_refl _) _).setCell (Nat.le_refl _) _).setCell (Nat.le_refl _) _).setCell (Nat.le_refl _) _
 have hK : Keeps (fun b => b ≠ w.heap.size) w2 (((((((w2.setCell ⟨w.heap.size, 0, none⟩ (.int .i64 4)).setCell ⟨w.heap.size, 1, none⟩ (.bool false)).setCell ⟨w.heap.size, 2, none⟩ (.int .i64 0)).setCell ⟨w.heap.size, 3, none⟩ (.string ⟨#[]⟩)).setCell ⟨w.heap.size, 4, none⟩ (.slice B l.length d)).setCell ⟨w.heap.size, 5, none⟩ (.slice none 0 0))) := by
  intro b hb
  rw [Below.heap_setCell _ _ _ _ hb, Below.heap_setCell _ _ _ _ hb, Below.heap_setCell _ _ _ _ hb, Below.heap_setCell _ _ _ _ hb, Below.heap_setCell _ _ _ _ hb, Below.heap_setCell _ _ _ _ hb]
 have hZ : (((((((w2.setCell ⟨w.heap.size, 0, none⟩ (.int .i64 4)).setCell ⟨w.heap.size, 1, none⟩ (.bool false)).setCell ⟨w.heap.size, 2, none⟩ (.int .i64 0)).setCell ⟨w.heap.size, 3, none⟩ (.string ⟨#[]⟩)).setCell ⟨w.heap.size, 4, none⟩ (.slice B l.length d)).setCell ⟨w.heap.size, 5, none⟩ (.slice none 0 0))).heap.size = w2.heap.size := by simp [World.setCell]
 change Blk (((((((w2.setCell ⟨w.heap.size, 0, none⟩ (.int .i64 4)).setCell ⟨w.heap.size, 1, none⟩ (.bool false)).setCell ⟨w.heap.size, 2, none⟩ (.int .i64 0)).setCell ⟨w.heap.size, 3, none⟩ (.string ⟨#[]⟩)).setCell ⟨w.heap.size, 4, none⟩ (.slice B l.length d)).setCell ⟨w.heap.size, 5, none⟩ (.slice none 0 0))) _ _ _ at hF
 generalize (((((((w2.setCell ⟨w.heap.size, 0, none⟩ (.int .i64 4)).setCell ⟨w.heap.size, 1, none⟩ (.bool false)).setCell ⟨w.heap.size, 2, none⟩ (.int .i64 0)).setCell ⟨w.heap.size, 3, none⟩ (.string ⟨#[]⟩)).setCell ⟨w.heap.size, 4, none⟩ (.slice B l.length d)).setCell ⟨w.heap.size, 5, none⟩ (.slice none 0 0))) = W at *
 have m0 : W.cell? ⟨w.heap.size, 0, none⟩ = some (.int .i64 4) := hF.cell 0
 have m1 : W.cell? ⟨w.heap.size, 1, none⟩ = some (.bool false) := hF.cell 1
 have m2 : W.cell? ⟨w.heap.size, 2, none⟩ = some (.int .i64 0) := hF.cell 2
 have m3 : W.cell? ⟨w.heap.size, 3, none⟩ = some (.string ⟨#[]⟩) := hF.cell 3
 have m4 : W.cell? ⟨w.heap.size, 4, none⟩ = some (.slice B l.length d) := hF.cell 4
 have m5 : W.cell? ⟨w.heap.size, 5, none⟩ = some (.slice none 0 0) := hF.cell 5
 refine bodyPost_ret (v := .agg #[.int .i64 4, .bool false, .int .i64 0, .string ⟨#[]⟩, .slice B l.length d, .slice none 0 0]) (by simp [results, Tryz.results19, go_sem, m0, m1, m2, m3, m4, m5]) rfl ⟨⟨B, d, rfl, ?_⟩, hL⟩
 refine TV.of hd (Nat.le_refl _) (fun hn => ?_) (SReads.none_ _ _ _)
 exact ((HO.out.vreads.keep (hK.mono fun b hb => by have := hb.1; show b ≠ w.heap.size; omega)).wide fun b hb => by have := hb.2; show b < W.heap.size; omega) hn
end Go.Proofs.YtaeimlfehlbiiaaGreatDoor
namespace Go.Proofs.YtaeimlfehlbiiaaGreatDoor
open Go.RowKit
structure Fit (t : T) : Prop where
 n0 : -9223372036854775808 ≤ t.num
 n1 : t.num ≤ 9223372036854775807
 str : t.str.size ≤ 60
 keys : ∀ s ∈ t.keys, s.size ≤ 60
structure T.Nice (t : T) : Prop where
 good : t.Good
 size : t.size ≤ 40
 fit : T.All Fit t
theorem T.Nice.small {t : T} (h : t.Nice) : t.Small := h.good.small (by have := h.size; omega)
theorem T.Nice.le {t : T} (h : t.Nice) : t.size ≤ 100000 := by have := h.size; omega
theorem T.Nice.mem {t x : T} (h : t.Nice) (hx : x ∈ t.items) : x.Nice :=
 ⟨h.good.mem hx, by have := T.mem_size hx; have := h.size; rw [T.size_eq] at this; omega, h.fit.mem hx⟩
theorem T.Nice.at_ {t x : T} (h : t.Nice) {k : Nat} (hx : t.items[k]? = some x) : x.Nice := h.mem (List.mem_of_getElem? hx)
theorem allText_nil : AllText [] := fun _ h => by cases h
theorem rising_nil : Rising [] := fun i a b h _ => by simp at h
theorem emp60 : (⟨#[]⟩ : ByteArray).size ≤ 60 := by decide
theorem okText_emp : okText ⟨#[]⟩ := okText_nil
theorem nice_zero : T.zero.Nice :=
 ⟨T.leaf_all ⟨(show (0 : Int) ≤ 0 by omega), (show (0 : Int) ≤ 5 by omega), fun _ => rfl, fun _ => rfl, fun _ => rfl, fun _ _ => rfl, fun _ => rfl, fun h => absurd h (show (0 : Int) ≠ 5 by omega), okText_emp, allText_nil, rising_nil⟩ rfl,
  show 1 ≤ 40 by omega, T.leaf_all ⟨(show (-9223372036854775808 : Int) ≤ 0 by omega), (show (0 : Int) ≤ 9223372036854775807 by omega), emp60, fun _ h => by cases h⟩ rfl⟩
theorem nice_bool (b : Bool) : (T.ofBool b).Nice :=
 ⟨T.leaf_all ⟨(show (0 : Int) ≤ 1 by omega), (show (1 : Int) ≤ 5 by omega), fun h => absurd rfl h, fun _ => rfl, fun _ => rfl, fun _ _ => rfl, fun _ => rfl, fun h => absurd h (show (1 : Int) ≠ 5 by omega), okText_emp, allText_nil, rising_nil⟩ rfl,
  show 1 ≤ 40 by omega, T.leaf_all ⟨(show (-9223372036854775808 : Int) ≤ 0 by omega), (show (0 : Int) ≤ 9223372036854775807 by omega), emp60, fun _ h => by cases h⟩ rfl⟩
theorem nice_num {n : Int} (h0 : -9223372036854775808 ≤ n) (h1 : n ≤ 9223372036854775807) : (T.ofNum n).Nice :=
 ⟨T.leaf_all ⟨(show (0 : Int) ≤ 2 by omega), (show (2 : Int) ≤ 5 by omega), fun _ => rfl, fun h => absurd rfl h, fun _ => rfl, fun _ _ => rfl, fun _ => rfl, fun h => absurd h (show (2 : Int) ≠ 5 by omega), okText_emp, allText_nil, rising_nil⟩ rfl,
  show 1 ≤ 40 by omega, T.leaf_all ⟨h0, h1, emp60, fun _ h => by cases h⟩ rfl⟩
theorem nice_str {s : ByteArray} (h0 : okText s) (h1 : s.size ≤ 60) : (T.ofStr s).Nice :=
 ⟨T.leaf_all ⟨(show (0 : Int) ≤ 3 by omega), (show (3 : Int) ≤ 5 by omega), fun _ => rfl, fun _ => rfl, fun h => absurd rfl h, fun _ _ => rfl, fun _ => rfl, fun h => absurd h (show (3 : Int) ≠ 5 by omega), h0, allText_nil, rising_nil⟩ rfl,
  show 1 ≤ 40 by omega, T.leaf_all ⟨(show (-9223372036854775808 : Int) ≤ 0 by omega), (show (0 : Int) ≤ 9223372036854775807 by omega), h1, fun _ h => by cases h⟩ rfl⟩
theorem nice_nil : (T.ofList []).Nice :=
 ⟨T.leaf_all ⟨(show (0 : Int) ≤ 4 by omega), (show (4 : Int) ≤ 5 by omega), fun _ => rfl, fun _ => rfl, fun _ => rfl, fun _ _ => rfl, fun _ => rfl, fun h => absurd h (show (4 : Int) ≠ 5 by omega), okText_emp, allText_nil, rising_nil⟩ rfl,
  show 1 ≤ 40 by omega, T.leaf_all ⟨(show (-9223372036854775808 : Int) ≤ 0 by omega), (show (0 : Int) ≤ 9223372036854775807 by omega), emp60, fun _ h => by cases h⟩ rfl⟩
theorem list_size (l : List T) : (T.ofList l).size = 1 + T.sizes l := T.size_eq _
theorem nice_app {l : List T} {x : T} (h : (T.ofList l).Nice) (hx : x.Nice) (hs : (T.ofList l).size + x.size ≤ 40) : (T.ofList (l ++ [x])).Nice := by
 have hm : ∀ y ∈ (T.ofList (l ++ [x])).items, y ∈ (T.ofList l).items ∨ y = x := fun y hy => by
  rcases List.mem_append.1 (show y ∈ l ++ [x] from hy) with h1 | h1
  · exact .inl h1
  · exact .inr (by simpa using h1)
 have g := h.good.here
 have f := h.fit.here
 refine ⟨.mk _ ⟨g.k0, g.k5, g.tr, g.num, g.str, fun h4 _ => absurd rfl h4, g.keys, fun h5 => absurd h5 (show (4 : Int) ≠ 5 by omega), g.txt, g.ktxt, g.kris⟩ fun y hy => ?_, ?_, .mk _ ⟨f.n0, f.n1, f.str, f.keys⟩ fun y hy => ?_⟩
 ·
  rcases hm y hy with h1 | rfl
  · exact h.good.mem h1
  · exact hx.good
 ·
  rw [list_size, T.sizes_append]; rw [list_size] at hs
  show 1 + (T.sizes l + (x.size + 0)) ≤ 40
  omega
 ·
  rcases hm y hy with h1 | rfl
  · exact h.fit.mem h1
  · exact hx.fit
def T.ofObj (l : List T) (ks : List ByteArray) : T := .mk 5 false 0 ⟨#[]⟩ l ks
theorem nice_obj : (T.ofObj [] []).Nice :=
 ⟨T.leaf_all ⟨(show (0 : Int) ≤ 5 by omega), (show (5 : Int) ≤ 5 by omega), fun _ => rfl, fun _ => rfl, fun _ => rfl, fun _ _ => rfl, fun _ => rfl, fun _ => rfl, okText_emp, allText_nil, rising_nil⟩ rfl,
  show 1 ≤ 40 by omega, T.leaf_all ⟨(show (-9223372036854775808 : Int) ≤ 0 by omega), (show (0 : Int) ≤ 9223372036854775807 by omega), emp60, fun _ h => by cases h⟩ rfl⟩
theorem rank_mem {l : List ByteArray} {q : ByteArray} (h : Rising l) (hq : q ∈ l) : l[rank l q]? = some q := by
 obtain ⟨j, hj⟩ := List.mem_iff_getElem?.1 hq
 have hl := lt_of_get hj
 have : rank l q = j := rank_eq (fun i k hi hk => h.mono hk j q hi hj) (by omega) (fun k hk => by rw [hj] at hk; injection hk with hk; subst hk; exact sl_irrefl _)
 rw [this]; exact hj
theorem rising_of {l : List ByteArray} (h : l.Pairwise fun a b => sl a b = true) : Rising l := fun i a b ha hb => get_pair h ha hb (by omega)
theorem nice_put {l : List T} {ks : List ByteArray} {q : ByteArray} {x : T} (h : (T.ofObj l ks).Nice) (hx : x.Nice) (hs : (T.ofObj l ks).size + x.size ≤ 40) (hq : okText q) (h60 : q.size ≤ 60) (hn : ¬ ks[rank ks q]? = some q) : (T.ofObj (l.take (rank ks q) ++ x :: l.drop (rank ks q)) (insK ks q)).Nice := by
 have hm : ∀ y ∈ l.take (rank ks q) ++ x :: l.drop (rank ks q), y ∈ (T.ofObj l ks).items ∨ y = x := fun y hy => by
  rcases List.mem_append.1 hy with h1 | h1
  · exact .inl (List.mem_of_mem_take h1)
  ·
   rcases List.mem_cons.1 h1 with h1 | h1
   · exact .inr h1
   · exact .inl (List.mem_of_mem_drop h1)
 have g := h.good.here
 have f := h.fit.here
 have hr : Rising ks := g.kris
 have hqn : q ∉ ks := fun hq => hn (rank_mem hr hq)
 have hlen : ks.length = l.length := g.lens rfl
 have hrl := rank_le ks q
 refine ⟨.mk _ ⟨g.k0, g.k5, g.tr, g.num, g.str, fun _ h5 => absurd rfl h5, fun h5 => absurd rfl h5, fun _ => ?_, g.txt, fun s hs => ?_, rising_of (insK_pair hr hqn)⟩ fun y hy => ?_, ?_, .mk _ ⟨f.n0, f.n1, f.str, fun s hs => ?_⟩ fun y hy => ?_⟩
 ·
  show (insK ks q).length = (l.take (rank ks q) ++ x :: l.drop (rank ks q)).length
  rw [(insK_perm ks q).length_eq]
  simp; omega
 ·
  rcases List.mem_cons.1 ((insK_perm ks q).mem_iff.1 (show s ∈ insK ks q from hs)) with rfl | h1
  · exact hq
  · exact g.ktxt s h1
 ·
  rcases hm y hy with h1 | rfl
  · exact h.good.mem h1
  · exact hx.good
 ·
  rw [T.size_eq] at hs ⊢
  show 1 + T.sizes (l.take (rank ks q) ++ x :: l.drop (rank ks q)) ≤ 40
  have e := T.sizes_append (l.take (rank ks q)) (l.drop (rank ks q))
  rw [List.take_append_drop] at e
  rw [T.sizes_append]
  have : T.sizes (T.ofObj l ks).items = T.sizes l := rfl
  simp only [T.sizes]
  omega
 ·
  rcases List.mem_cons.1 ((insK_perm ks q).mem_iff.1 (show s ∈ insK ks q from hs)) with rfl | h1
  · exact h60
  · exact f.keys s h1
 ·
  rcases hm y hy with h1 | rfl
  · exact h.fit.mem h1
  · exact hx.fit
end Go.Proofs.YtaeimlfehlbiiaaGreatDoor
namespace Go.Proofs.YtaeimlfehlbiiaaGreatDoor
structure T.Fine (t : T) : Prop where
 good : t.Good
 size : t.size ≤ 80
 fit : T.All Fit t
theorem T.Nice.fine {t : T} (h : t.Nice) : t.Fine := ⟨h.good, by have := h.size; omega, h.fit⟩
theorem T.Fine.small {t : T} (h : t.Fine) : t.Small := h.good.small (by have := h.size; omega)
theorem T.Fine.le {t : T} (h : t.Fine) : t.size ≤ 100000 := by have := h.size; omega
theorem T.Fine.mem {t x : T} (h : t.Fine) (hx : x ∈ t.items) : x.Fine :=
 ⟨h.good.mem hx, by have := T.mem_size hx; have := h.size; rw [T.size_eq] at this; omega, h.fit.mem hx⟩
theorem T.Fine.at_ {t x : T} (h : t.Fine) {k : Nat} (hx : t.items[k]? = some x) : x.Fine := h.mem (List.mem_of_getElem? hx)
theorem T.Fine.items80 {t : T} (h : t.Fine) : t.items.length ≤ 80 := by have h1 := T.len_size t; have := h.size; omega
theorem T.Fine.keys_le {t : T} (h : t.Fine) : t.keys.length ≤ 80 := by
 have h1 := h.items80
 by_cases h5 : t.kind = 5
 · rw [h.good.here.lens h5]; exact h1
 · rw [h.good.here.keys h5]; simp
end Go.Proofs.YtaeimlfehlbiiaaGreatDoor
namespace Go.Proofs.YtaeimlfehlbiiaaGreatDoor
set_option linter.unusedVariables false
def keyPart (ks : List ByteArray) (i : Nat) : List UInt8 := match ks[i]? with | some q => Q.quo q.toList ++ [58] | none => []
def comma (i : Nat) : List UInt8 := if i = 0 then [] else [44]
theorem txts_cons (ks : List ByteArray) (x : T) (r : List T) (i : Nat) : T.txts ks (x :: r) i = comma i ++ (keyPart ks i ++ (x.txt ++ T.txts ks r (i + 1))) := by rw [T.txts]; rfl
theorem txts_append (ks : List ByteArray) : ∀ (a b : List T) (i : Nat), T.txts ks (a ++ b) i = T.txts ks a i ++ T.txts ks b (i + a.length)
 | [], b, i => by simp [T.txts]
 | x :: a, b, i => by
  rw [List.cons_append, txts_cons, txts_cons, txts_append ks a b (i + 1), show i + 1 + a.length = i + (x :: a).length by simp; omega]
  simp only [List.append_assoc]
theorem txts_take {ks : List ByteArray} {l : List T} {j : Nat} {x : T} (h : l[j]? = some x) : T.txts ks (l.take (j + 1)) 0 = T.txts ks (l.take j) 0 ++ (comma j ++ (keyPart ks j ++ x.txt)) := by
 have hj : j < l.length := (List.getElem?_eq_some_iff.1 h).1
 rw [T.take_snoc h, txts_append, txts_cons, T.txts, List.append_nil, List.length_take, Nat.min_eq_left (Nat.le_of_lt hj), Nat.zero_add]
theorem comma_len (i : Nat) : (comma i).length ≤ 1 := by unfold comma; split <;> simp
theorem keyPart_len {ks : List ByteArray} (h : ∀ s ∈ ks, s.size ≤ 60) (i : Nat) : (keyPart ks i).length ≤ 363 := by
 unfold keyPart
 split
 ·
  rename_i q hq
  have h1 := h q (List.mem_of_getElem? hq)
  have h2 := Q.quo_len q.toList
  have h3 : q.toList.length = q.size := by rw [ByteArray.toList_eq]; simp
  simp only [List.length_append, List.length_singleton]; omega
 · simp
theorem txts_len {ks : List ByteArray} (h : ∀ s ∈ ks, s.size ≤ 60) : ∀ (l : List T) (i : Nat), (∀ x ∈ l, x.txt.length + 364 ≤ 800 * x.size) → (T.txts ks l i).length ≤ 800 * T.sizes l
 | [], i, _ => by simp [T.txts]
 | x :: l, i, hl => by
  have h1 := txts_len h l (i + 1) fun y hy => hl y (List.mem_cons_of_mem _ hy)
  have h2 := hl x (List.mem_cons_self)
  have h3 := comma_len i
  have h4 := keyPart_len h i
  rw [txts_cons]
  simp only [List.length_append, T.sizes]; omega
theorem txt_len : ∀ (t : T), T.All Fit t → t.txt.length + 364 ≤ 800 * t.size := by
 refine T.ind ?_
 intro t ih hf
 have f := hf.here
 have hi : (T.txts t.keys t.items 0).length ≤ 800 * T.sizes t.items := txts_len f.keys _ _ fun x hx => ih x hx (hf.mem hx)
 have hq := Q.quo_len t.str.toList
 have hs : t.str.toList.length = t.str.size := by rw [ByteArray.toList_eq]; simp
 have hs60 := f.str
 have hn := De.itoa_len (n := t.num) ⟨f.n0, f.n1⟩
 rw [T.txt_eq, T.size_eq]
 split
 · split <;> simp <;> omega
 split
 · omega
 split
 · omega
 split
 · simp only [List.length_cons, List.length_append, List.length_nil]; omega
 split
 · simp only [List.length_cons, List.length_append, List.length_nil]; omega
 · simp; omega
end Go.Proofs.YtaeimlfehlbiiaaGreatDoor
