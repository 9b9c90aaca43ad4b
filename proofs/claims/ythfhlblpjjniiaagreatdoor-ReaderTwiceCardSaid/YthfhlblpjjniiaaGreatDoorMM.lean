/- A text in quotation marks, a value's text: plain mathematics. Good values, and the program's Good of them. List: contract. The values that the law's Tree gives: plain mathematics. As Nice, but of up to eighty parts: plain mathematics. A value's text: its parts, its length: plain mathematics. -/
import Derived.Test.YthfhlblpjjniiaaGreatDoorMA
import Derived.Lib.ItoaNum
import Derived.Lib.Bytealg
import Derived.Test.YthfhlblpjjniiaaGreatDoorMJ
import Derived.Test.YthfhlblpjjniiaaGreatDoorMG
import Derived.Test.YthfhlblpjjniiaaGreatDoorMH
import Derived.Test.YthfhlblpjjniiaaGreatDoorML
import Derived.Test.YthfhlblpjjniiaaGreatDoorMC
namespace Go.Proofs.YthfhlblpjjniiaaGreatDoor
set_option linter.unusedVariables false
namespace Q

/-- a digit of base sixteen -/
def hex (d : UInt8) : UInt8 := if d < 10 then 48 + d else 87 + d
/-- how a byte stands in quotation marks -/
def esc (c : UInt8) : List UInt8 :=
  if c = 34 then [92, 34] else if c = 92 then [92, 92] else if c = 8 then [92, 98] else if c = 12 then [92, 102] else if c = 10 then [92, 110] else if c = 13 then [92, 114] else if c = 9 then [92, 116]
  else if c < 32 then [92, 117, 48, 48, hex (c / 16), hex (c % 16)] else [c]
/-- a text in quotation marks -/
def quo (l : List UInt8) : List UInt8 := 34 :: (l.flatMap esc ++ [34])
def unhex (d : UInt8) : UInt8 := if d < 58 then d - 48 else d - 87
/-- what an escape stands for -/
def unesc : List UInt8 → UInt8
  | [a] => a
  | [_, b] => if b = 98 then 8 else if b = 102 then 12 else if b = 110 then 10 else if b = 114 then 13 else if b = 116 then 9 else b
  | [_, _, _, _, p, q] => unhex p * 16 + unhex q
  | _ => 0
theorem unesc_all : ∀ n : Fin 256, unesc (esc (UInt8.ofNat n.val)) = UInt8.ofNat n.val := by decide +kernel
theorem unesc_esc (c : UInt8) : unesc (esc c) = c := by
  have := unesc_all ⟨c.toNat, c.toNat_lt⟩
  simpa using this
theorem esc_inj {c d : UInt8} (h : esc c = esc d) : c = d := by rw [← unesc_esc c, h, unesc_esc]
theorem esc_shape (c : UInt8) : (∃ a, esc c = [a] ∧ a ≠ 92 ∧ a ≠ 34) ∨ (∃ b, esc c = [92, b] ∧ b ≠ 117) ∨ ∃ p q, esc c = [92, 117, 48, 48, p, q] := by
  unfold esc
  split
  · exact .inr (.inl ⟨34, rfl, by decide⟩)
  split
  · exact .inr (.inl ⟨92, rfl, by decide⟩)
  split
  · exact .inr (.inl ⟨98, rfl, by decide⟩)
  split
  · exact .inr (.inl ⟨102, rfl, by decide⟩)
  split
  · exact .inr (.inl ⟨110, rfl, by decide⟩)
  split
  · exact .inr (.inl ⟨114, rfl, by decide⟩)
  split
  · exact .inr (.inl ⟨116, rfl, by decide⟩)
  split
  · exact .inr (.inr ⟨_, _, rfl⟩)
  · rename_i h1 h2 _ _ _ _ _ _
    exact .inl ⟨c, rfl, h2, h1⟩
theorem esc_len (c : UInt8) : (esc c).length ≤ 6 := by
  rcases esc_shape c with ⟨a, h, _⟩ | ⟨b, h, _⟩ | ⟨p, q, h⟩ <;> rw [h] <;> simp
theorem esc_split {c d : UInt8} {x y : List UInt8} (h : esc c ++ x = esc d ++ y) : c = d ∧ x = y := by
  have hl : (esc c).length = (esc d).length := by
    rcases esc_shape c with ⟨a, h1, a1, a2⟩ | ⟨b, h1, a1⟩ | ⟨p, q, h1⟩ <;> rcases esc_shape d with ⟨a', k1, b1, b2⟩ | ⟨b', k1, b1⟩ | ⟨p', q', k1⟩ <;> rw [h1, k1] at h ⊢ <;> simp at h ⊢
    · exact absurd h.1 a1
    · exact absurd h.1 a1
    · exact absurd h.1.symm b1
    · exact absurd h.1 a1
    · exact absurd h.1.symm b1
    · exact absurd h.1.symm b1
  obtain ⟨h1, h2⟩ := List.append_inj h hl
  exact ⟨esc_inj h1, h2⟩
theorem flat_inj : ∀ {a b : List UInt8}, a.flatMap esc ++ [34] = b.flatMap esc ++ [34] → a = b
  | [], [], _ => rfl
  | [], d :: b, h => by
    exfalso
    rcases esc_shape d with ⟨x, k, k1, k2⟩ | ⟨x, k, k1⟩ | ⟨p, q, k⟩ <;> simp [k] at h
  | c :: a, [], h => by
    exfalso
    rcases esc_shape c with ⟨x, k, k1, k2⟩ | ⟨x, k, k1⟩ | ⟨p, q, k⟩ <;> simp [k] at h
  | c :: a, d :: b, h => by
    simp only [List.flatMap_cons, List.append_assoc] at h
    obtain ⟨h1, h2⟩ := esc_split h
    rw [h1, flat_inj h2]
theorem quo_inj {a b : List UInt8} : quo a = quo b ↔ a = b := by
  constructor
  · intro h
    unfold quo at h
    injection h with _ h
    exact flat_inj h
  · intro h; rw [h]
theorem flat_len (l : List UInt8) : (l.flatMap esc).length ≤ 6 * l.length := by
  induction l with
  | nil => simp
  | cons c l ih => have := esc_len c; simp only [List.flatMap_cons, List.length_append, List.length_cons]; omega
theorem quo_len (l : List UInt8) : (quo l).length ≤ 6 * l.length + 2 := by
  have := flat_len l
  unfold quo
  simp only [List.length_cons, List.length_append, List.length_nil]; omega
end Q
namespace T
mutual
/-- a value's text -/
def txt : T → List UInt8
  | .mk k tr n s l ks => if k = 1 then (if tr then [116, 114, 117, 101] else [102, 97, 108, 115, 101]) else if k = 2 then Lib.itoa n else if k = 3 then Q.quo s.toList
      else if k = 4 then 91 :: (txts ks l 0 ++ [93]) else if k = 5 then 123 :: (txts ks l 0 ++ [125]) else [110, 117, 108, 108]
def txts : List ByteArray → List T → Nat → List UInt8
  | _, [], _ => []
  | ks, x :: r, i => (if i = 0 then [] else [44]) ++ ((match ks[i]? with | some q => Q.quo q.toList ++ [58] | none => []) ++ (x.txt ++ txts ks r (i + 1)))
end
theorem txt_eq (t : T) : t.txt = if t.kind = 1 then (if t.tr then [116, 114, 117, 101] else [102, 97, 108, 115, 101]) else if t.kind = 2 then Lib.itoa t.num else if t.kind = 3 then Q.quo t.str.toList
      else if t.kind = 4 then 91 :: (txts t.keys t.items 0 ++ [93]) else if t.kind = 5 then 123 :: (txts t.keys t.items 0 ++ [125]) else [110, 117, 108, 108] := by cases t; rfl
end T
end Go.Proofs.YthfhlblpjjniiaaGreatDoor
namespace Go.Proofs.YthfhlblpjjniiaaGreatDoor
namespace Q
/-- the points that have an escape of their own, and its letters -/
def P7 : List (UInt8 × UInt8) := [(34, 34), (92, 92), (8, 98), (12, 102), (10, 110), (13, 114), (9, 116)]
def escK (c : UInt8) (k : Nat) : List UInt8 := (P7.take k).flatMap fun pq => if pq.1 = c then [92, pq.2] else []
theorem escK_succ (c : UInt8) {k : Nat} {p : UInt8 × UInt8} (h : P7[k]? = some p) : escK c (k + 1) = escK c k ++ (if p.1 = c then [92, p.2] else []) := by
  unfold escK
  rw [List.take_add_one, h, List.flatMap_append]
  simp
theorem escK_all : ∀ n : Fin 256, esc (UInt8.ofNat n.val) = if escK (UInt8.ofNat n.val) 7 = [] then (if UInt8.ofNat n.val < 32 then [92, 117, 48, 48, hex (UInt8.ofNat n.val / 16), hex (UInt8.ofNat n.val % 16)] else [UInt8.ofNat n.val]) else escK (UInt8.ofNat n.val) 7 := by decide +kernel
theorem esc_K (c : UInt8) : esc c = if escK c 7 = [] then (if c < 32 then [92, 117, 48, 48, hex (c / 16), hex (c % 16)] else [c]) else escK c 7 := by
  have := escK_all ⟨c.toNat, c.toNat_lt⟩
  simpa using this
theorem hex_all : ∀ n : Fin 16, (hex (UInt8.ofNat n.val)).toNat = [48, 49, 50, 51, 52, 53, 54, 55, 56, 57, 97, 98, 99, 100, 101, 102][n.val]! := by decide +kernel
theorem idx_all : ∀ n : Fin 256, Lib.indexByte [34, 92, 8, 12, 10, 13, 9] (UInt8.ofNat n.val) = (if n.val = 34 then 0 else if n.val = 92 then 1 else if n.val = 8 then 2 else if n.val = 12 then 3 else if n.val = 10 then 4 else if n.val = 13 then 5 else if n.val = 9 then 6 else -1) := by decide +kernel
theorem idx_of (c : UInt8) : Lib.indexByte [34, 92, 8, 12, 10, 13, 9] c = (if c.toNat = 34 then 0 else if c.toNat = 92 then 1 else if c.toNat = 8 then 2 else if c.toNat = 12 then 3 else if c.toNat = 10 then 4 else if c.toNat = 13 then 5 else if c.toNat = 9 then 6 else -1) := by
  have := idx_all ⟨c.toNat, c.toNat_lt⟩
  simpa using this
end Q
end Go.Proofs.YthfhlblpjjniiaaGreatDoor
namespace Go.Proofs.YthfhlblpjjniiaaGreatDoor
open Go.RowKit

/-- the document's value, but for its items -/
structure GoodAt (t : T) : Prop where
  k0 : 0 ≤ t.kind
  k5 : t.kind ≤ 5
  tr : t.kind ≠ 1 → t.tr = false
  num : t.kind ≠ 2 → t.num = 0
  str : t.kind ≠ 3 → t.str = ⟨#[]⟩
  items : t.kind ≠ 4 → t.kind ≠ 5 → t.items = []
  keys : t.kind ≠ 5 → t.keys = []
  lens : t.kind = 5 → t.keys.length = t.items.length
  txt : okText t.str
  ktxt : AllText t.keys
  kris : Rising t.keys
def T.Good : T → Prop := T.All GoodAt
theorem T.Good.kinds {t : T} (h : t.Good) : t.Kinds := h.imp fun _ g => ⟨g.k0, g.k5⟩
theorem GoodAt.klen {t : T} (h : GoodAt t) : t.keys.length ≤ t.items.length := by
  by_cases h5 : t.kind = 5
  · exact Nat.le_of_eq (h.lens h5)
  · rw [h.keys h5]; exact Nat.zero_le _
theorem T.Good.small {t : T} (h : t.Good) (hs : t.size ≤ 100000) : t.Small := by
  unfold T.Good at h
  induction h with
  | mk t h hm ih =>
    refine .mk t ?_ fun x hx => ih x hx ?_
    · have := h.klen; have := t.len_size; omega
    · have := T.mem_size hx; rw [T.size_eq] at hs; omega

theorem only_yes (k : Int) (tr : Bool) (n : Int) (s : ByteArray) (A : Option Addr) (m c : Nat) (A' : Option Addr) (m' c' : Nat) (w : World) (h0 : 0 ≤ k) (h5 : k ≤ 5) (h1 : k ≠ 1 → tr = false) (h2 : k ≠ 2 → n = 0) (h3 : k ≠ 3 → s = ⟨#[]⟩) (h4 : k ≠ 4 → k ≠ 5 → m = 0) (h6 : k ≠ 5 → m' = 0) (h7 : k = 5 → m' = m) :
    Calls Tryz.prog 37 #[.agg #[.int .i64 k, .bool tr, .int .i64 n, .string s, .slice A m c, .slice A' m' c']] w fun e w' => e = .returned (.bool true) ∧ Below w.heap.size w w' := by
  rcases (by omega : k = 0 ∨ k = 1 ∨ k = 2 ∨ k = 3 ∨ k = 4 ∨ k = 5) with rfl | rfl | rfl | rfl | rfl | rfl
  · obtain rfl := h1 (by decide); obtain rfl := h2 (by decide); obtain rfl := h3 (by decide); obtain rfl := h4 (by decide) (by decide); obtain rfl := h6 (by decide)
    clear h1 h2 h3 h4 h6 h7
    go_enter Tryz.func37, Tryz.ntmps37
    go_wp2_with fail
    go_ret
    exact ⟨rfl, (Below.refl _ _).alloc (Nat.le_refl _) _⟩
  · obtain rfl := h2 (by decide); obtain rfl := h3 (by decide); obtain rfl := h4 (by decide) (by decide); obtain rfl := h6 (by decide)
    clear h1 h2 h3 h4 h6 h7
    go_enter Tryz.func37, Tryz.ntmps37
    go_wp2_with fail
    go_ret
    exact ⟨rfl, (Below.refl _ _).alloc (Nat.le_refl _) _⟩
  · obtain rfl := h1 (by decide); obtain rfl := h3 (by decide); obtain rfl := h4 (by decide) (by decide); obtain rfl := h6 (by decide)
    clear h1 h2 h3 h4 h6 h7
    go_enter Tryz.func37, Tryz.ntmps37
    go_wp2_with fail
    go_ret
    exact ⟨rfl, (Below.refl _ _).alloc (Nat.le_refl _) _⟩
  · obtain rfl := h1 (by decide); obtain rfl := h2 (by decide); obtain rfl := h4 (by decide) (by decide); obtain rfl := h6 (by decide)
    clear h1 h2 h3 h4 h6 h7
    go_enter Tryz.func37, Tryz.ntmps37
    go_wp2_with fail
    go_ret
    exact ⟨rfl, (Below.refl _ _).alloc (Nat.le_refl _) _⟩
  · obtain rfl := h1 (by decide); obtain rfl := h2 (by decide); obtain rfl := h3 (by decide); obtain rfl := h6 (by decide)
    clear h1 h2 h3 h4 h6 h7
    go_enter Tryz.func37, Tryz.ntmps37
    go_wp2_with fail
    go_ret
    exact ⟨rfl, (Below.refl _ _).alloc (Nat.le_refl _) _⟩
  · obtain rfl := h1 (by decide); obtain rfl := h2 (by decide); obtain rfl := h3 (by decide); obtain rfl := h7 rfl
    clear h1 h2 h3 h4 h6 h7
    go_enter Tryz.func37, Tryz.ntmps37
    go_wp2_with fail
    go_ret
    exact ⟨ret_bool (by simp), (Below.refl _ _).alloc (Nat.le_refl _) _⟩

set_option maxRecDepth 100000 in
set_option maxHeartbeats 4000000 in
theorem vgood_yes_at (n : Nat) : ∀ (t : T) (A : Option Addr) (c : Nat) (A' : Option Addr) (c' : Nat) (w : World), t.size ≤ n → n ≤ 100000 → t.Good → TV w (· < w.heap.size) t A c A' c' →
    Calls Tryz.prog 19 #[t.agg A c A' c'] w fun e w' => e = .returned (.bool true) ∧ Below w.heap.size w w' := by
  induction n with
  | zero => intro t _ _ _ _ _ h; have := t.size_pos; omega
  | succ n ih =>
    intro t A c A' c' w ht hn hg hv
    have hls := t.len_size
    have hga := hg.here
    have h0 := hga.k0
    have h5 := hga.k5
    have hkl : t.keys.length ≤ 100000 := by have := hga.klen; omega
    have IH := Lib.hid ih
    have HV := Lib.hid hv
    have HG := Lib.hid hg
    have HA := Lib.hid hga
    clear ih hv hg hga
    unfold T.agg
    go_enter Tryz.func19, Tryz.ntmps19
    go_wp2_with fail
    have hb0 : Below w.heap.size w (w.alloc (.cells (t.cs A c A' c') 26)) := (Below.refl _ _).alloc (Nat.le_refl _) _
    refine (only_yes t.kind t.tr t.num t.str A t.items.length c A' t.keys.length c' _ h0 h5 HA.out.tr HA.out.num HA.out.str (fun h h' => by rw [HA.out.items h h']; rfl) (fun h => by rw [HA.out.keys h]; rfl) HA.out.lens).mono ?_
    rintro e w2 ⟨rfl, hb2⟩
    have hB2 : Blk w2 w.heap.size 26 (t.cs A c A' c') := (Blk.new w _ _).onto hb2
    have H2 := Lib.hid (hb0.trans (hb2.mono hb0.size))
    have HB2 := Lib.hid hB2
    have a3 : w2.cell? ⟨w.heap.size, 3, none⟩ = some (.string t.str) := hB2.cell 3
    clear hb0 hb2 hB2
    go_wp2_with fail
    have hs1 : SReads (w2.alloc (.cells #[.string t.str] 9)) (· < (w2.alloc (.cells #[.string t.str] 9)).heap.size) (some ⟨w2.heap.size, 0, none⟩) [t.str] := by
      intro _
      have hb := Blk.new w2 9 #[.string t.str]
      refine ⟨w2.heap.size, 0, rfl, hb.lt, fun i s hi => ?_⟩
      rw [Nat.zero_add, hb.cell]
      match i, hi with
      | 0, hi => injection hi with hi; subst hi; rfl
    refine (texts_yes [t.str] (some ⟨w2.heap.size, 0, none⟩) 1 _ (by simp) (fun s hs => by obtain rfl := List.mem_singleton.1 hs; exact HA.out.txt) hs1).mono ?_
    rintro e w3 ⟨rfl, hb3⟩
    have hb23 : Below w2.heap.size w2 w3 := ((Below.refl _ _).alloc (Nat.le_refl _) _).trans (hb3.mono (by simp))
    have H3 := Lib.hid (H2.out.trans (hb23.mono H2.out.size))
    have hB3 := HB2.out.onto hb23
    have HB3 := Lib.hid hB3
    have a5 : w3.cell? ⟨w.heap.size, 5, none⟩ = some (.slice A' t.keys.length c') := hB3.cell 5
    clear hb3 hb23 hB3 hs1 a3
    go_wp2_with fail
    refine (texts_yes t.keys A' c' _ hkl HA.out.ktxt (HV.out.keys.on H3.out)).mono ?_
    rintro e w4 ⟨rfl, hb4⟩
    have H4 := Lib.hid (H3.out.trans (hb4.mono H3.out.size))
    have hB4 := HB3.out.onto hb4
    have HB4 := Lib.hid hB4
    have a5' : w4.cell? ⟨w.heap.size, 5, none⟩ = some (.slice A' t.keys.length c') := hB4.cell 5
    clear hb4 hB4 a5
    go_wp2_with fail
    refine (rising_yes t.keys A' c' _ hkl HA.out.kris (HV.out.keys.on H4.out)).mono ?_
    rintro e w5 ⟨rfl, hb5⟩
    have H5 := Lib.hid (H4.out.trans (hb5.mono H4.out.size))
    have hB5 := HB4.out.onto hb5
    have a4 : w5.cell? ⟨w.heap.size, 4, none⟩ = some (.slice A t.items.length c) := hB5.cell 4
    clear hb5 hB5 a5'
    go_wp2_with fail
    go_loopw [38] (fun i wr => ∃ k : Nat, k ≤ t.items.length ∧ i = .int .i64 k ∧ Below w.heap.size w wr) (fun i _ => t.items.length - (intOf i).toNat)
    case atStart => exact ⟨0, Nat.zero_le _, rfl, H5.out⟩
    case round =>
      obtain ⟨k, hk, rfl, hbel⟩ := hrel
      have Hbel := Lib.hid hbel
      clear hbel a4
      by_cases hlt : k < t.items.length
      · have u1 : decide (k < t.items.length) = true := decide_eq_true hlt
        obtain ⟨b, o, x, B, d, B', d', rfl, hb, hx, h6, hX⟩ := HV.out.at_ hlt
        have hxs := T.at_size hx
        have HX := Lib.hid hX
        have HXG := Lib.hid (show x.Good from HG.out.at_ hx)
        obtain ⟨e0, e1, e2, e3, e4, e5⟩ := h6.keep hb (.of_below Hbel.out)
        clear hX h6 hx
        go_wp2_with fail
        refine (IH.out x B d B' d' _ (by omega) (by omega) HXG.out (HX.out.on (Hbel.out.alloc Hbel.out.size _))).mono ?_
        rintro e w7 ⟨rfl, hb7⟩
        have Hb7 := Lib.hid ((Hbel.out.alloc Hbel.out.size _).trans (hb7.mono (Hbel.out.alloc Hbel.out.size _).size))
        clear hb7
        go_wp2_with fail
        go_roundw
        case rel => exact ⟨k + 1, hlt, by go_num, Hb7.out⟩
        case measure => simp [intOf]; omega
      · obtain rfl : t.items.length = k := by omega
        go_wp2_with fail
        go_ret
        exact ⟨rfl, Hbel.out⟩
theorem vgood_yes (t : T) (A : Option Addr) (c : Nat) (A' : Option Addr) (c' : Nat) (w : World) (ht : t.size ≤ 100000) (hg : t.Good) (hv : TV w (· < w.heap.size) t A c A' c') :
    Calls Tryz.prog 19 #[t.agg A c A' c'] w fun e w' => e = .returned (.bool true) ∧ Below w.heap.size w w' := vgood_yes_at 100000 t A c A' c' w ht (Nat.le_refl _) hg hv
end Go.Proofs.YthfhlblpjjniiaaGreatDoor
namespace Go.Proofs.YthfhlblpjjniiaaGreatDoor
open Go.RowKit

def T.ofList (l : List T) : T := .mk 4 false 0 ⟨#[]⟩ l []
set_option maxRecDepth 100000 in
set_option maxHeartbeats 2000000 in
theorem list_any (l : List T) (A : Option Addr) (c : Nat) (w : World) (hl : T.sizes l ≤ 100000) (hs : ∀ x ∈ l, x.Small) (hv : VReads w (· < w.heap.size) A l) :
    Calls Tryz.prog 57 #[.slice A l.length c] w fun e w' => (∃ B d, e = .returned ((T.ofList l).agg B d none 0) ∧ TV w' (· < w'.heap.size) (T.ofList l) B d none 0) ∧ Below w.heap.size w w' := by
  have HV := Lib.hid hv
  have HS := Lib.hid hs
  clear hv hs
  go_enter Tryz.func57, Tryz.ntmps57
  go_wp2_with fail
  have h0 : Below w.heap.size w (w.alloc (.cells zeros 26)) := (Below.refl _ _).alloc (Nat.le_refl _) _
  refine (copies_any l A c _ hl HS.out (HV.out.on h0)).mono ?_
  rintro e w2 ⟨B, d, rfl, hd, ho, hb2⟩
  have hB2 : Blk w2 w.heap.size 26 zeros := (Blk.new w 26 zeros).onto hb2
  have ho2 : OwnRow w2 (w.heap.size + 1) w2.heap.size l B := by have := ho; simpa using this
  have Hb2 := Lib.hid (h0.trans (hb2.mono h0.size))
  have HO := Lib.hid ho2
  have r0 : w2.cell? ⟨w.heap.size, 0, none⟩ = some (.int .i64 0) := hB2.cell 0
  have r1 : w2.cell? ⟨w.heap.size, 1, none⟩ = some (.bool false) := hB2.cell 1
  have r2 : w2.cell? ⟨w.heap.size, 2, none⟩ = some (.int .i64 0) := hB2.cell 2
  have r3 : w2.cell? ⟨w.heap.size, 3, none⟩ = some (.string ⟨#[]⟩) := hB2.cell 3
  have r4 : w2.cell? ⟨w.heap.size, 4, none⟩ = some (.slice none 0 0) := hB2.cell 4
  have r5 : w2.cell? ⟨w.heap.size, 5, none⟩ = some (.slice none 0 0) := hB2.cell 5
  have x0 := hB2.free 0
  have x1 := hB2.free 1
  have x2 := hB2.free 2
  have x3 := hB2.free 3
  have x4 := hB2.free 4
  have x5 := hB2.free 5
  have HB2 := Lib.hid hB2
  clear hb2 hB2 h0 ho ho2
  go_wp2_with fail
  have hF := res_put HB2.out rfl (T.ofList l) B d none 0
  have hL : Below w.heap.size w (((((((w2.setCell ⟨w.heap.size, 0, none⟩ (.int .i64 4)).setCell ⟨w.heap.size, 1, none⟩ (.bool false)).setCell ⟨w.heap.size, 2, none⟩ (.int .i64 0)).setCell ⟨w.heap.size, 3, none⟩ (.string ⟨#[]⟩)).setCell ⟨w.heap.size, 4, none⟩ (.slice B l.length d)).setCell ⟨w.heap.size, 5, none⟩ (.slice none 0 0))) :=
    (((((Hb2.out.setCell (Nat.le_refl _) _).setCell (Nat.le_refl _) _).setCell (Nat.le_refl _) _).setCell (Nat.le_refl _) _).setCell (Nat.le_refl _) _).setCell (Nat.le_refl _) _
  have hK : Keeps (fun b => b ≠ w.heap.size) w2 (((((((w2.setCell ⟨w.heap.size, 0, none⟩ (.int .i64 4)).setCell ⟨w.heap.size, 1, none⟩ (.bool false)).setCell ⟨w.heap.size, 2, none⟩ (.int .i64 0)).setCell ⟨w.heap.size, 3, none⟩ (.string ⟨#[]⟩)).setCell ⟨w.heap.size, 4, none⟩ (.slice B l.length d)).setCell ⟨w.heap.size, 5, none⟩ (.slice none 0 0))) := by
    intro b hb
    rw [Below.heap_setCell _ _ _ _ hb, Below.heap_setCell _ _ _ _ hb, Below.heap_setCell _ _ _ _ hb, Below.heap_setCell _ _ _ _ hb, Below.heap_setCell _ _ _ _ hb, Below.heap_setCell _ _ _ _ hb]
  have hZ : (((((((w2.setCell ⟨w.heap.size, 0, none⟩ (.int .i64 4)).setCell ⟨w.heap.size, 1, none⟩ (.bool false)).setCell ⟨w.heap.size, 2, none⟩ (.int .i64 0)).setCell ⟨w.heap.size, 3, none⟩ (.string ⟨#[]⟩)).setCell ⟨w.heap.size, 4, none⟩ (.slice B l.length d)).setCell ⟨w.heap.size, 5, none⟩ (.slice none 0 0))).heap.size = w2.heap.size := by simp [World.setCell]
  change Blk (((((((w2.setCell ⟨w.heap.size, 0, none⟩ (.int .i64 4)).setCell ⟨w.heap.size, 1, none⟩ (.bool false)).setCell ⟨w.heap.size, 2, none⟩ (.int .i64 0)).setCell ⟨w.heap.size, 3, none⟩ (.string ⟨#[]⟩)).setCell ⟨w.heap.size, 4, none⟩ (.slice B l.length d)).setCell ⟨w.heap.size, 5, none⟩ (.slice none 0 0))) _ _ _ at hF
  generalize (((((((w2.setCell ⟨w.heap.size, 0, none⟩ (.int .i64 4)).setCell ⟨w.heap.size, 1, none⟩ (.bool false)).setCell ⟨w.heap.size, 2, none⟩ (.int .i64 0)).setCell ⟨w.heap.size, 3, none⟩ (.string ⟨#[]⟩)).setCell ⟨w.heap.size, 4, none⟩ (.slice B l.length d)).setCell ⟨w.heap.size, 5, none⟩ (.slice none 0 0))) = W at *
  have m0 : W.cell? ⟨w.heap.size, 0, none⟩ = some (.int .i64 4) := hF.cell 0
  have m1 : W.cell? ⟨w.heap.size, 1, none⟩ = some (.bool false) := hF.cell 1
  have m2 : W.cell? ⟨w.heap.size, 2, none⟩ = some (.int .i64 0) := hF.cell 2
  have m3 : W.cell? ⟨w.heap.size, 3, none⟩ = some (.string ⟨#[]⟩) := hF.cell 3
  have m4 : W.cell? ⟨w.heap.size, 4, none⟩ = some (.slice B l.length d) := hF.cell 4
  have m5 : W.cell? ⟨w.heap.size, 5, none⟩ = some (.slice none 0 0) := hF.cell 5
  refine bodyPost_ret (v := .agg #[.int .i64 4, .bool false, .int .i64 0, .string ⟨#[]⟩, .slice B l.length d, .slice none 0 0]) (by simp [results, Tryz.results57, go_sem, m0, m1, m2, m3, m4, m5]) rfl ⟨⟨B, d, rfl, ?_⟩, hL⟩
  refine TV.of hd (Nat.le_refl _) (fun hn => ?_) (SReads.none_ _ _ _)
  exact ((HO.out.vreads.keep (hK.mono fun b hb => by have := hb.1; show b ≠ w.heap.size; omega)).wide fun b hb => by have := hb.2; show b < W.heap.size; omega) hn
end Go.Proofs.YthfhlblpjjniiaaGreatDoor
namespace Go.Proofs.YthfhlblpjjniiaaGreatDoor
open Go.RowKit

/-- of a part: its integer is one of 64 bits, its texts aren't long -/
structure Fit (t : T) : Prop where
  n0 : -9223372036854775808 ≤ t.num
  n1 : t.num ≤ 9223372036854775807
  str : t.str.size ≤ 60
  keys : ∀ s ∈ t.keys, s.size ≤ 60
structure T.Nice (t : T) : Prop where
  good : t.Good
  size : t.size ≤ 40
  fit : T.All Fit t
theorem T.Nice.small {t : T} (h : t.Nice) : t.Small := h.good.small (by have := h.size; omega)
theorem T.Nice.le {t : T} (h : t.Nice) : t.size ≤ 100000 := by have := h.size; omega
theorem T.Nice.mem {t x : T} (h : t.Nice) (hx : x ∈ t.items) : x.Nice :=
  ⟨h.good.mem hx, by have := T.mem_size hx; have := h.size; rw [T.size_eq] at this; omega, h.fit.mem hx⟩
theorem T.Nice.at_ {t x : T} (h : t.Nice) {k : Nat} (hx : t.items[k]? = some x) : x.Nice := h.mem (List.mem_of_getElem? hx)
theorem allText_nil : AllText [] := fun _ h => by cases h
theorem rising_nil : Rising [] := fun i a b h _ => by simp at h
theorem emp60 : (⟨#[]⟩ : ByteArray).size ≤ 60 := by decide
theorem okText_emp : okText ⟨#[]⟩ := okText_nil
theorem nice_zero : T.zero.Nice :=
  ⟨T.leaf_all ⟨(show (0 : Int) ≤ 0 by omega), (show (0 : Int) ≤ 5 by omega), fun _ => rfl, fun _ => rfl, fun _ => rfl, fun _ _ => rfl, fun _ => rfl, fun h => absurd h (show (0 : Int) ≠ 5 by omega), okText_emp, allText_nil, rising_nil⟩ rfl,
   show 1 ≤ 40 by omega, T.leaf_all ⟨(show (-9223372036854775808 : Int) ≤ 0 by omega), (show (0 : Int) ≤ 9223372036854775807 by omega), emp60, fun _ h => by cases h⟩ rfl⟩
theorem nice_bool (b : Bool) : (T.ofBool b).Nice :=
  ⟨T.leaf_all ⟨(show (0 : Int) ≤ 1 by omega), (show (1 : Int) ≤ 5 by omega), fun h => absurd rfl h, fun _ => rfl, fun _ => rfl, fun _ _ => rfl, fun _ => rfl, fun h => absurd h (show (1 : Int) ≠ 5 by omega), okText_emp, allText_nil, rising_nil⟩ rfl,
   show 1 ≤ 40 by omega, T.leaf_all ⟨(show (-9223372036854775808 : Int) ≤ 0 by omega), (show (0 : Int) ≤ 9223372036854775807 by omega), emp60, fun _ h => by cases h⟩ rfl⟩
theorem nice_num {n : Int} (h0 : -9223372036854775808 ≤ n) (h1 : n ≤ 9223372036854775807) : (T.ofNum n).Nice :=
  ⟨T.leaf_all ⟨(show (0 : Int) ≤ 2 by omega), (show (2 : Int) ≤ 5 by omega), fun _ => rfl, fun h => absurd rfl h, fun _ => rfl, fun _ _ => rfl, fun _ => rfl, fun h => absurd h (show (2 : Int) ≠ 5 by omega), okText_emp, allText_nil, rising_nil⟩ rfl,
   show 1 ≤ 40 by omega, T.leaf_all ⟨h0, h1, emp60, fun _ h => by cases h⟩ rfl⟩
theorem nice_str {s : ByteArray} (h0 : okText s) (h1 : s.size ≤ 60) : (T.ofStr s).Nice :=
  ⟨T.leaf_all ⟨(show (0 : Int) ≤ 3 by omega), (show (3 : Int) ≤ 5 by omega), fun _ => rfl, fun _ => rfl, fun h => absurd rfl h, fun _ _ => rfl, fun _ => rfl, fun h => absurd h (show (3 : Int) ≠ 5 by omega), h0, allText_nil, rising_nil⟩ rfl,
   show 1 ≤ 40 by omega, T.leaf_all ⟨(show (-9223372036854775808 : Int) ≤ 0 by omega), (show (0 : Int) ≤ 9223372036854775807 by omega), h1, fun _ h => by cases h⟩ rfl⟩
theorem nice_nil : (T.ofList []).Nice :=
  ⟨T.leaf_all ⟨(show (0 : Int) ≤ 4 by omega), (show (4 : Int) ≤ 5 by omega), fun _ => rfl, fun _ => rfl, fun _ => rfl, fun _ _ => rfl, fun _ => rfl, fun h => absurd h (show (4 : Int) ≠ 5 by omega), okText_emp, allText_nil, rising_nil⟩ rfl,
   show 1 ≤ 40 by omega, T.leaf_all ⟨(show (-9223372036854775808 : Int) ≤ 0 by omega), (show (0 : Int) ≤ 9223372036854775807 by omega), emp60, fun _ h => by cases h⟩ rfl⟩
theorem list_size (l : List T) : (T.ofList l).size = 1 + T.sizes l := T.size_eq _
theorem nice_app {l : List T} {x : T} (h : (T.ofList l).Nice) (hx : x.Nice) (hs : (T.ofList l).size + x.size ≤ 40) : (T.ofList (l ++ [x])).Nice := by
  have hm : ∀ y ∈ (T.ofList (l ++ [x])).items, y ∈ (T.ofList l).items ∨ y = x := fun y hy => by
    rcases List.mem_append.1 (show y ∈ l ++ [x] from hy) with h1 | h1
    · exact .inl h1
    · exact .inr (by simpa using h1)
  have g := h.good.here
  have f := h.fit.here
  refine ⟨.mk _ ⟨g.k0, g.k5, g.tr, g.num, g.str, fun h4 _ => absurd rfl h4, g.keys, fun h5 => absurd h5 (show (4 : Int) ≠ 5 by omega), g.txt, g.ktxt, g.kris⟩ fun y hy => ?_, ?_, .mk _ ⟨f.n0, f.n1, f.str, f.keys⟩ fun y hy => ?_⟩
  · rcases hm y hy with h1 | rfl
    · exact h.good.mem h1
    · exact hx.good
  · rw [list_size, T.sizes_append]; rw [list_size] at hs
    show 1 + (T.sizes l + (x.size + 0)) ≤ 40
    omega
  · rcases hm y hy with h1 | rfl
    · exact h.fit.mem h1
    · exact hx.fit
/-- an object of items and keys -/
def T.ofObj (l : List T) (ks : List ByteArray) : T := .mk 5 false 0 ⟨#[]⟩ l ks
theorem nice_obj : (T.ofObj [] []).Nice :=
  ⟨T.leaf_all ⟨(show (0 : Int) ≤ 5 by omega), (show (5 : Int) ≤ 5 by omega), fun _ => rfl, fun _ => rfl, fun _ => rfl, fun _ _ => rfl, fun _ => rfl, fun _ => rfl, okText_emp, allText_nil, rising_nil⟩ rfl,
   show 1 ≤ 40 by omega, T.leaf_all ⟨(show (-9223372036854775808 : Int) ≤ 0 by omega), (show (0 : Int) ≤ 9223372036854775807 by omega), emp60, fun _ h => by cases h⟩ rfl⟩
theorem rank_mem {l : List ByteArray} {q : ByteArray} (h : Rising l) (hq : q ∈ l) : l[rank l q]? = some q := by
  obtain ⟨j, hj⟩ := List.mem_iff_getElem?.1 hq
  have hl := lt_of_get hj
  have : rank l q = j := rank_eq (fun i k hi hk => h.mono hk j q hi hj) (by omega) (fun k hk => by rw [hj] at hk; injection hk with hk; subst hk; exact sl_irrefl _)
  rw [this]; exact hj
theorem rising_of {l : List ByteArray} (h : l.Pairwise fun a b => sl a b = true) : Rising l := fun i a b ha hb => get_pair h ha hb (by omega)
theorem putT_obj (l : List T) (ks : List ByteArray) (q : ByteArray) (x : T) : putT (T.ofObj l ks) q x = T.ofObj (l.take (rank ks q) ++ x :: l.drop (rank ks q)) (insK ks q) := rfl
theorem nice_put {l : List T} {ks : List ByteArray} {q : ByteArray} {x : T} (h : (T.ofObj l ks).Nice) (hx : x.Nice) (hs : (T.ofObj l ks).size + x.size ≤ 40) (hq : okText q) (h60 : q.size ≤ 60) (hn : ¬ ks[rank ks q]? = some q) : (T.ofObj (l.take (rank ks q) ++ x :: l.drop (rank ks q)) (insK ks q)).Nice := by
  have hm : ∀ y ∈ l.take (rank ks q) ++ x :: l.drop (rank ks q), y ∈ (T.ofObj l ks).items ∨ y = x := fun y hy => by
    rcases List.mem_append.1 hy with h1 | h1
    · exact .inl (List.mem_of_mem_take h1)
    · rcases List.mem_cons.1 h1 with h1 | h1
      · exact .inr h1
      · exact .inl (List.mem_of_mem_drop h1)
  have g := h.good.here
  have f := h.fit.here
  have hr : Rising ks := g.kris
  have hqn : q ∉ ks := fun hq => hn (rank_mem hr hq)
  have hlen : ks.length = l.length := g.lens rfl
  have hrl := rank_le ks q
  refine ⟨.mk _ ⟨g.k0, g.k5, g.tr, g.num, g.str, fun _ h5 => absurd rfl h5, fun h5 => absurd rfl h5, fun _ => ?_, g.txt, fun s hs => ?_, rising_of (insK_pair hr hqn)⟩ fun y hy => ?_, ?_, .mk _ ⟨f.n0, f.n1, f.str, fun s hs => ?_⟩ fun y hy => ?_⟩
  · show (insK ks q).length = (l.take (rank ks q) ++ x :: l.drop (rank ks q)).length
    rw [(insK_perm ks q).length_eq]
    simp; omega
  · rcases List.mem_cons.1 ((insK_perm ks q).mem_iff.1 (show s ∈ insK ks q from hs)) with rfl | h1
    · exact hq
    · exact g.ktxt s h1
  · rcases hm y hy with h1 | rfl
    · exact h.good.mem h1
    · exact hx.good
  · rw [T.size_eq] at hs ⊢
    show 1 + T.sizes (l.take (rank ks q) ++ x :: l.drop (rank ks q)) ≤ 40
    have e := T.sizes_append (l.take (rank ks q)) (l.drop (rank ks q))
    rw [List.take_append_drop] at e
    rw [T.sizes_append]
    have : T.sizes (T.ofObj l ks).items = T.sizes l := rfl
    simp only [T.sizes]
    omega
  · rcases List.mem_cons.1 ((insK_perm ks q).mem_iff.1 (show s ∈ insK ks q from hs)) with rfl | h1
    · exact h60
    · exact f.keys s h1
  · rcases hm y hy with h1 | rfl
    · exact h.fit.mem h1
    · exact hx.fit
end Go.Proofs.YthfhlblpjjniiaaGreatDoor
namespace Go.Proofs.YthfhlblpjjniiaaGreatDoor
structure T.Fine (t : T) : Prop where
  good : t.Good
  size : t.size ≤ 80
  fit : T.All Fit t
theorem T.Nice.fine {t : T} (h : t.Nice) : t.Fine := ⟨h.good, by have := h.size; omega, h.fit⟩
theorem T.Fine.small {t : T} (h : t.Fine) : t.Small := h.good.small (by have := h.size; omega)
theorem T.Fine.le {t : T} (h : t.Fine) : t.size ≤ 100000 := by have := h.size; omega
theorem T.Fine.mem {t x : T} (h : t.Fine) (hx : x ∈ t.items) : x.Fine :=
  ⟨h.good.mem hx, by have := T.mem_size hx; have := h.size; rw [T.size_eq] at this; omega, h.fit.mem hx⟩
theorem T.Fine.at_ {t x : T} (h : t.Fine) {k : Nat} (hx : t.items[k]? = some x) : x.Fine := h.mem (List.mem_of_getElem? hx)
theorem T.Fine.items80 {t : T} (h : t.Fine) : t.items.length ≤ 80 := by have h1 := T.len_size t; have := h.size; omega
theorem T.Fine.keys_le {t : T} (h : t.Fine) : t.keys.length ≤ 80 := by
  have h1 := h.items80
  by_cases h5 : t.kind = 5
  · rw [h.good.here.lens h5]; exact h1
  · rw [h.good.here.keys h5]; simp
end Go.Proofs.YthfhlblpjjniiaaGreatDoor
namespace Go.Proofs.YthfhlblpjjniiaaGreatDoor
set_option linter.unusedVariables false

/-- what stands ahead of an item: the comma, and the key -/
def keyPart (ks : List ByteArray) (i : Nat) : List UInt8 := match ks[i]? with | some q => Q.quo q.toList ++ [58] | none => []
def comma (i : Nat) : List UInt8 := if i = 0 then [] else [44]
theorem txts_cons (ks : List ByteArray) (x : T) (r : List T) (i : Nat) : T.txts ks (x :: r) i = comma i ++ (keyPart ks i ++ (x.txt ++ T.txts ks r (i + 1))) := by rw [T.txts]; rfl
theorem txts_append (ks : List ByteArray) : ∀ (a b : List T) (i : Nat), T.txts ks (a ++ b) i = T.txts ks a i ++ T.txts ks b (i + a.length)
  | [], b, i => by simp [T.txts]
  | x :: a, b, i => by
    rw [List.cons_append, txts_cons, txts_cons, txts_append ks a b (i + 1), show i + 1 + a.length = i + (x :: a).length by simp; omega]
    simp only [List.append_assoc]
theorem txts_take {ks : List ByteArray} {l : List T} {j : Nat} {x : T} (h : l[j]? = some x) : T.txts ks (l.take (j + 1)) 0 = T.txts ks (l.take j) 0 ++ (comma j ++ (keyPart ks j ++ x.txt)) := by
  have hj : j < l.length := (List.getElem?_eq_some_iff.1 h).1
  rw [T.take_snoc h, txts_append, txts_cons, T.txts, List.append_nil, List.length_take, Nat.min_eq_left (Nat.le_of_lt hj), Nat.zero_add]
theorem comma_len (i : Nat) : (comma i).length ≤ 1 := by unfold comma; split <;> simp
theorem keyPart_len {ks : List ByteArray} (h : ∀ s ∈ ks, s.size ≤ 60) (i : Nat) : (keyPart ks i).length ≤ 363 := by
  unfold keyPart
  split
  · rename_i q hq
    have h1 := h q (List.mem_of_getElem? hq)
    have h2 := Q.quo_len q.toList
    have h3 : q.toList.length = q.size := by rw [ByteArray.toList_eq]; simp
    simp only [List.length_append, List.length_singleton]; omega
  · simp
theorem txts_len {ks : List ByteArray} (h : ∀ s ∈ ks, s.size ≤ 60) : ∀ (l : List T) (i : Nat), (∀ x ∈ l, x.txt.length + 364 ≤ 800 * x.size) → (T.txts ks l i).length ≤ 800 * T.sizes l
  | [], i, _ => by simp [T.txts]
  | x :: l, i, hl => by
    have h1 := txts_len h l (i + 1) fun y hy => hl y (List.mem_cons_of_mem _ hy)
    have h2 := hl x (List.mem_cons_self)
    have h3 := comma_len i
    have h4 := keyPart_len h i
    rw [txts_cons]
    simp only [List.length_append, T.sizes]; omega
theorem txt_len : ∀ (t : T), T.All Fit t → t.txt.length + 364 ≤ 800 * t.size := by
  refine T.ind ?_
  intro t ih hf
  have f := hf.here
  have hi : (T.txts t.keys t.items 0).length ≤ 800 * T.sizes t.items := txts_len f.keys _ _ fun x hx => ih x hx (hf.mem hx)
  have hq := Q.quo_len t.str.toList
  have hs : t.str.toList.length = t.str.size := by rw [ByteArray.toList_eq]; simp
  have hs60 := f.str
  have hn := De.itoa_len (n := t.num) ⟨f.n0, f.n1⟩
  rw [T.txt_eq, T.size_eq]
  split
  · split <;> simp <;> omega
  split
  · omega
  split
  · omega
  split
  · simp only [List.length_cons, List.length_append, List.length_nil]; omega
  split
  · simp only [List.length_cons, List.length_append, List.length_nil]; omega
  · simp; omega
end Go.Proofs.YthfhlblpjjniiaaGreatDoor
