/- A text in quotation marks, a value's text: plain mathematics. Good values, and the program's Good of them. List: contract. The values that the law's Tree gives: plain mathematics. As Nice, but of up to eighty parts: plain mathematics. A value's text: its parts, its length: plain mathematics. -/
import Derived.Test.YthfhlblpjjniiaaGreatDoorMA
import Derived.Lib.ItoaNum
import Derived.Lib.Bytealg
import Derived.Test.YthfhlblpjjniiaaGreatDoorMJ
import Derived.Test.YthfhlblpjjniiaaGreatDoorMG
import Derived.Test.YthfhlblpjjniiaaGreatDoorMH
import Derived.Test.YthfhlblpjjniiaaGreatDoorML
import Derived.Test.YthfhlblpjjniiaaGreatDoorNA
namespace Go.Proofs.YthfhlblpjjniiaaGreatDoor
set_option linter.unusedVariables false
namespace Q
def hex (d : UInt8) : UInt8 := if d < 10 then 48 + d else 87 + d
def esc (c : UInt8) : List UInt8 :=
 if c = 34 then [92, 34] else if c = 92 then [92, 92] else if c = 8 then [92, 98] else if c = 12 then [92, 102] else if c = 10 then [92, 110] else if c = 13 then [92, 114] else if c = 9 then [92, 116]
 else if c < 32 then [92, 117, 48, 48, hex (c / 16), hex (c % 16)] else [c]
def quo (l : List UInt8) : List UInt8 := 34 :: (l.flatMap esc ++ [34])
theorem esc_shape (c : UInt8) : (∃ a, esc c = [a] ∧ a ≠ 92 ∧ a ≠ 34) ∨ (∃ b, esc c = [92, b] ∧ b ≠ 117) ∨ ∃ p q, esc c = [92, 117, 48, 48, p, q] := by
 unfold esc
 split
 · exact .inr (.inl ⟨34, rfl, by decide⟩)
 split
 · exact .inr (.inl ⟨92, rfl, by decide⟩)
 split
 · exact .inr (.inl ⟨98, rfl, by decide⟩)
 split
 · exact .inr (.inl ⟨102, rfl, by decide⟩)
 split
 · exact .inr (.inl ⟨110, rfl, by decide⟩)
 split
 · exact .inr (.inl ⟨114, rfl, by decide⟩)
 split
 · exact .inr (.inl ⟨116, rfl, by decide⟩)
 split
 · exact .inr (.inr ⟨_, _, rfl⟩)
 ·
  rename_i h1 h2 _ _ _ _ _ _
  exact .inl ⟨c, rfl, h2, h1⟩
theorem esc_len (c : UInt8) : (esc c).length ≤ 6 := by
 rcases esc_shape c with ⟨a, h, _⟩ | ⟨b, h, _⟩ | ⟨p, q, h⟩ <;> rw [h] <;> simp
end Q
namespace T
mutual
def txt : T → List UInt8
 | .mk k tr n s l ks => if k = 1 then (if tr then [116, 114, 117, 101] else [102, 97, 108, 115, 101]) else if k = 2 then Lib.itoa n else if k = 3 then Q.quo s.toList
  else if k = 4 then 91 :: (txts ks l 0 ++ [93]) else if k = 5 then 123 :: (txts ks l 0 ++ [125]) else [110, 117, 108, 108]
def txts : List ByteArray → List T → Nat → List UInt8
 | _, [], _ => []
 | ks, x :: r, i => (if i = 0 then [] else [44]) ++ ((match ks[i]? with | some q => Q.quo q.toList ++ [58] | none => []) ++ (x.txt ++ txts ks r (i + 1)))
end
theorem txt_eq (t : T) : t.txt = if t.kind = 1 then (if t.tr then [116, 114, 117, 101] else [102, 97, 108, 115, 101]) else if t.kind = 2 then Lib.itoa t.num else if t.kind = 3 then Q.quo t.str.toList
 else if t.kind = 4 then 91 :: (txts t.keys t.items 0 ++ [93]) else if t.kind = 5 then 123 :: (txts t.keys t.items 0 ++ [125]) else [110, 117, 108, 108] := by cases t; rfl
end T
end Go.Proofs.YthfhlblpjjniiaaGreatDoor
namespace Go.Proofs.YthfhlblpjjniiaaGreatDoor
namespace Q
end Q
end Go.Proofs.YthfhlblpjjniiaaGreatDoor
namespace Go.Proofs.YthfhlblpjjniiaaGreatDoor
open Go.RowKit
structure GoodAt (t : T) : Prop where
 k0 : 0 ≤ t.kind
 k5 : t.kind ≤ 5
 tr : t.kind ≠ 1 → t.tr = false
 num : t.kind ≠ 2 → t.num = 0
 str : t.kind ≠ 3 → t.str = ⟨#[]⟩
 items : t.kind ≠ 4 → t.kind ≠ 5 → t.items = []
 keys : t.kind ≠ 5 → t.keys = []
 lens : t.kind = 5 → t.keys.length = t.items.length
 txt : okText t.str
 ktxt : AllText t.keys
 kris : Rising t.keys
def T.Good : T → Prop := T.All GoodAt
theorem GoodAt.klen {t : T} (h : GoodAt t) : t.keys.length ≤ t.items.length := by
 by_cases h5 : t.kind = 5
 · exact Nat.le_of_eq (h.lens h5)
 · rw [h.keys h5]; exact Nat.zero_le _
theorem T.Good.small {t : T} (h : t.Good) (hs : t.size ≤ 100000) : t.Small := by
 unfold T.Good at h
 induction h with
 | mk t h hm ih =>
  refine .mk t ?_ fun x hx => ih x hx ?_
  · have := h.klen; have := t.len_size; omega
  · have := T.mem_size hx; rw [T.size_eq] at hs; omega
theorem only_yes (k : Int) (tr : Bool) (n : Int) (s : ByteArray) (A : Option Addr) (m c : Nat) (A' : Option Addr) (m' c' : Nat) (w : World) (h0 : 0 ≤ k) (h5 : k ≤ 5) (h1 : k ≠ 1 → tr = false) (h2 : k ≠ 2 → n = 0) (h3 : k ≠ 3 → s = ⟨#[]⟩) (h4 : k ≠ 4 → k ≠ 5 → m = 0) (h6 : k ≠ 5 → m' = 0) (h7 : k = 5 → m' = m) :
 Calls Tryz.prog 37 #[.agg #[.int .i64 k, .bool tr, .int .i64 n, .string s, .slice A m c, .slice A' m' c']] w fun e w' => e = .returned (.bool true) ∧ Below w.heap.size w w' := by
 rcases (by omega : k = 0 ∨ k = 1 ∨ k = 2 ∨ k = 3 ∨ k = 4 ∨ k = 5) with rfl | rfl | rfl | rfl | rfl | rfl
 ·
  obtain rfl := h1 (by decide); obtain rfl := h2 (by decide); obtain rfl := h3 (by decide); obtain rfl := h4 (by decide) (by decide); obtain rfl := h6 (by decide)
  clear h1 h2 h3 h4 h6 h7
  go_enter Tryz.func37, Tryz.ntmps37
  go_wp2_with fail
  go_ret
  exact ⟨rfl, (Below.refl _ _).alloc (Nat.le_refl _) _⟩
 ·
  obtain rfl := h2 (by decide); obtain rfl := h3 (by decide); obtain rfl := h4 (by decide) (by decide); obtain rfl := h6 (by decide)
  clear h1 h2 h3 h4 h6 h7
  go_enter Tryz.func37, Tryz.ntmps37
  go_wp2_with fail
  go_ret
  exact ⟨rfl, (Below.refl _ _).alloc (Nat.le_refl _) _⟩
 ·
  obtain rfl := h1 (by decide); obtain rfl := h3 (by decide); obtain rfl := h4 (by decide) (by decide); obtain rfl := h6 (by decide)
  clear h1 h2 h3 h4 h6 h7
  go_enter Tryz.func37, Tryz.ntmps37
  go_wp2_with fail
  go_ret
  exact ⟨rfl, (Below.refl _ _).alloc (Nat.le_refl _) _⟩
 ·
  obtain rfl := h1 (by decide); obtain rfl := h2 (by decide); obtain rfl := h4 (by decide) (by decide); obtain rfl := h6 (by decide)
  clear h1 h2 h3 h4 h6 h7
  go_enter Tryz.func37, Tryz.ntmps37
  go_wp2_with fail
  go_ret
  exact ⟨rfl, (Below.refl _ _).alloc (Nat.le_refl _) _⟩
 ·
  obtain rfl := h1 (by decide); obtain rfl := h2 (by decide); obtain rfl := h3 (by decide); obtain rfl := h6 (by decide)
  clear h1 h2 h3 h4 h6 h7
  go_enter Tryz.func37, Tryz.ntmps37
  go_wp2_with fail
  go_ret
  exact ⟨rfl, (Below.refl _ _).alloc (Nat.le_refl _) _⟩
 ·
  obtain rfl := h1 (by decide); obtain rfl := h2 (by decide); obtain rfl := h3 (by decide); obtain rfl := h7 rfl
  clear h1 h2 h3 h4 h6 h7
  go_enter Tryz.func37, Tryz.ntmps37
  go_wp2_with fail
  go_ret
  exact ⟨ret_bool (by simp), (Below.refl _ _).alloc (Nat.le_refl _) _⟩
set_option maxRecDepth 100000 in
set_option maxHeartbeats 4000000 in
theorem vgood_yes_at (n : Nat) : ∀ (t : T) (A : Option Addr) (c : Nat) (A' : Option Addr) (c' : Nat) (w : World), t.size ≤ n → n ≤ 100000 → t.Good → TV w (· < w.heap.size) t A c A' c' →
 Calls Tryz.prog 19 #[t.agg A c A' c'] w fun e w' => e = .returned (.bool true) ∧ Below w.heap.size w w' := by
 induction n with
 | zero => intro t _ _ _ _ _ h; have := t.size_pos; omega
 | succ n ih =>
  intro t A c A' c' w ht hn hg hv
  have hls := t.len_size
  have hga := hg.here
  have h0 := hga.k0
  have h5 := hga.k5
  have hkl : t.keys.length ≤ 100000 := by have := hga.klen; omega
  have IH := Lib.hid ih
  have HV := Lib.hid hv
  have HG := Lib.hid hg
  have HA := Lib.hid hga
  clear ih hv hg hga
  unfold T.agg
  go_enter Tryz.func19, Tryz.ntmps19
  go_wp2_with fail
  have hb0 : Below w.heap.size w (w.alloc (.cells (t.cs A c A' c') 26)) := (Below.refl _ _).alloc (Nat.le_refl _) _
  refine (only_yes t.kind t.tr t.num t.str A t.items.length c A' t.keys.length c' _ h0 h5 HA.out.tr HA.out.num HA.out.str (fun h h' => by rw [HA.out.items h h']; rfl) (fun h => by rw [HA.out.keys h]; rfl) HA.out.lens).mono ?_
  rintro e w2 ⟨rfl, hb2⟩
  have hB2 : Blk w2 w.heap.size 26 (t.cs A c A' c') := (Blk.new w _ _).onto hb2
  have H2 := Lib.hid (hb0.trans (hb2.mono hb0.size))
  have HB2 := Lib.hid hB2
  have a3 : w2.cell? ⟨w.heap.size, 3, none⟩ = some (.string t.str) := hB2.cell 3
  clear hb0 hb2 hB2
  go_wp2_with fail
  have hs1 : SReads (w2.alloc (.cells #[.string t.str] 9)) (· < (w2.alloc (.cells #[.string t.str] 9)).heap.size) (some ⟨w2.heap.size, 0, none⟩) [t.str] := by
   intro _
   have hb := Blk.new w2 9 #[.string t.str]
   refine ⟨w2.heap.size, 0, rfl, hb.lt, fun i s hi => ?_⟩
   rw [Nat.zero_add, hb.cell]
   match i, hi with
   | 0, hi => injection hi with hi; subst hi; rfl
  refine (texts_yes [t.str] (some ⟨w2.heap.size, 0, none⟩) 1 _ (by simp) (fun s hs => by obtain rfl := List.mem_singleton.1 hs; exact HA.out.txt) hs1).mono ?_
  rintro e w3 ⟨rfl, hb3⟩
  have hb23 : Below w2.heap.size w2 w3 := ((Below.refl _ _).alloc (Nat.le_refl _) _).trans (hb3.mono (by simp))
  have H3 := Lib.hid (H2.out.trans (hb23.mono H2.out.size))
  have hB3 := HB2.out.onto hb23
  have HB3 := Lib.hid hB3
  have a5 : w3.cell? ⟨w.heap.size, 5, none⟩ = some (.slice A' t.keys.length c') := hB3.cell 5
  clear hb3 hb23 hB3 hs1 a3
  go_wp2_with fail
  refine (texts_yes t.keys A' c' _ hkl HA.out.ktxt (HV.out.keys.on H3.out)).mono ?_
  rintro e w4 ⟨rfl, hb4⟩
  have H4 := Lib.hid (H3.out.trans (hb4.mono H3.out.size))
  have hB4 := HB3.out.onto hb4
  have HB4 := Lib.hid hB4
  have a5' : w4.cell? ⟨w.heap.size, 5, none⟩ = some (.slice A' t.keys.length c') := hB4.cell 5
  clear hb4 hB4 a5
  go_wp2_with fail
  refine (rising_yes t.keys A' c' _ hkl HA.out.kris (HV.out.keys.on H4.out)).mono ?_
  rintro e w5 ⟨rfl, hb5⟩
  have H5 := Lib.hid (H4.out.trans (hb5.mono H4.out.size))
  have hB5 := HB4.out.onto hb5
  have a4 : w5.cell? ⟨w.heap.size, 4, none⟩ = some (.slice A t.items.length c) := hB5.cell 4
  clear hb5 hB5 a5'
  go_wp2_with fail
  go_loopw [38] (fun i wr => ∃ k : Nat, k ≤ t.items.length ∧ i = .int .i64 k ∧ Below w.heap.size w wr) (fun i _ => t.items.length - (intOf i).toNat)
  case atStart => exact ⟨0, Nat.zero_le _, rfl, H5.out⟩
  case round =>
   obtain ⟨k, hk, rfl, hbel⟩ := hrel
   have Hbel := Lib.hid hbel
   clear hbel a4
   by_cases hlt : k < t.items.length
   ·
    have u1 : decide (k < t.items.length) = true := decide_eq_true hlt
    obtain ⟨b, o, x, B, d, B', d', rfl, hb, hx, h6, hX⟩ := HV.out.at_ hlt
    have hxs := T.at_size hx
    have HX := Lib.hid hX
    have HXG := Lib.hid (show x.Good from HG.out.at_ hx)
    obtain ⟨e0, e1, e2, e3, e4, e5⟩ := h6.keep hb (.of_below Hbel.out)
    clear hX h6 hx
    go_wp2_with fail
    refine (IH.out x B d B' d' _ (by omega) (by omega) HXG.out (HX.out.on (Hbel.out.alloc Hbel.out.size _))).mono ?_
    rintro e w7 ⟨rfl, hb7⟩
    have Hb7 := Lib.hid ((Hbel.out.alloc Hbel.out.size _).trans (hb7.mono (Hbel.out.alloc Hbel.out.size _).size))
    clear hb7
    go_wp2_with fail
    go_roundw
    case rel => exact ⟨k + 1, hlt, by go_num, Hb7.out⟩
    case measure => simp [intOf]; omega
   ·
    obtain rfl : t.items.length = k := by omega
    go_wp2_with fail
    go_ret
    exact ⟨rfl, Hbel.out⟩
theorem vgood_yes (t : T) (A : Option Addr) (c : Nat) (A' : Option Addr) (c' : Nat) (w : World) (ht : t.size ≤ 100000) (hg : t.Good) (hv : TV w (· < w.heap.size) t A c A' c') :
 Calls Tryz.prog 19 #[t.agg A c A' c'] w fun e w' => e = .returned (.bool true) ∧ Below w.heap.size w w' := vgood_yes_at 100000 t A c A' c' w ht (Nat.le_refl _) hg hv
end Go.Proofs.YthfhlblpjjniiaaGreatDoor
namespace Go.Proofs.YthfhlblpjjniiaaGreatDoor
open Go.RowKit
end Go.Proofs.YthfhlblpjjniiaaGreatDoor
namespace Go.Proofs.YthfhlblpjjniiaaGreatDoor
open Go.RowKit
structure Fit (t : T) : Prop where
 n0 : -9223372036854775808 ≤ t.num
 n1 : t.num ≤ 9223372036854775807
 str : t.str.size ≤ 60
 keys : ∀ s ∈ t.keys, s.size ≤ 60
structure T.Nice (t : T) : Prop where
 good : t.Good
 size : t.size ≤ 40
 fit : T.All Fit t
theorem rising_nil : Rising [] := fun i a b h _ => by simp at h
def T.ofObj (l : List T) (ks : List ByteArray) : T := .mk 5 false 0 ⟨#[]⟩ l ks
theorem rising_of {l : List ByteArray} (h : l.Pairwise fun a b => sl a b = true) : Rising l := fun i a b ha hb => get_pair h ha hb (by omega)
end Go.Proofs.YthfhlblpjjniiaaGreatDoor
namespace Go.Proofs.YthfhlblpjjniiaaGreatDoor
structure T.Fine (t : T) : Prop where
 good : t.Good
 size : t.size ≤ 80
 fit : T.All Fit t
end Go.Proofs.YthfhlblpjjniiaaGreatDoor
namespace Go.Proofs.YthfhlblpjjniiaaGreatDoor
set_option linter.unusedVariables false
def keyPart (ks : List ByteArray) (i : Nat) : List UInt8 := match ks[i]? with | some q => Q.quo q.toList ++ [58] | none => []
def comma (i : Nat) : List UInt8 := if i = 0 then [] else [44]
theorem txts_cons (ks : List ByteArray) (x : T) (r : List T) (i : Nat) : T.txts ks (x :: r) i = comma i ++ (keyPart ks i ++ (x.txt ++ T.txts ks r (i + 1))) := by rw [T.txts]; rfl
end Go.Proofs.YthfhlblpjjniiaaGreatDoor
