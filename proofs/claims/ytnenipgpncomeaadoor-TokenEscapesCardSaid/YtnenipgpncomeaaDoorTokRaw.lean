/- The tokens of a text in quotation marks: plain mathematics. -/
import Derived.Test.YtnenipgpncomeaaDoorTokAll
namespace Go.Proofs.YtnenipgpncomeaaDoor.Tk
open Pl

/-- s in quotation marks -/
def quoted (s : ByteArray) : ByteArray := ⟨#[34]⟩ ++ s ++ ⟨#[34]⟩
theorem quoted_list (s : ByteArray) : (quoted s).data.toList = 34 :: (s.data.toList ++ [34]) := by unfold quoted; simp
theorem quoted_size (s : ByteArray) : (quoted s).size = s.size + 2 := by
  have := congrArg List.length (quoted_list s)
  rw [size_toList] at this
  rw [this]; simp
theorem bt_of {S : ByteArray} {p : Nat} {c : UInt8} {r : List UInt8} (h : S.data.toList.drop p = c :: r) : bt S p = c.toNat := by
  have h1 : S.data.toList[p]? = some c := by
    have := congrArg (fun l => l[0]?) h
    simpa [List.getElem?_drop] using this
  unfold bt
  rw [List.getD_eq_getElem?_getD, h1]; rfl
theorem drop_next {S : ByteArray} {p : Nat} {a b : List UInt8} (h : S.data.toList.drop p = a ++ b) : S.data.toList.drop (p + a.length) = b := by
  rw [← List.drop_drop, h, List.drop_left]
/-- a character that stands for itself -/
theorem chAt_self {S : ByteArray} {p : Nat} {x : Int} {r : List UInt8} (hx : pt x = true) (h : S.data.toList.drop p = Lib.encodeRune x ++ r) (h32 : 32 ≤ bt S p) (h92 : bt S p ≠ 92) : chAt S p = .pt x (p + (Lib.encodeRune x).length) := by
  have hp : p < S.size := lt_of_bt (by omega)
  unfold chAt
  rw [if_neg (by omega), if_neg h92]
  unfold rawCh
  obtain ⟨h2, h1⟩ := ok_of_enc x r hx
  rw [h, if_pos h1, h2]
  congr 1
  rcases (pt_iff x).1 hx with h3 | h3 <;> omega
theorem str_raw {S : ByteArray} (R : List UInt8) (hR : ∃ r, R = 34 :: r) : ∀ (l : List Int) (p : Nat) (acc : List Int), (∀ x ∈ l, pt x = true) → S.data.toList.drop p = flat l ++ R → p ≤ S.size → (∀ c ∈ flat l, 32 ≤ c.toNat ∧ c.toNat ≠ 34 ∧ c.toNat ≠ 92) → str S p acc = .pts (acc ++ l) (p + (flat l).length + 1) := by
  intro l
  induction l with
  | nil =>
    intro p acc _ hd hp _
    obtain ⟨r, rfl⟩ := hR
    rw [str_end hp (bt_of hd)]
    simp [flat]
  | cons x l ih =>
    intro p acc hx hd hp hb
    rw [flat_cons, List.append_assoc] at hd
    have hlen := enc_len x
    obtain ⟨c, e, he⟩ : ∃ c e, Lib.encodeRune x = c :: e := by
      cases h : Lib.encodeRune x with
      | nil => rw [h] at hlen; simp at hlen
      | cons c e => exact ⟨c, e, rfl⟩
    have hc := hb c (by rw [flat_cons, he]; simp)
    have hbt : bt S p = c.toNat := by rw [he] at hd; exact bt_of hd
    have hch := chAt_self (hx x List.mem_cons_self) hd (by omega) (by omega)
    have hpt := chAt_pt hch
    rw [str_pt hp (by omega) hch, ih _ _ (fun y hy => hx y (List.mem_cons_of_mem _ hy)) (drop_next hd) hpt.2.2 (fun d hd' => hb d (by rw [flat_cons]; exact List.mem_append_right _ hd'))]
    rw [flat_cons, List.length_append, List.append_assoc]
    congr 1
    omega
theorem next_end {S : ByteArray} : next S S.size = .tok ⟨0, nix, 0, S.size, S.size⟩ := by
  unfold next
  rw [span_end (Nat.le_refl _)]
  unfold ansAt
  rw [if_pos (Nat.le_refl _)]
/-- a text that opens the whole: its token -/
theorem next_str {S : ByteArray} {a e : Nat} {l : List Int} (h34 : bt S a = 34) (hs : str S (a + 1) [] = .pts l e) : next S a = .tok ⟨2, textOf l, 0, a, e⟩ := by
  have hl := lt_of_bt (s := S) (i := a) (by omega)
  unfold next
  rw [span_no (by rw [h34]; rfl)]
  unfold ansAt
  rw [if_neg (by omega), if_neg (by rw [h34]; decide), if_pos h34]
  unfold strAns
  rw [hs]
theorem next_str_bad {S : ByteArray} {a q : Nat} {c : Int} (h34 : bt S a = 34) (hs : str S (a + 1) [] = .bad q c) : next S a = .err q c := by
  have hl := lt_of_bt (s := S) (i := a) (by omega)
  unfold next
  rw [span_no (by rw [h34]; rfl)]
  unfold ansAt
  rw [if_neg (by omega), if_neg (by rw [h34]; decide), if_pos h34]
  unfold strAns
  rw [hs]
theorem two_toks {S : ByteArray} {t : Tok} (h : next S 0 = .tok t) (hk : t.kind ≠ 0) (hf : t.fin = S.size) : all S 0 [] = .toks [t, ⟨0, nix, 0, S.size, S.size⟩] := by
  rw [all_more (Nat.zero_le _) h hk, hf]
  exact all_end (Nat.le_refl _) next_end rfl
theorem raw_all {s : ByteArray} {l : List Int} (h : Split s.data.toList l []) (hb : ∀ i, i < s.size → 32 ≤ bt s i ∧ bt s i ≠ 34 ∧ bt s i ≠ 92) : all (quoted s) 0 [] = .toks [⟨2, s, 0, 0, s.size + 2⟩, ⟨0, nix, 0, s.size + 2, s.size + 2⟩] := by
  have hf : s.data.toList = flat l := by have := h.1; rwa [List.append_nil] at this
  have hsz := quoted_size s
  have h34 : bt (quoted s) 0 = 34 := bt_of (r := s.data.toList ++ [34]) (by rw [List.drop_zero, quoted_list])
  have hst : str (quoted s) (0 + 1) [] = .pts ([] ++ l) (0 + 1 + (flat l).length + 1) := by
    refine str_raw [34] ⟨[], rfl⟩ l (0 + 1) [] h.2.2 (by rw [quoted_list, ← hf]; rfl) (by omega) ?_
    intro c hc
    rw [← hf] at hc
    obtain ⟨i, hi, rfl⟩ := List.getElem_of_mem hc
    have := hb i hi
    rw [← bt_at s i hi] at this
    exact this
  have hl : (flat l).length = s.size := by rw [← hf, size_toList]
  have ht : textOf l = s := by
    unfold textOf
    rw [← hf]
  have hn := next_str h34 hst
  rw [List.nil_append, ht, hl] at hn
  have := two_toks hn (show (2 : Int) ≠ 0 by decide) (by show 0 + 1 + s.size + 1 = _; omega)
  rw [this, hsz]
  congr 3
  omega
end Go.Proofs.YtnenipgpncomeaaDoor.Tk
