/- How deep expressions are, by signs ahead, by sums, by indexes: plain mathematics. How deep the expressions of the law are: plain mathematics. How great a read tree is: plain mathematics (made of XExC by exchange of words). The texts of the law of depth, as they are made: plain mathematics. -/
import Derived.Test.YtikfmgedmiocgaaGreatDoorEA
namespace Go.Proofs.YtikfmgedmiocgaaGreatDoor.Ex
open Tk
set_option linter.unusedVariables false

theorem s8 {s : ByteArray} {f i : Nat} {e : E} {p : Nat} (h : lev s (f + 1) 8 i = .ok e p) (h1 : stands s p dotB = false) (h2 : stands s p osqB = false) : lev s (f + 2) 7 i = .ok e p := by
  rw [lev, if_neg (by decide), if_neg (by decide), if_pos rfl, h]
  dsimp only
  rw [prt, if_neg (by rw [h1]; decide), if_neg (by rw [h2]; decide)]
theorem s7 {s : ByteArray} {f i : Nat} {e : E} {p : Nat} (h : lev s f 7 i = .ok e p) (h1 : stands s i minusB = false) : lev s (f + 1) 6 i = .ok e p := by
  rw [lev, if_neg (by decide), if_pos rfl, if_neg (by rw [h1]; decide)]; exact h
theorem s3 {s : ByteArray} {f i : Nat} {e : E} {p : Nat} (h : lev s f 3 i = .ok e p) (h1 : stands s i notB = false) : lev s (f + 1) 2 i = .ok e p := by
  rw [lev, if_pos rfl, if_neg (by rw [h1]; decide)]; exact h
theorem sn {s : ByteArray} {f n i : Nat} {e : E} {p : Nat} (hn : n = 0 ∨ n = 1 ∨ n = 3 ∨ n = 4 ∨ n = 5) (h : lev s (f + 1) (n + 1) i = .ok e p) (h1 : btw s n p = none) : lev s (f + 2) n i = .ok e p := by
  rw [lev, if_neg (by omega), if_neg (by omega), if_neg (by omega), if_neg (by omega), h]
  dsimp only
  rw [chn, h1]
/-- from one to a product -/
theorem to5 {s : ByteArray} {f i : Nat} {e : E} {p : Nat} (h : lev s (f + 1) 8 i = .ok e p) (h1 : stands s p dotB = false) (h2 : stands s p osqB = false) (h3 : stands s i minusB = false) (h5 : btw s 5 p = none) : lev s (f + 4) 5 i = .ok e p :=
  sn (f := f + 2) (by omega) (s7 (s8 h h1 h2) h3) h5
/-- from a sum to an expression -/
theorem to0 {s : ByteArray} {f i : Nat} {e : E} {p : Nat} (h : lev s (f + 1) 4 i = .ok e p) (h3 : stands s i notB = false) (h0 : ∀ n, n < 4 → btw s n p = none) : lev s (f + 5) 0 i = .ok e p :=
  sn (f := f + 3) (by omega) (sn (f := f + 2) (by omega) (s3 (sn (f := f) (by omega) h (h0 3 (by omega))) h3) (h0 1 (by omega))) (h0 0 (by omega))

/-- what stands from a place on -/
def At (s : ByteArray) (i : Nat) (L : List UInt8) : Prop := s.data.toList.drop i = L
theorem At.size {s : ByteArray} {i : Nat} {L : List UInt8} (h : At s i L) (hn : L ≠ []) : i + L.length = s.size := by
  have h1 := congrArg List.length h
  rw [List.length_drop, size_toList] at h1
  have : 0 < L.length := List.length_pos_iff.2 hn
  omega
theorem At.bt {s : ByteArray} {i : Nat} {L : List UInt8} (h : At s i L) (k : Nat) : Tk.bt s (i + k) = (L.getD k 0).toNat := by
  unfold Tk.bt
  rw [← h, List.getD_eq_getElem?_getD, List.getD_eq_getElem?_getD, List.getElem?_drop]
theorem At.bt0 {s : ByteArray} {i : Nat} {c : UInt8} {L : List UInt8} (h : At s i (c :: L)) : Tk.bt s i = c.toNat := h.bt 0
theorem At.next {s : ByteArray} {i : Nat} {c : UInt8} {L : List UInt8} (h : At s i (c :: L)) : At s (i + 1) L := by
  show s.data.toList.drop (i + 1) = L
  rw [← List.drop_drop, h]; rfl
theorem At.drop {s : ByteArray} {i : Nat} {L : List UInt8} (h : At s i L) (k : Nat) : At s (i + k) (L.drop k) := by
  show s.data.toList.drop (i + k) = L.drop k
  rw [← List.drop_drop, h]
theorem At.bl_yes {s : ByteArray} {i : Nat} {c : UInt8} {L : List UInt8} (h : At s i (c :: L)) (hc : isBl c.toNat = true) : bl s i = bl s (i + 1) :=
  span_yes (by have := h.size (by simp); simp at this; omega) (by rw [h.bt0]; exact hc)
theorem At.bl_no {s : ByteArray} {i : Nat} {c : UInt8} {L : List UInt8} (h : At s i (c :: L)) (hc : isBl c.toNat = false) : bl s i = i := span_no (by rw [h.bt0]; exact hc)
theorem At.bl_nil {s : ByteArray} {i : Nat} (h : At s i []) : bl s i = i := by
  have h1 := congrArg List.length h
  rw [List.length_drop, size_toList] at h1
  exact bl_end (by simp at h1; omega)
/-- what stands behind the blanks -/
theorem At.has {s : ByteArray} {i a : Nat} {L : List UInt8} (h : At s a L) (t : ByteArray) : Ex.has s a t = t.data.toList.isPrefixOf L := by unfold Ex.has; rw [h]
theorem At.stands {s : ByteArray} {i a : Nat} {L : List UInt8} (hb : bl s i = a) (h : At s a L) (hl : isLt (L.getD 0 0).toNat = false) (t : ByteArray) : Ex.stands s i t = t.data.toList.isPrefixOf L := by
  unfold Ex.stands
  rw [hb, show Tk.bt s a = _ from h.bt 0, if_neg (by rw [hl]; decide), At.has (i := 0) h]
theorem At.span {s : ByteArray} {p : Nat → Bool} (h0 : p 0 = false) : ∀ (K L : List UInt8) (i : Nat), At s i (K ++ L) → (∀ c ∈ K, p c.toNat = true) → (p (L.getD 0 0).toNat = false) → Tk.span p s i = i + K.length := by
  intro K
  induction K with
  | nil =>
    intro L i h _ hL
    refine span_no ?_
    have := h.bt 0
    rw [Nat.add_zero] at this
    rw [this]; exact hL
  | cons c K ih =>
    intro L i h hK hL
    have hs := h.size (by simp)
    rw [span_yes (by simp at hs; omega) (by rw [At.bt0 (L := K ++ L) h]; exact hK c (by simp)), ih L (i + 1) (At.next (L := K ++ L) h) (fun d hd => hK d (by simp [hd])) hL]
    simp only [List.length_cons]; omega
theorem At.word {s : ByteArray} {i a : Nat} {K L : List UInt8} (hb : bl s i = a) (h : At s a (K ++ L)) (hK : ∀ c ∈ K, goes c.toNat = true) (hL : goes (L.getD 0 0).toNat = false) (hf : isLt ((K ++ L).getD 0 0).toNat = true) :
    isLt (Tk.bt s (bl s i)) = true ∧ wd s i = ⟨K.toArray⟩ ∧ wE s (bl s i) = a + K.length := by
  have h1 : isLt (Tk.bt s a) = true := by have := h.bt 0; rw [Nat.add_zero] at this; rw [this]; exact hf
  have h2 : wE s a = a + K.length := by unfold wE; rw [if_pos h1]; exact At.span rfl K L a h hK hL
  rw [hb]
  refine ⟨h1, ?_, h2⟩
  unfold wd
  rw [hb, h2]
  have : (sub s a (a + K.length)).data.toList = K := by
    rw [sub_list, show a + K.length - a = K.length by omega]
    rw [show s.data.toList.drop a = K ++ L from h, List.take_left' rfl]
  generalize sub _ _ _ = u at this
  obtain ⟨⟨y⟩⟩ := u
  simp at this
  rw [this]
theorem btw_of {s : ByteArray} {n i : Nat} (h : ∀ t ∈ sg n, stands s i t = false) : btw s n i = none := by
  unfold btw
  rw [List.find?_eq_none]
  intro t ht
  rw [h t ht]; decide
def xB : ByteArray := ⟨#[120]⟩
def varX : E := .mk varB xB Rd.nulT []
/-- the name x, behind blanks -/
theorem one_x {s : ByteArray} {i a : Nat} {L : List UInt8} (hb : bl s i = a) (h : At s a (120 :: L)) (hL : goes (L.getD 0 0).toNat = false) (f : Nat) : lev s (f + 1) 8 i = .ok varX (a + 1) ∧ stands s i minusB = false ∧ stands s i notB = false := by
  obtain ⟨h1, h2, h3⟩ := At.word (K := [120]) hb h (by decide) hL rfl
  have hle : i ≤ s.size := by
    have := lt_lt h1
    have := bl_ge s i
    omega
  have h2' : wd s i = xB := h2
  refine ⟨?_, stands_sign hle h1 (by decide), by rw [stands_lt h1, h2']; rfl⟩
  obtain ⟨a1, a2, a3, a4⟩ := lt_facts h1
  rw [lev, if_neg (by decide), if_neg (by decide), if_neg (by decide), if_pos rfl, if_neg (by rw [a2]; decide), if_neg a3, if_pos h1, h2', if_neg (by rw [show isWord xB = false from rfl]; decide), if_neg (by rw [show argsN xB = 0 from rfl]; decide), h3]
  rfl
/-- a digit alone, behind blanks -/
theorem one_dig {s : ByteArray} {i a : Nat} {c : UInt8} {L : List UInt8} (hb : bl s i = a) (h : At s a (c :: L)) (hc : isDg c.toNat = true) (hL : goes (L.getD 0 0).toNat = false) (f : Nat) : lev s (f + 1) 8 i = .ok (litE (Rd.numT (De.numL [c]))) (a + 1) ∧ stands s i minusB = false ∧ stands s i notB = false := by
  have h1 : Tk.bt s a = c.toNat := h.bt0
  have hd := isDg_iff.1 hc
  have hl : isLt c.toNat = false := by rw [isLt_no]; omega
  have hL2 : isDg (L.getD 0 0).toNat = false := by
    unfold goes at hL
    simp only [Bool.or_eq_false_iff] at hL
    exact hL.2
  have h2 : Tk.span isDg s a = a + 1 := At.span (s := s) rfl [c] L a h (by simpa using hc) hL2
  have h3 : sub s a (a + 1) = ⟨#[c]⟩ := by
    have : (sub s a (a + 1)).data.toList = [c] := by
      rw [sub_list, show a + 1 - a = 1 by omega, show s.data.toList.drop a = c :: L from h]; rfl
    generalize sub _ _ _ = u at this
    obtain ⟨⟨y⟩⟩ := u
    simp at this
    rw [this]
  have hst : ∀ t : ByteArray, stands s i t = t.data.toList.isPrefixOf (c :: L) := At.stands hb h hl
  have hne : ∀ k : UInt8, k.toNat < 48 ∨ 57 < k.toNat → (k == c) = false := fun k hk => by
    rw [beq_eq_false_iff_ne]; rintro rfl; omega
  refine ⟨?_, ?_, ?_⟩
  · rw [lev, if_neg (by decide), if_neg (by decide), if_neg (by decide), if_pos rfl, hb, h1, if_pos hc]
    unfold num
    rw [h2, h3, if_neg (by omega)]
    have hn : Tk.In64 (De.numL [c]) := by
      have key : ∀ c : Fin 256, Tk.In64 (De.numL [UInt8.ofNat c.val]) := by decide +kernel
      have := key ⟨c.toNat, UInt8.toNat_lt c⟩
      simpa using this
    rw [if_pos hn, if_neg]
    rw [show Tk.bt s (a + 1) = _ from h.bt 1]
    show ¬ goes (L.getD 0 0).toNat = true
    rw [hL]; decide
  · rw [hst]; show List.isPrefixOf [45] (c :: L) = false
    simp only [List.isPrefixOf, hne 45 (by decide), Bool.false_and]
  · rw [hst]; show List.isPrefixOf [110, 111, 116] (c :: L) = false
    simp only [List.isPrefixOf, hne 110 (by decide), Bool.false_and]
/-- at the end, or ahead of a byte that no sign begins with, nothing goes on -/
def Still (s : ByteArray) (p : Nat) : Prop := ∀ t ∈ [dotB, osqB, orB, andB, eqB, neB, leB, geB, ltB, gtB, plusB, minusB, starB, slashB, remB], stands s p t = false
theorem Still.btw {s : ByteArray} {p : Nat} (h : Still s p) (n : Nat) : Ex.btw s n p = none := by
  refine btw_of fun t ht => h t ?_
  unfold sg at ht
  split at ht <;> simp at ht
  · subst ht; simp
  · subst ht; simp
  · rcases ht with rfl | rfl | rfl | rfl | rfl | rfl <;> simp
  · rcases ht with rfl | rfl <;> simp
  · rcases ht with rfl | rfl | rfl <;> simp
theorem still_end {s : ByteArray} {p : Nat} (h : s.size ≤ p) : Still s p := by
  intro t ht
  refine stands_end h ?_
  simp only [List.mem_cons, List.not_mem_nil, or_false] at ht
  rcases ht with rfl | rfl | rfl | rfl | rfl | rfl | rfl | rfl | rfl | rfl | rfl | rfl | rfl | rfl | rfl <;> decide
/-- a whole expression of one -/
theorem whole_one {s : ByteArray} {i : Nat} {e : E} {p : Nat} (h : ∀ f, lev s (f + 1) 8 i = .ok e p ∧ stands s i minusB = false ∧ stands s i notB = false) (hs : Still s p) (f : Nat) : lev s (f + 9) 0 i = .ok e p :=
  to0 (f := f + 4) (sn (f := f + 3) (by omega) (to5 (f := f) (h f).1 (hs dotB (by simp)) (hs osqB (by simp)) (h f).2.1 (hs.btw 5)) (hs.btw 4)) (h f).2.2 (fun n _ => hs.btw n)
end Go.Proofs.YtikfmgedmiocgaaGreatDoor.Ex
namespace Go.Proofs.YtikfmgedmiocgaaGreatDoor.Ex
open Tk
set_option linter.unusedVariables false

theorem parse_of {s : ByteArray} {e : E} (h : top s 0 = .ok e s.size) (hs : s.size ≤ 2048) : parse s = if 32 < e.depth then .err 0 6 else .ok e 0 := by
  unfold parse
  rw [if_neg (by omega), h]
  dsimp only
  rw [bl_end (Nat.le_refl _), if_neg (by omega)]
/-- a sign ahead, so many times -/
def nth (o : ByteArray) : Nat → E → E
  | 0, e => e
  | n + 1, e => .mk o nix Rd.nulT [nth o n e]
theorem nth_depth (o : ByteArray) (e : E) : ∀ n, (nth o n e).depth = e.depth + n := by
  intro n
  induction n with
  | zero => rfl
  | succ n ih => rw [nth, E.depth_eq]; show 1 + max (nth o n e).depth 0 = _; omega
theorem len_at {s : ByteArray} {i : Nat} {L : List UInt8} (h : At s i L) (hn : L ≠ []) : i + L.length = s.size := h.size hn
/-- signs of less -/
def minusT (j : Nat) : List UInt8 := List.replicate j 45 ++ [120]
theorem lev_minus {s : ByteArray} : ∀ j i, At s i (minusT j) → ∀ f, lev s (f + j + 3) 6 i = .ok (nth negB j varX) s.size ∧ stands s i notB = false := by
  intro j
  induction j with
  | zero =>
    intro i h f
    have h' : At s i (120 :: []) := h
    have hb : bl s i = i := h'.bl_no (by decide)
    have hz := h'.size (by simp)
    have he : i + 1 = s.size := by simpa using hz
    obtain ⟨h1, h2, h3⟩ := one_x hb h' (by decide) f
    have hs := still_end (s := s) (p := i + 1) (by omega)
    rw [← he]
    exact ⟨s7 (s8 h1 (hs dotB (by simp)) (hs osqB (by simp))) h2, h3⟩
  | succ j ih =>
    intro i h f
    have h' : At s i (45 :: minusT j) := by
      have : minusT (j + 1) = 45 :: minusT j := by simp [minusT, List.replicate_succ]
      rwa [this] at h
    have hb : bl s i = i := h'.bl_no (by decide)
    have hst := h'.stands hb (by rfl)
    have hp : past s i minusB = i + 1 := by unfold past; rw [hb]; rfl
    refine ⟨?_, by rw [hst]; rfl⟩
    rw [show f + (j + 1) + 3 = (f + j + 3) + 1 by omega, lev, if_neg (by decide), if_pos rfl, if_pos (by rw [hst]; rfl), hp, (ih (i + 1) h'.next f).1]
    rfl
theorem top_minus {s : ByteArray} {j : Nat} (h : s.data.toList = minusT j) : top s 0 = .ok (nth negB j varX) s.size := by
  have hA : At s 0 (minusT j) := h
  have hz : s.size = j + 1 := by have := congrArg List.length h; rw [size_toList] at this; simpa [minusT] using this
  have hs := still_end (s := s) (p := s.size) (Nat.le_refl _)
  obtain ⟨f, hf⟩ : ∃ f, many s = (f + j + 4) + 5 := ⟨many s - (j + 9), by unfold many; omega⟩
  have h6 := lev_minus j 0 hA f
  unfold top
  rw [hf]
  exact to0 (sn (f := f + j + 3) (by omega) (sn (f := f + j + 2) (by omega) h6.1 (hs.btw 5)) (hs.btw 4)) h6.2 (fun n _ => hs.btw n)
/-- words not -/
def notT : Nat → List UInt8
  | 0 => [120]
  | j + 1 => 110 :: 111 :: 116 :: 32 :: notT j
theorem notT_first (j : Nat) : ∃ c L, notT j = c :: L ∧ isBl c.toNat = false := by
  cases j with
  | zero => exact ⟨120, [], rfl, by decide⟩
  | succ j => exact ⟨110, _, rfl, by decide⟩
theorem lev_not {s : ByteArray} : ∀ j i a, bl s i = a → At s a (notT j) → ∀ f, lev s (f + j + 7) 2 i = .ok (nth notB j varX) s.size := by
  intro j
  induction j with
  | zero =>
    intro i a hb h f
    have h' : At s a (120 :: []) := h
    have hz := h'.size (by simp)
    have he : a + 1 = s.size := by simpa using hz
    obtain ⟨h1, h2, h3⟩ := one_x hb h' (by decide) f
    have hs := still_end (s := s) (p := a + 1) (by omega)
    rw [← he]
    exact s3 (sn (f := f + 4) (by omega) (sn (f := f + 3) (by omega) (to5 h1 (hs dotB (by simp)) (hs osqB (by simp)) h2 (hs.btw 5)) (hs.btw 4)) (hs.btw 3)) h3
  | succ j ih =>
    intro i a hb h f
    have h' : At s a ([110, 111, 116] ++ (32 :: notT j)) := h
    obtain ⟨h1, h2, h3⟩ := At.word hb h' (by decide) (by rfl) (by rfl)
    have hst : stands s i notB = true := by rw [stands_lt h1, h2]; rfl
    have hp : past s i notB = a + 3 := by unfold past; rw [hb]; rfl
    have h4 : At s (a + 3) (32 :: notT j) := h'.drop 3
    have hb3 : bl s (a + 3) = a + 4 := by
      rw [h4.bl_yes (by decide)]
      obtain ⟨c, L, e1, e2⟩ := notT_first j
      have h5 := h4.next
      rw [e1] at h5
      exact h5.bl_no e2
    rw [show f + (j + 1) + 7 = (f + j + 7) + 1 by omega, lev, if_pos rfl, if_pos hst, hp, ih (a + 3) (a + 4) hb3 h4.next f]
    rfl
theorem notT_len (j : Nat) : (notT j).length = 4 * j + 1 := by
  induction j with
  | zero => rfl
  | succ j ih => simp only [notT, List.length_cons, ih]; omega
theorem top_not {s : ByteArray} {j : Nat} (h : s.data.toList = notT j) : top s 0 = .ok (nth notB j varX) s.size := by
  have hA : At s 0 (notT j) := h
  have hz : s.size = 4 * j + 1 := by have := congrArg List.length h; rw [size_toList, notT_len] at this; exact this
  have hs := still_end (s := s) (p := s.size) (Nat.le_refl _)
  have hb : bl s 0 = 0 := by
    obtain ⟨c, L, e1, e2⟩ := notT_first j
    have h5 := hA
    rw [e1] at h5
    exact h5.bl_no e2
  obtain ⟨f, hf⟩ : ∃ f, many s = f + j + 9 := ⟨many s - (j + 9), by unfold many; omega⟩
  unfold top
  rw [hf]
  exact sn (f := f + j + 7) (by omega) (sn (f := f + j + 6) (by omega) (lev_not j 0 0 hb hA f) (hs.btw 1)) (hs.btw 0)
/-- what stands behind x, of sums -/
def plusT : Nat → List UInt8
  | 0 => []
  | j + 1 => 32 :: 43 :: 32 :: 49 :: plusT j
def litN (c : UInt8) : E := litE (Rd.numT (De.numL [c]))
def sums : Nat → E → E
  | 0, e => e
  | j + 1, e => sums j (.mk plusB nix Rd.nulT [e, litN 49])
theorem sums_depth : ∀ j (e : E), (sums j e).depth = e.depth + j := by
  intro j
  induction j with
  | zero => intro e; rfl
  | succ j ih =>
    intro e
    have hd : (E.mk plusB nix Rd.nulT [e, litN 49]).depth = 1 + max e.depth (max (litN 49).depth 0) := rfl
    have h1 : (litN 49).depth = 1 := rfl
    have := e.depth_pos
    rw [sums, ih, hd, h1]; omega
theorem plusT_quiet {s : ByteArray} {p : Nat} (j : Nat) (h : At s p (plusT j)) : stands s p dotB = false ∧ stands s p osqB = false ∧ btw s 5 p = none ∧ stands s p minusB = false := by
  cases j with
  | zero =>
    have hs : s.size ≤ p := by
      have h1 := congrArg List.length (show s.data.toList.drop p = [] from h)
      rw [List.length_drop, size_toList] at h1
      simp at h1; omega
    have := still_end hs
    exact ⟨this dotB (by simp), this osqB (by simp), this.btw 5, this minusB (by simp)⟩
  | succ j =>
    have h' : At s p (32 :: 43 :: 32 :: 49 :: plusT j) := h
    have hb : bl s p = p + 1 := by rw [h'.bl_yes (by decide)]; exact h'.next.bl_no (by decide)
    have hst := h'.next.stands hb (by rfl)
    refine ⟨by rw [hst]; rfl, by rw [hst]; rfl, btw_of fun t ht => ?_, by rw [hst]; rfl⟩
    rw [hst]
    simp only [sg, List.mem_cons, List.not_mem_nil, or_false] at ht
    rcases ht with rfl | rfl | rfl <;> rfl
theorem chn_plus {s : ByteArray} : ∀ j e p, p ≤ s.size → At s p (plusT j) → ∀ f, chn s (f + j + 5) 4 e p = .ok (sums j e) s.size := by
  intro j
  induction j with
  | zero =>
    intro e p hp h f
    have hs : p = s.size := by
      have h1 := congrArg List.length (show s.data.toList.drop p = [] from h)
      rw [List.length_drop, size_toList] at h1
      simp at h1; omega
    rw [show f + 0 + 5 = (f + 4) + 1 by omega, chn, btw_end (by omega), hs]
    rfl
  | succ j ih =>
    intro e p hp h f
    have h' : At s p (32 :: 43 :: 32 :: 49 :: plusT j) := h
    have hz := h'.size (by simp)
    have hb : bl s p = p + 1 := by rw [h'.bl_yes (by decide)]; exact h'.next.bl_no (by decide)
    have hst := h'.next.stands hb (by rfl)
    have hbt : btw s 4 p = some plusB := by
      unfold btw
      rw [show sg 4 = [plusB, minusB] from rfl, List.find?_cons_of_pos (by rw [hst]; rfl)]
    have hpa : past s p plusB = p + 2 := by unfold past; rw [hb]; rfl
    have h2 : At s (p + 2) (32 :: 49 :: plusT j) := h'.drop 2
    have hb2 : bl s (p + 2) = p + 3 := by rw [h2.bl_yes (by decide)]; exact h2.next.bl_no (by decide)
    have hg : goes ((plusT j).getD 0 0).toNat = false := by cases j <;> rfl
    obtain ⟨o1, o2, o3⟩ := one_dig hb2 h2.next (by decide) hg (f + j + 1)
    have h4 : At s (p + 3 + 1) (plusT j) := h2.next.next
    obtain ⟨q1, q2, q3, _⟩ := plusT_quiet j h4
    have h5 := to5 (f := f + j + 1) o1 q1 q2 o2 q3
    rw [show f + (j + 1) + 5 = (f + j + 5) + 1 by omega, chn, hbt]
    dsimp only
    rw [hpa, show 4 + 1 = 5 from rfl, show f + j + 5 = f + j + 1 + 4 by omega, h5]
    dsimp only
    rw [if_neg (by decide), show f + j + 1 + 4 = f + j + 5 by omega]
    exact ih _ _ (by simp at hz; omega) h4 f
theorem plusT_len (j : Nat) : (plusT j).length = 4 * j := by
  induction j with
  | zero => rfl
  | succ j ih => simp only [plusT, List.length_cons, ih]; omega
theorem top_plus {s : ByteArray} {j : Nat} (h : s.data.toList = 120 :: plusT j) : top s 0 = .ok (sums j varX) s.size := by
  have hA : At s 0 (120 :: plusT j) := h
  have hz : s.size = 4 * j + 1 := by have := congrArg List.length h; rw [size_toList, List.length_cons, plusT_len] at this; exact this
  have hs := still_end (s := s) (p := s.size) (Nat.le_refl _)
  have hb : bl s 0 = 0 := hA.bl_no (by decide)
  have hg : goes ((plusT j).getD 0 0).toNat = false := by cases j <;> rfl
  obtain ⟨f, hf⟩ : ∃ f, many s = (f + j + 5) + 5 := ⟨many s - (j + 10), by unfold many; omega⟩
  obtain ⟨o1, o2, o3⟩ := one_x hb hA hg (f + j + 1)
  have h1 : At s 1 (plusT j) := hA.next
  obtain ⟨q1, q2, q3, _⟩ := plusT_quiet j h1
  have h5 : lev s (f + j + 5) 5 0 = .ok varX 1 := to5 (f := f + j + 1) o1 q1 q2 o2 q3
  have h4 : lev s (f + j + 5 + 1) 4 0 = .ok (sums j varX) s.size := by
    rw [lev, if_neg (by decide), if_neg (by decide), if_neg (by decide), if_neg (by decide), show 4 + 1 = 5 from rfl, h5]
    exact chn_plus j _ _ (by omega) h1 f
  unfold top
  rw [hf]
  exact to0 (f := f + j + 5) h4 o3 (fun n _ => hs.btw n)
/-- what stands behind x, of indexes -/
def idxT : Nat → List UInt8
  | 0 => []
  | j + 1 => 91 :: 48 :: 93 :: idxT j
def idxs : Nat → E → E
  | 0, e => e
  | j + 1, e => idxs j (.mk atB nix Rd.nulT [e, litN 48])
theorem idxs_depth : ∀ j (e : E), (idxs j e).depth = e.depth + j := by
  intro j
  induction j with
  | zero => intro e; rfl
  | succ j ih =>
    intro e
    have hd : (E.mk atB nix Rd.nulT [e, litN 48]).depth = 1 + max e.depth (max (litN 48).depth 0) := rfl
    have h1 : (litN 48).depth = 1 := rfl
    have := e.depth_pos
    rw [idxs, ih, hd, h1]; omega
theorem prt_idx {s : ByteArray} : ∀ j e p, p ≤ s.size → At s p (idxT j) → ∀ f, prt s (f + j + 10) e p = .ok (idxs j e) s.size := by
  intro j
  induction j with
  | zero =>
    intro e p hp h f
    have hs : p = s.size := by
      have h1 := congrArg List.length (show s.data.toList.drop p = [] from h)
      rw [List.length_drop, size_toList] at h1
      simp at h1; omega
    have hst := still_end (s := s) (p := p) (by omega)
    rw [show f + 0 + 10 = (f + 9) + 1 by omega, prt, if_neg (by rw [hst dotB (by simp)]; decide), if_neg (by rw [hst osqB (by simp)]; decide), hs]
    rfl
  | succ j ih =>
    intro e p hp h f
    have h' : At s p (91 :: 48 :: 93 :: idxT j) := h
    have hz := h'.size (by simp)
    have hb : bl s p = p := h'.bl_no (by decide)
    have hst := h'.stands hb (by rfl)
    have hpa : past s p osqB = p + 1 := by unfold past; rw [hb]; rfl
    have hb1 : bl s (p + 1) = p + 1 := h'.next.bl_no (by decide)
    have h2 : At s (p + 1 + 1) (93 :: idxT j) := h'.next.next
    have hb2 : bl s (p + 1 + 1) = p + 1 + 1 := h2.bl_no (by decide)
    have hst2 := h2.stands hb2 (by rfl)
    have hs2 : Still s (p + 1 + 1) := by
      intro t ht
      rw [hst2]
      simp only [List.mem_cons, List.not_mem_nil, or_false] at ht
      rcases ht with rfl | rfl | rfl | rfl | rfl | rfl | rfl | rfl | rfl | rfl | rfl | rfl | rfl | rfl | rfl <;> rfl
    have hw := whole_one (s := s) (i := p + 1) (fun f => one_dig hb1 h'.next (by decide) (by rfl) f) hs2 (f + j + 1)
    have hpc : past s (p + 1 + 1) csqB = p + 3 := by unfold past; rw [hb2]; rfl
    rw [show f + (j + 1) + 10 = (f + j + 10) + 1 by omega, prt, if_neg (by rw [show stands s p dotB = false by rw [hst]; rfl]; decide), if_pos (by rw [hst]; rfl), hpa, show f + j + 10 = f + j + 1 + 9 by omega, hw]
    dsimp only
    rw [if_pos (by rw [hst2]; rfl), hpc, show f + j + 1 + 9 = f + j + 10 by omega]
    exact ih _ _ (by simp at hz; omega) h2.next f
theorem idxT_len (j : Nat) : (idxT j).length = 3 * j := by
  induction j with
  | zero => rfl
  | succ j ih => simp only [idxT, List.length_cons, ih]; omega
theorem top_idx {s : ByteArray} {j : Nat} (h : s.data.toList = 120 :: idxT j) : top s 0 = .ok (idxs j varX) s.size := by
  have hA : At s 0 (120 :: idxT j) := h
  have hz : s.size = 3 * j + 1 := by have := congrArg List.length h; rw [size_toList, List.length_cons, idxT_len] at this; exact this
  have hs := still_end (s := s) (p := s.size) (Nat.le_refl _)
  have hb : bl s 0 = 0 := hA.bl_no (by decide)
  have hg : goes ((idxT j).getD 0 0).toNat = false := by cases j <;> rfl
  obtain ⟨f, hf⟩ : ∃ f, many s = f + j + 18 := ⟨many s - (j + 18), by unfold many; omega⟩
  obtain ⟨o1, o2, o3⟩ := one_x hb hA hg (f + j + 9)
  have h1 : At s 1 (idxT j) := hA.next
  have h7 : lev s (f + j + 10 + 1) 7 0 = .ok (idxs j varX) s.size := by
    rw [lev, if_neg (by decide), if_neg (by decide), if_pos rfl, show f + j + 10 = f + j + 9 + 1 by omega, o1]
    exact prt_idx j _ _ (by omega) h1 f
  unfold top
  rw [hf]
  exact to0 (f := f + j + 13) (sn (f := f + j + 12) (by omega) (sn (f := f + j + 11) (by omega) (s7 h7 o2) (hs.btw 5)) (hs.btw 4)) o3 (fun n _ => hs.btw n)
end Go.Proofs.YtikfmgedmiocgaaGreatDoor.Ex
namespace Go.Proofs.YtikfmgedmiocgaaGreatDoor.Ex
open Tk
set_option linter.unusedVariables false

/-- what was read, with what was there before (d), is no deeper than its text is long -/
def Sp8 (i d : Nat) (r : Res) : Prop := ∀ e p, r = .ok e p → e.size + i ≤ p + d
theorem sp8_err (i d p : Nat) (c : Int) : Sp8 i d (.err p c) := fun e q h => by cases h
theorem sp8_out (i d : Nat) : Sp8 i d .out := fun e q h => by cases h
theorem sp8_ok {i d p : Nat} {e : E} (h : e.size + i ≤ p + d) : Sp8 i d (.ok e p) := fun e' p' k => by injection k with k1 k2; subst k1 k2; exact h
theorem leaf_size (o n : ByteArray) (v : T) : (E.mk o n v []).size = 1 := rfl
theorem one_size (o n : ByteArray) (v : T) (e : E) : (E.mk o n v [e]).size = 1 + e.size := by
  show 1 + (e.size + 0) = _; omega
theorem two_size (o n : ByteArray) (v : T) (e y : E) : (E.mk o n v [e, y]).size = 1 + (e.size + y.size) := by
  show 1 + (e.size + (y.size + 0)) = _; omega
theorem sp8_up {i j : Nat} {o : ByteArray} {r : Res} (h : Sp8 j 0 r) (hij : i < j) : Sp8 i 0 (up o r) := by
  cases r with
  | ok e p => have := h e p rfl; refine sp8_ok ?_; rw [one_size]; omega
  | err p c => exact sp8_err _ _ _ _
  | out => exact sp8_out _ _
theorem sp8_key {s : ByteArray} {e : E} {i d : Nat} (hi : i ≤ s.size) (hd : e.size ≤ d) : Sp8 i d (key s e i) := by
  have hf := (fit_key (q := True) (s := s) (i := i) (e := e)).2
  intro x p hx
  have := hf x p hx
  have hdx : x.size = 1 + e.size := by
    unfold key at hx
    split at hx
    · split at hx
      · injection hx with h1 _; subst h1; exact one_size _ _ _ _
      · cases hx
    · split at hx
      · injection hx with h1 _; subst h1; exact one_size _ _ _ _
      · cases hx
  omega
theorem leafz_num {s : ByteArray} {a : Nat} {e : E} {p : Nat} (h : num s a = .ok e p) : e.size = 1 := by
  unfold num at h
  split at h
  · cases h
  · split at h
    · split at h
      · cases h
      · injection h with h1 _; subst h1; rfl
    · cases h
theorem leafz_strs {s : ByteArray} {a : Nat} {e : E} {p : Nat} (h : strs s a = .ok e p) : e.size = 1 := by
  unfold strs at h
  split at h
  · injection h with h1 _; subst h1; rfl
  · cases h
theorem sp8_leaf {i p : Nat} {r : Res} (hf : ∀ e p, r = .ok e p → i < p) (hd : ∀ e p, r = .ok e p → e.size = 1) : Sp8 i 0 r := fun e p h => by
  have := hf e p h
  have := hd e p h
  omega
theorem size_enough (s : ByteArray) : ∀ f, (∀ n i, n ≤ 8 → i ≤ s.size → Sp8 i 0 (lev s f n i)) ∧ (∀ n e i, i ≤ s.size → Sp8 i e.size (chn s f n e i)) ∧ (∀ e i, i ≤ s.size → Sp8 i e.size (prt s f e i)) ∧ (∀ w acc i, i ≤ s.size → Sp8 i (E.sizes acc) (cal s f w acc i)) := by
  intro f
  induction f with
  | zero =>
    refine ⟨fun n i hn _ => ?_, fun n e i _ => ?_, fun e i _ => ?_, fun w acc i _ => ?_⟩
    · rw [lev]; exact sp8_out _ _
    · rw [chn]; exact sp8_out _ _
    · rw [prt]; exact sp8_out _ _
    · rw [cal]; exact sp8_out _ _
  | succ f ih =>
    obtain ⟨ih1, ih2, ih3, ih4⟩ := ih
    have hnot : notB.size = 3 := rfl
    have hmin : minusB.size = 1 := rfl
    have hopn : opnB.size = 1 := rfl
    have hcls : clsB.size = 1 := rfl
    have hcom : commaB.size = 1 := rfl
    have hdot : dotB.size = 1 := rfl
    have hosq : osqB.size = 1 := rfl
    have hcsq : csqB.size = 1 := rfl
    refine ⟨fun n i hn hi => ?_, fun n e i hi => ?_, fun e i hi => ?_, fun w acc i hi => ?_⟩
    · have hb1 := bl_ge s i
      have hb2 := bl_le hi
      rcases (by omega : n = 2 ∨ n = 6 ∨ n = 7 ∨ n = 8 ∨ (n = 0 ∨ n = 1 ∨ n = 3 ∨ n = 4 ∨ n = 5)) with rfl | rfl | rfl | rfl | hn'
      · rw [lev, if_pos rfl]
        by_cases h : stands s i notB = true
        · rw [if_pos h]
          obtain ⟨h1, h2⟩ := stands_le hi h
          exact sp8_up (ih1 2 _ (by omega) h2) (by omega)
        · rw [if_neg h]
          exact ih1 3 i (by omega) hi
      · rw [lev, if_neg (by decide), if_pos rfl]
        by_cases h : stands s i minusB = true
        · rw [if_pos h]
          obtain ⟨h1, h2⟩ := stands_le hi h
          exact sp8_up (ih1 6 _ (by omega) h2) (by omega)
        · rw [if_neg h]
          exact ih1 7 i (by omega) hi
      · rw [lev, if_neg (by decide), if_neg (by decide), if_pos rfl]
        have hx := ih1 8 i (by omega) hi
        cases he : lev s f 8 i with
        | ok e p =>
          have h1 := hx e p he
          obtain ⟨h3, h4⟩ := lev_le (by omega) hi he
          exact fun e' p' h => by have := ih3 e p h4 e' p' h; omega
        | err p c => exact sp8_err _ _ _ _
        | out => exact sp8_out _ _
      · rw [lev, if_neg (by decide), if_neg (by decide), if_neg (by decide), if_pos rfl]
        by_cases h : isDg (bt s (bl s i)) = true
        · rw [if_pos h]
          exact sp8_leaf (p := 0) (fun e p k => by have := (fit_num (q := True) h).2 e p k; omega) fun e p k => leafz_num k
        rw [if_neg h]
        by_cases h : bt s (bl s i) = 34
        · rw [if_pos h]
          exact sp8_leaf (p := 0) (fun e p k => by have := (fit_strs (q := True) h).2 e p k; omega) fun e p k => leafz_strs k
        rw [if_neg h]
        by_cases h : isLt (bt s (bl s i)) = true
        · rw [if_pos h]
          have h1 := wE_pos h
          have h2 := wE_le hb2
          by_cases h3 : isWord (wd s i) = true
          · rw [if_pos h3]
            by_cases h4 : eqb (wd s i) trueB = true
            · rw [if_pos h4]; exact sp8_ok (by rw [show (litE (Rd.truT true)).size = 1 from rfl]; omega)
            rw [if_neg h4]
            by_cases h4 : eqb (wd s i) falseB = true
            · rw [if_pos h4]; exact sp8_ok (by rw [show (litE (Rd.truT false)).size = 1 from rfl]; omega)
            rw [if_neg h4]
            by_cases h4 : eqb (wd s i) nullB = true
            · rw [if_pos h4]; exact sp8_ok (by rw [show (litE Rd.nulT).size = 1 from rfl]; omega)
            rw [if_neg h4]
            by_cases h4 : eqb (wd s i) thisB = true
            · rw [if_pos h4]; exact sp8_ok (by rw [leaf_size]; omega)
            · rw [if_neg h4]; exact sp8_err _ _ _ _
          rw [if_neg h3]
          by_cases h4 : 0 < argsN (wd s i)
          · rw [if_pos h4]
            by_cases h5 : stands s (wE s (bl s i)) opnB = true
            · rw [if_pos h5]
              obtain ⟨h6, h7⟩ := stands_le h2 h5
              exact fun e' p' h => by have := ih4 _ _ _ h7 e' p' h; simp only [E.sizes] at this; omega
            · rw [if_neg h5]; exact sp8_err _ _ _ _
          · rw [if_neg h4]; exact sp8_ok (by rw [leaf_size]; omega)
        rw [if_neg h]
        by_cases h3 : stands s i opnB = true
        · rw [if_pos h3]
          obtain ⟨h4, h5⟩ := stands_le hi h3
          have hx := ih1 0 _ (by omega) h5
          cases he : lev s f 0 (past s i opnB) with
          | ok e p =>
            have h6 := hx e p he
            obtain ⟨h7, h8⟩ := lev_le (by omega) h5 he
            dsimp only
            by_cases h9 : stands s p clsB = true
            · rw [if_pos h9]
              obtain ⟨h10, h11⟩ := stands_le h8 h9
              exact sp8_ok (by omega)
            · rw [if_neg h9]; exact sp8_err _ _ _ _
          | err p c => exact sp8_err _ _ _ _
          | out => exact sp8_out _ _
        · rw [if_neg h3]; exact sp8_err _ _ _ _
      · rw [lev, if_neg (by omega), if_neg (by omega), if_neg (by omega), if_neg (by omega)]
        have hx := ih1 (n + 1) i (by omega) hi
        cases he : lev s f (n + 1) i with
        | ok e p =>
          have h1 := hx e p he
          obtain ⟨h3, h4⟩ := lev_le (by omega) hi he
          exact fun e' p' h => by have := ih2 n e p h4 e' p' h; omega
        | err p c => exact sp8_err _ _ _ _
        | out => exact sp8_out _ _
    · rw [chn]
      split
      · exact sp8_ok (by omega)
      · rename_i o ho
        obtain ⟨h1, h2⟩ := btw_le hi ho
        have hn8 := sg_lt (btw_some ho).1
        have hx := ih1 (n + 1) _ (by omega) h2
        split
        · rename_i y p he
          have h3 := hx y p he
          obtain ⟨h5, h6⟩ := lev_le (by omega) h2 he
          split
          · refine sp8_ok ?_; rw [two_size]; omega
          · exact fun e' p' h => by
              have := ih2 n (.mk o nix Rd.nulT [e, y]) p h6 e' p' h
              rw [two_size] at this; omega
        · exact sp8_err _ _ _ _
        · exact sp8_out _ _
    · rw [prt]
      split
      · rename_i h
        obtain ⟨h1, h2⟩ := stands_le hi h
        have hx := sp8_key (s := s) (e := e) (i := past s i dotB) (d := e.size) h2 (Nat.le_refl _)
        have hf := (fit_key (q := True) (s := s) (i := past s i dotB) (e := e)).2
        split
        · rename_i y p he
          have h3 := hx y p he
          obtain ⟨h4, h5⟩ := hf y p he
          exact fun e' p' h => by have := ih3 y p h5 e' p' h; omega
        · exact sp8_err _ _ _ _
        · exact sp8_out _ _
      split
      · rename_i h
        obtain ⟨h1, h2⟩ := stands_le hi h
        have hx := ih1 0 _ (by omega) h2
        split
        · rename_i y p he
          have h3 := hx y p he
          obtain ⟨h4, h5⟩ := lev_le (by omega) h2 he
          split
          · rename_i h6
            obtain ⟨h7, h8⟩ := stands_le h5 h6
            exact fun e' p' h => by
              have := ih3 (.mk atB nix Rd.nulT [e, y]) _ h8 e' p' h
              rw [two_size] at this; omega
          · exact sp8_err _ _ _ _
        · exact sp8_err _ _ _ _
        · exact sp8_out _ _
      · exact sp8_ok (by omega)
    · rw [cal]
      have hx := ih1 0 i (by omega) hi
      have hac : ∀ y : E, E.sizes (acc ++ [y]) = E.sizes acc + y.size := fun y => by rw [E.sizes_append]; simp only [E.sizes]; omega
      split
      · rename_i y p he
        have h3 := hx y p he
        obtain ⟨h4, h5⟩ := lev_le (by omega) hi he
        split
        · rename_i h
          obtain ⟨h6, h7⟩ := stands_le h5 h
          split
          · exact sp8_err _ _ _ _
          · refine sp8_ok ?_
            show 1 + E.sizes (acc ++ [y]) + i ≤ _
            rw [hac]; omega
        split
        · rename_i h
          obtain ⟨h6, h7⟩ := stands_le h5 h
          split
          · exact fun e' p' h => by
              have := ih4 w (acc ++ [y]) _ h7 e' p' h
              rw [hac] at this; omega
          · exact sp8_err _ _ _ _
        · exact sp8_err _ _ _ _
      · exact sp8_err _ _ _ _
      · exact sp8_out _ _
theorem lev_size {s : ByteArray} {f n i : Nat} {e : E} {p : Nat} (hn : n ≤ 8) (hi : i ≤ s.size) (h : lev s f n i = .ok e p) : e.size ≤ s.size := by
  have h1 := (size_enough s f).1 n i hn hi e p h
  have h2 := lev_le hn hi h
  omega
theorem lev_sz {s : ByteArray} {f n i : Nat} {e : E} {p : Nat} (hn : n ≤ 8) (hi : i ≤ s.size) (h : lev s f n i = .ok e p) : e.size + i ≤ p := by
  have h1 := (size_enough s f).1 n i hn hi e p h
  omega
end Go.Proofs.YtikfmgedmiocgaaGreatDoor.Ex
namespace Go.Proofs.YtikfmgedmiocgaaGreatDoor.Ex
open Tk
set_option linter.unusedVariables false

/-- the text behind j rounds, of the kind k -/
def frm (k j : Nat) : List UInt8 :=
  if k = 0 then notT j else if k = 1 then minusT j else if k = 2 then 120 :: plusT j else 120 :: idxT j
theorem plus_snoc (j : Nat) : plusT (j + 1) = plusT j ++ [32, 43, 32, 49] := by
  induction j with
  | zero => rfl
  | succ j ih => show 32 :: 43 :: 32 :: 49 :: plusT (j + 1) = (32 :: 43 :: 32 :: 49 :: plusT j) ++ _; rw [ih]; rfl
theorem idx_snoc (j : Nat) : idxT (j + 1) = idxT j ++ [91, 48, 93] := by
  induction j with
  | zero => rfl
  | succ j ih => show 91 :: 48 :: 93 :: idxT (j + 1) = (91 :: 48 :: 93 :: idxT j) ++ _; rw [ih]; rfl
theorem frm_zero {k : Nat} : frm k 0 = [120] := by
  unfold frm
  split
  · rfl
  split
  · rfl
  split <;> rfl
theorem frm_len (k j : Nat) : (frm k j).length ≤ 4 * j + 1 := by
  unfold frm
  split
  · rw [notT_len]; exact Nat.le_refl _
  split
  · simp [minusT]; omega
  split
  · rw [List.length_cons, plusT_len]; exact Nat.le_refl _
  · rw [List.length_cons, idxT_len]; omega
theorem frm_not (j : Nat) : frm 0 (j + 1) = [110, 111, 116, 32] ++ frm 0 j := rfl
theorem frm_minus (j : Nat) : frm 1 (j + 1) = [45] ++ frm 1 j := rfl
theorem frm_plus (j : Nat) : frm 2 (j + 1) = frm 2 j ++ [32, 43, 32, 49] := by
  show 120 :: plusT (j + 1) = (120 :: plusT j) ++ _
  rw [plus_snoc]; rfl
theorem frm_idx (j : Nat) : frm 3 (j + 1) = frm 3 j ++ [91, 48, 93] := by
  show 120 :: idxT (j + 1) = (120 :: idxT j) ++ _
  rw [idx_snoc]; rfl
/-- what is read of it -/
theorem frm_top {s : ByteArray} {k j : Nat} (h : s.data.toList = frm k j) : ∃ e, top s 0 = .ok e s.size ∧ e.depth = j + 1 := by
  have hv : varX.depth = 1 := rfl
  unfold frm at h
  split at h
  · exact ⟨_, top_not h, by rw [nth_depth, hv]; omega⟩
  split at h
  · exact ⟨_, top_minus h, by rw [nth_depth, hv]; omega⟩
  split at h
  · exact ⟨_, top_plus h, by rw [sums_depth, hv]; omega⟩
  · exact ⟨_, top_idx h, by rw [idxs_depth, hv]; omega⟩
theorem frm_size {s : ByteArray} {k j : Nat} (h : s.data.toList = frm k j) : s.size ≤ 4 * j + 1 := by
  have h1 := congrArg List.length h
  rw [size_toList] at h1
  have := frm_len k j
  omega
theorem frm_deep {s : ByteArray} {k j : Nat} (h : s.data.toList = frm k j) (hj : j < 50) (h31 : 31 < j) : parse s = .err 0 6 := by
  obtain ⟨e, h1, h2⟩ := frm_top h
  have := frm_size h
  rw [parse_of h1 (by omega), if_pos (by omega)]
theorem frm_ok {s : ByteArray} {k j : Nat} (h : s.data.toList = frm k j) (h31 : j ≤ 31) : ∃ e, parse s = .ok e 0 ∧ e.depth = j + 1 ∧ e.size ≤ 200 := by
  obtain ⟨e, h1, h2⟩ := frm_top h
  have := frm_size h
  refine ⟨e, by rw [parse_of h1 (by omega), if_neg (by omega)], h2, ?_⟩
  have := lev_sz (by decide) (Nat.zero_le _) h1
  omega
end Go.Proofs.YtikfmgedmiocgaaGreatDoor.Ex
