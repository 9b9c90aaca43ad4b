/- More blanks where blanks stand: the whole text has the same tree: plain mathematics. What is read of an expression's text ends outside of its strings: plain mathematics. A scan of an expression's text, and the text with more blanks that it makes: plain mathematics. -/
import Derived.Test.YtofgmddlacenhaaGreatDoorEL2
set_option linter.unusedVariables false
set_option maxRecDepth 100000
set_option maxHeartbeats 8000000
open Go.Lib (hid)
namespace Go.Proofs.YtofgmddlacenhaaGreatDoor.Ex
open Tk Pl
theorem parse_blow {s s' : ByteArray} {e : E} {p0 : Nat} {bs L' : List UInt8} (h : parse s = .ok e p0) (hs : s'.data.toList = bs ++ L') (hb : ∀ c ∈ bs, isBl c.toNat = true) (hw : Blow false s.data.toList L') (hz : s'.size ≤ 2048) : p0 = 0 ∧ parse s' = .ok e 0 := by
 have hl := blow_len hw
 have hls := congrArg List.length hs
 rw [List.length_append, size_toList] at hls
 rw [size_toList] at hl
 have hc : Cor s s' 0 0 := ⟨Nat.zero_le _, Nat.zero_le _, bs, L', hb, by rw [List.drop_zero]; exact hs, by rw [List.drop_zero]; exact hw⟩
 unfold parse at h
 split at h
 · cases h
 ·
  rename_i h1
  cases hx : top s 0 with
  | err q c => rw [hx] at h; cases h
  | out => rw [hx] at h; cases h
  | ok e' p =>
   rw [hx] at h
   dsimp only at h
   split at h
   · cases h
   ·
    rename_i h2
    split at h
    · cases h
    ·
     rename_i h3
     injection h with h4 h5
     subst h4; subst h5
     refine ⟨rfl, ?_⟩
     unfold top at hx
     obtain ⟨p', k1, k2⟩ := (like_all (cor_like s s') (many s)).1 0 0 0 _ _ (by omega) hc hx (many s') (by unfold many; omega)
     obtain ⟨m1, m2⟩ := k2.at_
     have hge : s'.size ≤ bl s' p' := by
      rcases Nat.lt_or_ge (bl s' p') s'.size with g | g
      ·
       exfalso
       obtain ⟨c, hcd, hcb⟩ := dropl g
       obtain ⟨n1, n2, n3⟩ := m1
       have e0 : s.data.toList.drop (bl s p) = [] := List.drop_of_length_le (by rw [size_toList]; omega)
       rw [e0, hcd] at n3
       rw [bt_end (s := s) (i := Ex.bl s p) (by omega), hcb] at m2
       generalize hM : s'.data.toList.drop (bl s' p' + 1) = M at n3
       cases n3 with
       | nil hbb =>
        have := hbb c List.mem_cons_self
        rw [m2] at this
        exact absurd this (by decide)
      · exact g
     unfold parse top
     rw [if_neg (by omega), k1]
     dsimp only
     rw [if_neg (by omega), if_neg h3]
end Go.Proofs.YtofgmddlacenhaaGreatDoor.Ex
namespace Go.Proofs.YtofgmddlacenhaaGreatDoor.Ex
open Tk Pl
inductive Sc (s : ByteArray) : Bool → Nat → Prop
 | zero : Sc s false 0
 | raw {i : Nat} (h : Sc s false i) (hi : i < s.size) (h1 : bt s i ≠ 34) : Sc s false (i + 1)
 | opn {i : Nat} (h : Sc s false i) (h1 : bt s i = 34) : Sc s true (i + 1)
 | cls {i : Nat} (h : Sc s true i) (h1 : bt s i = 34) : Sc s false (i + 1)
 | esc {i : Nat} (h : Sc s true i) (h1 : bt s i = 92) (hi : i + 1 < s.size) : Sc s true (i + 2)
 | inn {i : Nat} (h : Sc s true i) (hi : i < s.size) (h1 : bt s i ≠ 34) (h2 : bt s i ≠ 92) : Sc s true (i + 1)
theorem Sc.le {s : ByteArray} {b : Bool} {i : Nat} (h : Sc s b i) : i ≤ s.size := by
 cases h with
 | zero => exact Nat.zero_le _
 | raw h hi h1 => exact hi
 | opn h h1 => exact lt_of_bt (by rw [h1]; decide)
 | cls h h1 => exact lt_of_bt (by rw [h1]; decide)
 | esc h h1 hi => exact hi
 | inn h hi h1 h2 => exact hi
theorem u8n {c : UInt8} {n : Nat} (hn : n < 256) (h : c ≠ UInt8.ofNat n) : c.toNat ≠ n := fun e => h (UInt8.toNat_inj.mp (by rw [e]; simp; omega))
theorem Sc.plain {s : ByteArray} : ∀ (M : List UInt8) {X : List UInt8} {i : Nat}, Sc s false i → s.data.toList.drop i = M ++ X → (∀ c ∈ M, c ≠ 34) → Sc s false (i + M.length)
 | [], _, _, h, _, _ => h
 | c :: M, X, i, h, hd, hc => by
  obtain ⟨h1, h2, h3⟩ := dropc (r := M ++ X) hd
  have := Sc.plain M (h.raw h1 (by rw [h2]; exact u8n (by decide) (hc c List.mem_cons_self))) h3.symm (fun c hm => hc c (List.mem_cons_of_mem _ hm))
  rw [List.length_cons, show i + (M.length + 1) = i + 1 + M.length by omega]
  exact this
theorem Sc.bytes {s : ByteArray} : ∀ (M : List UInt8) {X : List UInt8} {i : Nat}, Sc s true i → s.data.toList.drop i = M ++ X → (∀ c ∈ M, c ≠ 34 ∧ c ≠ 92) → Sc s true (i + M.length)
 | [], _, _, h, _, _ => h
 | c :: M, X, i, h, hd, hc => by
  obtain ⟨h1, h2, h3⟩ := dropc (r := M ++ X) hd
  obtain ⟨c1, c2⟩ := hc c List.mem_cons_self
  have := Sc.bytes M (h.inn h1 (by rw [h2]; exact u8n (by decide) c1) (by rw [h2]; exact u8n (by decide) c2)) h3.symm (fun c hm => hc c (List.mem_cons_of_mem _ hm))
  rw [List.length_cons, show i + (M.length + 1) = i + 1 + M.length by omega]
  exact this
theorem Sc.span {s : ByteArray} {P : Nat → Bool} (hP : ∀ c, P c = true → c ≠ 34) : ∀ n i, s.size - i = n → Sc s false i → Sc s false (Tk.span P s i) := by
 intro n
 induction n with
 | zero =>
  intro i hn h
  rw [span_end (by omega)]; exact h
 | succ n ih =>
  intro i hn h
  cases hx : P (bt s i) with
  | false => rw [span_no hx]; exact h
  | true =>
   have hi : i < s.size := by omega
   rw [span_yes hi hx]
   exact ih (i + 1) (by omega) (h.raw hi (hP _ hx))
theorem Sc.fourF {s : ByteArray} : ∀ k {i : Nat} n, Sc s true i → 0 ≤ (Tk.fourF s k i n).1 → (Tk.fourF s k i n).2 = i + k ∧ Sc s true (i + k) := by
 intro k
 induction k with
 | zero => intro i n h _; exact ⟨rfl, h⟩
 | succ k ih =>
  intro i n h h0
  simp only [Tk.fourF] at h0 ⊢
  by_cases h1 : hexOf (Tk.bt s i) < 0
  · rw [if_pos h1] at h0; exact absurd (show (0 : Int) ≤ -1 from h0) (by decide)
  ·
   have hi : i < s.size := by
    rcases Nat.lt_or_ge i s.size with h2 | h2
    · exact h2
    · exact absurd (hexOf_end h2) (by omega)
   obtain ⟨a1, a2⟩ := hex_ok (c := bt s i) (by omega)
   rw [if_neg h1] at h0 ⊢
   rw [show i + (k + 1) = i + 1 + k by omega]
   exact ih _ (h.inn hi a1 a2) h0
theorem Sc.uni {s : ByteArray} {p : Nat} {n : Int} {e : Nat} (h : Sc s true (p + 2)) (hc : uniCh s p = .pt n e) : Sc s true e := by
 unfold uniCh at hc
 unfold four at hc
 split at hc
 · cases hc
 ·
  rename_i h0
  obtain ⟨k1, k2⟩ := h.fourF 4 0 (by omega)
  split at hc
  ·
   injection hc with h2 h3
   subst h3
   rw [k1]; exact k2
  ·
   split at hc
   ·
    rename_i h2
    obtain ⟨a1, a2, a3, a4⟩ := h2
    have b7 : p + 7 < s.size := lt_of_bt (by rw [a3]; decide)
    obtain ⟨o1, o2⟩ := Sc.fourF 4 0 (k2.esc a2 b7) (low_ge a4)
    injection hc with h2 h3
    subst h3
    exact o2
   · cases hc
theorem Sc.ch {s : ByteArray} {p : Nat} {n : Int} {e : Nat} (h : Sc s true p) (h1 : bt s p ≠ 34) (hc : chAt s p = .pt n e) : Sc s true e := by
 unfold chAt at hc
 by_cases h0 : s.size ≤ p ∨ Tk.bt s p < 32
 · rw [if_pos h0] at hc; cases hc
 ·
  have hp : p < s.size := by omega
  rw [if_neg h0] at hc
  by_cases h2 : Tk.bt s p = 92
  ·
   rw [if_pos h2] at hc
   unfold escCh at hc
   have h4 : p + 1 < s.size := by
    refine lt_of_bt (fun h0 => ?_)
    rw [h0] at hc
    simp [shortOf] at hc
   cases hs : shortOf (Tk.bt s (p + 1)) with
   | some m =>
    rw [hs] at hc
    dsimp only at hc
    injection hc with h6 h7
    subst h7
    exact h.esc h2 h4
   | none =>
    rw [hs] at hc
    dsimp only at hc
    split at hc
    · exact (h.esc h2 h4).uni hc
    · cases hc
  ·
   rw [if_neg h2] at hc
   unfold rawCh at hc
   split at hc
   ·
    rename_i hok
    injection hc with e1 e2
    subst e2
    obtain ⟨c, hcd, hb⟩ := dropl hp
    obtain ⟨f1, f2⟩ := first_ok hok hcd (by rw [← hb]; exact h1) (by rw [← hb]; exact h2)
    obtain ⟨g1, g2, g3⟩ := enc_of_ok _ hok
    rw [← g3]
    exact h.bytes _ g2 (encM ⟨f1, f2⟩)
   · cases hc
theorem Sc.strF {s : ByteArray} : ∀ n p acc l e, Sc s true p → Tk.strF s n p acc = .pts l e → Sc s false e := by
 intro n
 induction n with
 | zero => intro p acc l e _ h0; cases h0
 | succ n ih =>
  intro p acc l e hq h0
  rw [Tk.strF] at h0
  by_cases h1 : Tk.bt s p = 34
  ·
   rw [if_pos h1] at h0
   injection h0 with h2 h3
   subst h3
   exact hq.cls h1
  ·
   rw [if_neg h1] at h0
   cases hc : chAt s p with
   | bad q c => rw [hc] at h0; cases h0
   | pt k q =>
    rw [hc] at h0
    exact ih _ _ l e (hq.ch h1 hc) h0
theorem Sc.str {s : ByteArray} {a : Nat} (h : Sc s false a) (hb : bt s a = 34) {t : Tok} (ht : strAns s a = .tok t) : Sc s false t.fin := by
 unfold strAns at ht
 cases hs : Tk.str s (a + 1) [] with
 | bad q c => rw [hs] at ht; cases ht
 | pts l e =>
  rw [hs] at ht
  injection ht with ht
  subst ht
  exact Sc.strF _ _ _ _ _ (h.opn hb) hs
theorem bl_not34 (c : Nat) (h : isBl c = true) : c ≠ 34 := by rintro rfl; exact absurd h (by decide)
theorem Sc.bl {s : ByteArray} {i : Nat} (h : Sc s false i) : Sc s false (Ex.bl s i) := Sc.span bl_not34 _ i rfl h
theorem Sc.wE {s : ByteArray} {a : Nat} (h : Sc s false a) : Sc s false (Ex.wE s a) := by
 unfold Ex.wE
 split
 · exact Sc.span (fun c hc => (goes_plain c hc).2) _ a rfl h
 · exact h
theorem Sc.past {s : ByteArray} {i : Nat} (h : Sc s false i) {t : ByteArray} (ht : Sign t) (hs : Ex.stands s i t = true) : Sc s false (Ex.past s i t) := by
 cases hl : isLt (bt s (Ex.bl s i)) with
 | true =>
  rw [(stands_word h.le hl hs).2]
  exact h.bl.wE
 | false =>
  have hh : has s (Ex.bl s i) t = true := by
   unfold Ex.stands at hs
   rw [if_neg (by rw [hl]; decide)] at hs
   exact hs
  unfold has at hh
  obtain ⟨X, hX⟩ := List.isPrefixOf_iff_prefix.1 hh
  exact h.bl.plain _ hX.symm (fun c hc => (sign_plain ht c hc).2)
theorem sc_like (s : ByteArray) : Like s s (fun i i' => i = i' ∧ Sc s false i) where
 le i i' h := h.2.le
 stands i i' t h ht := by rw [h.1]
 past i i' t h ht hs := ⟨by rw [h.1], h.2.past ht hs⟩
 dg i i' h := by rw [h.1]
 lt i i' h := by rw [h.1]
 quo i i' h := by rw [h.1]
 num i i' e p h hn := by
  refine ⟨p, by rw [← h.1]; exact hn, rfl, ?_⟩
  unfold Ex.num at hn
  split at hn
  · cases hn
  ·
   split at hn
   ·
    split at hn
    · cases hn
    ·
     injection hn with h1 h2
     subst h2
     exact Sc.span (fun c hc => (dg_plain c hc).2) _ _ rfl h.2.bl
   · cases hn
 strs i i' e p h hb hs := by
  refine ⟨p, by rw [← h.1]; exact hs, rfl, ?_⟩
  unfold Ex.strs at hs
  cases ht : strAns s (Ex.bl s i) with
  | err q c => rw [ht] at hs; cases hs
  | tok t =>
   rw [ht] at hs
   injection hs with h1 h2
   subst h2
   exact h.2.bl.str hb ht
 key i i' x e p h hk := by
  refine ⟨p, by rw [← h.1]; exact hk, rfl, ?_⟩
  unfold Ex.key at hk
  by_cases h1 : Tk.bt s (Ex.bl s i) = 34
  ·
   rw [if_pos h1] at hk
   cases ht : strAns s (Ex.bl s i) with
   | err q c => rw [ht] at hk; cases hk
   | tok t =>
    rw [ht] at hk
    injection hk with h2 h3
    subst h3
    exact h.2.bl.str h1 ht
  ·
   rw [if_neg h1] at hk
   by_cases h2 : isLt (Tk.bt s (Ex.bl s i)) = true
   ·
    rw [if_pos h2] at hk
    injection hk with h3 h4
    subst h4
    exact h.2.bl.wE
   · rw [if_neg h2] at hk; cases hk
 word i i' h hl := ⟨by rw [h.1], by rw [h.1], h.2.bl.wE⟩
theorem parse_scan {s : ByteArray} {e : E} {p0 : Nat} (h : parse s = .ok e p0) : Sc s false s.size := by
 unfold parse at h
 split at h
 · cases h
 ·
  cases hx : top s 0 with
  | err q c => rw [hx] at h; cases h
  | out => rw [hx] at h; cases h
  | ok e' p =>
   rw [hx] at h
   dsimp only at h
   split at h
   · cases h
   ·
    rename_i h2
    unfold top at hx
    obtain ⟨p', k1, k2, k3⟩ := (like_all (sc_like s) (many s)).1 0 0 0 _ _ (by omega) ⟨rfl, Sc.zero⟩ hx (many s) (Nat.le_refl _)
    have := k3.bl.le
    have e1 : Ex.bl s p = s.size := by omega
    rw [← e1]
    exact k3.bl
end Go.Proofs.YtofgmddlacenhaaGreatDoor.Ex
namespace Go.Proofs.YtofgmddlacenhaaGreatDoor.Ex
open Tk Pl
inductive On (s : ByteArray) : Bool → Nat → Prop
 | done : On s false s.size
 | raw {i : Nat} (hi : i < s.size) (h1 : bt s i ≠ 34) (h : On s false (i + 1)) : On s false i
 | opn {i : Nat} (hi : i < s.size) (h1 : bt s i = 34) (h : On s true (i + 1)) : On s false i
 | cls {i : Nat} (hi : i < s.size) (h1 : bt s i = 34) (h : On s false (i + 1)) : On s true i
 | esc {i : Nat} (h1 : bt s i = 92) (hi : i + 1 < s.size) (h : On s true (i + 2)) : On s true i
 | inn {i : Nat} (hi : i < s.size) (h1 : bt s i ≠ 34) (h2 : bt s i ≠ 92) (h : On s true (i + 1)) : On s true i
theorem Sc.on {s : ByteArray} {b : Bool} {i : Nat} (h : Sc s b i) : On s b i → On s false 0 := by
 induction h with
 | zero => exact id
 | raw h hi h1 ih => exact fun k => ih (.raw hi h1 k)
 | opn h h1 ih => exact fun k => ih (.opn (lt_of_bt (by rw [h1]; decide)) h1 k)
 | cls h h1 ih => exact fun k => ih (.cls (lt_of_bt (by rw [h1]; decide)) h1 k)
 | esc h h1 hi ih => exact fun k => ih (.esc h1 hi k)
 | inn h hi h1 h2 ih => exact fun k => ih (.inn hi h1 h2 k)
theorem parse_on {s : ByteArray} {e : E} {p0 : Nat} (h : parse s = .ok e p0) : On s false 0 := (parse_scan h).on .done
theorem On.end_ {s : ByteArray} {b : Bool} {i : Nat} (h : On s b i) (hi : s.size ≤ i) : b = false ∧ i = s.size := by
 cases h with
 | done => exact ⟨rfl, rfl⟩
 | raw h _ _ => omega
 | opn h _ _ => omega
 | cls h _ _ => omega
 | esc _ h _ => omega
 | inn h _ _ _ => omega
theorem On.quo {s : ByteArray} {b : Bool} {i : Nat} (h : On s b i) (hi : i < s.size) (h1 : bt s i = 34) : On s (!b) (i + 1) := by
 cases h with
 | done => omega
 | raw _ h _ => exact absurd h1 h
 | opn _ _ h => exact h
 | cls _ _ h => exact h
 | esc h _ _ => rw [h1] at h; exact absurd h (by decide)
 | inn _ h _ _ => exact absurd h1 h
theorem On.slash {s : ByteArray} {i : Nat} (h : On s true i) (h1 : bt s i = 92) : i + 1 < s.size ∧ On s true (i + 2) := by
 cases h with
 | cls _ h _ => rw [h1] at h; exact absurd h (by decide)
 | esc _ hi h => exact ⟨hi, h⟩
 | inn _ _ h _ => exact absurd h1 h
theorem On.inn_ {s : ByteArray} {i : Nat} (h : On s true i) (hi : i < s.size) (h1 : bt s i ≠ 34) (h2 : bt s i ≠ 92) : On s true (i + 1) := by
 cases h with
 | cls _ h _ => exact absurd h h1
 | esc h _ _ => exact absurd h h2
 | inn _ _ _ h => exact h
theorem On.raw_ {s : ByteArray} {i : Nat} (h : On s false i) (hi : i < s.size) (h1 : bt s i ≠ 34) : On s false (i + 1) := by
 cases h with
 | done => omega
 | raw _ _ h => exact h
 | opn _ h _ => exact absurd h h1
def Pre (s : ByteArray) (b : Bool) (i : Nat) (W : List UInt8) : Prop := ∀ L', Blow b (s.data.toList.drop i) L' → Blow false s.data.toList (W ++ L')
theorem pre_zero (s : ByteArray) : Pre s false 0 [] := fun L' h => by rw [List.drop_zero] at h; exact h
theorem Pre.raw {s : ByteArray} {i : Nat} {W : List UInt8} (h : Pre s false i W) (hi : i < s.size) (h1 : bt s i ≠ 34) {c : UInt8} (hc : c.toNat = bt s i) {g : List UInt8} (hg : g = [] ∨ isBl (bt s i) = true) (hb : ∀ x ∈ g, isBl x.toNat = true) : Pre s false (i + 1) (W ++ (c :: g)) := by
 intro L' hw
 obtain ⟨d, hd, hdb⟩ := dropl hi
 have e : d = c := UInt8.toNat_inj.mp (by rw [← hdb, hc])
 subst e
 have := h (d :: (g ++ L')) (by rw [hd]; exact .raw (fun e => h1 (by rw [hdb, e]; rfl)) (by rw [hc]; exact hg) hb hw)
 rw [List.append_assoc, List.cons_append]; exact this
theorem Pre.quo {s : ByteArray} {b : Bool} {i : Nat} {W : List UInt8} (h : Pre s b i W) (hi : i < s.size) (h1 : bt s i = 34) {c : UInt8} (hc : c.toNat = bt s i) : Pre s (!b) (i + 1) (W ++ [c]) := by
 intro L' hw
 obtain ⟨d, hd, hdb⟩ := dropl hi
 have e : d = c := UInt8.toNat_inj.mp (by rw [← hdb, hc])
 subst e
 have e2 : d = 34 := UInt8.toNat_inj.mp (by rw [hc, h1]; rfl)
 subst e2
 have := h (34 :: L') (by
  rw [hd]
  cases b with
  | false => exact .opn hw
  | true => exact .cls hw)
 rw [List.append_assoc]; exact this
theorem Pre.slash {s : ByteArray} {i : Nat} {W : List UInt8} (h : Pre s true i W) (hi : i + 1 < s.size) (h1 : bt s i = 92) {c d : UInt8} (hc : c.toNat = bt s i) (hd : d.toNat = bt s (i + 1)) : Pre s true (i + 2) (W ++ [c] ++ [d]) := by
 intro L' hw
 obtain ⟨c', hcd, hcb⟩ := dropl (s := s) (i := i) (by omega)
 obtain ⟨d', hdd, hdb⟩ := dropl hi
 have e1 : c' = c := UInt8.toNat_inj.mp (by rw [← hcb, hc])
 have e2 : d' = d := UInt8.toNat_inj.mp (by rw [← hdb, hd])
 subst e1; subst e2
 have e3 : c' = 92 := UInt8.toNat_inj.mp (by rw [hc, h1]; rfl)
 subst e3
 have := h (92 :: d' :: L') (by rw [hcd, hdd]; exact .esc hw)
 rw [List.append_assoc, List.append_assoc]; exact this
theorem Pre.inn {s : ByteArray} {i : Nat} {W : List UInt8} (h : Pre s true i W) (hi : i < s.size) (h1 : bt s i ≠ 34) (h2 : bt s i ≠ 92) {c : UInt8} (hc : c.toNat = bt s i) : Pre s true (i + 1) (W ++ [c]) := by
 intro L' hw
 obtain ⟨d, hd, hdb⟩ := dropl hi
 have e : d = c := UInt8.toNat_inj.mp (by rw [← hdb, hc])
 subst e
 have := h (d :: L') (by rw [hd]; exact .inn (fun e => h1 (by rw [hdb, e]; rfl)) (fun e => h2 (by rw [hdb, e]; rfl)) hw)
 rw [List.append_assoc]; exact this
theorem Pre.parse {s s' : ByteArray} {e : E} {p0 : Nat} {W : List UInt8} (hp : parse s = .ok e p0) (h : Pre s false s.size W) (hs : s'.data.toList = 10 :: (W ++ [32])) (hz : s'.size ≤ 2048) : p0 = 0 ∧ Ex.parse s' = .ok e 0 := by
 have e0 : s.data.toList.drop s.size = [] := List.drop_of_length_le (by rw [size_toList]; exact Nat.le_refl _)
 refine parse_blow (bs := [10]) hp (by rw [hs]; rfl) (by decide) (h [32] ?_) hz
 rw [e0]
 exact .nil (by decide)
end Go.Proofs.YtofgmddlacenhaaGreatDoor.Ex
