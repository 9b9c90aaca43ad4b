/- Where a text is cut: plain mathematics. A value's text is a text: plain mathematics. The reference's Points, its slice's capacity told too: contract. A value's text, cut short: contracts. The reference's text of a value, cut short: contract. -/
import Derived.Test.YtgiapdmoiaiofaaDoorSplit
import Derived.Lib.Bits
import Derived.Lib.RuneBytes
import Derived.Outline
import Derived.Test.YtgiapdmoiaiofaaDoorTxt
import Derived.Test.YtgiapdmoiaiofaaDoorTexts
import Derived.Test.YtgiapdmoiaiofaaDoorPoints2
import Derived.Test.YtgiapdmoiaiofaaDoorRwr
import Derived.Test.YtgiapdmoiaiofaaDoorRefText
namespace Go.Proofs.YtgiapdmoiaiofaaDoor
open Pl
set_option linter.unusedVariables false

theorem byte_of {x : Int} (h0 : 0 ≤ x) (h1 : x < 256) : ((x.toNat.toUInt8).toNat : Int) = x := by
  have h : x.toNat < 256 := by omega
  have : (x.toNat.toUInt8).toNat = x.toNat := by simp; omega
  rw [this]; omega
theorem start_of {x : Int} (h0 : 0 ≤ x) (h1 : x < 256) (b : Bool) (h : (x / 64 != 2) = b) : Lib.runeStart ((x.toNat.toUInt8).toNat : Int) = b := by
  rw [byte_of h0 h1]; exact h
theorem enc_start (r : Int) (i : Nat) (b : UInt8) (h : (Lib.encodeRune r)[i]? = some b) : Lib.runeStart (b.toNat : Int) = (i == 0) := by
  unfold Lib.encodeRune Lib.encodeRuneZ at h
  have yes : ∀ x : Int, 0 ≤ x → x < 256 → x / 64 ≠ 2 → Lib.runeStart ((x.toNat.toUInt8).toNat : Int) = true := fun x h0 h1 h2 => start_of h0 h1 true (by simpa using h2)
  have no : ∀ x : Int, 0 ≤ x → x < 256 → x / 64 = 2 → Lib.runeStart ((x.toNat.toUInt8).toNat : Int) = false := fun x h0 h1 h2 => start_of h0 h1 false (by simpa using h2)
  split at h
  · match i, h with
    | 0, h => simp at h; rw [← h]; exact yes _ (by omega) (by omega) (by omega)
    | i + 1, h => simp at h
  split at h
  · match i, h with
    | 0, h => simp at h; rw [← h]; exact yes _ (by omega) (by omega) (by omega)
    | 1, h => simp at h; rw [← h]; exact no _ (by omega) (by omega) (by omega)
    | i + 2, h => simp at h
  split at h
  · match i, h with
    | 0, h => simp at h; rw [← h]; exact yes _ (by omega) (by omega) (by omega)
    | 1, h => simp at h; rw [← h]; exact no _ (by omega) (by omega) (by omega)
    | 2, h => simp at h; rw [← h]; exact no _ (by omega) (by omega) (by omega)
    | i + 3, h => simp at h
  split at h
  · match i, h with
    | 0, h => simp at h; rw [← h]; exact yes _ (by omega) (by omega) (by omega)
    | 1, h => simp at h; rw [← h]; exact no _ (by omega) (by omega) (by omega)
    | 2, h => simp at h; rw [← h]; exact no _ (by omega) (by omega) (by omega)
    | 3, h => simp at h; rw [← h]; exact no _ (by omega) (by omega) (by omega)
    | i + 4, h => simp at h
  · match i, h with
    | 0, h => simp at h; rw [← h]; rfl
    | 1, h => simp at h; rw [← h]; rfl
    | 2, h => simp at h; rw [← h]; rfl
    | i + 3, h => simp at h
theorem flat_at {l : List Int} {k d : Nat} (hk : k < l.length) (hd : d < (Lib.encodeRune (l.getD k 0)).length) : (flat l)[off l k + d]? = (Lib.encodeRune (l.getD k 0))[d]? := by
  have h : flat l = flat (l.take k) ++ (Lib.encodeRune (l.getD k 0) ++ flat (l.drop (k + 1))) := by
    have e : l.drop k = l.getD k 0 :: l.drop (k + 1) := by rw [List.drop_eq_getElem_cons hk]; simp [List.getElem?_eq_getElem hk]
    rw [← flat_cons, ← e, ← flat_append, List.take_append_drop]
  have e2 : (flat (l.take k)).length = off l k := rfl
  rw [h, List.getElem?_append_right (by rw [e2]; omega), e2, Nat.add_sub_cancel_left, List.getElem?_append_left hd]
/-- does a point begin at a place of a text? -/
def startAt (L : List UInt8) (i : Nat) : Bool := match L[i]? with | some b => Lib.runeStart (b.toNat : Int) | none => false
theorem start_off {l : List Int} {k d : Nat} (hk : k < l.length) (hd : d < (Lib.encodeRune (l.getD k 0)).length) : startAt (flat l) (off l k + d) = (d == 0) := by
  unfold startAt
  rw [flat_at hk hd]
  obtain ⟨b, hb⟩ : ∃ b, (Lib.encodeRune (l.getD k 0))[d]? = some b := ⟨_, List.getElem?_eq_getElem hd⟩
  rw [hb]
  exact enc_start _ _ _ hb
/-- the last place up to m where a point begins -/
def cutL (L : List UInt8) : Nat → Nat
  | 0 => 0
  | m + 1 => if startAt L (m + 1) then m + 1 else cutL L m
theorem cut_start {L : List UInt8} {m : Nat} (h : startAt L m = true) : cutL L m = m := by
  cases m with
  | zero => rfl
  | succ m => unfold cutL; rw [if_pos h]
theorem cut_no {L : List UInt8} {m : Nat} (h : startAt L (m + 1) = false) : cutL L (m + 1) = cutL L m := by
  rw [cutL, h]; rfl
theorem cut_off {l : List Int} {k : Nat} (hk : k < l.length) : ∀ d, d < (Lib.encodeRune (l.getD k 0)).length → cutL (flat l) (off l k + d) = off l k
  | 0, hd => cut_start (by rw [start_off hk hd]; rfl)
  | d + 1, hd => by
    rw [← Nat.add_assoc, cut_no (by have := start_off hk hd; rw [← Nat.add_assoc] at this; rw [this]; rfl)]
    exact cut_off hk d (by omega)
theorem cut_of {l : List Int} {k m : Nat} (hk : k < l.length) (h0 : off l k ≤ m) (h1 : m < off l (k + 1)) : cutL (flat l) m = off l k := by
  rw [off_succ l k hk] at h1
  have := cut_off hk (m - off l k) (by omega)
  rwa [Nat.add_sub_cancel' h0] at this
theorem take_off (l : List Int) (k : Nat) : (flat l).take (off l k) = flat (l.take k) := by
  have h : flat l = flat (l.take k) ++ flat (l.drop k) := by rw [← flat_append, List.take_append_drop]
  rw [h]
  exact List.take_left' rfl
end Go.Proofs.YtgiapdmoiaiofaaDoor
namespace Go.Proofs.YtgiapdmoiaiofaaDoor
open Pl
set_option linter.unusedVariables false

def IsText (L : List UInt8) : Prop := ∃ l, L = flat l ∧ ∀ x ∈ l, pt x = true
theorem it_nil : IsText [] := ⟨[], rfl, by simp⟩
theorem it_app {a b : List UInt8} (h : IsText a) (k : IsText b) : IsText (a ++ b) := by
  obtain ⟨l, rfl, h2⟩ := h
  obtain ⟨m, rfl, k2⟩ := k
  exact ⟨l ++ m, (flat_append l m).symm, fun x hx => by rcases List.mem_append.1 hx with h | h; exact h2 x h; exact k2 x h⟩
theorem it_byte {b : UInt8} (h : b.toNat < 128) : IsText [b] := by
  have e : Lib.encodeRune (b.toNat : Int) = [b] := by
    unfold Lib.encodeRune
    rw [Lib.encodeRuneZ_one (by omega) (by omega)]
    simp
  refine ⟨[(b.toNat : Int)], by rw [flat_cons, e]; rfl, fun x hx => ?_⟩
  rw [List.mem_singleton.1 hx]
  unfold pt
  simp; omega
theorem it_ascii : ∀ {L : List UInt8}, (∀ b ∈ L, b.toNat < 128) → IsText L
  | [], _ => it_nil
  | b :: L, h => it_app (a := [b]) (it_byte (h b List.mem_cons_self)) (it_ascii fun c hc => h c (List.mem_cons_of_mem _ hc))
theorem esc_ascii : ∀ n : Fin 128, (Q.esc (UInt8.ofNat n.val)).all (fun b => decide (b.toNat < 128)) = true := by decide +kernel
theorem esc_high : ∀ n : Fin 256, 128 ≤ n.val → Q.esc (UInt8.ofNat n.val) = [UInt8.ofNat n.val] := by decide +kernel
theorem esc_hi {b : UInt8} (h : 128 ≤ b.toNat) : Q.esc b = [b] := by
  have := esc_high ⟨b.toNat, b.toNat_lt⟩ h
  simpa using this
theorem enc_high (r : Int) (hr : 128 ≤ r) (b : UInt8) (h : b ∈ Lib.encodeRune r) : 128 ≤ b.toNat := by
  unfold Lib.encodeRune at h
  obtain ⟨x, hx, rfl⟩ := List.mem_map.1 h
  have key : 128 ≤ x ∧ x < 256 → 128 ≤ (x.toNat.toUInt8).toNat := fun hh => by
    have := byte_of (x := x) (by omega) (by omega)
    omega
  apply key
  unfold Lib.encodeRuneZ at hx
  split at hx
  · omega
  split at hx
  · simp at hx; omega
  split at hx
  · simp at hx; omega
  split at hx
  · simp at hx; omega
  · simp at hx; omega
theorem hi_flat : ∀ {L : List UInt8}, (∀ b ∈ L, 128 ≤ b.toNat) → L.flatMap Q.esc = L
  | [], _ => rfl
  | b :: L, h => by rw [List.flatMap_cons, esc_hi (h b List.mem_cons_self), hi_flat fun c hc => h c (List.mem_cons_of_mem _ hc)]; rfl
theorem it_esc : ∀ {l : List Int}, (∀ x ∈ l, pt x = true) → IsText ((flat l).flatMap Q.esc)
  | [], _ => it_nil
  | x :: l, h => by
    rw [flat_cons, List.flatMap_append]
    refine it_app ?_ (it_esc fun y hy => h y (List.mem_cons_of_mem _ hy))
    have hx := h x List.mem_cons_self
    have hx0 : 0 ≤ x := by unfold pt at hx; simp at hx; omega
    by_cases h128 : x < 128
    · have e : Lib.encodeRune x = [UInt8.ofNat x.toNat] := by
        unfold Lib.encodeRune
        rw [Lib.encodeRuneZ_one (by omega) (by omega)]
        simp
      rw [e]
      have := esc_ascii ⟨x.toNat, by omega⟩
      simp only [List.flatMap_cons, List.flatMap_nil, List.append_nil]
      refine it_ascii fun b hb => ?_
      have h2 := List.all_eq_true.1 this b hb
      simpa using h2
    · rw [hi_flat (enc_high x (by omega))]
      exact ⟨[x], by rw [flat_cons, flat_nil, List.append_nil], fun y hy => by rw [List.mem_singleton.1 hy]; exact hx⟩
theorem it_quo {s : ByteArray} (h : okText s) : IsText (Q.quo s.data.toList) := by
  obtain ⟨l, h1, h2, h3⟩ := h
  rw [List.append_nil] at h1
  unfold Q.quo
  rw [h1]
  exact it_app (a := [34]) (it_ascii (by simp)) (it_app (it_esc h3) (it_ascii (by simp)))
theorem it_itoa (n : Int) : IsText (Lib.itoa n) := by
  have h := (De.itoa_form n).1
  refine it_ascii fun b hb => ?_
  unfold De.form De.formD at h
  simp only [Bool.and_eq_true] at h
  have hd := List.all_eq_true.1 h.1.2
  have key : ∀ c ∈ De.digs (Lib.itoa n), c.toNat < 128 := fun c hc => by
    have := hd c hc
    unfold De.isDig at this
    simp at this
    have h2 : c.toNat ≤ 57 := this.2
    omega
  unfold De.digs at key
  split at key
  · rename_i hr
    cases hL : Lib.itoa n with
    | nil => rw [hL] at hb; cases hb
    | cons a r =>
      rw [hL] at hb hr key
      injection hr with hr
      rcases List.mem_cons.1 hb with rfl | hb
      · rw [hr]; decide
      · exact key b hb
  · exact key b hb
theorem it_keyPart {ks : List ByteArray} (h : AllText ks) (i : Nat) : IsText (keyPart ks i) := by
  unfold keyPart
  split
  · rename_i q hq
    rw [ByteArray.toList_eq]
    exact it_app (it_quo (h q (List.mem_of_getElem? hq))) (it_ascii (by simp))
  · exact it_nil
theorem it_comma (i : Nat) : IsText (comma i) := by
  unfold comma
  split
  · exact it_nil
  · exact it_ascii (by simp)
theorem it_txts {ks : List ByteArray} (h : AllText ks) : ∀ (l : List T) (i : Nat), (∀ x ∈ l, IsText x.txt) → IsText (T.txts ks l i)
  | [], i, _ => by rw [T.txts]; exact it_nil
  | x :: l, i, hl => by
    rw [txts_cons]
    exact it_app (it_comma i) (it_app (it_keyPart h i) (it_app (hl x List.mem_cons_self) (it_txts h l (i + 1) fun y hy => hl y (List.mem_cons_of_mem _ hy))))
theorem it_txt : ∀ t : T, t.Good → IsText t.txt := by
  refine T.ind ?_
  intro t ih hg
  have g := hg.here
  have hi : IsText (T.txts t.keys t.items 0) := it_txts g.ktxt _ _ fun x hx => ih x hx (hg.mem hx)
  rw [T.txt_eq]
  split
  · split <;> exact it_ascii (by simp)
  split
  · exact it_itoa _
  split
  · rw [ByteArray.toList_eq]; exact it_quo g.txt
  split
  · exact it_app (a := [91]) (it_ascii (by simp)) (it_app hi (it_ascii (by simp)))
  split
  · exact it_app (a := [123]) (it_ascii (by simp)) (it_app hi (it_ascii (by simp)))
  · exact it_ascii (by simp)
end Go.Proofs.YtgiapdmoiaiofaaDoor
namespace Go.Proofs.YtgiapdmoiaiofaaDoor
open Go.RowKit
open Pl

theorem own_readsC {w : World} {base : Nat} {v : Value} {l : List Int} (h : w.ownsRow base 3 1 v l.length (l.map (Value.int .i64))) : ∃ A c, v = .slice A l.length c ∧ l.length ≤ c ∧ Reads w w.heap.size A l := by
  rcases h.2 with ⟨rfl, h0⟩ | ⟨g, cap, cur, rfl, hb, hh, hnc, _⟩
  · obtain rfl : l = [] := List.eq_nil_of_length_eq_zero h0
    exact ⟨none, 0, rfl, Nat.le_refl _, fun hn => absurd rfl hn⟩
  · refine ⟨_, _, rfl, hnc, fun _ => ⟨g, 0, rfl, (Array.getElem?_eq_some_iff.1 hh).1, fun i hi => ?_⟩⟩
    have := h.cells (g := g) rfl i (.int .i64 (l.getD i 0)) (by simp [List.getElem?_eq_getElem hi])
    have hadd : (⟨g, 0, none⟩ : Addr).add i = ⟨g, 0 + i, none⟩ := by unfold Addr.add; split <;> simp_all
    rwa [hadd] at this
def GivesRowC (l : List Int) (x : Value) (w : World) (e : Ending) (w' : World) : Prop :=
  ∃ A c, e = .returned (.tuple #[.slice A l.length c, x]) ∧ l.length ≤ c ∧ Reads w' w'.heap.size A l ∧ Below w.heap.size w w'
set_option maxRecDepth 100000 in
set_option maxHeartbeats 2000000 in
theorem rpoints_c (s : ByteArray) (l : List Int) (R : List UInt8) (h : Split s.data.toList l R) (hs : s.size ≤ 100000) (w : World) :
    Calls Tryd.prog 18 #[.string s] w (GivesRowC l (.int .i64 (flat l).length) w) := by
  obtain ⟨i0, hi, hz0, hz1, hz2⟩ := info_parts info3
  have hsz := Lib.hid h.size
  have hge : (flat l).length ≤ s.size := by have := h.size; omega
  have hll : l.length ≤ 100000 := by have := len_le l; omega
  go_enter Tryd.func18, Tryd.ntmps18
  go_wp2_with fail
  go_loopw [4, 5] (fun v i wr => ∃ k : Nat, k ≤ l.length ∧ i = .int .i64 (off l k) ∧ wr.ownsRow w.heap.size 3 1 v k ((l.take k).map (Value.int .i64)) ∧ Below w.heap.size w wr) (fun _ i _ => s.size - (intOf i).toNat)
  case atStart => exact ⟨0, Nat.zero_le _, rfl, World.ownsRow_nil _ _ _ _, Below.refl _ _⟩
  case round =>
    obtain ⟨k, hk, rfl, hown, hbel⟩ := hrel
    have Hown := Lib.hid hown
    have Hbel := Lib.hid hbel
    clear hown hbel
    by_cases hlt : k < l.length
    · obtain ⟨e1, e2, hpos, h3, h4, hb, e3, hf⟩ := h.step hlt
      have ho := (h.dec hlt).2
      have hN : decN (s.data.toList.drop (off l k)) = l.getD k 0 := by
        rw [decN_yes ho, ← decode_eq, e1, e3]
      have hM : decM (s.data.toList.drop (off l k)) = (off l (k + 1) : Int) - (off l k : Int) := by
        rw [decM_yes ho, ← decode_eq]; omega
      have t1 : decide ((off l k : Int) < (s.size : Int)) = true := decide_eq_true (by omega)
      have HN := Lib.hid hN
      have HM := Lib.hid hM
      have Hts := Lib.hid (getD_take_succ l k hlt)
      clear e1 e2 e3 hf ho hN hM hb
      go_wp2_with fail
      refine (first_any s (off l k) _ hpos (by omega)).mono ?_
      rintro e w2 ⟨rfl, hb2⟩
      rw [HN.out, HM.out]
      have Hown2 := Lib.hid (World.ownsRow.kept Hown.out (w' := w2) (row := none) ⟨hb2.os, hb2.tape, hb2.output, hb2.size, fun a ha _ => hb2.block a ha⟩ (by cases u4 <;> simp [Value.ownBlock] <;> split <;> simp))
      have Hbel2 := Lib.hid (Hbel.out.trans (hb2.mono Hbel.out.size))
      have t3 : ((off l (k + 1) : Int) - (off l k : Int) == 0) = false := by simp; omega
      clear hb2 Hown Hbel
      generalize l.getD k 0 = x at *
      go_wp2_with (at_builtin; refine wpList_append_own _ rfl _ _ 46 rfl w.heap.size 3 i0 (.int .i64 0) 1 8 Tryd.underlying46 hi hz0 hz1 hz2 rfl (by decide) _ _ _ rfl (Hown2.out.alloc _) ⟨w2.heap.size, 0, none⟩ 1 1 [.int .i64 x] rfl rfl ?c1 ?c2 ?c3 ?c4 ?c5 ?_)
      case c1 =>
        intro a u hu
        match a, hu with
        | 0, hu => simp at hu; subst hu; simp [Addr.add]
      case c2 => intro u hu; simp at hu; subst hu; rfl
      case c3 => unfold maxLen; omega
      case c4 => omega
      case c5 => have := Hbel2.out.size; simp; omega
      · intro v' w3 hown3 hgrow _
        have Hbel3 := Lib.hid ((Hbel2.out.alloc Hbel2.out.size _).grown hgrow (by have := Hbel2.out.size; simp; omega) (fun a ha => (Hown2.out.lt a ha).1))
        have Hown3 := Lib.hid hown3
        clear hown3 hgrow
        go_wp2_with fail
        go_roundw
        case rel =>
          refine ⟨k + 1, hlt, ?_, ?_, Hbel3.out⟩
          · congr 1; omega
          · rw [Hts.out, List.map_append, List.map_take]; exact Hown3.out
        case measure => simp [intOf]; omega
    · obtain rfl : l.length = k := by omega
      have Hlast : Hid (∀ W : World, Below w.heap.size w W → W.ownsRow w.heap.size 3 1 u4 l.length (l.map (Value.int .i64)) → GivesRowC l (.int .i64 (flat l).length) w (.returned (.tuple #[u4, .int .i64 (off l l.length)])) W) := by
        intro W hW ho
        obtain ⟨A, c, hv, hlc, hr⟩ := own_readsC ho
        exact ⟨A, c, by rw [hv, off_all], hlc, hr, hW⟩
      by_cases hR : R = []
      · have t1 : decide (off l l.length < s.size) = false := decide_eq_false (by rw [off_all, hsz.out, hR]; simp)
        have hfin := Hlast.out _ Hbel.out (by have := Hown.out; rwa [List.take_length] at this)
        have Hfin := Lib.hid hfin
        clear hfin Hlast Hown Hbel hR hk hlt
        go_wp2_with fail
        go_ret2
        exact Hfin.out
      · have hpos : off l l.length < s.size := by
          have : 0 < R.length := List.length_pos_iff.2 hR
          rw [off_all, hsz.out]; omega
        have t1 : decide (off l l.length < s.size) = true := decide_eq_true (by omega)
        have ho : ok (s.data.toList.drop (off l l.length)) = false := by
          rw [off_all, h.1, drop_all]; exact h.2.1
        have HN := Lib.hid (decN_no ho)
        have HM := Lib.hid (decM_no ho)
        clear ho hR hk hlt
        go_wp2_with fail
        refine (first_any s (off l l.length) _ hpos (by omega)).mono ?_
        rintro e w2 ⟨rfl, hb2⟩
        rw [HN.out, HM.out]
        have hown2 := World.ownsRow.kept Hown.out (w' := w2) (row := none) ⟨hb2.os, hb2.tape, hb2.output, hb2.size, fun a ha _ => hb2.block a ha⟩ (by cases u4 <;> simp [Value.ownBlock] <;> split <;> simp)
        rw [List.take_length] at hown2
        have hfin := Hlast.out _ (Hbel.out.trans (hb2.mono Hbel.out.size)) hown2
        have Hfin := Lib.hid hfin
        clear hfin Hlast Hown Hbel hown2 hb2
        go_wp2_with fail
        go_ret2
        exact Hfin.out

end Go.Proofs.YtgiapdmoiaiofaaDoor
namespace Go.Proofs.YtgiapdmoiaiofaaDoor
open Go.RowKit
open Pl
set_option linter.unusedVariables false

/-- a text of at most so many bytes -/
def short (L : List UInt8) (most : Int) : List UInt8 := if (L.length : Int) ≤ most then L else if most < 3 then [] else L.take (cutL L (most - 3).toNat) ++ [46, 46, 46]
theorem rtext7_any (t : T) (A : Option Addr) (c : Nat) (A' : Option Addr) (c' : Nat) (w : World) (hn : t.Fine) (hv : TV w (· < w.heap.size) t A c A' c') :
    Calls Tryd.prog 27 #[.agg #[.int .i64 t.kind, .bool t.tr, .int .i64 t.num, .string t.str, .slice A t.items.length c, .slice A' t.keys.length c']] w fun e w' => e = .returned (.string (mkB t.txt)) ∧ Below w.heap.size w w' := by
  have hsz := hn.size
  have hb : Below w.heap.size w (w.alloc (.cells #[.int .i64 t.kind, .bool t.tr, .int .i64 t.num, .string t.str, .slice A t.items.length c, .slice A' t.keys.length c'] 35)) := (Below.refl _ _).alloc (Nat.le_refl _) _
  have HC := Lib.hid (write_at 80 t A c A' c' 0 (w.alloc (.cells #[.int .i64 t.kind, .bool t.tr, .int .i64 t.num, .string t.str, .slice A t.items.length c, .slice A' t.keys.length c'] 35)) hsz hn (Int.le_refl _) (by omega) (hv.on hb))
  have HB := Lib.hid hb
  clear hv hn hb
  go_enter Tryd.func27, Tryd.ntmps27
  go_wp2_with fail
  refine HC.out.mono ?_
  rintro e w2 ⟨rfl, hb2⟩
  have H2 := Lib.hid (HB.out.trans (hb2.mono HB.out.size))
  clear hb2
  go_wp2_with fail
  go_ret
  exact ⟨rfl, H2.out⟩
theorem mkB_size (L : List UInt8) : (mkB L).size = L.length := by unfold mkB; simp [ByteArray.size]
theorem mkB_data (L : List UInt8) : (mkB L).data.toList = L := by unfold mkB; simp
theorem ext_mk (S : ByteArray) (i : Nat) : (S.extract 0 i).data.toList = S.data.toList.take i := by simp
set_option maxRecDepth 100000 in
set_option maxHeartbeats 8000000 in
theorem short_any (t : T) (A : Option Addr) (c : Nat) (A' : Option Addr) (c' : Nat) (most : Int) (w : World) (hn : t.Fine) (ht : Lib.TabIs Tryd.prog w "internal/strconv.uint64pow10" .u64 Lib.pow10Tab) (h0 : -9223372036854775808 ≤ most) (h1 : most ≤ 9223372036854775807) (hv : TV w (· < w.heap.size) t A c A' c') :
    Calls Tryd.prog 12 #[.agg #[.int .i64 t.kind, .bool t.tr, .int .i64 t.num, .string t.str, .slice A t.items.length c, .slice A' t.keys.length c'], .int .i64 most] w fun e w' => e = .returned (.string (mkB (short t.txt most))) ∧ Below w.heap.size w w' := by
  have hsz := hn.size
  have hlen := txt_len t hn.fit
  obtain ⟨l, hl, hpt⟩ := it_txt t hn.good
  have hne := txt_ne t
  have hb : Below w.heap.size w (w.alloc (.cells #[.int .i64 t.kind, .bool t.tr, .int .i64 t.num, .string t.str, .slice A t.items.length c, .slice A' t.keys.length c'] 29)) := (Below.refl _ _).alloc (Nat.le_refl _) _
  have ht2 : Lib.TabIs Tryd.prog (w.alloc (.cells #[.int .i64 t.kind, .bool t.tr, .int .i64 t.num, .string t.str, .slice A t.items.length c, .slice A' t.keys.length c'] 29)) "internal/strconv.uint64pow10" .u64 Lib.pow10Tab := ((tab_of ht).on hb).2
  have HC := Lib.hid (rntext_any t A c A' c' (w.alloc (.cells #[.int .i64 t.kind, .bool t.tr, .int .i64 t.num, .string t.str, .slice A t.items.length c, .slice A' t.keys.length c'] 29)) hn ht2 (hv.on hb))
  have HB := Lib.hid hb
  clear hv hn hb ht ht2
  generalize t.txt = L at *
  have hS := mkB_size L
  have hD := mkB_data L
  obtain ⟨S, hSe⟩ : ∃ S, mkB L = S := ⟨_, rfl⟩
  rw [hSe] at hS hD HC
  have HS := Lib.hid hS
  have HD := Lib.hid hD
  by_cases hle : (L.length : Int) ≤ most
  · have u1 : decide ((S.size : Int) ≤ most) = true := decide_eq_true (by omega)
    have HF := Lib.hid (show mkB (short L most) = S from by unfold short; rw [if_pos hle]; exact hSe)
    clear hS hD hSe hl hle
    go_enter Tryd.func12, Tryd.ntmps12
    go_wp2_with fail
    refine HC.out.mono ?_
    rintro e w2 ⟨rfl, hb2⟩
    have H2 := Lib.hid (HB.out.trans (hb2.mono HB.out.size))
    clear hb2
    go_wp2_with fail
    go_ret
    exact ⟨by rw [HF.out]; rfl, H2.out⟩
  · have u1 : decide ((S.size : Int) ≤ most) = false := decide_eq_false (by omega)
    by_cases h3 : most < 3
    · have u2 : decide (most < 3) = true := decide_eq_true h3
      have HF := Lib.hid (show mkB (short L most) = ⟨#[]⟩ from by unfold short; rw [if_neg hle, if_pos h3]; rfl)
      clear hS hD hSe hl hle h3
      go_enter Tryd.func12, Tryd.ntmps12
      go_wp2_with fail
      refine HC.out.mono ?_
      rintro e w2 ⟨rfl, hb2⟩
      have H2 := Lib.hid (HB.out.trans (hb2.mono HB.out.size))
      clear hb2
      go_wp2_with fail
      go_ret
      exact ⟨by rw [HF.out]; rfl, H2.out⟩
    · have u2 : decide (most < 3) = false := decide_eq_false h3
      obtain ⟨m, hm⟩ : ∃ m : Nat, most = (m : Int) + 3 := ⟨(most - 3).toNat, by omega⟩
      subst hm
      have hmL : m < L.length := by omega
      have HF := Lib.hid (show short L ((m : Int) + 3) = L.take (cutL L m) ++ [46, 46, 46] from by unfold short; rw [if_neg hle, if_neg h3, show ((m : Int) + 3 - 3).toNat = m by omega])
      have hst0 : startAt L 0 = true := by
        cases l with
        | nil => rw [hl] at hmL; simp [flat] at hmL
        | cons x r =>
          have := start_off (l := x :: r) (k := 0) (d := 0) (by simp) (by have := (enc_len ((x :: r).getD 0 0)).1; omega)
          rw [off_zero, ← hl] at this
          simpa using this
      have HST := Lib.hid hst0
      have hw1 : IntKind.i64.wrap ((m : Int) + 3 - 3) = m := by rw [show (m : Int) + 3 - 3 = m by omega]; exact IntWalk.i64_in _ (by omega)
      have hSz : S.size ≤ 64000 := by omega
      have hmS : m < S.size := by omega
      clear hS hD hSe hl hle h3 hst0 hne hlen
      go_enter Tryd.func12, Tryd.ntmps12
      go_wp2_with fail
      refine HC.out.mono ?_
      rintro e w2 ⟨rfl, hb2⟩
      have H2 := Lib.hid (HB.out.trans (hb2.mono HB.out.size))
      clear hb2
      go_wp2_with fail
      go_loopw [6] (fun x wr => ∃ i : Nat, i ≤ m ∧ x = .int .i64 i ∧ cutL L i = cutL L m ∧ w2 = wr) (fun x _ => (intOf x).toNat)
      case atStart => exact ⟨m, Nat.le_refl _, by go_num, rfl, rfl⟩
      case round =>
        obtain ⟨i, hi, rfl, hcut, rfl⟩ := hrel
        have i1 : (i : Int) < (S.size : Int) := by omega
        have i2 : (0 : Int) ≤ (i : Int) := by omega
        have i3 : i < S.size := by omega
        have hb : startAt L i = Lib.runeStart ((S[i]).toNat : Int) := by
          unfold startAt
          rw [← HD.out, show S.data.toList[i]? = some S[i] from by rw [Array.getElem?_toList]; exact Array.getElem?_eq_getElem (by simpa using i3)]
        have HBt := Lib.hid hb
        have HCu := Lib.hid hcut
        clear hb hcut
        obtain ⟨rb, hrb⟩ : ∃ rb, Lib.runeStart ((S[i]).toNat : Int) = rb := ⟨_, rfl⟩
        have hlt256 : ((S[i]).toNat : Int) < 256 := by have := (S[i]).toNat_lt; omega
        have HRB := Lib.hid hrb
        clear hrb
        obtain ⟨E, hE⟩ : ∃ E, S.extract 0 i = E := ⟨_, rfl⟩
        have hEd : E.data.toList = L.take i := by rw [← hE, ext_mk, HD.out]
        have hEs : E.size ≤ 64000 := by
          have h1 : E.size = E.data.toList.length := by simp
          rw [h1, hEd, List.length_take]; omega
        have HEd := Lib.hid hEd
        have z1 : ¬ ((9223372036854775807 : Int) < (E.size : Int) + 3) := by omega
        have z2 : ¬ (9223372036854775807 < E.size + 3) := by omega
        have z3 : E.size + 3 ≤ 9223372036854775807 := by omega
        have z4 : (E.size : Int) + 3 ≤ (9223372036854775807 : Int) := by omega
        have i4 : (i : Int) ≤ (S.size : Int) := by omega
        have i5 : i ≤ S.size := by omega
        clear hEd
        go_wp2_with fail
        refine (Tryd.utf8_RuneStart ((S[i]).toNat : Int) _ (by omega) hlt256).mono ?_
        rintro e w3 ⟨rfl, rfl⟩
        rw [HRB.out]
        cases rb with
        | true =>
          have hci : cutL L m = i := by rw [← HCu.out]; exact cut_start (by rw [HBt.out, HRB.out])
          have HR := Lib.hid (show E ++ ⟨#[46, 46, 46]⟩ = mkB (short L ((m : Int) + 3)) from mk_of (by rw [dl_app, HEd.out, HF.out, hci]))
          clear hci
          go_wp2_with fail
          go_ret
          exact ⟨congrArg (fun q => Ending.returned (.string q)) HR.out, H2.out⟩
        | false =>
          have hi0 : 0 < i := by
            rcases Nat.eq_zero_or_pos i with h | h
            · subst h
              have h1 := HST.out
              rw [HBt.out, HRB.out] at h1
              cases h1
            · exact h
          clear hE
          go_wp2_with fail
          go_roundw
          case rel =>
            refine ⟨i - 1, by omega, by go_num, ?_, by first | trivial | rfl⟩
            obtain ⟨k, rfl⟩ : ∃ k, i = k + 1 := ⟨i - 1, by omega⟩
            rw [← HCu.out, cut_no (by rw [HBt.out, HRB.out])]
            rfl
          case measure => simp [intOf]; omega
end Go.Proofs.YtgiapdmoiaiofaaDoor
namespace Go.Proofs.YtgiapdmoiaiofaaDoor
open Go.RowKit
open Pl
set_option linter.unusedVariables false

set_option maxRecDepth 100000 in
set_option maxHeartbeats 8000000 in
theorem rshort_any (t : T) (A : Option Addr) (c : Nat) (A' : Option Addr) (c' : Nat) (most : Int) (w : World) (hn : t.Fine) (h0 : -9223372036854775808 ≤ most) (h1 : most ≤ 9223372036854775807) (hv : TV w (· < w.heap.size) t A c A' c') :
    Calls Tryd.prog 14 #[.agg #[.int .i64 t.kind, .bool t.tr, .int .i64 t.num, .string t.str, .slice A t.items.length c, .slice A' t.keys.length c'], .int .i64 most] w fun e w' => e = .returned (.string (mkB (short t.txt most))) ∧ Below w.heap.size w w' := by
  have hsz := hn.size
  have hlen := txt_len t hn.fit
  obtain ⟨l, hl, hpt⟩ := it_txt t hn.good
  have hb : Below w.heap.size w (w.alloc (.cells #[.int .i64 t.kind, .bool t.tr, .int .i64 t.num, .string t.str, .slice A t.items.length c, .slice A' t.keys.length c'] 35)) := (Below.refl _ _).alloc (Nat.le_refl _) _
  have HC := Lib.hid (rtext7_any t A c A' c' (w.alloc (.cells #[.int .i64 t.kind, .bool t.tr, .int .i64 t.num, .string t.str, .slice A t.items.length c, .slice A' t.keys.length c'] 35)) hn (hv.on hb))
  have HB := Lib.hid hb
  clear hv hn hb
  generalize t.txt = L at *
  have hS := mkB_size L
  have hD := mkB_data L
  obtain ⟨S, hSe⟩ : ∃ S, mkB L = S := ⟨_, rfl⟩
  rw [hSe] at hS hD HC
  have HS := Lib.hid hS
  have HD := Lib.hid hD
  by_cases hle : (L.length : Int) ≤ most
  · have u1 : decide ((S.size : Int) ≤ most) = true := decide_eq_true (by omega)
    have HF := Lib.hid (show mkB (short L most) = S from by unfold short; rw [if_pos hle]; exact hSe)
    clear hS hD hSe hl hle
    go_enter Tryd.func14, Tryd.ntmps14
    go_wp2_with fail
    refine HC.out.mono ?_
    rintro e w2 ⟨rfl, hb2⟩
    have H2 := Lib.hid (HB.out.trans (hb2.mono HB.out.size))
    clear hb2
    go_wp2_with fail
    go_ret
    exact ⟨by rw [HF.out]; rfl, H2.out⟩
  · have u1 : decide ((S.size : Int) ≤ most) = false := decide_eq_false (by omega)
    by_cases h3 : most < 3
    · have u2 : decide (most < 3) = true := decide_eq_true h3
      have HF := Lib.hid (show mkB (short L most) = ⟨#[]⟩ from by unfold short; rw [if_neg hle, if_pos h3]; rfl)
      clear hS hD hSe hl hle h3
      go_enter Tryd.func14, Tryd.ntmps14
      go_wp2_with fail
      refine HC.out.mono ?_
      rintro e w2 ⟨rfl, hb2⟩
      have H2 := Lib.hid (HB.out.trans (hb2.mono HB.out.size))
      clear hb2
      go_wp2_with fail
      go_ret
      exact ⟨by rw [HF.out]; rfl, H2.out⟩
    · have u2 : decide (most < 3) = false := decide_eq_false h3
      obtain ⟨m, hm⟩ : ∃ m : Nat, most = (m : Int) + 3 := ⟨(most - 3).toNat, by omega⟩
      subst hm
      have hmL : m < L.length := by omega
      have HF := Lib.hid (show short L ((m : Int) + 3) = L.take (cutL L m) ++ [46, 46, 46] from by unfold short; rw [if_neg hle, if_neg h3, show ((m : Int) + 3 - 3).toNat = m by omega])
      have hw1 : IntKind.i64.wrap ((m : Int) + 3 - 3) = m := by rw [show (m : Int) + 3 - 3 = m by omega]; exact IntWalk.i64_in _ (by omega)
      have hSz : S.size ≤ 64000 := by omega
      have hmS : m < S.size := by omega
      have HL := Lib.hid hl
      have HPT := Lib.hid hpt
      have HSP := Lib.hid (show Split S.data.toList l [] from ⟨by rw [hD, List.append_nil]; exact hl, rfl, hpt⟩)
      have hml : m < off l l.length := by rw [off_all, ← hl]; exact hmL
      have hll : l.length ≤ 64000 := by have := len_le l; rw [← hl] at this; omega
      have hl0 : 0 < l.length := by
        rcases Nat.eq_zero_or_pos l.length with h | h
        · rw [h, off_zero] at hml; omega
        · exact h
      clear hS hD hSe hl hle h3 hlen hpt
      go_enter Tryd.func14, Tryd.ntmps14
      go_wp2_with fail
      refine HC.out.mono ?_
      rintro e w2 ⟨rfl, hb2⟩
      have H2 := Lib.hid (HB.out.trans (hb2.mono HB.out.size))
      clear hb2
      go_wp2_with fail
      refine (rpoints_c S l [] HSP.out (by omega) _).mono ?_
      rintro e w3 ⟨P, cp, rfl, hlc, hr, hb3⟩
      have H3 := Lib.hid (H2.out.trans (hb3.mono H2.out.size))
      have HR := Lib.hid hr
      clear hb3 hr
      go_wp2_with fail
      go_loopw [27, 8] (fun x y wr => ∃ (k : Nat) (O : ByteArray), k < l.length ∧ x = .int .i64 k ∧ y = .string O ∧ O.data.toList = flat (l.take k) ∧ off l k ≤ m ∧ Below w3.heap.size w3 wr) (fun x _ _ => l.length - (intOf x).toNat)
      case atStart => exact ⟨0, ⟨#[]⟩, hl0, rfl, rfl, rfl, Nat.zero_le _, Below.refl _ _⟩
      case round =>
        obtain ⟨k, O, hk, rfl, rfl, hO, hom, hbel⟩ := hrel
        have HO := Lib.hid hO
        have HBl := Lib.hid hbel
        have HW := Lib.hid (H3.out.trans (hbel.mono H3.out.size))
        have hOs : O.size = off l k := by
          have h1 : O.size = O.data.toList.length := by simp
          rw [h1, hO]; rfl
        have hsucc := off_succ l k hk
        have hen := enc_len (l.getD k 0)
        have hxp := HPT.out (l.getD k 0) (by rw [List.getD_eq_getElem?_getD, List.getElem?_eq_getElem hk]; exact List.getElem_mem hk)
        obtain ⟨bP, oP, rfl, hbP, hcP⟩ := HR.out (by intro e; rw [e] at hk; simp at hk)
        have hx := hcP k hk
        have hRd : Reads wr wr.heap.size (some ⟨bP, oP + k, none⟩) [l.getD k 0] := fun _ => ⟨bP, oP + k, rfl, Nat.lt_of_lt_of_le hbP hbel.size, fun i hi => by
          have : i = 0 := by simp at hi; exact hi
          subst this
          rw [Nat.add_zero]
          exact (hbel.cell (p := ⟨bP, oP + k, none⟩) hbP).trans hx⟩
        have HRd := Lib.hid hRd
        have HTK := Lib.hid (show flat (l.take (k + 1)) = flat (l.take k) ++ Lib.encodeRune (l.getD k 0) from by rw [getD_take_succ l k hk, flat_append, flat_cons, flat_nil, List.append_nil])
        have HSucc := Lib.hid hsucc
        have HOS := Lib.hid hOs
        generalize l.getD k 0 = x at *
        have hoz : O.size ≤ 64000 := by omega
        obtain ⟨E, hE⟩ : ∃ E : ByteArray, (⟨(flat [x]).toArray⟩ : ByteArray) = E := ⟨_, rfl⟩
        have hEd : E.data.toList = Lib.encodeRune x := by rw [← hE]; simp [flat]
        have hEs : E.size = (Lib.encodeRune x).length := by
          have h1 : E.size = E.data.toList.length := by simp
          rw [h1, hEd]
        have hez : E.size ≤ 4 := by omega
        have HE := Lib.hid hE
        have HED := Lib.hid hEd
        have HES := Lib.hid hEs
        have u3 : decide (k < l.length) = true := decide_eq_true hk
        have u4 : decide ((k : Int) < (l.length : Int)) = true := decide_eq_true (by omega)
        have i1 : (k : Int) + 1 ≤ (cp : Int) := by omega
        have i2 : (0 : Int) ≤ (k : Int) := by omega
        have i3 : (k : Int) ≤ (k : Int) + 1 := by omega
        have i4 : k + 1 ≤ cp := by omega
        have i5 : ¬ cp = k := by omega
        have hwk : IntKind.i64.wrap ((k : Int) + 1) = (k : Int) + 1 := IntWalk.i64_in _ (by omega)
        have z1 : ¬ ((9223372036854775807 : Int) < (O.size : Int) + (E.size : Int)) := by omega
        have z2 : ¬ (9223372036854775807 < O.size + E.size) := by omega
        have z3 : O.size + E.size ≤ 9223372036854775807 := by omega
        have z4 : (O.size : Int) + (E.size : Int) ≤ (9223372036854775807 : Int) := by omega
        have y1 : ¬ ((9223372036854775807 : Int) < (O.size : Int) + 3) := by omega
        have y2 : ¬ (9223372036854775807 < O.size + 3) := by omega
        have y3 : O.size + 3 ≤ 9223372036854775807 := by omega
        have y4 : (O.size : Int) + 3 ≤ (9223372036854775807 : Int) := by omega
        clear hO hbel hOs hsucc hcP hx hRd hE hEd hEs
        by_cases hgt : m < O.size + E.size
        · have v1 : decide ((m : Int) < (O.size : Int) + (E.size : Int)) = true := decide_eq_true (by omega)
          have v2 : decide (m < O.size + E.size) = true := decide_eq_true hgt
          have HRes := Lib.hid (show O ++ ⟨#[46, 46, 46]⟩ = mkB (short L ((m : Int) + 3)) from mk_of (by
            rw [dl_app, HO.out, HF.out, HL.out, cut_of hk hom (by rw [HSucc.out, ← HOS.out, ← HES.out]; exact hgt), take_off]))
          clear hgt
          go_wp2_with fail
          refine (rtext_any [x] (some ⟨bP, oP + k, none⟩) _ _ (by simp) HRd.out (by intro y hy; rw [List.mem_singleton.1 hy]; exact hxp)).mono ?_
          rintro e w4 ⟨rfl, hb4⟩
          rw [HE.out]
          have H4 := Lib.hid (HW.out.trans (hb4.mono HW.out.size))
          clear hb4
          go_wp2_with fail
          go_ret
          exact ⟨congrArg (fun q => Ending.returned (.string q)) HRes.out, H4.out⟩
        · have v1 : decide ((m : Int) < (O.size : Int) + (E.size : Int)) = false := decide_eq_false (by omega)
          have v2 : decide (m < O.size + E.size) = false := decide_eq_false hgt
          have hle2 : off l (k + 1) ≤ m := by rw [HSucc.out, ← HOS.out, ← HES.out]; omega
          have hk1 : k + 1 < l.length := by
            rcases Nat.lt_or_ge (k + 1) l.length with h | h
            · exact h
            · have : k + 1 = l.length := by omega
              rw [this] at hle2; omega
          clear hgt
          go_wp2_with fail
          refine (rtext_any [x] (some ⟨bP, oP + k, none⟩) _ _ (by simp) HRd.out (by intro y hy; rw [List.mem_singleton.1 hy]; exact hxp)).mono ?_
          rintro e w4 ⟨rfl, hb4⟩
          rw [HE.out]
          have HB4 := Lib.hid (HBl.out.trans (hb4.mono HBl.out.size))
          clear hb4
          go_wp2_with fail
          go_roundw
          case rel => exact ⟨k + 1, O ++ E, hk1, by go_num, rfl, by rw [dl_app, HO.out, HED.out, HTK.out], hle2, HB4.out⟩
          case measure => simp [intOf]; omega
end Go.Proofs.YtgiapdmoiaiofaaDoor
