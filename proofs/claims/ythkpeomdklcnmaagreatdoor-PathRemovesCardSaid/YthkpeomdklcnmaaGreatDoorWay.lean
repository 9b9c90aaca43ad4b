/- As Nice, but of up to eighty parts: plain mathematics. index, place and the reference's Place: contracts. place and the reference's Place: contracts. The reference's Place; where a path leads. reach, as Get uses it; Get: contracts. path.Get: contract. -/
import Derived.Test.YthkpeomdklcnmaaGreatDoorNice
import Derived.Test.YthkpeomdklcnmaaGreatDoorShelfP
import Derived.Test.YthkpeomdklcnmaaGreatDoorW2
import Derived.Test.YthkpeomdklcnmaaGreatDoorCells
import Derived.Test.YthkpeomdklcnmaaGreatDoorItem
import Derived.Test.YthkpeomdklcnmaaGreatDoorInsert
import Derived.Lib.ParseIntBTie
import Derived.Outline
namespace Go.Proofs.YthkpeomdklcnmaaGreatDoor
structure T.Fine (t : T) : Prop where
  good : t.Good
  size : t.size ≤ 80
  fit : T.All Fit t
theorem T.Nice.fine {t : T} (h : t.Nice) : t.Fine := ⟨h.good, by have := h.size; omega, h.fit⟩
theorem T.Fine.small {t : T} (h : t.Fine) : t.Small := h.good.small (by have := h.size; omega)
theorem T.Fine.le {t : T} (h : t.Fine) : t.size ≤ 100000 := by have := h.size; omega
theorem T.Fine.mem {t x : T} (h : t.Fine) (hx : x ∈ t.items) : x.Fine :=
  ⟨h.good.mem hx, by have := T.mem_size hx; have := h.size; rw [T.size_eq] at this; omega, h.fit.mem hx⟩
theorem T.Fine.at_ {t x : T} (h : t.Fine) {k : Nat} (hx : t.items[k]? = some x) : x.Fine := h.mem (List.mem_of_getElem? hx)
theorem T.Fine.items80 {t : T} (h : t.Fine) : t.items.length ≤ 80 := by have h1 := T.len_size t; have := h.size; omega
theorem T.Fine.keys_le {t : T} (h : t.Fine) : t.keys.length ≤ 80 := by
  have h1 := h.items80
  by_cases h5 : t.kind = 5
  · rw [h.good.here.lens h5]; exact h1
  · rw [h.good.here.keys h5]; simp
end Go.Proofs.YthkpeomdklcnmaaGreatDoor
namespace Go.Proofs.YthkpeomdklcnmaaGreatDoor
open Go.RowKit
set_option linter.unusedVariables false

/-- the text of a number -/
def decB (k : Nat) : ByteArray := ⟨(Lib.decDigits k).toArray⟩
theorem itoa_nat (k : Nat) : Lib.itoa (k : Int) = Lib.decDigits k := by unfold Lib.itoa; rw [if_neg (by omega)]; simp
theorem decB_atoi {k : Nat} (h : k ≤ 1000) : Lib.atoiAll (decB k).data.toList = .ok k := by
  have hf := De.itoa_form (k : Int)
  have := De.parseI hf.1
  rw [hf.2, if_pos (by omega), Lib.parseIntB_64, itoa_nat] at this
  exact this
theorem decB_toList (k : Nat) : (decB k).toList = Lib.decDigits k := by rw [ByteArray.toList_eq]; rfl
theorem decB_inj {j k : Nat} (hj : j ≤ 1000) (hk : k ≤ 1000) (h : decB j = decB k) : j = k := by
  have h1 := decB_atoi hj
  rw [h, decB_atoi hk] at h1
  injection h1 with h1
  omega
theorem decB_size {k : Nat} (h : k ≤ 1000) : (decB k).size ≤ 4 := by
  have := De.dec_len (N := k) (k := 3) (by omega)
  exact this
/-- what is known of the errors of the library -/
def Errs (w : World) : Prop := (∃ te pe, w.cell? ⟨0, 0, none⟩ = some (.iface te pe)) ∧ (∃ te pe, w.cell? ⟨1, 0, none⟩ = some (.iface te pe))
theorem cell_lt {w : World} {b o : Nat} {v : Value} (h : w.cell? ⟨b, o, none⟩ = some v) : b < w.heap.size := by
  rcases Nat.lt_or_ge b w.heap.size with h1 | h1
  · exact h1
  · unfold World.cell? at h
    rw [Array.getElem?_eq_none h1] at h
    cases h
theorem Errs.on {w w' : World} (h : Errs w) (hb : Below w.heap.size w w') : Errs w' := by
  obtain ⟨⟨a, b, h1⟩, ⟨c, d, h2⟩⟩ := h
  exact ⟨⟨a, b, (hb.cell (p := ⟨0, 0, none⟩) (cell_lt h1)).trans h1⟩, ⟨c, d, (hb.cell (p := ⟨1, 0, none⟩) (cell_lt h2)).trans h2⟩⟩
theorem bl_eq {a b : ByteArray} (h : a = b) : (a.toList == b.toList) = true := by rw [h]; exact beq_self_eq_true _
theorem bl_ne {a b : ByteArray} (h : a ≠ b) : (a.toList == b.toList) = false := by
  rw [beq_eq_false_iff_ne]
  intro e
  rw [ByteArray.toList_eq, ByteArray.toList_eq] at e
  exact h (ba_ext e)
theorem below_bytes {w w' : World} {t5 : TypeId} (h : w' = w ∨ ∃ t, w' = Lib.bytesWorld w t5 t) : Below w.heap.size w w' := by
  rcases h with rfl | ⟨t, rfl⟩
  · exact Below.refl _ _
  · exact Lib.bytesWorld_below _ _ _
set_option maxRecDepth 100000 in
set_option maxHeartbeats 2000000 in
theorem index_yes (s : ByteArray) (k m : Nat) (w : World) (hs : s = decB k) (hk : k < m) (hm : m ≤ 99) :
    Calls Tryz.prog 50 #[.string s, .int .i64 m] w fun e w' => e = .returned (.tuple #[.int .i64 k, .bool true]) ∧ Below w.heap.size w w' := by
  have h4 : s.size ≤ 4 := by rw [hs]; exact decB_size (by omega)
  have ha : Lib.atoiAll s.data.toList = .ok (k : Int) := by rw [hs]; exact decB_atoi (by omega)
  have HA := Lib.hid ha
  have t1 : decide (k < m) = true := decide_eq_true hk
  have t2 : decide ((k : Int) < (m : Int)) = true := decide_eq_true (by omega)
  have t3 : decide ((0 : Int) ≤ (k : Int)) = true := decide_eq_true (by omega)
  have t4 : (Lib.decDigits k == s.toList) = true := by rw [← decB_toList]; exact bl_eq hs.symm
  clear ha hs
  go_enter Tryz.func50, Tryz.ntmps50
  go_wp2_with fail
  refine (Tryz.strconv_Atoi_ok s (by omega) k HA.out _).mono ?_
  rintro e w2 ⟨rfl, hw2⟩
  have H2 := Lib.hid (below_bytes hw2)
  clear hw2
  go_wp2_with fail
  refine (Tryz.strconv_Itoa_small k (by omega) _).mono ?_
  rintro e w3 ⟨rfl, rfl⟩
  go_wp2_with fail
  go_ret2
  exact ⟨rfl, H2.out⟩
def NoIndex (w : World) (e : Ending) (w' : World) : Prop := (∃ n : Int, e = .returned (.tuple #[.int .i64 n, .bool false])) ∧ Below w.heap.size w w'
set_option maxRecDepth 100000 in
set_option maxHeartbeats 4000000 in
theorem index_no (s : ByteArray) (m : Nat) (w : World) (hw : Errs w) (hs : ∀ k, k < m → s ≠ decB k) (hm : m ≤ 99) (hlen : s.size ≤ 1000) :
    Calls Tryz.prog 50 #[.string s, .int .i64 m] w (NoIndex w) := by
  have HS := Lib.hid hs
  obtain ⟨⟨te, pe, h1⟩, ⟨te2, pe2, h2⟩⟩ := hw
  have E1 := Lib.hid h1
  have E2 := Lib.hid h2
  clear hs h1 h2
  cases ha : Lib.atoiAll s.data.toList with
  | ok v =>
    have HA := Lib.hid ha
    clear ha
    by_cases h0 : 0 ≤ v
    · have t3 : decide ((0 : Int) ≤ v) = true := decide_eq_true h0
      by_cases hv : v < m
      · obtain ⟨k, rfl⟩ : ∃ k : Nat, v = k := ⟨v.toNat, by omega⟩
        have hk : k < m := by omega
        have t1 : decide (k < m) = true := decide_eq_true hk
        have t2 : decide ((k : Int) < (m : Int)) = true := decide_eq_true (by omega)
        have t4 : (Lib.decDigits k == s.toList) = false := by rw [← decB_toList]; exact bl_ne fun e => HS.out k hk e.symm
        go_enter Tryz.func50, Tryz.ntmps50
        go_wp2_with fail
        refine (Tryz.strconv_Atoi_ok s (by omega) k HA.out _).mono ?_
        rintro e w2 ⟨rfl, hw2⟩
        have H2 := Lib.hid (below_bytes hw2)
        clear hw2
        go_wp2_with fail
        refine (Tryz.strconv_Itoa_small k (by omega) _).mono ?_
        rintro e w3 ⟨rfl, rfl⟩
        go_wp2_with fail
        go_ret2
        exact ⟨⟨_, rfl⟩, H2.out⟩
      · have t2 : decide (v < (m : Int)) = false := decide_eq_false hv
        go_enter Tryz.func50, Tryz.ntmps50
        go_wp2_with fail
        refine (Tryz.strconv_Atoi_ok s (by omega) v HA.out _).mono ?_
        rintro e w2 ⟨rfl, hw2⟩
        have H2 := Lib.hid (below_bytes hw2)
        clear hw2
        go_wp2_with fail
        go_ret2
        exact ⟨⟨_, rfl⟩, H2.out⟩
    · have t3 : decide ((0 : Int) ≤ v) = false := decide_eq_false h0
      go_enter Tryz.func50, Tryz.ntmps50
      go_wp2_with fail
      refine (Tryz.strconv_Atoi_ok s (by omega) v HA.out _).mono ?_
      rintro e w2 ⟨rfl, hw2⟩
      have H2 := Lib.hid (below_bytes hw2)
      clear hw2
      go_wp2_with fail
      go_ret2
      exact ⟨⟨_, rfl⟩, H2.out⟩
  | range =>
    have HA := Lib.hid ha
    clear ha
    go_enter Tryz.func50, Tryz.ntmps50
    go_wp2_with fail
    refine (Tryz.strconv_Atoi_range s (by omega) HA.out _ _ E2.out (.inr ⟨_, _, rfl⟩)).mono ?_
    rintro e w2 ⟨N, rfl, hN, hc, hb2⟩
    have H2 := Lib.hid hb2
    clear hb2 hc hN
    go_wp2_with fail
    go_ret2
    exact ⟨⟨_, rfl⟩, H2.out⟩
  | _ =>
    have HA := Lib.hid ha
    clear ha
    go_enter Tryz.func50, Tryz.ntmps50
    go_wp2_with fail
    refine (Tryz.strconv_Atoi_syn s (by omega) (fun v e => by rw [HA.out] at e; cases e) (fun e => by rw [HA.out] at e; cases e) _ _ E1.out (.inr ⟨_, _, rfl⟩)).mono ?_
    rintro e w2 ⟨N, rfl, hN, hc, hb2⟩
    have H2 := Lib.hid hb2
    clear hb2 hc hN
    go_wp2_with fail
    go_ret2
    exact ⟨⟨_, rfl⟩, H2.out⟩
/-- step q leads from t to its item k -/
def IsAt (t : T) (q : ByteArray) (k : Nat) : Prop := k < t.items.length ∧ ((t.kind = 4 ∧ q = decB k) ∨ (t.kind = 5 ∧ t.keys[k]? = some q))
end Go.Proofs.YthkpeomdklcnmaaGreatDoor
namespace Go.Proofs.YthkpeomdklcnmaaGreatDoor
open Go.RowKit
set_option linter.unusedVariables false

set_option maxRecDepth 100000 in
set_option maxHeartbeats 4000000 in
theorem place_yes (t : T) (q : ByteArray) (k : Nat) (A : Option Addr) (c : Nat) (A' : Option Addr) (c' : Nat) (w : World) (hn : t.Fine) (hk : IsAt t q k) (hv : TV w (· < w.heap.size) t A c A' c') :
    Calls Tryz.prog 40 #[.agg #[.int .i64 t.kind, .bool t.tr, .int .i64 t.num, .string t.str, .slice A t.items.length c, .slice A' t.keys.length c'], .string q] w fun e w' => e = .returned (.tuple #[.int .i64 k, .bool true]) ∧ Below w.heap.size w w' := by
  have hi := hn.items80
  obtain ⟨hlt, hk⟩ := hk
  have hB : Blk (w.alloc (.cells #[.int .i64 t.kind, .bool t.tr, .int .i64 t.num, .string t.str, .slice A t.items.length c, .slice A' t.keys.length c'] 34)) w.heap.size 34 #[.int .i64 t.kind, .bool t.tr, .int .i64 t.num, .string t.str, .slice A t.items.length c, .slice A' t.keys.length c'] := Blk.new w _ _
  have hW : Below w.heap.size w (w.alloc (.cells #[.int .i64 t.kind, .bool t.tr, .int .i64 t.num, .string t.str, .slice A t.items.length c, .slice A' t.keys.length c'] 34)) := (Below.refl _ _).alloc (Nat.le_refl _) _
  have HN := Lib.hid hn
  have HV := Lib.hid hv
  have hkl := hn.keys_le
  clear hn hv
  rcases hk with ⟨h4, hq⟩ | ⟨h5, hq⟩
  · have g4 : (t.kind == 4) = true := by rw [beq_iff_eq]; exact h4
    have HQ := Lib.hid hq
    clear h4 hq
    go_enter Tryz.func40, Tryz.ntmps40
    go_wp2_with fail
    refine (index_yes q k t.items.length _ HQ.out hlt (by omega)).mono ?_
    rintro e w2 ⟨rfl, hb2⟩
    have H2 := Lib.hid (hW.trans (hb2.mono hW.size))
    clear hb2
    go_wp2_with fail
    go_ret2
    exact ⟨rfl, H2.out⟩
  · have g4 : (t.kind == 4) = false := by rw [beq_eq_false_iff_ne]; omega
    have g5 : (t.kind == 5) = true := by rw [beq_iff_eq]; exact h5
    have HQ := Lib.hid hq
    have HR := Lib.hid HN.out.good.here.kris
    have hll := HN.out.good.here.lens h5
    have t1 : decide (k < t.items.length) = true := decide_eq_true hlt
    have t2 : decide ((k : Int) < (t.items.length : Int)) = true := decide_eq_true (by omega)
    obtain ⟨b, o, rfl, hb2, hc⟩ := HV.out.keys (by intro hz; rw [hz] at hq; simp at hq)
    have HC := Lib.hid (show ∀ W2, Below w.heap.size w W2 → ∀ (i : Nat) (x : ByteArray), t.keys[i]? = some x → W2.cell? ⟨b, o + i, none⟩ = some (.string x) from fun W2 h i x hx => (h.cell (p := ⟨b, o + i, none⟩) hb2).trans (hc i x hx))
    have HB := Lib.hid hB
    have HW := Lib.hid hW
    clear h5 hq hc hll
    change Calls _ _ _ _ _
    go_enter Tryz.func40, Tryz.ntmps40
    go_wp2_with fail
    change Calls _ _ _ (w.alloc (.cells #[.int .i64 t.kind, .bool t.tr, .int .i64 t.num, .string t.str, .slice A t.items.length c, .slice (some ⟨b, o, none⟩) t.keys.length c'] 34)) _
    clear hB hW
    generalize (w.alloc (.cells #[.int .i64 t.kind, .bool t.tr, .int .i64 t.num, .string t.str, .slice A t.items.length c, .slice (some ⟨b, o, none⟩) t.keys.length c'] 34)) = W at *
    refine (search_any t.keys b o c' k q W (by omega) HR.out HQ.out (HC.out W HW.out)).mono ?_
    rintro e w2 ⟨rfl, n, rfl⟩
    have a4 : W.cell? ⟨w.heap.size, 4, none⟩ = some (.slice A t.items.length c) := HB.out.cell 4
    go_wp2_with fail
    go_quiet (fail)
    go_wp2_with fail
    go_ret2
    exact ⟨rfl, below_drewN (below_drewN HW.out n) _⟩
set_option maxRecDepth 100000 in
set_option maxHeartbeats 4000000 in
theorem place_no (t : T) (q : ByteArray) (A : Option Addr) (c : Nat) (A' : Option Addr) (c' : Nat) (w : World) (hn : t.Fine) (he : Errs w) (hq60 : q.size ≤ 1000) (hk : ∀ k, ¬ IsAt t q k) (hv : TV w (· < w.heap.size) t A c A' c') :
    Calls Tryz.prog 40 #[.agg #[.int .i64 t.kind, .bool t.tr, .int .i64 t.num, .string t.str, .slice A t.items.length c, .slice A' t.keys.length c'], .string q] w (NoIndex w) := by
  have hi := hn.items80
  have hB : Blk (w.alloc (.cells #[.int .i64 t.kind, .bool t.tr, .int .i64 t.num, .string t.str, .slice A t.items.length c, .slice A' t.keys.length c'] 34)) w.heap.size 34 #[.int .i64 t.kind, .bool t.tr, .int .i64 t.num, .string t.str, .slice A t.items.length c, .slice A' t.keys.length c'] := Blk.new w _ _
  have hW : Below w.heap.size w (w.alloc (.cells #[.int .i64 t.kind, .bool t.tr, .int .i64 t.num, .string t.str, .slice A t.items.length c, .slice A' t.keys.length c'] 34)) := (Below.refl _ _).alloc (Nat.le_refl _) _
  have HN := Lib.hid hn
  have HV := Lib.hid hv
  have HE := Lib.hid he
  have hkl := hn.keys_le
  clear hn hv he
  by_cases h4 : t.kind = 4
  · have g4 : (t.kind == 4) = true := by rw [beq_iff_eq]; exact h4
    have HQ := Lib.hid (show ∀ k, k < t.items.length → q ≠ decB k from fun k h e => hk k ⟨h, .inl ⟨h4, e⟩⟩)
    have HB := Lib.hid hB
    have HW := Lib.hid hW
    clear h4 hk hB hW
    go_enter Tryz.func40, Tryz.ntmps40
    go_wp2_with fail
    refine (index_no q t.items.length _ (HE.out.on HW.out) HQ.out (by omega) hq60).mono ?_
    rintro e w2 ⟨⟨n, rfl⟩, hb2⟩
    have H2 := Lib.hid (HW.out.trans (hb2.mono HW.out.size))
    clear hb2
    go_wp2_with fail
    go_ret2
    exact ⟨⟨_, rfl⟩, H2.out⟩
  · have g4 : (t.kind == 4) = false := by rw [beq_eq_false_iff_ne]; exact h4
    by_cases h5 : t.kind = 5
    · have g5 : (t.kind == 5) = true := by rw [beq_iff_eq]; exact h5
      have hll := HN.out.good.here.lens h5
      have hne : ∀ (i : Nat) (x : ByteArray), t.keys[i]? = some x → x ≠ q := fun i x hx e => hk i ⟨by have := lt_of_get hx; omega, .inr ⟨h5, by rw [hx, e]⟩⟩
      have hs : ∀ W2, Below w.heap.size w W2 → Calls Tryz.prog 34 #[.slice A' t.keys.length c', .string q] W2 fun e w'' => (∃ p : Nat, e = .returned (.tuple #[.int .i64 p, .bool false])) ∧ ∃ n, w'' = W2.drewN n := by
        intro W2 h
        by_cases hz : t.keys = []
        · rw [hz]; exact search_nil A' c' q W2
        · obtain ⟨b, o, rfl, hb2, hc⟩ := HV.out.keys hz
          exact search_no t.keys b o c' q W2 (by omega) hne fun i x hx => (h.cell (p := ⟨b, o + i, none⟩) hb2).trans (hc i x hx)
      have HS := Lib.hid hs
      have HB := Lib.hid hB
      have HW := Lib.hid hW
      clear h5 h4 hk hne hs hll hB hW
      go_enter Tryz.func40, Tryz.ntmps40
      go_wp2_with fail
      change Calls _ _ _ (w.alloc (.cells #[.int .i64 t.kind, .bool t.tr, .int .i64 t.num, .string t.str, .slice A t.items.length c, .slice A' t.keys.length c'] 34)) _
      generalize (w.alloc (.cells #[.int .i64 t.kind, .bool t.tr, .int .i64 t.num, .string t.str, .slice A t.items.length c, .slice A' t.keys.length c'] 34)) = W at *
      refine (HS.out W HW.out).mono ?_
      rintro e w2 ⟨⟨p, rfl⟩, n, rfl⟩
      have a4 : W.cell? ⟨w.heap.size, 4, none⟩ = some (.slice A t.items.length c) := HB.out.cell 4
      go_wp2_with fail
      go_quiet (fail)
      go_wp2_with fail
      go_ret2
      exact ⟨⟨_, rfl⟩, below_drewN (below_drewN HW.out n) _⟩
    · have g5 : (t.kind == 5) = false := by rw [beq_eq_false_iff_ne]; exact h5
      clear h5 h4 hk
      go_enter Tryz.func40, Tryz.ntmps40
      go_wp2_with fail
      go_ret2
      exact ⟨⟨_, rfl⟩, hW⟩
theorem rtext_nat (k : Nat) (w : World) (hk : k ≤ 1000) : Calls Tryz.prog 39 #[.int .i64 k] w (W2.GivesN k w) := W2.of_any k w ⟨by omega, by omega⟩
set_option maxRecDepth 100000 in
set_option maxHeartbeats 4000000 in
theorem rplace4 (t : T) (q : ByteArray) (A : Option Addr) (c : Nat) (A' : Option Addr) (c' : Nat) (w : World) (hn : t.Fine) (h4 : t.kind = 4) (k : Nat) (hkl : k ≤ t.items.length) (hb : ∀ i, i < k → q ≠ decB i) (he : k < t.items.length → q = decB k) (r : Int) (hr1 : k < t.items.length → r = k) (hr2 : k = t.items.length → r = -1) :
    Calls Tryz.prog 28 #[.agg #[.int .i64 t.kind, .bool t.tr, .int .i64 t.num, .string t.str, .slice A t.items.length c, .slice A' t.keys.length c'], .string q] w fun e w' => e = .returned (.int .i64 r) ∧ Below w.heap.size w w' := by
  have hi := hn.items80
  have g4 : (t.kind == 5) = false := by rw [beq_eq_false_iff_ne]; omega
  have g5 : (t.kind != 4) = false := by simp; exact h4
  have HB := Lib.hid hb
  have HE := Lib.hid he
  have HR1 := Lib.hid hr1
  have HR2 := Lib.hid hr2
  have HI : ∀ i : Nat, Lib.itoa (i : Int) = (decB i).toList := fun i => by rw [decB_toList, itoa_nat]
  have HIT := Lib.hid HI
  clear hb he hr1 hr2 h4 hn HI
  go_enter Tryz.func28, Tryz.ntmps28
  go_wp2_with fail
  go_loopw [18] (fun s wr => ∃ j : Nat, j ≤ k ∧ s = .int .i64 j ∧ Below w.heap.size w wr) (fun s _ => t.items.length - (intOf s).toNat)
  case atStart => exact ⟨0, Nat.zero_le _, rfl, (Below.refl _ _).alloc (Nat.le_refl _) _⟩
  case round =>
    obtain ⟨j, hj, rfl, hbel⟩ := hrel
    have HBl := Lib.hid hbel
    clear hbel
    by_cases hlt : j < t.items.length
    · have u1 : decide (j < t.items.length) = true := decide_eq_true hlt
      have u2 : decide ((j : Int) < (t.items.length : Int)) = true := decide_eq_true (by omega)
      by_cases hjk : j < k
      · have t4 : (Lib.itoa (j : Int) == q.toList) = false := by rw [HIT.out]; exact bl_ne fun e => HB.out j hjk e.symm
        go_wp2_with fail
        refine (rtext_nat j _ (by omega)).mono ?_
        rintro e w2 ⟨v, rfl, hnz, hb2⟩
        have H2 := Lib.hid (HBl.out.trans (hb2.mono HBl.out.size))
        have HNZ := Lib.hid hnz
        clear hb2 hnz
        go_wp2_with fail
        refine (W2.rtext_any v j _ HNZ.out (by unfold W2.Sm; have : (10000 : Nat) ^ 1 ≤ 10000 ^ 100 := Nat.pow_le_pow_right (by decide) (by decide); simp at *; omega)).mono ?_
        rintro e w3 ⟨rfl, hb3⟩
        have H3 := Lib.hid (H2.out.trans (hb3.mono H2.out.size))
        clear hb3
        go_wp2_with fail
        go_roundw
        case rel => exact ⟨j + 1, hjk, by go_num, H3.out⟩
        case measure => simp [intOf]; omega
      · obtain rfl : j = k := by omega
        have t4 : (Lib.itoa (j : Int) == q.toList) = true := by rw [HIT.out]; exact bl_eq (HE.out hlt).symm
        go_wp2_with fail
        refine (rtext_nat j _ (by omega)).mono ?_
        rintro e w2 ⟨v, rfl, hnz, hb2⟩
        have H2 := Lib.hid (HBl.out.trans (hb2.mono HBl.out.size))
        have HNZ := Lib.hid hnz
        clear hb2 hnz
        go_wp2_with fail
        refine (W2.rtext_any v j _ HNZ.out (by unfold W2.Sm; have : (10000 : Nat) ^ 1 ≤ 10000 ^ 100 := Nat.pow_le_pow_right (by decide) (by decide); simp at *; omega)).mono ?_
        rintro e w3 ⟨rfl, hb3⟩
        have H3 := Lib.hid (H2.out.trans (hb3.mono H2.out.size))
        clear hb3
        go_wp2_with fail
        go_ret
        exact ⟨ret_int (HR1.out hlt).symm, H3.out⟩
    · have u1 : decide (j < t.items.length) = false := decide_eq_false hlt
      have u2 : decide ((j : Int) < (t.items.length : Int)) = false := decide_eq_false (by omega)
      go_wp2_with fail
      go_ret
      exact ⟨ret_int (HR2.out (by omega)).symm, HBl.out⟩
end Go.Proofs.YthkpeomdklcnmaaGreatDoor
namespace Go.Proofs.YthkpeomdklcnmaaGreatDoor
open Go.RowKit
set_option linter.unusedVariables false

theorem IsAt.unique {t : T} (hn : t.Fine) {q : ByteArray} {j k : Nat} (hj : IsAt t q j) (hk : IsAt t q k) : j = k := by
  have hi := hn.items80
  rcases hj with ⟨j1, ⟨j2, j3⟩ | ⟨j2, j3⟩⟩ <;> rcases hk with ⟨k1, ⟨k2, k3⟩ | ⟨k2, k3⟩⟩
  · exact decB_inj (by omega) (by omega) (j3.symm.trans k3)
  · omega
  · omega
  · have hr := hn.good.here.kris
    rcases Nat.lt_trichotomy j k with h | h | h
    · have := get_pair hr.pair j3 k3 h
      rw [sl_irrefl] at this; cases this
    · exact h
    · have := get_pair hr.pair k3 j3 h
      rw [sl_irrefl] at this; cases this
theorem rplace_yes (t : T) (q : ByteArray) (k : Nat) (A : Option Addr) (c : Nat) (A' : Option Addr) (c' : Nat) (w : World) (hn : t.Fine) (hk : IsAt t q k) (hv : TV w (· < w.heap.size) t A c A' c') :
    Calls Tryz.prog 28 #[.agg #[.int .i64 t.kind, .bool t.tr, .int .i64 t.num, .string t.str, .slice A t.items.length c, .slice A' t.keys.length c'], .string q] w fun e w' => e = .returned (.int .i64 k) ∧ Below w.heap.size w w' := by
  have hk0 := hk
  have hi := hn.items80
  obtain ⟨hlt, ⟨h4, hq⟩ | ⟨h5, hq⟩⟩ := hk
  · exact rplace4 t q A c A' c' w hn h4 k (Nat.le_of_lt hlt) (fun i hi2 e => by have := decB_inj (j := i) (k := k) (by omega) (by omega) (e.symm.trans hq); omega) (fun _ => hq) k (fun _ => rfl) (fun h => by omega)
  · have hkl := hn.keys_le
    have g4 : (t.kind == 5) = true := by rw [beq_iff_eq]; exact h5
    have hkk := lt_of_get hq
    have HF := Lib.hid (fun W2 (hb : Below w.heap.size w W2) => rfind_cells t A c A' c' q k W2 (by omega) ((hv.keys.on hb)) (Nat.le_of_lt hkk) (fun i x h1 h2 e => by have := get_pair hn.good.here.kris.pair h2 hq h1; rw [e, sl_irrefl] at this; cases this) (fun _ => hq) k (fun _ => rfl) (fun h => by omega))
    have HW := Lib.hid (show Below w.heap.size w (w.alloc (.cells #[.int .i64 t.kind, .bool t.tr, .int .i64 t.num, .string t.str, .slice A t.items.length c, .slice A' t.keys.length c'] 29)) from (Below.refl _ _).alloc (Nat.le_refl _) _)
    clear hv hq h5 hk0
    go_enter Tryz.func28, Tryz.ntmps28
    go_wp2_with fail
    refine (HF.out _ HW.out).mono ?_
    rintro e w2 ⟨rfl, hb2⟩
    have H2 := Lib.hid (HW.out.trans (hb2.mono HW.out.size))
    clear hb2
    go_wp2_with fail
    go_ret
    exact ⟨rfl, H2.out⟩
theorem rplace_no (t : T) (q : ByteArray) (A : Option Addr) (c : Nat) (A' : Option Addr) (c' : Nat) (w : World) (hn : t.Fine) (hk : ∀ k, ¬ IsAt t q k) (hv : TV w (· < w.heap.size) t A c A' c') :
    Calls Tryz.prog 28 #[.agg #[.int .i64 t.kind, .bool t.tr, .int .i64 t.num, .string t.str, .slice A t.items.length c, .slice A' t.keys.length c'], .string q] w fun e w' => e = .returned (.int .i64 (-1)) ∧ Below w.heap.size w w' := by
  by_cases h4 : t.kind = 4
  · exact rplace4 t q A c A' c' w hn h4 t.items.length (Nat.le_refl _) (fun i hi2 e => hk i ⟨hi2, .inl ⟨h4, e⟩⟩) (fun h => by omega) (-1) (fun h => by omega) (fun _ => rfl)
  · have HW := Lib.hid (show Below w.heap.size w (w.alloc (.cells #[.int .i64 t.kind, .bool t.tr, .int .i64 t.num, .string t.str, .slice A t.items.length c, .slice A' t.keys.length c'] 29)) from (Below.refl _ _).alloc (Nat.le_refl _) _)
    have hkl := hn.keys_le
    by_cases h5 : t.kind = 5
    · have g4 : (t.kind == 5) = true := by rw [beq_iff_eq]; exact h5
      have hll := hn.good.here.lens h5
      have HF := Lib.hid (fun W2 (hb : Below w.heap.size w W2) => rfind_cells t A c A' c' q t.keys.length W2 (by omega) ((hv.keys.on hb)) (Nat.le_refl _) (fun i x h1 h2 e => hk i ⟨by omega, .inr ⟨h5, by rw [h2, e]⟩⟩) (fun h => by omega) (-1) (fun h => by omega) (fun _ => rfl))
      clear hv h5 hk h4 hll
      go_enter Tryz.func28, Tryz.ntmps28
      go_wp2_with fail
      refine (HF.out _ HW.out).mono ?_
      rintro e w2 ⟨rfl, hb2⟩
      have H2 := Lib.hid (HW.out.trans (hb2.mono HW.out.size))
      clear hb2
      go_wp2_with fail
      go_ret
      exact ⟨rfl, H2.out⟩
    · have g4 : (t.kind == 5) = false := by rw [beq_eq_false_iff_ne]; exact h5
      have g5 : (t.kind != 4) = true := by simp; exact h4
      clear hv h5 hk h4
      go_enter Tryz.func28, Tryz.ntmps28
      go_wp2_with fail
      go_ret
      exact ⟨rfl, HW.out⟩
/-- a path leads from a value to another one -/
def Leads : T → List ByteArray → T → Prop
  | t, [], x => t = x
  | t, q :: p, x => ∃ k y, IsAt t q k ∧ t.items[k]? = some y ∧ Leads y p x
theorem leads_cons {t : T} (hn : t.Fine) {q : ByteArray} {p : List ByteArray} {x : T} {k : Nat} {y : T} (hk : IsAt t q k) (hy : t.items[k]? = some y) : Leads t (q :: p) x ↔ Leads y p x := by
  constructor
  · rintro ⟨k', y', h1, h2, h3⟩
    obtain rfl := IsAt.unique hn h1 hk
    rw [hy] at h2
    injection h2 with h2
    subst h2
    exact h3
  · exact fun h => ⟨k, y, hk, hy, h⟩
theorem leads_fine : ∀ {p : List ByteArray} {t x : T}, t.Fine → Leads t p x → x.Fine
  | [], t, x, hn, h => by cases h; exact hn
  | q :: p, t, x, hn, ⟨k, y, h1, h2, h3⟩ => leads_fine (hn.at_ h2) h3
theorem leads_nice : ∀ {p : List ByteArray} {t x : T}, t.Nice → Leads t p x → x.Nice
  | [], t, x, hn, h => by cases h; exact hn
  | q :: p, t, x, hn, ⟨k, y, h1, h2, h3⟩ => leads_nice (hn.at_ h2) h3
theorem leads_unique : ∀ {p : List ByteArray} {t x y : T}, t.Fine → Leads t p x → Leads t p y → x = y
  | [], t, x, y, hn, h, k => h.symm.trans k
  | q :: p, t, x, y, hn, ⟨k, z, h1, h2, h3⟩, h => leads_unique (hn.at_ h2) h3 ((leads_cons hn h1 h2).1 h)
end Go.Proofs.YthkpeomdklcnmaaGreatDoor
namespace Go.Proofs.YthkpeomdklcnmaaGreatDoor
open Go.RowKit
set_option linter.unusedVariables false

/-- the item, copied into box g -/
def GotAt (g : Nat) (x : T) (w : World) (e : Ending) (w' : World) : Prop := ∃ C f C' f', e = .returned (.bool true) ∧ Blk w' g 34 #[.int .i64 x.kind, .bool x.tr, .int .i64 x.num, .string x.str, .slice C x.items.length f, .slice C' x.keys.length f'] ∧ TV w' (fun b => w.heap.size ≤ b ∧ b < w'.heap.size) x C f C' f' ∧ Below g w w'
set_option maxRecDepth 100000 in
set_option maxHeartbeats 4000000 in
theorem get1_any (x : T) (A : Option Addr) (c : Nat) (A' : Option Addr) (c' : Nat) (b o g : Nat) (w : World) (hn : x.Fine) (h6 : Six w b o x A c A' c') (hv : TV w (· < g) x A c A' c') (hg : Blk w g 34 #[.int .i64 0, .bool false, .int .i64 0, .string ⟨#[]⟩, .slice none 0 0, .slice none 0 0]) :
    Calls Tryz.prog 36 #[.pointer (some ⟨b, o, none⟩), .pointer (some ⟨g, 0, none⟩)] w (GotAt g x w) := by
  obtain ⟨e0, e1, e2, e3, e4, e5⟩ := h6
  have hgl := hg.lt
  have HN := Lib.hid hn
  have HV := Lib.hid (hv.wide fun b hb => Nat.lt_trans hb hgl)
  have HG := Lib.hid hg
  clear hn hv hg
  go_enter Tryz.func36, Tryz.ntmps36
  go_wp2_with fail
  refine (copy_cells x A c A' c' _ HN.out.le HN.out.small HV.out).mono ?_
  rintro e w2 ⟨C, f, C', f', rfl, hT, hb2⟩
  unfold T.agg
  have hgb := HG.out.onto hb2
  have q0 : w2.cell? ⟨g, 0, none⟩ = some (.int .i64 0) := hgb.cell 0
  have q1 : w2.cell? ⟨g, 1, none⟩ = some (.bool false) := hgb.cell 1
  have q2 : w2.cell? ⟨g, 2, none⟩ = some (.int .i64 0) := hgb.cell 2
  have q3 : w2.cell? ⟨g, 3, none⟩ = some (.string ⟨#[]⟩) := hgb.cell 3
  have q4 : w2.cell? ⟨g, 4, none⟩ = some (.slice none 0 0) := hgb.cell 4
  have q5 : w2.cell? ⟨g, 5, none⟩ = some (.slice none 0 0) := hgb.cell 5
  have f0 := hgb.free 0
  have f1 := hgb.free 1
  have f2 := hgb.free 2
  have f3 := hgb.free 3
  have f4 := hgb.free 4
  have f5 := hgb.free 5
  have HB := Lib.hid (res_put hgb rfl x C f C' f')
  have HT := Lib.hid hT
  have H2 := Lib.hid hb2
  clear hgb hT hb2
  go_wp2_with fail
  go_ret
  have hz : (((((((w2.setCell ⟨g, 0, none⟩ (.int .i64 x.kind)).setCell ⟨g, 1, none⟩ (.bool x.tr)).setCell ⟨g, 2, none⟩ (.int .i64 x.num)).setCell ⟨g, 3, none⟩ (.string x.str)).setCell ⟨g, 4, none⟩ (.slice C x.items.length f)).setCell ⟨g, 5, none⟩ (.slice C' x.keys.length f'))).heap.size = w2.heap.size := by simp [World.setCell]
  refine ⟨C, f, C', f', rfl, HB.out, ?_, ?_⟩
  · refine (HT.out.tv.keep fun b hb => ?_).wide fun b hb => by rw [hz]; exact hb
    have hne : b ≠ g := by have := hb.1; omega
    rw [Below.heap_setCell _ _ _ _ hne, Below.heap_setCell _ _ _ _ hne, Below.heap_setCell _ _ _ _ hne, Below.heap_setCell _ _ _ _ hne, Below.heap_setCell _ _ _ _ hne, Below.heap_setCell _ _ _ _ hne]
  · have h0 := H2.out.mono (Nat.le_of_lt hgl)
    exact (((((h0.setCell (Nat.le_refl _) _).setCell (Nat.le_refl _) _).setCell (Nat.le_refl _) _).setCell (Nat.le_refl _) _).setCell (Nat.le_refl _) _).setCell (Nat.le_refl _) _
/-- where reach stands: value y, of which what is left of the path asks the same -/
def Stands (w : World) (g : Nat) (t : T) (p : List ByteArray) (j : Nat) (s : Value) (wr : World) : Prop :=
  ∃ y b o A c A' c', s = .pointer (some ⟨b, o, none⟩) ∧ b < g ∧ Six wr b o y A c A' c' ∧ TV wr (· < g) y A c A' c' ∧ y.Fine ∧ (∀ x, Leads t p x ↔ Leads y (p.drop j) x) ∧ Below w.heap.size w wr
theorem drop_at {p : List ByteArray} {j : Nat} {q : ByteArray} (h : p[j]? = some q) : p.drop j = q :: p.drop (j + 1) := by
  have hl := lt_of_get h
  rw [List.drop_eq_getElem_cons hl]
  rw [List.getElem?_eq_getElem hl] at h
  injection h with h
  rw [h]
def ReachPost (g : Nat) (t : T) (p : List ByteArray) (w : World) (e : Ending) (w' : World) : Prop :=
  (∃ x, Leads t p x ∧ ∃ w1, Below w.heap.size w w1 ∧ GotAt g x w1 e w') ∨ ((∀ x, ¬ Leads t p x) ∧ e = .returned (.bool false) ∧ Below w.heap.size w w')
set_option maxRecDepth 100000 in
set_option maxHeartbeats 8000000 in
theorem reach_any (t : T) (p : List ByteArray) (P : Option Addr) (cp : Nat) (A : Option Addr) (c : Nat) (A' : Option Addr) (c' : Nat) (b o g : Nat) (w : World) (hn : t.Fine) (he : Errs w) (hp60 : ∀ q ∈ p, q.size ≤ 1000) (hpl : p.length ≤ 1000) (hp : SReads w (· < g) P p) (hb : b < g) (h6 : Six w b o t A c A' c') (hv : TV w (· < g) t A c A' c') (hg : Blk w g 34 #[.int .i64 0, .bool false, .int .i64 0, .string ⟨#[]⟩, .slice none 0 0, .slice none 0 0]) :
    Calls Tryz.prog 25 #[.pointer (some ⟨b, o, none⟩), .slice P p.length cp, .func (.func 36) #[] #[.pointer (some ⟨g, 0, none⟩)]] w (ReachPost g t p w) := by
  have hgl := hg.lt
  have HE := Lib.hid he
  have HP60 := Lib.hid hp60
  have HP := Lib.hid hp
  have HG := Lib.hid hg
  have HST := Lib.hid (show Stands w g t p 0 (.pointer (some ⟨b, o, none⟩)) w from ⟨t, b, o, A, c, A', c', rfl, hb, h6, hv, hn, fun x => by simp, Below.refl _ _⟩)
  clear hn he hp60 hp hb h6 hv hg
  go_enter Tryz.func25, Tryz.ntmps25
  go_wp2_with fail
  go_loopw [0, 13] (fun s0 s13 wr => ∃ j : Nat, j ≤ p.length ∧ s13 = .int .i64 j ∧ Stands w g t p j s0 wr) (fun _ s _ => p.length - (intOf s).toNat)
  case atStart => exact ⟨0, Nat.zero_le _, rfl, HST.out⟩
  case round =>
    obtain ⟨j, hj, rfl, y, b, o, A, c, A', c', rfl, hb, h6, hv, hn, hl, hbel⟩ := hrel
    obtain ⟨e0, e1, e2, e3, e4, e5⟩ := h6
    have HV := Lib.hid hv
    have HN := Lib.hid hn
    have HL := Lib.hid hl
    have HBl := Lib.hid hbel
    have hgr : g < wr.heap.size := Nat.lt_of_lt_of_le hgl hbel.size
    have hi40 := hn.items80
    clear hv hn hl hbel
    by_cases hlt : j < p.length
    · have u1 : decide (j < p.length) = true := decide_eq_true hlt
      have u2 : decide ((j : Int) < (p.length : Int)) = true := decide_eq_true (by omega)
      obtain ⟨bp, op, rfl, hbp, hcp⟩ := (HP.out) (by intro hz; rw [hz] at hlt; simp at hlt)
      obtain ⟨q, hq⟩ : ∃ q, p[j]? = some q := ⟨_, List.getElem?_eq_getElem hlt⟩
      have ep : wr.cell? ⟨bp, op + j, none⟩ = some (.string q) := (HBl.out.cell (p := ⟨bp, op + j, none⟩) (show bp < w.heap.size from Nat.lt_trans hbp hgl)).trans (hcp j q hq)
      have HQ := Lib.hid hq
      have hq60 := HP60.out q (List.mem_of_getElem? hq)
      clear hcp hq
      by_cases hk : ∃ k, IsAt y q k
      · obtain ⟨k, hk⟩ := hk
        have hkl := hk.1
        obtain ⟨z, hz⟩ : ∃ z, y.items[k]? = some z := ⟨_, List.getElem?_eq_getElem hkl⟩
        have HK := Lib.hid hk
        have HZ := Lib.hid hz
        obtain ⟨bA, oA, z', D, f, D', f', rfl, hbA, hx, h6z, hX⟩ := HV.out.at_ hkl
        obtain rfl : z = z' := by have := hz.symm.trans hx; injection this
        have H6 := Lib.hid h6z
        have HX := Lib.hid hX
        clear hk hz hx h6z hX
        go_wp2_with fail
        refine (place_yes y q k _ c A' c' _ HN.out HK.out (HV.out.wide fun b hb => Nat.lt_trans hb hgr)).mono ?_
        rintro e w2 ⟨rfl, hb2⟩
        have e4' : w2.cell? ⟨b, o + 4, none⟩ = some (.slice (some ⟨bA, oA, none⟩) y.items.length c) := (hb2.cell (p := ⟨b, o + 4, none⟩) (show b < wr.heap.size from Nat.lt_trans hb hgr)).trans e4
        have H2 := Lib.hid hb2
        have i1 : (k : Int) < (y.items.length : Int) := by omega
        have i2 : (0 : Int) ≤ (k : Int) := by omega
        clear hb2 e0 e1 e2 e3 e4 e5 ep
        go_wp2_with fail
        go_roundw
        case rel =>
          refine ⟨j + 1, hlt, by go_num, z, bA, oA + k * 6, D, f, D', f', rfl, hbA, ?_, ?_, HN.out.at_ HZ.out, fun x => ?_, HBl.out.trans (H2.out.mono HBl.out.size)⟩
          · exact H6.out.keep (S := (· < g)) hbA (fun b hb => H2.out.block b (Nat.lt_trans hb hgr))
          · exact HX.out.keep fun b hb => H2.out.block b (Nat.lt_trans hb hgr)
          · rw [HL.out x, drop_at HQ.out]
            exact leads_cons HN.out HK.out HZ.out
        case measure => simp [intOf]; omega
      · have HK := Lib.hid (show ∀ k, ¬ IsAt y q k from fun k h => hk ⟨k, h⟩)
        clear hk
        go_wp2_with fail
        refine (place_no y q A c A' c' _ HN.out (HE.out.on HBl.out) hq60 HK.out (HV.out.wide fun b hb => Nat.lt_trans hb hgr)).mono ?_
        rintro e w2 ⟨⟨n, rfl⟩, hb2⟩
        have H2 := Lib.hid (HBl.out.trans (hb2.mono HBl.out.size))
        clear hb2 e0 e1 e2 e3 e4 e5 ep
        go_wp2_with fail
        go_ret
        refine .inr ⟨fun x hx => ?_, rfl, H2.out⟩
        have h1 := (HL.out x).1 hx
        rw [drop_at HQ.out] at h1
        obtain ⟨k, _, h2, _⟩ := h1
        exact HK.out k h2
    · have u1 : decide (j < p.length) = false := decide_eq_false hlt
      have u2 : decide ((j : Int) < (p.length : Int)) = false := decide_eq_false (by omega)
      have hy : Leads t p y := (HL.out y).2 (by rw [List.drop_eq_nil_of_le (by omega)]; exact rfl)
      have HY := Lib.hid hy
      have HS6 := Lib.hid (show Six wr b o y A c A' c' from ⟨e0, e1, e2, e3, e4, e5⟩)
      clear hy e0 e1 e2 e3 e4 e5
      go_wp2_with fail
      refine (get1_any y A c A' c' b o g _ HN.out HS6.out HV.out (HG.out.on HBl.out hgl)).mono ?_
      rintro e w2 ⟨C, f, C', f', rfl, h1, h2, h3⟩
      have HH := Lib.hid (show GotAt g y wr (.returned (.bool true)) w2 from ⟨C, f, C', f', rfl, h1, h2, h3⟩)
      clear h1 h2 h3
      go_wp2_with fail
      go_ret
      exact .inl ⟨y, HY.out, _, HBl.out, HH.out⟩
end Go.Proofs.YthkpeomdklcnmaaGreatDoor
namespace Go.Proofs.YthkpeomdklcnmaaGreatDoor
open Go.RowKit
set_option linter.unusedVariables false

def GetPost (t : T) (p : List ByteArray) (w : World) (e : Ending) (w' : World) : Prop :=
  (∃ x, Leads t p x ∧ ∃ C f C' f', e = .returned (.tuple #[.agg #[.int .i64 x.kind, .bool x.tr, .int .i64 x.num, .string x.str, .slice C x.items.length f, .slice C' x.keys.length f'], .int .i64 0]) ∧ TV w' (· < w'.heap.size) x C f C' f' ∧ Below w.heap.size w w') ∨
  ((∀ x, ¬ Leads t p x) ∧ e = .returned (.tuple #[.agg #[.int .i64 0, .bool false, .int .i64 0, .string ⟨#[]⟩, .slice none 0 0, .slice none 0 0], .int .i64 12]) ∧ Below w.heap.size w w')
set_option maxRecDepth 100000 in
set_option maxHeartbeats 8000000 in
theorem get_any (t : T) (p : List ByteArray) (P : Option Addr) (cp : Nat) (A : Option Addr) (c : Nat) (A' : Option Addr) (c' : Nat) (w : World) (hn : t.Fine) (he : Errs w) (hp60 : ∀ q ∈ p, q.size ≤ 1000) (hpl : p.length ≤ 1000) (hp : SReads w (· < w.heap.size) P p) (hv : TV w (· < w.heap.size) t A c A' c') :
    Calls Tryz.prog 18 #[.agg #[.int .i64 t.kind, .bool t.tr, .int .i64 t.num, .string t.str, .slice A t.items.length c, .slice A' t.keys.length c'], .slice P p.length cp] w (GetPost t p w) := by
  have HN := Lib.hid hn
  have HE := Lib.hid he
  have HP60 := Lib.hid hp60
  have HP := Lib.hid hp
  have HV := Lib.hid hv
  clear hn he hp60 hp hv
  go_enter Tryz.func18, Tryz.ntmps18
  go_wp2_with fail
  have hW : Below w.heap.size w (((w.alloc (.cells #[.int .i64 t.kind, .bool t.tr, .int .i64 t.num, .string t.str, .slice A t.items.length c, .slice A' t.keys.length c'] 34)).alloc (.cells #[.int .i64 0, .bool false, .int .i64 0, .string ⟨#[]⟩, .slice none 0 0, .slice none 0 0] 34)).alloc (.cells #[.int .i64 0, .bool false, .int .i64 0, .string ⟨#[]⟩, .slice none 0 0, .slice none 0 0] 34)) := (((Below.refl _ _).alloc (Nat.le_refl _) _).alloc (by simp) _).alloc (by simp; omega) _
  have hB0 : Blk (((w.alloc (.cells #[.int .i64 t.kind, .bool t.tr, .int .i64 t.num, .string t.str, .slice A t.items.length c, .slice A' t.keys.length c'] 34)).alloc (.cells #[.int .i64 0, .bool false, .int .i64 0, .string ⟨#[]⟩, .slice none 0 0, .slice none 0 0] 34)).alloc (.cells #[.int .i64 0, .bool false, .int .i64 0, .string ⟨#[]⟩, .slice none 0 0, .slice none 0 0] 34)) w.heap.size 34 #[.int .i64 t.kind, .bool t.tr, .int .i64 t.num, .string t.str, .slice A t.items.length c, .slice A' t.keys.length c'] := ((Blk.new w _ _).alloc _).alloc _
  have hB1 : Blk (((w.alloc (.cells #[.int .i64 t.kind, .bool t.tr, .int .i64 t.num, .string t.str, .slice A t.items.length c, .slice A' t.keys.length c'] 34)).alloc (.cells #[.int .i64 0, .bool false, .int .i64 0, .string ⟨#[]⟩, .slice none 0 0, .slice none 0 0] 34)).alloc (.cells #[.int .i64 0, .bool false, .int .i64 0, .string ⟨#[]⟩, .slice none 0 0, .slice none 0 0] 34)) (w.heap.size + 1) 34 #[.int .i64 0, .bool false, .int .i64 0, .string ⟨#[]⟩, .slice none 0 0, .slice none 0 0] := by
    have := (Blk.new (w.alloc (.cells #[.int .i64 t.kind, .bool t.tr, .int .i64 t.num, .string t.str, .slice A t.items.length c, .slice A' t.keys.length c'] 34)) 34 #[.int .i64 0, .bool false, .int .i64 0, .string ⟨#[]⟩, .slice none 0 0, .slice none 0 0]).alloc (.cells #[.int .i64 0, .bool false, .int .i64 0, .string ⟨#[]⟩, .slice none 0 0, .slice none 0 0] 34)
    simpa using this
  have hB2 : Blk (((w.alloc (.cells #[.int .i64 t.kind, .bool t.tr, .int .i64 t.num, .string t.str, .slice A t.items.length c, .slice A' t.keys.length c'] 34)).alloc (.cells #[.int .i64 0, .bool false, .int .i64 0, .string ⟨#[]⟩, .slice none 0 0, .slice none 0 0] 34)).alloc (.cells #[.int .i64 0, .bool false, .int .i64 0, .string ⟨#[]⟩, .slice none 0 0, .slice none 0 0] 34)) (w.heap.size + 2) 34 #[.int .i64 0, .bool false, .int .i64 0, .string ⟨#[]⟩, .slice none 0 0, .slice none 0 0] := by
    have := Blk.new ((w.alloc (.cells #[.int .i64 t.kind, .bool t.tr, .int .i64 t.num, .string t.str, .slice A t.items.length c, .slice A' t.keys.length c'] 34)).alloc (.cells #[.int .i64 0, .bool false, .int .i64 0, .string ⟨#[]⟩, .slice none 0 0, .slice none 0 0] 34)) 34 #[.int .i64 0, .bool false, .int .i64 0, .string ⟨#[]⟩, .slice none 0 0, .slice none 0 0]
    simpa using this
  change Calls _ _ _ (((w.alloc (.cells #[.int .i64 t.kind, .bool t.tr, .int .i64 t.num, .string t.str, .slice A t.items.length c, .slice A' t.keys.length c'] 34)).alloc (.cells #[.int .i64 0, .bool false, .int .i64 0, .string ⟨#[]⟩, .slice none 0 0, .slice none 0 0] 34)).alloc (.cells #[.int .i64 0, .bool false, .int .i64 0, .string ⟨#[]⟩, .slice none 0 0, .slice none 0 0] 34)) _
  generalize (((w.alloc (.cells #[.int .i64 t.kind, .bool t.tr, .int .i64 t.num, .string t.str, .slice A t.items.length c, .slice A' t.keys.length c'] 34)).alloc (.cells #[.int .i64 0, .bool false, .int .i64 0, .string ⟨#[]⟩, .slice none 0 0, .slice none 0 0] 34)).alloc (.cells #[.int .i64 0, .bool false, .int .i64 0, .string ⟨#[]⟩, .slice none 0 0, .slice none 0 0] 34)) = W at *
  have hPW : SReads W (· < w.heap.size + 2) P p := (HP.out.below hW).wide fun b hb => by have : b < w.heap.size := hb; show b < w.heap.size + 2; omega
  have hTW : TV W (· < w.heap.size + 2) t A c A' c' := (HV.out.under hW).wide fun b hb => by have : b < w.heap.size := hb; show b < w.heap.size + 2; omega
  refine (reach_any t p P cp A c A' c' w.heap.size 0 (w.heap.size + 2) W HN.out (HE.out.on hW) HP60.out hpl hPW (by omega) ⟨hB0.cell 0, hB0.cell 1, hB0.cell 2, hB0.cell 3, hB0.cell 4, hB0.cell 5⟩ hTW hB2).mono ?_
  have HW := Lib.hid hW
  have HB1 := Lib.hid hB1
  have hl1 := hB1.lt
  clear hPW hTW hW hB0 hB1 hB2
  rintro e w2 (⟨x, hx, w1, hb1, C, f, C', f', rfl, hB, hT, hbel⟩ | ⟨hno, rfl, hb2⟩)
  · have HX := Lib.hid hx
    have h1 := (HB1.out.onto hb1).on hbel (by omega)
    have q0 : w2.cell? ⟨w.heap.size + 1, 0, none⟩ = some (.int .i64 0) := h1.cell 0
    have q1 : w2.cell? ⟨w.heap.size + 1, 1, none⟩ = some (.bool false) := h1.cell 1
    have q2 : w2.cell? ⟨w.heap.size + 1, 2, none⟩ = some (.int .i64 0) := h1.cell 2
    have q3 : w2.cell? ⟨w.heap.size + 1, 3, none⟩ = some (.string ⟨#[]⟩) := h1.cell 3
    have q4 : w2.cell? ⟨w.heap.size + 1, 4, none⟩ = some (.slice none 0 0) := h1.cell 4
    have q5 : w2.cell? ⟨w.heap.size + 1, 5, none⟩ = some (.slice none 0 0) := h1.cell 5
    have f0 := h1.free 0
    have f1 := h1.free 1
    have f2 := h1.free 2
    have f3 := h1.free 3
    have f4 := h1.free 4
    have f5 := h1.free 5
    have x0 : w2.cell? ⟨w.heap.size + 2, 0, none⟩ = some (.int .i64 x.kind) := hB.cell 0
    have x1 : w2.cell? ⟨w.heap.size + 2, 1, none⟩ = some (.bool x.tr) := hB.cell 1
    have x2 : w2.cell? ⟨w.heap.size + 2, 2, none⟩ = some (.int .i64 x.num) := hB.cell 2
    have x3 : w2.cell? ⟨w.heap.size + 2, 3, none⟩ = some (.string x.str) := hB.cell 3
    have x4 : w2.cell? ⟨w.heap.size + 2, 4, none⟩ = some (.slice C x.items.length f) := hB.cell 4
    have x5 : w2.cell? ⟨w.heap.size + 2, 5, none⟩ = some (.slice C' x.keys.length f') := hB.cell 5
    have hF := res_put h1 rfl x C f C' f'
    have hs1 := HW.out.size
    have hbw1 := HW.out.trans (hb1.mono HW.out.size)
    have hw2 : Below w.heap.size w w2 := hbw1.trans (hbel.mono (by omega))
    have hE : Below w.heap.size w ((((((w2.setCell ⟨w.heap.size + 1, 0, none⟩ (.int .i64 x.kind)).setCell ⟨w.heap.size + 1, 1, none⟩ (.bool x.tr)).setCell ⟨w.heap.size + 1, 2, none⟩ (.int .i64 x.num)).setCell ⟨w.heap.size + 1, 3, none⟩ (.string x.str)).setCell ⟨w.heap.size + 1, 4, none⟩ (.slice C x.items.length f)).setCell ⟨w.heap.size + 1, 5, none⟩ (.slice C' x.keys.length f')) := (((((hw2.setCell (by simp) _).setCell (by simp) _).setCell (by simp) _).setCell (by simp) _).setCell (by simp) _).setCell (by simp) _
    have hz : (((((((w2.setCell ⟨w.heap.size + 1, 0, none⟩ (.int .i64 x.kind)).setCell ⟨w.heap.size + 1, 1, none⟩ (.bool x.tr)).setCell ⟨w.heap.size + 1, 2, none⟩ (.int .i64 x.num)).setCell ⟨w.heap.size + 1, 3, none⟩ (.string x.str)).setCell ⟨w.heap.size + 1, 4, none⟩ (.slice C x.items.length f)).setCell ⟨w.heap.size + 1, 5, none⟩ (.slice C' x.keys.length f'))).heap.size = w2.heap.size := by simp [World.setCell]
    have hTT : TV ((((((w2.setCell ⟨w.heap.size + 1, 0, none⟩ (.int .i64 x.kind)).setCell ⟨w.heap.size + 1, 1, none⟩ (.bool x.tr)).setCell ⟨w.heap.size + 1, 2, none⟩ (.int .i64 x.num)).setCell ⟨w.heap.size + 1, 3, none⟩ (.string x.str)).setCell ⟨w.heap.size + 1, 4, none⟩ (.slice C x.items.length f)).setCell ⟨w.heap.size + 1, 5, none⟩ (.slice C' x.keys.length f')) (· < (((((((w2.setCell ⟨w.heap.size + 1, 0, none⟩ (.int .i64 x.kind)).setCell ⟨w.heap.size + 1, 1, none⟩ (.bool x.tr)).setCell ⟨w.heap.size + 1, 2, none⟩ (.int .i64 x.num)).setCell ⟨w.heap.size + 1, 3, none⟩ (.string x.str)).setCell ⟨w.heap.size + 1, 4, none⟩ (.slice C x.items.length f)).setCell ⟨w.heap.size + 1, 5, none⟩ (.slice C' x.keys.length f'))).heap.size) x C f C' f' := by
      have hs2 := hb1.size
      refine (hT.keep fun b hb => ?_).wide fun b hb => by show b < _; rw [hz]; exact hb.2
      have hne : b ≠ w.heap.size + 1 := by have := hb.1; omega
      rw [Below.heap_setCell _ _ _ _ hne, Below.heap_setCell _ _ _ _ hne, Below.heap_setCell _ _ _ _ hne, Below.heap_setCell _ _ _ _ hne, Below.heap_setCell _ _ _ _ hne, Below.heap_setCell _ _ _ _ hne]
    have HF := Lib.hid hF
    have HE2 := Lib.hid hE
    have HTT := Lib.hid hTT
    clear h1 hB hT hbel hb1 hx hF hE hz hTT hbw1 hw2
    go_wp2_with fail
    generalize ((((((w2.setCell ⟨w.heap.size + 1, 0, none⟩ (.int .i64 x.kind)).setCell ⟨w.heap.size + 1, 1, none⟩ (.bool x.tr)).setCell ⟨w.heap.size + 1, 2, none⟩ (.int .i64 x.num)).setCell ⟨w.heap.size + 1, 3, none⟩ (.string x.str)).setCell ⟨w.heap.size + 1, 4, none⟩ (.slice C x.items.length f)).setCell ⟨w.heap.size + 1, 5, none⟩ (.slice C' x.keys.length f')) = Wf at *
    have m0 : Wf.cell? ⟨w.heap.size + 1, 0, none⟩ = some (.int .i64 x.kind) := HF.out.cell 0
    have m1 : Wf.cell? ⟨w.heap.size + 1, 1, none⟩ = some (.bool x.tr) := HF.out.cell 1
    have m2 : Wf.cell? ⟨w.heap.size + 1, 2, none⟩ = some (.int .i64 x.num) := HF.out.cell 2
    have m3 : Wf.cell? ⟨w.heap.size + 1, 3, none⟩ = some (.string x.str) := HF.out.cell 3
    have m4 : Wf.cell? ⟨w.heap.size + 1, 4, none⟩ = some (.slice C x.items.length f) := HF.out.cell 4
    have m5 : Wf.cell? ⟨w.heap.size + 1, 5, none⟩ = some (.slice C' x.keys.length f') := HF.out.cell 5
    exact bodyPost_ret (v := .tuple #[.agg #[.int .i64 x.kind, .bool x.tr, .int .i64 x.num, .string x.str, .slice C x.items.length f, .slice C' x.keys.length f'], .int .i64 0]) (by simp [results, Tryz.results18, go_sem, m0, m1, m2, m3, m4, m5]) rfl (.inl ⟨x, HX.out, C, f, C', f', rfl, HTT.out, HE2.out⟩)
  · have HNO := Lib.hid hno
    have h1 := HB1.out.onto hb2
    have q0 : w2.cell? ⟨w.heap.size + 1, 0, none⟩ = some (.int .i64 0) := h1.cell 0
    have q1 : w2.cell? ⟨w.heap.size + 1, 1, none⟩ = some (.bool false) := h1.cell 1
    have q2 : w2.cell? ⟨w.heap.size + 1, 2, none⟩ = some (.int .i64 0) := h1.cell 2
    have q3 : w2.cell? ⟨w.heap.size + 1, 3, none⟩ = some (.string ⟨#[]⟩) := h1.cell 3
    have q4 : w2.cell? ⟨w.heap.size + 1, 4, none⟩ = some (.slice none 0 0) := h1.cell 4
    have q5 : w2.cell? ⟨w.heap.size + 1, 5, none⟩ = some (.slice none 0 0) := h1.cell 5
    have f0 := h1.free 0
    have f1 := h1.free 1
    have f2 := h1.free 2
    have f3 := h1.free 3
    have f4 := h1.free 4
    have f5 := h1.free 5
    have hF := res_put h1 rfl T.zero none 0 none 0
    have hw2 : Below w.heap.size w w2 := HW.out.trans (hb2.mono HW.out.size)
    have hE : Below w.heap.size w ((((((w2.setCell ⟨w.heap.size + 1, 0, none⟩ (.int .i64 T.zero.kind)).setCell ⟨w.heap.size + 1, 1, none⟩ (.bool T.zero.tr)).setCell ⟨w.heap.size + 1, 2, none⟩ (.int .i64 T.zero.num)).setCell ⟨w.heap.size + 1, 3, none⟩ (.string T.zero.str)).setCell ⟨w.heap.size + 1, 4, none⟩ (.slice none T.zero.items.length 0)).setCell ⟨w.heap.size + 1, 5, none⟩ (.slice none T.zero.keys.length 0)) := (((((hw2.setCell (by simp) _).setCell (by simp) _).setCell (by simp) _).setCell (by simp) _).setCell (by simp) _).setCell (by simp) _
    have HF := Lib.hid hF
    have HE2 := Lib.hid hE
    clear h1 hb2 hno hF hE hw2
    go_wp2_with fail
    change bodyPost _ _ _ _ _ ((((((w2.setCell ⟨w.heap.size + 1, 0, none⟩ (.int .i64 T.zero.kind)).setCell ⟨w.heap.size + 1, 1, none⟩ (.bool T.zero.tr)).setCell ⟨w.heap.size + 1, 2, none⟩ (.int .i64 T.zero.num)).setCell ⟨w.heap.size + 1, 3, none⟩ (.string T.zero.str)).setCell ⟨w.heap.size + 1, 4, none⟩ (.slice none T.zero.items.length 0)).setCell ⟨w.heap.size + 1, 5, none⟩ (.slice none T.zero.keys.length 0))
    generalize ((((((w2.setCell ⟨w.heap.size + 1, 0, none⟩ (.int .i64 T.zero.kind)).setCell ⟨w.heap.size + 1, 1, none⟩ (.bool T.zero.tr)).setCell ⟨w.heap.size + 1, 2, none⟩ (.int .i64 T.zero.num)).setCell ⟨w.heap.size + 1, 3, none⟩ (.string T.zero.str)).setCell ⟨w.heap.size + 1, 4, none⟩ (.slice none T.zero.items.length 0)).setCell ⟨w.heap.size + 1, 5, none⟩ (.slice none T.zero.keys.length 0)) = Wf at *
    have m0 : Wf.cell? ⟨w.heap.size + 1, 0, none⟩ = some (.int .i64 0) := HF.out.cell 0
    have m1 : Wf.cell? ⟨w.heap.size + 1, 1, none⟩ = some (.bool false) := HF.out.cell 1
    have m2 : Wf.cell? ⟨w.heap.size + 1, 2, none⟩ = some (.int .i64 0) := HF.out.cell 2
    have m3 : Wf.cell? ⟨w.heap.size + 1, 3, none⟩ = some (.string ⟨#[]⟩) := HF.out.cell 3
    have m4 : Wf.cell? ⟨w.heap.size + 1, 4, none⟩ = some (.slice none 0 0) := HF.out.cell 4
    have m5 : Wf.cell? ⟨w.heap.size + 1, 5, none⟩ = some (.slice none 0 0) := HF.out.cell 5
    exact bodyPost_ret (v := .tuple #[.agg #[.int .i64 0, .bool false, .int .i64 0, .string ⟨#[]⟩, .slice none 0 0, .slice none 0 0], .int .i64 12]) (by simp [results, Tryz.results18, go_sem, m0, m1, m2, m3, m4, m5]) rfl (.inr ⟨HNO.out, rfl, HE2.out⟩)
end Go.Proofs.YthkpeomdklcnmaaGreatDoor
