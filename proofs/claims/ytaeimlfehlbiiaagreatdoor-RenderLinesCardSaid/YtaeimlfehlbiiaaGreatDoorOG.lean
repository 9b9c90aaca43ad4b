/- A value's text in lines: plain mathematics. A new line and the spaces of how deep it is, in the program and in the reference: contracts. The writer in lines: arrays, objects and values: contracts. The writer in lines: any value: contract. -/
import Derived.Test.YtaeimlfehlbiiaaGreatDoorMN
import Derived.Test.YtaeimlfehlbiiaaGreatDoorOA
import Derived.Outline
import Derived.Test.YtaeimlfehlbiiaaGreatDoorOI
import Derived.Test.YtaeimlfehlbiiaaGreatDoorOF
namespace Go.Proofs.YtaeimlfehlbiiaaGreatDoor
set_option linter.unusedVariables false
def gapL (b d : Nat) : List UInt8 := 10 :: List.replicate (d * b) 32
def keyL (ks : List ByteArray) (i : Nat) : List UInt8 := match ks[i]? with | some q => Q.quo q.toList ++ [58, 32] | none => []
namespace T
mutual
def lns (b : Nat) : Nat → T → List UInt8
 | d, .mk k tr n s l ks => if k = 1 then (if tr then [116, 114, 117, 101] else [102, 97, 108, 115, 101]) else if k = 2 then Lib.itoa n else if k = 3 then Q.quo s.toList
  else if k = 4 then 91 :: (lnss b ks l 0 (d + 1) ++ ((if l.length = 0 then [] else gapL b d) ++ [93])) else if k = 5 then 123 :: (lnss b ks l 0 (d + 1) ++ ((if l.length = 0 then [] else gapL b d) ++ [125])) else [110, 117, 108, 108]
def lnss (b : Nat) : List ByteArray → List T → Nat → Nat → List UInt8
 | _, [], _, _ => []
 | ks, x :: r, i, d => comma i ++ (gapL b d ++ (keyL ks i ++ (lns b d x ++ lnss b ks r (i + 1) d)))
end
theorem lns_eq (b d : Nat) (t : T) : t.lns b d = if t.kind = 1 then (if t.tr then [116, 114, 117, 101] else [102, 97, 108, 115, 101]) else if t.kind = 2 then Lib.itoa t.num else if t.kind = 3 then Q.quo t.str.toList
 else if t.kind = 4 then 91 :: (lnss b t.keys t.items 0 (d + 1) ++ ((if t.items.length = 0 then [] else gapL b d) ++ [93])) else if t.kind = 5 then 123 :: (lnss b t.keys t.items 0 (d + 1) ++ ((if t.items.length = 0 then [] else gapL b d) ++ [125])) else [110, 117, 108, 108] := by cases t; rfl
end T
theorem lnss_cons (b : Nat) (ks : List ByteArray) (x : T) (r : List T) (i d : Nat) : T.lnss b ks (x :: r) i d = comma i ++ (gapL b d ++ (keyL ks i ++ (x.lns b d ++ T.lnss b ks r (i + 1) d))) := by rw [T.lnss]
theorem lnss_append (b : Nat) (ks : List ByteArray) : ∀ (a c : List T) (i d : Nat), T.lnss b ks (a ++ c) i d = T.lnss b ks a i d ++ T.lnss b ks c (i + a.length) d
 | [], c, i, d => by simp [T.lnss]
 | x :: a, c, i, d => by
  rw [List.cons_append, lnss_cons, lnss_cons, lnss_append b ks a c (i + 1) d, show i + 1 + a.length = i + (x :: a).length by simp; omega]
  simp only [List.append_assoc]
theorem lnss_take {b : Nat} {ks : List ByteArray} {l : List T} {j d : Nat} {x : T} (h : l[j]? = some x) : T.lnss b ks (l.take (j + 1)) 0 d = T.lnss b ks (l.take j) 0 d ++ (comma j ++ (gapL b d ++ (keyL ks j ++ x.lns b d))) := by
 have hj : j < l.length := (List.getElem?_eq_some_iff.1 h).1
 rw [T.take_snoc h, lnss_append, lnss_cons, T.lnss, List.append_nil, List.length_take, Nat.min_eq_left (Nat.le_of_lt hj), Nat.zero_add]
theorem keyL_len {ks : List ByteArray} (h : ∀ s ∈ ks, s.size ≤ 60) (i : Nat) : (keyL ks i).length ≤ 364 := by
 unfold keyL
 split
 ·
  rename_i q hq
  have h1 := h q (List.mem_of_getElem? hq)
  have h2 := Q.quo_len q.toList
  have h3 : q.toList.length = q.size := by rw [ByteArray.toList_eq]; simp
  simp only [List.length_append, List.length_cons, List.length_nil]; omega
 · simp
theorem gapL_len {b d : Nat} (hb : b ≤ 8) (hd : d ≤ 50) : (gapL b d).length ≤ 401 := by
 unfold gapL
 rw [List.length_cons, List.length_replicate]
 have : d * b ≤ 50 * 8 := Nat.mul_le_mul hd hb
 omega
theorem lnss_len {b : Nat} {ks : List ByteArray} (h : ∀ s ∈ ks, s.size ≤ 60) (hb : b ≤ 8) {d : Nat} (hd : d ≤ 50) : ∀ (l : List T) (i : Nat), (∀ x ∈ l, (x.lns b d).length + 1364 ≤ 3000 * x.size) → (T.lnss b ks l i d).length ≤ 3000 * T.sizes l
 | [], i, _ => by simp [T.lnss]
 | x :: l, i, hl => by
  have h1 := lnss_len h hb hd l (i + 1) fun y hy => hl y (List.mem_cons_of_mem _ hy)
  have h2 := hl x (List.mem_cons_self)
  have h3 := comma_len i
  have h4 := keyL_len h i
  have h5 := gapL_len hb hd
  rw [lnss_cons]
  simp only [List.length_append, T.sizes]; omega
theorem lns_len {b : Nat} (hb : b ≤ 8) : ∀ (t : T), T.All Fit t → ∀ d, d + t.size ≤ 50 → (t.lns b d).length + 1364 ≤ 3000 * t.size := by
 refine T.ind ?_
 intro t ih hf d hd
 have f := hf.here
 have hz := t.size_eq
 have hi : t.items ≠ [] → (T.lnss b t.keys t.items 0 (d + 1)).length ≤ 3000 * T.sizes t.items := fun hne => by
  have : 1 ≤ T.sizes t.items := by
   have := T.len_sizes t.items
   have := List.length_pos_iff.2 hne
   omega
  exact lnss_len f.keys hb (by omega) _ _ fun x hx => ih x hx (hf.mem hx) (d + 1) (by have := T.mem_size hx; omega)
 have hi2 : (T.lnss b t.keys t.items 0 (d + 1)).length ≤ 3000 * T.sizes t.items := by
  by_cases h0 : t.items = []
  · rw [h0]; simp [T.lnss]
  · exact hi h0
 have hg : (if t.items.length = 0 then [] else gapL b d).length ≤ 401 := by
  split
  · simp
  · exact gapL_len hb (by omega)
 have hq := Q.quo_len t.str.toList
 have hs : t.str.toList.length = t.str.size := by rw [ByteArray.toList_eq]; simp
 have hs60 := f.str
 have hn := De.itoa_len (n := t.num) ⟨f.n0, f.n1⟩
 rw [T.lns_eq, T.size_eq]
 split
 · split <;> simp <;> omega
 split
 · omega
 split
 · omega
 split
 · simp only [List.length_cons, List.length_append, List.length_nil]; omega
 split
 · simp only [List.length_cons, List.length_append, List.length_nil]; omega
 · simp; omega
namespace Rd
open Tk Pl
theorem bls_gap (b d : Nat) : Bls (gapL b d) := fun c hc => by
 unfold gapL at hc
 rcases List.mem_cons.1 hc with rfl | hc
 · decide
 · rw [List.eq_of_mem_replicate hc]; decide
theorem bls_nil : Bls [] := fun c hc => by cases hc
theorem bls_sp : Bls [32] := fun c hc => by rw [List.mem_singleton.1 hc]; decide
theorem Written.gaps {v : T} {L B C : List UInt8} (h : Written v L) (hB : Bls B) (hC : Bls C) : Written v (B ++ L ++ C) := by
 obtain ⟨u, h1, h2, h3, h4⟩ := h
 exact ⟨u, h1, h2, h3, h4.gaps hB hC⟩
theorem Written.front {v : T} {L B : List UInt8} (h : Written v L) (hB : Bls B) : Written v (B ++ L) := by
 have := h.gaps hB bls_nil
 rwa [List.append_nil] at this
theorem wrA_lns {b d : Nat} : ∀ (r vs : List T) (acc : List UInt8), WrA vs acc → (∀ x ∈ r, Written x (x.lns b d)) → WrA (vs ++ r) (acc ++ T.lnss b [] r vs.length d)
 | [], vs, acc, h, _ => by rw [T.lnss, List.append_nil, List.append_nil]; exact h
 | x :: r, vs, acc, h, hx => by
  have h1 := wrA_snoc h ((hx x List.mem_cons_self).front (bls_gap b d))
  have h2 := wrA_lns r _ _ h1 fun y hy => hx y (List.mem_cons_of_mem _ hy)
  rw [lnss_cons]
  rw [List.append_assoc, List.length_append] at h2
  have e : keyL [] vs.length = [] := rfl
  rw [e]
  simp only [List.append_assoc, List.nil_append, List.singleton_append, List.length_singleton] at h2 ⊢
  exact h2
theorem wrO_lns {b d : Nat} {ks : List ByteArray} (hks : ∀ q ∈ ks, okText q) : ∀ (r : List T) (m : List (ByteArray × T)) (acc : List UInt8), WrO m acc → ks.length = m.length + r.length → (∀ x ∈ r, Written x (x.lns b d)) → WrO (m ++ (ks.drop m.length).zip r) (acc ++ T.lnss b ks r m.length d)
 | [], m, acc, h, _, _ => by rw [T.lnss, List.append_nil, List.zip_nil_right, List.append_nil]; exact h
 | x :: r, m, acc, h, hl, hx => by
  have hi : m.length < ks.length := by rw [hl, List.length_cons]; omega
  have hK : StrL ks[m.length] (Q.quo (ks[m.length]).toList) := by
   rw [quo_data]
   exact fun s p hh => next_quo (hks _ (List.getElem_mem hi)) hh
  have h1 := wrO_snoc h (bls_gap b d) bls_nil hK ((hx x List.mem_cons_self).front bls_sp)
  have h2 := wrO_lns hks r _ _ h1 (by rw [hl]; simp; omega) fun y hy => hx y (List.mem_cons_of_mem _ hy)
  rw [lnss_cons, List.drop_eq_getElem_cons hi, List.zip_cons_cons]
  have e : keyL ks m.length = Q.quo (ks[m.length]).toList ++ [58, 32] := by unfold keyL; rw [List.getElem?_eq_getElem hi]
  rw [e]
  rw [List.length_append] at h2
  unfold comma
  simp only [List.append_assoc, List.nil_append, List.length_singleton, List.cons_append] at h2 ⊢
  exact h2
theorem written_lns (b : Nat) : ∀ t : T, t.Good → T.All (fun t => In64 t.num) t → ∀ d, Written t (t.lns b d) := by
 refine T.ind ?_
 intro t ih hg hf d
 have g := hg.here
 have IH : ∀ x ∈ t.items, Written x (x.lns b (d + 1)) := fun x hx => ih x hx (hg.mem hx) (hf.mem hx) (d + 1)
 have hgap : Bls (if t.items.length = 0 then [] else gapL b d) := by
  split
  · exact bls_nil
  · exact bls_gap b d
 by_cases k4 : t.kind = 4
 ·
  have e : t.lns b d = [] ++ ([91] ++ ([] ++ T.lnss b [] t.items 0 (d + 1)) ++ (if t.items.length = 0 then [] else gapL b d) ++ [93]) ++ [] := by
   rw [T.lns_eq, if_neg (by omega), if_neg (by omega), if_neg (by omega), if_pos k4, g.keys (by omega)]
   simp
  have e2 : t = arrT t.items := T.ext k4 (g.tr (by omega)) (g.num (by omega)) (g.str (by omega)) rfl (g.keys (by omega))
  rw [e]
  have := wrA_end (wrA_lns t.items [] [] wrA_nil IH) bls_nil hgap bls_nil
  rw [List.nil_append] at this
  rw [← e2] at this
  exact this
 by_cases k5 : t.kind = 5
 ·
  have e : t.lns b d = [] ++ ([123] ++ ([] ++ T.lnss b t.keys t.items 0 (d + 1)) ++ (if t.items.length = 0 then [] else gapL b d) ++ [125]) ++ [] := by
   rw [T.lns_eq, if_neg (by omega), if_neg (by omega), if_neg (by omega), if_neg k4, if_pos k5]
   simp
  have e2 : T.mk 5 false 0 nix t.items t.keys = t := T.ext k5.symm (g.tr (by omega)).symm (g.num (by omega)).symm (g.str (by omega)).symm rfl rfl
  rw [e]
  have h1 := wrO_lns (b := b) (d := d + 1) g.ktxt t.items [] [] wrO_nil (by rw [List.length_nil, Nat.zero_add]; exact g.lens k5) IH
  have := wrO_end h1 (vs := t.items) (ks := t.keys) (by rw [List.nil_append]; exact List.Perm.refl _) (g.lens k5) g.kris bls_nil hgap bls_nil
  rw [e2] at this
  exact this
 ·
  have e : t.lns b d = t.txt := by
   rw [T.lns_eq, T.txt_eq, if_neg k4, if_neg k4, if_neg k5, if_neg k5]
  rw [e]
  exact written_txt hg hf
end Rd
end Go.Proofs.YtaeimlfehlbiiaaGreatDoor
namespace Go.Proofs.YtaeimlfehlbiiaaGreatDoor
open Go.RowKit
set_option linter.unusedVariables false
set_option maxRecDepth 100000 in
set_option maxHeartbeats 4000000 in
theorem line_any (B b : Nat) (l : List UInt8) (c2 c3 : Value) (bn : Nat) (d : Int) (hbn : bn ≤ 8) (hd0 : 0 ≤ d) (hd : d ≤ 100) (w : World) (h : Wr B b l c2 c3 (.int .i64 bn) (.int .i64 d) w) (hlen : l.length ≤ 700000) (hBw : B ≤ w.heap.size) :
 Calls Tryz.prog 24 #[.pointer (some ⟨b, 0, none⟩)] w (WroteW B b l (gapL bn d.toNat) c2 c3 (.int .i64 bn) (.int .i64 d) w) := by
 have H := Lib.hid h
 clear h
 obtain ⟨N, hN⟩ : ∃ N : Nat, N = d.toNat * bn := ⟨_, rfl⟩
 have hN8 : N ≤ 800 := by rw [hN]; have := Nat.mul_le_mul (show d.toNat ≤ 100 by omega) hbn; omega
 have hmul : d * (bn : Int) = (N : Int) := by rw [hN]; push_cast; rw [Int.toNat_of_nonneg hd0]
 have m1 : IntKind.i64.wrap (d * (bn : Int)) = (N : Int) := by rw [hmul]; exact IntWalk.i64_in _ (by omega)
 have m2 : wrap64 (d * (bn : Int)) = (N : Int) := by rw [hmul]; exact IntWalk.wrap64_in _ (by omega)
 have HN := Lib.hid hN
 clear hN hmul
 go_enter Tryz.func24, Tryz.ntmps24
 go_wp2_with fail
 refine (wstr_any B b l _ _ _ _ ⟨#[10]⟩ _ H.out (by show l.length + 1 ≤ 900000; omega) hBw).mono ?_
 rintro e w1 ⟨rfl, h1, k1⟩
 have H1 := Lib.hid (show Wr B b (l ++ [10]) c2 c3 (.int .i64 bn) (.int .i64 d) w1 from h1)
 have K1 := Lib.hid k1
 obtain ⟨_, p, v, _, hblk, _⟩ := h1
 have x4 : w1.cell? ⟨b, 4, none⟩ = some (.int .i64 bn) := hblk.cell 4
 have x5 : w1.cell? ⟨b, 5, none⟩ = some (.int .i64 d) := hblk.cell 5
 clear k1 hblk
 go_upto_region 1 with fail
 go_region
 rename_i nq
 have H2 := Lib.hid (show Wr B b (l ++ [10]) c2 c3 (.int .i64 bn) (.int .i64 d) w1.drew from H1.out.drewW)
 have K2 := Lib.hid (show KeptW B b w w1.drew from K1.out.trans (KeptW.of (b := b) (Below.refl _ _).drew (Nat.le_trans hBw K1.out.size)))
 clear x4 x5
 generalize w1.drew = W2 at *
 go_wp2_with fail
 go_loopw [15] (fun x wr => ∃ j : Nat, j ≤ N ∧ x = .int .i64 j ∧ Wr B b (l ++ (10 :: List.replicate j 32)) c2 c3 (.int .i64 bn) (.int .i64 d) wr ∧ KeptW B b w wr) (fun x _ => N - (intOf x).toNat)
 case atStart => exact ⟨0, Nat.zero_le _, rfl, by simpa using H2.out, K2.out⟩
 case round =>
  obtain ⟨j, hj, rfl, hwr, hk⟩ := hrel
  have HR := Lib.hid hwr
  have HK := Lib.hid hk
  have hsr := Nat.le_trans hBw (KeptW.size hk)
  clear hwr hk
  by_cases hlt : j < N
  ·
   have u1 : decide (j < N) = true := decide_eq_true hlt
   have u2 : decide ((j : Int) < (N : Int)) = true := decide_eq_true (by omega)
   go_wp2_with fail
   refine (wbyte_any B b _ _ _ _ _ 32 32 rfl _ HR.out (by simp only [List.length_append, List.length_cons, List.length_replicate]; omega) hsr).mono ?_
   rintro e w3 ⟨rfl, h3, k3⟩
   have H3 := Lib.hid h3
   have K3 := Lib.hid (HK.out.trans k3)
   clear h3 k3
   go_wp2_with fail
   go_roundw
   case rel => exact ⟨j + 1, hlt, by go_num, by rw [List.replicate_succ']; have := H3.out; simpa only [List.append_assoc, List.cons_append] using this, K3.out⟩
   case measure => simp [intOf]; omega
  ·
   obtain rfl : N = j := by omega
   have u1 : decide (N < N) = false := decide_eq_false (by omega)
   have u2 : decide ((N : Int) < (N : Int)) = false := decide_eq_false (by omega)
   go_wp2_with fail
   go_end0
   exact ⟨rfl, by have h9 := HR.out; rw [HN.out] at h9; exact h9, HK.out⟩
set_option maxRecDepth 100000 in
set_option maxHeartbeats 4000000 in
theorem gap_any (bn : Nat) (d : Int) (hbn : bn ≤ 8) (hd0 : 0 ≤ d) (hd : d ≤ 100) (w : World) :
 Calls Tryz.prog 53 #[.int .i64 d, .int .i64 bn] w fun e w' => e = .returned (.string (mkB (gapL bn d.toNat))) ∧ Below w.heap.size w w' := by
 obtain ⟨N, hN⟩ : ∃ N : Nat, N = d.toNat * bn := ⟨_, rfl⟩
 have hN8 : N ≤ 800 := by rw [hN]; have := Nat.mul_le_mul (show d.toNat ≤ 100 by omega) hbn; omega
 have hmul : d * (bn : Int) = (N : Int) := by rw [hN]; push_cast; rw [Int.toNat_of_nonneg hd0]
 have m1 : IntKind.i64.wrap (d * (bn : Int)) = (N : Int) := by rw [hmul]; exact IntWalk.i64_in _ (by omega)
 have m2 : wrap64 (d * (bn : Int)) = (N : Int) := by rw [hmul]; exact IntWalk.wrap64_in _ (by omega)
 have HN := Lib.hid hN
 have HB0 := Lib.hid (show Below w.heap.size w (w.alloc (.cells #[.int .u8 10] 5)) from (Below.refl _ _).alloc (Nat.le_refl _) _)
 have HO0 := Lib.hid (show (w.alloc (.cells #[.int .u8 10] 5)).ownsRow w.heap.size 5 1 (.slice (some ⟨w.heap.size, 0, none⟩) 1 1) ([10] ++ List.replicate 0 32 : List UInt8).length (Lib.byteCells ([10] ++ List.replicate 0 32)) from World.ownsRow_lit (base := w.heap.size) (e := 5) (size := 1) w #[.int .u8 10] 1 (Nat.le_refl _) (by unfold maxLen; omega) rfl)
 clear hN hmul
 go_enter Tryz.func53, Tryz.ntmps53
 go_upto_region 2 with fail
 change Code.wp _ _ _ _ (w.alloc (.cells #[.int .u8 10] 5))
 generalize (w.alloc (.cells #[.int .u8 10] 5)) = W at *
 go_wp2_with fail
 go_loopw [5, 6] (fun v x wr => ∃ j : Nat, j ≤ N ∧ x = .int .i64 j ∧ wr.ownsRow w.heap.size 5 1 v ([10] ++ List.replicate j 32 : List UInt8).length (Lib.byteCells ([10] ++ List.replicate j 32)) ∧ Below w.heap.size w wr) (fun _ x _ => N - (intOf x).toNat)
 case atStart => exact ⟨0, Nat.zero_le _, rfl, HO0.out, HB0.out⟩
 case round =>
  obtain ⟨j, hj, rfl, hown, hbel⟩ := hrel
  have Hown := Lib.hid hown
  have HBl := Lib.hid hbel
  have hsz := hbel.size
  have hln : ([10] ++ List.replicate j 32 : List UInt8).length ≤ 1000 := by simp; omega
  clear hown hbel
  by_cases hlt : j < N
  ·
   have u1 : decide (j < N) = true := decide_eq_true hlt
   have u2 : decide ((j : Int) < (N : Int)) = true := decide_eq_true (by omega)
   go_wp2_with (at_builtin; refine app_u8 rfl (.tmp 15) (.tmp 16) rfl w.heap.size _ _ 32 32 rfl rfl rfl Hown.out (by omega) hsz ?_; intro v' w3 hown3 hb3)
   have HO3 := Lib.hid hown3
   have HB3 := Lib.hid (hb3 _ HBl.out)
   clear hown3 hb3
   go_wp2_with fail
   go_roundw
   case rel => exact ⟨j + 1, hlt, by go_num, by rw [List.replicate_succ', ← List.append_assoc]; exact HO3.out, HB3.out⟩
   case measure => simp [intOf]; omega
  ·
   obtain rfl : N = j := by omega
   have u1 : decide (N < N) = false := decide_eq_false (by omega)
   have u2 : decide ((N : Int) < (N : Int)) = false := decide_eq_false (by omega)
   have hcv := conv_owned Hown.out
   go_wp2_with fail
   go_ret
   exact ⟨by rw [HN.out]; rfl, HBl.out⟩
end Go.Proofs.YtaeimlfehlbiiaaGreatDoor
namespace Go.Proofs.YtaeimlfehlbiiaaGreatDoor
open Go.RowKit
set_option linter.unusedVariables false
def WroteL (bn B b : Nat) (l x : List UInt8) (d : Int) (w : World) (e : Ending) (w' : World) : Prop := WroteW B b l x (.string ⟨#[58, 32]⟩) (.func (.func 24) #[] #[]) (.int .i64 bn) (.int .i64 d) w e w'
def ValueAtL (bn n : Nat) : Prop := ∀ (B b : Nat) (l : List UInt8) (d : Int) (t : T) (A : Option Addr) (c : Nat) (A' : Option Addr) (c' : Nat) (w : World), t.size ≤ n → t.Fine → 0 ≤ d → d + t.size ≤ 50 → l.length + 3000 * t.size ≤ 600000 → Tab B w → TV w (· < B) t A c A' c' → Wr B b l (.string ⟨#[58, 32]⟩) (.func (.func 24) #[] #[]) (.int .i64 bn) (.int .i64 d) w → B ≤ w.heap.size →
 Calls Tryz.prog 25 #[.pointer (some ⟨b, 0, none⟩), .agg #[.int .i64 t.kind, .bool t.tr, .int .i64 t.num, .string t.str, .slice A t.items.length c, .slice A' t.keys.length c']] w (WroteL bn B b l (t.lns bn d.toNat) d w)
def lnE (b d n : Nat) : List UInt8 := if n = 0 then [] else gapL b d
def GoingL (bn B b : Nat) (l : List UInt8) (o : UInt8) (t : T) (d : Int) (j : Nat) (w wr : World) : Prop := Wr B b (l ++ ([o] ++ T.lnss bn t.keys (t.items.take j) 0 (d.toNat + 1))) (.string ⟨#[58, 32]⟩) (.func (.func 24) #[] #[]) (.int .i64 bn) (.int .i64 (d + 1)) wr ∧ KeptW B b w wr
set_option maxRecDepth 100000 in
set_option maxHeartbeats 16000000 in
theorem thingsL_at (bn : Nat) (hbn : bn ≤ 8) (n : Nat) (ih : ValueAtL bn n) (B b : Nat) (l : List UInt8) (o z : UInt8) (d : Int) (t : T) (A : Option Addr) (c : Nat) (A' : Option Addr) (c' : Nat) (w : World) (hsz : t.size ≤ n + 1) (hn : t.Fine) (hd0 : 0 ≤ d) (hd : d + t.size ≤ 50) (hlen : l.length + 3000 * t.size ≤ 600000) (htab : Tab B w) (hv : TV w (· < B) t A c A' c') (hw : Wr B b l (.string ⟨#[58, 32]⟩) (.func (.func 24) #[] #[]) (.int .i64 bn) (.int .i64 d) w) (hBw : B ≤ w.heap.size) :
 Calls Tryz.prog 49 #[.pointer (some ⟨b, 0, none⟩), .agg #[.int .i64 t.kind, .bool t.tr, .int .i64 t.num, .string t.str, .slice A t.items.length c, .slice A' t.keys.length c'], .string ⟨#[o]⟩, .string ⟨#[z]⟩] w (WroteL bn B b l (o :: (T.lnss bn t.keys t.items 0 (d.toNat + 1) ++ (lnE bn d.toNat t.items.length ++ [z]))) d w) := by
 have hi80 := hn.items80
 have hk80 := hn.keys_le
 have hsizes := T.size_eq t
 have hbl := hw.lt
 have hBX : B ≤ b := hw.1
 have HN := Lib.hid hn
 have HT := Lib.hid htab
 have HV := Lib.hid hv
 have HW := Lib.hid hw
 clear hn htab hv hw
 go_enter Tryz.func49, Tryz.ntmps49
 go_upto_region 1 with fail
 have hB0 : Blk (w.alloc (.cells #[.int .i64 t.kind, .bool t.tr, .int .i64 t.num, .string t.str, .slice A t.items.length c, .slice A' t.keys.length c'] 32)) w.heap.size 32 #[.int .i64 t.kind, .bool t.tr, .int .i64 t.num, .string t.str, .slice A t.items.length c, .slice A' t.keys.length c'] := Blk.new w _ _
 have hbb : Below w.heap.size w (w.alloc (.cells #[.int .i64 t.kind, .bool t.tr, .int .i64 t.num, .string t.str, .slice A t.items.length c, .slice A' t.keys.length c'] 32)) := (Below.refl _ _).alloc (Nat.le_refl _) _
 change Code.wp _ _ _ _ (w.alloc (.cells #[.int .i64 t.kind, .bool t.tr, .int .i64 t.num, .string t.str, .slice A t.items.length c, .slice A' t.keys.length c'] 32))
 generalize (w.alloc (.cells #[.int .i64 t.kind, .bool t.tr, .int .i64 t.num, .string t.str, .slice A t.items.length c, .slice A' t.keys.length c'] 32)) = W at *
 have HB0 := Lib.hid hB0
 have HW1 := Lib.hid (HW.out.on hbb)
 have HK1 := Lib.hid (KeptW.of (b := b) hbb hBw)
 have hg0 : w.heap.size ≠ b := by omega
 have hs1 := Nat.le_trans hBw hbb.size
 generalize w.heap.size = g at *
 clear hB0 hbb HW
 go_wp2_with fail
 refine (wstr_any B b l _ _ _ _ ⟨#[o]⟩ _ HW1.out (by show l.length + 1 ≤ 900000; omega) hs1).mono ?_
 rintro e w2 ⟨rfl, h2, k2⟩
 have HK2 := Lib.hid (HK1.out.trans k2)
 have HB2 := Lib.hid (k2.blk HB0.out hg0 (by decide))
 have HW2 := Lib.hid (show Wr B b (l ++ [o]) (.string ⟨#[58, 32]⟩) (.func (.func 24) #[] #[]) (.int .i64 bn) (.int .i64 d) w2 from h2)
 obtain ⟨x2, x3, x5, f5⟩ := h2.cells
 obtain ⟨hw3, hk3⟩ := h2.deep (.int .i64 (d + 1))
 have hs2 := Nat.le_trans hs1 k2.size
 have HW3 := Lib.hid hw3
 have HK3 := Lib.hid (HK2.out.trans hk3)
 have HB3 := Lib.hid (hk3.blk HB2.out hg0 (by decide))
 have hwr : IntKind.i64.wrap (d + 1) = d + 1 := IntWalk.i64_in _ (by omega)
 have hs3 : B ≤ (w2.setCell ⟨b, 5, none⟩ (.int .i64 (d + 1))).heap.size := Nat.le_trans hs2 hk3.size
 clear h2 k2 hw3 hk3
 go_upto_region 3 with fail
 change Code.wp _ _ _ _ (w2.setCell ⟨b, 5, none⟩ (.int .i64 (d + 1)))
 generalize (w2.setCell ⟨b, 5, none⟩ (.int .i64 (d + 1))) = W3 at *
 clear x2 x3 x5 f5 HW2 HB2 HK2 HK1 HB0 HW1
 obtain ⟨a0, a1, a2, a3, a4, a5⟩ : W3.cell? ⟨g, 0, none⟩ = some (.int .i64 t.kind) ∧ W3.cell? ⟨g, 1, none⟩ = some (.bool t.tr) ∧ W3.cell? ⟨g, 2, none⟩ = some (.int .i64 t.num) ∧ W3.cell? ⟨g, 3, none⟩ = some (.string t.str) ∧ W3.cell? ⟨g, 4, none⟩ = some (.slice A t.items.length c) ∧ W3.cell? ⟨g, 5, none⟩ = some (.slice A' t.keys.length c') := ⟨HB3.out.cell 0, HB3.out.cell 1, HB3.out.cell 2, HB3.out.cell 3, HB3.out.cell 4, HB3.out.cell 5⟩
 have hfit := HN.out.fit.here.keys
 go_wp2_with fail
 go_loopw [25] (fun x wr => ∃ j : Nat, j ≤ t.items.length ∧ x = .int .i64 j ∧ GoingL bn B b l o t d j w wr ∧ Blk wr g 32 #[.int .i64 t.kind, .bool t.tr, .int .i64 t.num, .string t.str, .slice A t.items.length c, .slice A' t.keys.length c']) (fun x _ => t.items.length - (intOf x).toNat)
 case atStart => exact ⟨0, Nat.zero_le _, rfl, ⟨by simpa [T.lnss] using HW3.out, HK3.out⟩, HB3.out⟩
 case round =>
  obtain ⟨j, hj, rfl, ⟨hwr, hkr⟩, hbg⟩ := hrel
  have hsr : B ≤ wr.heap.size := Nat.le_trans (Nat.le_of_lt (Nat.lt_of_le_of_lt hBX hwr.lt)) (Nat.le_refl _)
  have hpre := lnss_len (d := d.toNat + 1) hfit hbn (by omega) (t.items.take j) 0 (fun x hx => lns_len hbn x (HN.out.fit.mem (List.mem_of_mem_take hx)) (d.toNat + 1) (by have := T.mem_size (List.mem_of_mem_take hx); omega))
  have hst := T.sizes_take t.items j
  have HR := Lib.hid hwr
  have HKR := Lib.hid hkr
  have HBG := Lib.hid hbg
  clear hwr hkr hbg a0 a1 a2 a3 a4 a5
  by_cases hlt : j < t.items.length
  ·
   have u1 : decide (j < t.items.length) = true := decide_eq_true hlt
   have u2 : decide ((j : Int) < (t.items.length : Int)) = true := decide_eq_true (by omega)
   have i1 : (j : Int) < (t.items.length : Int) := by omega
   have i2 : (0 : Int) ≤ (j : Int) := by omega
   obtain ⟨bI, oI, x, D, f, D', f', rfl, hbI, hx, h6, hX⟩ := HV.out.at_ hlt
   have hxs := T.sizes_snoc hx
   have hst2 := T.sizes_take t.items (j + 1)
   obtain ⟨e0, e1, e2, e3, e4, e5⟩ := h6.keep hbI (.of_below HKR.out.1)
   have HXV := Lib.hid hX
   have HX := Lib.hid hx
   clear hX h6 hx
   go_upto_region 6 with fail
   have hbI2 : Blk (wr.alloc (.cells #[.int .i64 x.kind, .bool x.tr, .int .i64 x.num, .string x.str, .slice D x.items.length f, .slice D' x.keys.length f'] 32)) wr.heap.size 32 #[.int .i64 x.kind, .bool x.tr, .int .i64 x.num, .string x.str, .slice D x.items.length f, .slice D' x.keys.length f'] := Blk.new wr _ _
   have hbb : Below wr.heap.size wr (wr.alloc (.cells #[.int .i64 x.kind, .bool x.tr, .int .i64 x.num, .string x.str, .slice D x.items.length f, .slice D' x.keys.length f'] 32)) := (Below.refl _ _).alloc (Nat.le_refl _) _
   change Code.wp _ _ _ _ (wr.alloc (.cells #[.int .i64 x.kind, .bool x.tr, .int .i64 x.num, .string x.str, .slice D x.items.length f, .slice D' x.keys.length f'] 32))
   have hbw := HR.out.lt
   generalize (wr.alloc (.cells #[.int .i64 x.kind, .bool x.tr, .int .i64 x.num, .string x.str, .slice D x.items.length f, .slice D' x.keys.length f'] 32)) = W5 at *
   have HR5 := Lib.hid (HR.out.on hbb)
   have HK5 := Lib.hid (HKR.out.trans (KeptW.of (b := b) hbb hsr))
   have HBG5 := Lib.hid (HBG.out.onto hbb)
   have HBI5 := Lib.hid hbI2
   have hs5 := Nat.le_trans hsr hbb.size
   have hgi : wr.heap.size ≠ b := by omega
   generalize wr.heap.size = gi at *
   clear hbb hbI2 e0 e1 e2 e3 e4 e5 HR HKR HBG
   have hcl := comma_len j
   have hkpl := keyL_len hfit j
   have hgpl := gapL_len (d := d.toNat + 1) hbn (by omega)
   have hdn : (d + 1).toNat = d.toNat + 1 := by omega
   have HDN := Lib.hid hdn
   clear hdn
   by_cases hj0 : j = 0
   ·
    have c0 : decide ((0 : Int) < (j : Int)) = false := decide_eq_false (by omega)
    have c1 : decide (0 < j) = false := decide_eq_false (by omega)
    have hcm : comma j = [] := by unfold comma; rw [if_pos hj0]
    have HR6 := Lib.hid (show Wr B b ((l ++ ([o] ++ T.lnss bn t.keys (t.items.take j) 0 (d.toNat + 1))) ++ comma j) (.string ⟨#[58, 32]⟩) (.func (.func 24) #[] #[]) (.int .i64 bn) (.int .i64 (d + 1)) W5 from by rw [hcm, List.append_nil]; exact HR5.out)
    have HK6 := HK5
    have HBG6 := HBG5
    have HBI6 := HBI5
    have hs6 := hs5
    obtain ⟨x2, x3, x5, f5⟩ := HR6.out.cells
    clear hj0 hcm HR5 HK5 HBG5 HBI5
    by_cases hk5 : t.kind = 5
    ·
     have k5 : (t.kind = 5) := hk5
     have hll := HN.out.good.here.lens hk5
     obtain ⟨q, hq⟩ : ∃ q, t.keys[j]? = some q := ⟨_, List.getElem?_eq_getElem (by omega)⟩
     have hq60 := hfit q (List.mem_of_getElem? hq)
     have hkp : keyL t.keys j = Q.quo q.data.toList ++ [58, 32] := by unfold keyL; rw [hq]; show Q.quo q.toList ++ [58, 32] = _; rw [ByteArray.toList_eq]
     obtain ⟨bK, oK, hAK, hbK, hcK⟩ := HV.out.keys (by intro e; rw [e] at hq; simp at hq)
     subst hAK
     have HCK := Lib.hid (hcK j q hq)
     have v1 : decide (j < t.keys.length) = true := decide_eq_true (by omega)
     have v2 : decide ((j : Int) < (t.keys.length : Int)) = true := decide_eq_true (by omega)
     have v3 : (j : Int) < (t.keys.length : Int) := by omega
     have hql := Q.quo_len q.data.toList
     have hqs : q.data.toList.length = q.size := by simp
     have HKP := Lib.hid hkp
     clear hq hcK hll k5 hk5 hkp
     go_wp2_with fail
     refine (line_any B b _ _ _ bn (d + 1) hbn (by omega) (by omega) _ HR6.out (by simp only [List.length_append, List.length_singleton]; omega) hs6).mono ?_
     rintro e wp ⟨rfl, hp, kp⟩
     have HRp := Lib.hid (show Wr B b ((l ++ ([o] ++ T.lnss bn t.keys (t.items.take j) 0 (d.toNat + 1))) ++ comma j ++ gapL bn (d.toNat + 1)) (.string ⟨#[58, 32]⟩) (.func (.func 24) #[] #[]) (.int .i64 bn) (.int .i64 (d + 1)) wp from by have := hp; rw [HDN.out] at this; exact this)
     have HKp := Lib.hid (HK6.out.trans kp)
     have HBGp := Lib.hid (kp.blk HBG6.out hg0 (by decide))
     have HBIp := Lib.hid (kp.blk HBI6.out hgi (by decide))
     have hsp := Nat.le_trans hs6 kp.size
     clear hp kp x2 x3 x5 f5
     obtain ⟨x2, x3, x5, f5⟩ := HRp.out.cells
     have ek : wp.cell? ⟨bK, oK + j, none⟩ = some (.string q) := (HKp.out.1.cell (p := ⟨bK, oK + j, none⟩) hbK).trans HCK.out
     have b5 : wp.cell? ⟨g, 5, none⟩ = some (.slice (some ⟨bK, oK, none⟩) t.keys.length c') := HBGp.out.cell 5
     go_wp2_with fail
     refine (quote_any7 B b _ _ _ _ _ q _ HRp.out (by simp only [List.length_append, List.length_singleton]; omega) (by omega) hsp).mono ?_
     rintro e w7 ⟨rfl, h7, k7⟩
     have HR7 := Lib.hid h7
     have HK7 := Lib.hid (HKp.out.trans k7)
     have HBG7 := Lib.hid (k7.blk HBGp.out hg0 (by decide))
     have HBI7 := Lib.hid (k7.blk HBIp.out hgi (by decide))
     have hs7 := Nat.le_trans hsp k7.size
     have c7 := h7.cells.1
     clear h7 k7 x2 x3 x5 f5 b5 ek
     go_wp2_with fail
     refine wp_region_held_drew (S := fun w' => w'.cell? ⟨b, 2, none⟩ = some (.string ⟨#[58, 32]⟩)) (by kernel_rfl) ?_ (fun hHeld => ?_)
     · exact c7
     refine wpAnyH_take (i := 0) (v := ?_) rfl (by kernel_rfl) (by kernel_rfl) (by kernel_rfl) (fun _ _ _ h => h) (Or.inl ⟨by rfl, ?_⟩) (by assumption) ?_
     rotate_left
     ·
      intro wq hSw
      try dsimp only at hSw
      go_simp
      try (with_reducible rfl)
     try simp only [Act.put, List.getElem_toArray, List.getElem_cons_zero, List.setIfInBounds_toArray, List.set_cons_zero, List.set_cons_succ]
     refine wpAnyH_take (i := 1) (v := ?_) rfl (by kernel_rfl) (by kernel_rfl) (by kernel_rfl) (fun _ _ _ h => h) (Or.inl ⟨by rfl, ?_⟩) (by assumption) ?_
     rotate_left
     ·
      intro wq hSw
      try dsimp only at hSw
      go_simp
      try (with_reducible rfl)
     try simp only [Act.put, List.getElem_toArray, List.getElem_cons_succ, List.getElem_cons_zero, List.setIfInBounds_toArray, List.set_cons_zero, List.set_cons_succ]
     refine wpAnyH_take (i := 2) (v := ?_) rfl (by kernel_rfl) (by kernel_rfl) (by kernel_rfl) (fun _ _ _ h => h) (Or.inl ⟨by rfl, ?_⟩) (by assumption) ?_
     rotate_left
     ·
      intro wq hSw
      try dsimp only at hSw
      go_simp
      try (with_reducible rfl)
     try simp only [Act.put, List.getElem_toArray, List.getElem_cons_succ, List.getElem_cons_zero, List.setIfInBounds_toArray, List.set_cons_zero, List.set_cons_succ]
     refine wpAnyH_take (i := 3) (v := ?_) rfl (by kernel_rfl) (by kernel_rfl) (by kernel_rfl) (fun _ _ _ h => h) (Or.inl ⟨by rfl, ?_⟩) (by assumption) ?_
     rotate_left
     ·
      intro wq hSw
      try dsimp only at hSw
      go_simp
      try (with_reducible rfl)
     try simp only [Act.put, List.getElem_toArray, List.getElem_cons_succ, List.getElem_cons_zero, List.setIfInBounds_toArray, List.set_cons_zero, List.set_cons_succ]
     refine wpAnyH_take (i := 4) (v := ?_) rfl (by kernel_rfl) (by kernel_rfl) (by kernel_rfl) (fun _ _ _ h => h) (Or.inl ⟨by rfl, ?_⟩) (by assumption) ?_
     rotate_left
     ·
      intro wq hSw
      try dsimp only at hSw
      go_simp
      try (with_reducible rfl)
     try simp only [Act.put, List.getElem_toArray, List.getElem_cons_succ, List.getElem_cons_zero, List.setIfInBounds_toArray, List.set_cons_zero, List.set_cons_succ]
     refine wpAnyH_take (i := 5) (v := ?_) rfl (by kernel_rfl) (by kernel_rfl) (by kernel_rfl) (fun _ _ _ h => h) (Or.inl ⟨by rfl, ?_⟩) (by assumption) ?_
     rotate_left
     ·
      intro wq hSw
      try dsimp only at hSw
      go_simp
      try (with_reducible rfl)
     try simp only [Act.put, List.getElem_toArray, List.getElem_cons_succ, List.getElem_cons_zero, List.setIfInBounds_toArray, List.set_cons_zero, List.set_cons_succ]
     refine wpAnyH_take (i := 6) (v := ?_) rfl (by kernel_rfl) (by kernel_rfl) (by kernel_rfl) (fun _ _ _ h => h) (Or.inl ⟨by rfl, ?_⟩) (by assumption) ?_
     rotate_left
     ·
      intro wq hSw
      try dsimp only at hSw
      go_simp
      try (with_reducible rfl)
     try simp only [Act.put, List.getElem_toArray, List.getElem_cons_succ, List.getElem_cons_zero, List.setIfInBounds_toArray, List.set_cons_zero, List.set_cons_succ]
     refine wpAnyH_ready (rs := [7]) (by kernel_rfl) (by simp) ?_
     refine AllReadyH.cons rfl (fun K0 hK => ?_) ?_
     rotate_left
     · exact AllReadyH.nil
     go_simp
     refine (wstr_any B b _ _ _ _ _ ⟨#[58, 32]⟩ _ HR7.out.drewW (by show _ + 2 ≤ 900000; simp only [List.length_append, List.length_singleton]; omega) hs7).mono ?_
     rintro e w8 ⟨rfl, h8, k8⟩
     have HR8 := Lib.hid (show Wr B b ((l ++ ([o] ++ T.lnss bn t.keys (t.items.take j) 0 (d.toNat + 1))) ++ comma j ++ gapL bn (d.toNat + 1) ++ keyL t.keys j) (.string ⟨#[58, 32]⟩) (.func (.func 24) #[] #[]) (.int .i64 bn) (.int .i64 (d + 1)) w8 from by rw [HKP.out]; have := h8; simpa only [List.append_assoc] using this)
     have HK8 := Lib.hid (HK7.out.trans (KeptW.drewK k8))
     have HBG8 := Lib.hid ((KeptW.drewK k8).blk HBG7.out hg0 (by decide))
     have HBI8 := Lib.hid ((KeptW.drewK k8).blk HBI7.out hgi (by decide))
     have hs8 := Nat.le_trans hs7 (KeptW.drewK k8).size
     have c8 := h8.cells.1
     clear h8 k8 c7
     go_wp2_with fail
     refine hK.out _ _ ?_ (fun hHeld => ?_)
     · exact c8
     clear hK K0
     try simp only [Act.put, List.getElem_toArray, List.getElem_cons_succ, List.getElem_cons_zero, List.setIfInBounds_toArray, List.set_cons_zero, List.set_cons_succ]
     refine wpAnyH_done (by kernel_rfl) ?_ _
     clear c8
     obtain ⟨q0, q1, q2, q3, q4, q5⟩ : w8.cell? ⟨gi, 0, none⟩ = some (.int .i64 x.kind) ∧ w8.cell? ⟨gi, 1, none⟩ = some (.bool x.tr) ∧ w8.cell? ⟨gi, 2, none⟩ = some (.int .i64 x.num) ∧ w8.cell? ⟨gi, 3, none⟩ = some (.string x.str) ∧ w8.cell? ⟨gi, 4, none⟩ = some (.slice D x.items.length f) ∧ w8.cell? ⟨gi, 5, none⟩ = some (.slice D' x.keys.length f') := ⟨HBI8.out.cell 0, HBI8.out.cell 1, HBI8.out.cell 2, HBI8.out.cell 3, HBI8.out.cell 4, HBI8.out.cell 5⟩
     go_wp2_with fail
     refine (ih B b _ (d + 1) x D f D' f' _ (by omega) (HN.out.at_ HX.out) (by omega) (by omega) (by simp only [List.length_append, List.length_singleton]; omega) (HT.out.on HK8.out.1) (HXV.out.under HK8.out.1) HR8.out hs8).mono ?_
     rintro e w9 ⟨rfl, h9, k9⟩
     have HR9 := Lib.hid h9
     have HK9 := Lib.hid (HK8.out.trans k9)
     have HBG9 := Lib.hid (k9.blk HBG8.out hg0 (by decide))
     clear h9 k9 q0 q1 q2 q3 q4 q5
     go_wp2_with fail
     go_roundw
     case rel => exact ⟨j + 1, hlt, by go_num, ⟨by rw [lnss_take HX.out]; have := HR9.out; rw [HDN.out] at this; simpa only [List.append_assoc] using this, HK9.out⟩, HBG9.out⟩
     case measure => simp [intOf]; omega
    ·
     have hk0 : t.keys = [] := HN.out.good.here.keys hk5
     have hkp : keyL t.keys j = [] := by unfold keyL; rw [hk0]; rfl
     have hkl0 : t.keys.length = 0 := by rw [hk0]; rfl
     have v1 : decide (j < t.keys.length) = false := decide_eq_false (by omega)
     have v2 : decide ((j : Int) < (t.keys.length : Int)) = false := decide_eq_false (by omega)
     have HKP := Lib.hid hkp
     clear hk5 hk0 hkp hkl0
     go_wp2_with fail
     refine (line_any B b _ _ _ bn (d + 1) hbn (by omega) (by omega) _ HR6.out (by simp only [List.length_append, List.length_singleton]; omega) hs6).mono ?_
     rintro e wp ⟨rfl, hp, kp⟩
     have HRp := Lib.hid (show Wr B b ((l ++ ([o] ++ T.lnss bn t.keys (t.items.take j) 0 (d.toNat + 1))) ++ comma j ++ gapL bn (d.toNat + 1)) (.string ⟨#[58, 32]⟩) (.func (.func 24) #[] #[]) (.int .i64 bn) (.int .i64 (d + 1)) wp from by have := hp; rw [HDN.out] at this; exact this)
     have HKp := Lib.hid (HK6.out.trans kp)
     have HBGp := Lib.hid (kp.blk HBG6.out hg0 (by decide))
     have HBIp := Lib.hid (kp.blk HBI6.out hgi (by decide))
     have hsp := Nat.le_trans hs6 kp.size
     clear hp kp x2 x3 x5 f5
     obtain ⟨x2, x3, x5, f5⟩ := HRp.out.cells
     have b5 : wp.cell? ⟨g, 5, none⟩ = some (.slice A' t.keys.length c') := HBGp.out.cell 5
     have HR8 := Lib.hid (show Wr B b ((l ++ ([o] ++ T.lnss bn t.keys (t.items.take j) 0 (d.toNat + 1))) ++ comma j ++ gapL bn (d.toNat + 1) ++ keyL t.keys j) (.string ⟨#[58, 32]⟩) (.func (.func 24) #[] #[]) (.int .i64 bn) (.int .i64 (d + 1)) wp from by rw [HKP.out, List.append_nil]; exact HRp.out)
     obtain ⟨q0, q1, q2, q3, q4, q5⟩ : wp.cell? ⟨gi, 0, none⟩ = some (.int .i64 x.kind) ∧ wp.cell? ⟨gi, 1, none⟩ = some (.bool x.tr) ∧ wp.cell? ⟨gi, 2, none⟩ = some (.int .i64 x.num) ∧ wp.cell? ⟨gi, 3, none⟩ = some (.string x.str) ∧ wp.cell? ⟨gi, 4, none⟩ = some (.slice D x.items.length f) ∧ wp.cell? ⟨gi, 5, none⟩ = some (.slice D' x.keys.length f') := ⟨HBIp.out.cell 0, HBIp.out.cell 1, HBIp.out.cell 2, HBIp.out.cell 3, HBIp.out.cell 4, HBIp.out.cell 5⟩
     go_wp2_with fail
     refine (ih B b _ (d + 1) x D f D' f' _ (by omega) (HN.out.at_ HX.out) (by omega) (by omega) (by simp only [List.length_append, List.length_singleton]; omega) (HT.out.on HKp.out.1) (HXV.out.under HKp.out.1) HR8.out hsp).mono ?_
     rintro e w9 ⟨rfl, h9, k9⟩
     have HR9 := Lib.hid h9
     have HK9 := Lib.hid (HKp.out.trans k9)
     have HBG9 := Lib.hid (k9.blk HBGp.out hg0 (by decide))
     clear h9 k9 q0 q1 q2 q3 q4 q5
     go_wp2_with fail
     go_roundw
     case rel => exact ⟨j + 1, hlt, by go_num, ⟨by rw [lnss_take HX.out]; have := HR9.out; rw [HDN.out] at this; simpa only [List.append_assoc] using this, HK9.out⟩, HBG9.out⟩
     case measure => simp [intOf]; omega
   ·
    have c0 : decide ((0 : Int) < (j : Int)) = true := decide_eq_true (by omega)
    have c1 : decide (0 < j) = true := decide_eq_true (by omega)
    have hcm : comma j = [44] := by unfold comma; rw [if_neg hj0]
    clear hj0
    go_wp2_with fail
    refine (wstr_any B b _ _ _ _ _ ⟨#[44]⟩ _ HR5.out (by show _ + 1 ≤ 900000; simp only [List.length_append, List.length_singleton]; omega) hs5).mono ?_
    rintro e w6 ⟨rfl, h6, k6⟩
    have HR6 := Lib.hid (show Wr B b ((l ++ ([o] ++ T.lnss bn t.keys (t.items.take j) 0 (d.toNat + 1))) ++ comma j) (.string ⟨#[58, 32]⟩) (.func (.func 24) #[] #[]) (.int .i64 bn) (.int .i64 (d + 1)) w6 from by rw [hcm]; exact h6)
    have HK6 := Lib.hid (HK5.out.trans k6)
    have HBG6 := Lib.hid (k6.blk HBG5.out hg0 (by decide))
    have HBI6 := Lib.hid (k6.blk HBI5.out hgi (by decide))
    have hs6 := Nat.le_trans hs5 k6.size
    obtain ⟨x2, x3, x5, f5⟩ := HR6.out.cells
    clear h6 k6 hcm HR5 HK5 HBG5 HBI5
    by_cases hk5 : t.kind = 5
    ·
     have k5 : (t.kind = 5) := hk5
     have hll := HN.out.good.here.lens hk5
     obtain ⟨q, hq⟩ : ∃ q, t.keys[j]? = some q := ⟨_, List.getElem?_eq_getElem (by omega)⟩
     have hq60 := hfit q (List.mem_of_getElem? hq)
     have hkp : keyL t.keys j = Q.quo q.data.toList ++ [58, 32] := by unfold keyL; rw [hq]; show Q.quo q.toList ++ [58, 32] = _; rw [ByteArray.toList_eq]
     obtain ⟨bK, oK, hAK, hbK, hcK⟩ := HV.out.keys (by intro e; rw [e] at hq; simp at hq)
     subst hAK
     have HCK := Lib.hid (hcK j q hq)
     have v1 : decide (j < t.keys.length) = true := decide_eq_true (by omega)
     have v2 : decide ((j : Int) < (t.keys.length : Int)) = true := decide_eq_true (by omega)
     have v3 : (j : Int) < (t.keys.length : Int) := by omega
     have hql := Q.quo_len q.data.toList
     have hqs : q.data.toList.length = q.size := by simp
     have HKP := Lib.hid hkp
     clear hq hcK hll k5 hk5 hkp
     go_wp2_with fail
     refine (line_any B b _ _ _ bn (d + 1) hbn (by omega) (by omega) _ HR6.out (by simp only [List.length_append, List.length_singleton]; omega) hs6).mono ?_
     rintro e wp ⟨rfl, hp, kp⟩
     have HRp := Lib.hid (show Wr B b ((l ++ ([o] ++ T.lnss bn t.keys (t.items.take j) 0 (d.toNat + 1))) ++ comma j ++ gapL bn (d.toNat + 1)) (.string ⟨#[58, 32]⟩) (.func (.func 24) #[] #[]) (.int .i64 bn) (.int .i64 (d + 1)) wp from by have := hp; rw [HDN.out] at this; exact this)
     have HKp := Lib.hid (HK6.out.trans kp)
     have HBGp := Lib.hid (kp.blk HBG6.out hg0 (by decide))
     have HBIp := Lib.hid (kp.blk HBI6.out hgi (by decide))
     have hsp := Nat.le_trans hs6 kp.size
     clear hp kp x2 x3 x5 f5
     obtain ⟨x2, x3, x5, f5⟩ := HRp.out.cells
     have ek : wp.cell? ⟨bK, oK + j, none⟩ = some (.string q) := (HKp.out.1.cell (p := ⟨bK, oK + j, none⟩) hbK).trans HCK.out
     have b5 : wp.cell? ⟨g, 5, none⟩ = some (.slice (some ⟨bK, oK, none⟩) t.keys.length c') := HBGp.out.cell 5
     go_wp2_with fail
     refine (quote_any7 B b _ _ _ _ _ q _ HRp.out (by simp only [List.length_append, List.length_singleton]; omega) (by omega) hsp).mono ?_
     rintro e w7 ⟨rfl, h7, k7⟩
     have HR7 := Lib.hid h7
     have HK7 := Lib.hid (HKp.out.trans k7)
     have HBG7 := Lib.hid (k7.blk HBGp.out hg0 (by decide))
     have HBI7 := Lib.hid (k7.blk HBIp.out hgi (by decide))
     have hs7 := Nat.le_trans hsp k7.size
     have c7 := h7.cells.1
     clear h7 k7 x2 x3 x5 f5 b5 ek
     go_wp2_with fail
     refine wp_region_held_drew (S := fun w' => w'.cell? ⟨b, 2, none⟩ = some (.string ⟨#[58, 32]⟩)) (by kernel_rfl) ?_ (fun hHeld => ?_)
     · exact c7
     refine wpAnyH_take (i := 0) (v := ?_) rfl (by kernel_rfl) (by kernel_rfl) (by kernel_rfl) (fun _ _ _ h => h) (Or.inl ⟨by rfl, ?_⟩) (by assumption) ?_
     rotate_left
     ·
      intro wq hSw
      try dsimp only at hSw
      go_simp
      try (with_reducible rfl)
     try simp only [Act.put, List.getElem_toArray, List.getElem_cons_zero, List.setIfInBounds_toArray, List.set_cons_zero, List.set_cons_succ]
     refine wpAnyH_take (i := 1) (v := ?_) rfl (by kernel_rfl) (by kernel_rfl) (by kernel_rfl) (fun _ _ _ h => h) (Or.inl ⟨by rfl, ?_⟩) (by assumption) ?_
     rotate_left
     ·
      intro wq hSw
      try dsimp only at hSw
      go_simp
      try (with_reducible rfl)
     try simp only [Act.put, List.getElem_toArray, List.getElem_cons_succ, List.getElem_cons_zero, List.setIfInBounds_toArray, List.set_cons_zero, List.set_cons_succ]
     refine wpAnyH_take (i := 2) (v := ?_) rfl (by kernel_rfl) (by kernel_rfl) (by kernel_rfl) (fun _ _ _ h => h) (Or.inl ⟨by rfl, ?_⟩) (by assumption) ?_
     rotate_left
     ·
      intro wq hSw
      try dsimp only at hSw
      go_simp
      try (with_reducible rfl)
     try simp only [Act.put, List.getElem_toArray, List.getElem_cons_succ, List.getElem_cons_zero, List.setIfInBounds_toArray, List.set_cons_zero, List.set_cons_succ]
     refine wpAnyH_take (i := 3) (v := ?_) rfl (by kernel_rfl) (by kernel_rfl) (by kernel_rfl) (fun _ _ _ h => h) (Or.inl ⟨by rfl, ?_⟩) (by assumption) ?_
     rotate_left
     ·
      intro wq hSw
      try dsimp only at hSw
      go_simp
      try (with_reducible rfl)
     try simp only [Act.put, List.getElem_toArray, List.getElem_cons_succ, List.getElem_cons_zero, List.setIfInBounds_toArray, List.set_cons_zero, List.set_cons_succ]
     refine wpAnyH_take (i := 4) (v := ?_) rfl (by kernel_rfl) (by kernel_rfl) (by kernel_rfl) (fun _ _ _ h => h) (Or.inl ⟨by rfl, ?_⟩) (by assumption) ?_
     rotate_left
     ·
      intro wq hSw
      try dsimp only at hSw
      go_simp
      try (with_reducible rfl)
     try simp only [Act.put, List.getElem_toArray, List.getElem_cons_succ, List.getElem_cons_zero, List.setIfInBounds_toArray, List.set_cons_zero, List.set_cons_succ]
     refine wpAnyH_take (i := 5) (v := ?_) rfl (by kernel_rfl) (by kernel_rfl) (by kernel_rfl) (fun _ _ _ h => h) (Or.inl ⟨by rfl, ?_⟩) (by assumption) ?_
     rotate_left
     ·
      intro wq hSw
      try dsimp only at hSw
      go_simp
      try (with_reducible rfl)
     try simp only [Act.put, List.getElem_toArray, List.getElem_cons_succ, List.getElem_cons_zero, List.setIfInBounds_toArray, List.set_cons_zero, List.set_cons_succ]
     refine wpAnyH_take (i := 6) (v := ?_) rfl (by kernel_rfl) (by kernel_rfl) (by kernel_rfl) (fun _ _ _ h => h) (Or.inl ⟨by rfl, ?_⟩) (by assumption) ?_
     rotate_left
     ·
      intro wq hSw
      try dsimp only at hSw
      go_simp
      try (with_reducible rfl)
     try simp only [Act.put, List.getElem_toArray, List.getElem_cons_succ, List.getElem_cons_zero, List.setIfInBounds_toArray, List.set_cons_zero, List.set_cons_succ]
     refine wpAnyH_ready (rs := [7]) (by kernel_rfl) (by simp) ?_
     refine AllReadyH.cons rfl (fun K0 hK => ?_) ?_
     rotate_left
     · exact AllReadyH.nil
     go_simp
     refine (wstr_any B b _ _ _ _ _ ⟨#[58, 32]⟩ _ HR7.out.drewW (by show _ + 2 ≤ 900000; simp only [List.length_append, List.length_singleton]; omega) hs7).mono ?_
     rintro e w8 ⟨rfl, h8, k8⟩
     have HR8 := Lib.hid (show Wr B b ((l ++ ([o] ++ T.lnss bn t.keys (t.items.take j) 0 (d.toNat + 1))) ++ comma j ++ gapL bn (d.toNat + 1) ++ keyL t.keys j) (.string ⟨#[58, 32]⟩) (.func (.func 24) #[] #[]) (.int .i64 bn) (.int .i64 (d + 1)) w8 from by rw [HKP.out]; have := h8; simpa only [List.append_assoc] using this)
     have HK8 := Lib.hid (HK7.out.trans (KeptW.drewK k8))
     have HBG8 := Lib.hid ((KeptW.drewK k8).blk HBG7.out hg0 (by decide))
     have HBI8 := Lib.hid ((KeptW.drewK k8).blk HBI7.out hgi (by decide))
     have hs8 := Nat.le_trans hs7 (KeptW.drewK k8).size
     have c8 := h8.cells.1
     clear h8 k8 c7
     go_wp2_with fail
     refine hK.out _ _ ?_ (fun hHeld => ?_)
     · exact c8
     clear hK K0
     try simp only [Act.put, List.getElem_toArray, List.getElem_cons_succ, List.getElem_cons_zero, List.setIfInBounds_toArray, List.set_cons_zero, List.set_cons_succ]
     refine wpAnyH_done (by kernel_rfl) ?_ _
     clear c8
     obtain ⟨q0, q1, q2, q3, q4, q5⟩ : w8.cell? ⟨gi, 0, none⟩ = some (.int .i64 x.kind) ∧ w8.cell? ⟨gi, 1, none⟩ = some (.bool x.tr) ∧ w8.cell? ⟨gi, 2, none⟩ = some (.int .i64 x.num) ∧ w8.cell? ⟨gi, 3, none⟩ = some (.string x.str) ∧ w8.cell? ⟨gi, 4, none⟩ = some (.slice D x.items.length f) ∧ w8.cell? ⟨gi, 5, none⟩ = some (.slice D' x.keys.length f') := ⟨HBI8.out.cell 0, HBI8.out.cell 1, HBI8.out.cell 2, HBI8.out.cell 3, HBI8.out.cell 4, HBI8.out.cell 5⟩
     go_wp2_with fail
     refine (ih B b _ (d + 1) x D f D' f' _ (by omega) (HN.out.at_ HX.out) (by omega) (by omega) (by simp only [List.length_append, List.length_singleton]; omega) (HT.out.on HK8.out.1) (HXV.out.under HK8.out.1) HR8.out hs8).mono ?_
     rintro e w9 ⟨rfl, h9, k9⟩
     have HR9 := Lib.hid h9
     have HK9 := Lib.hid (HK8.out.trans k9)
     have HBG9 := Lib.hid (k9.blk HBG8.out hg0 (by decide))
     clear h9 k9 q0 q1 q2 q3 q4 q5
     go_wp2_with fail
     go_roundw
     case rel => exact ⟨j + 1, hlt, by go_num, ⟨by rw [lnss_take HX.out]; have := HR9.out; rw [HDN.out] at this; simpa only [List.append_assoc] using this, HK9.out⟩, HBG9.out⟩
     case measure => simp [intOf]; omega
    ·
     have hk0 : t.keys = [] := HN.out.good.here.keys hk5
     have hkp : keyL t.keys j = [] := by unfold keyL; rw [hk0]; rfl
     have hkl0 : t.keys.length = 0 := by rw [hk0]; rfl
     have v1 : decide (j < t.keys.length) = false := decide_eq_false (by omega)
     have v2 : decide ((j : Int) < (t.keys.length : Int)) = false := decide_eq_false (by omega)
     have HKP := Lib.hid hkp
     clear hk5 hk0 hkp hkl0
     go_wp2_with fail
     refine (line_any B b _ _ _ bn (d + 1) hbn (by omega) (by omega) _ HR6.out (by simp only [List.length_append, List.length_singleton]; omega) hs6).mono ?_
     rintro e wp ⟨rfl, hp, kp⟩
     have HRp := Lib.hid (show Wr B b ((l ++ ([o] ++ T.lnss bn t.keys (t.items.take j) 0 (d.toNat + 1))) ++ comma j ++ gapL bn (d.toNat + 1)) (.string ⟨#[58, 32]⟩) (.func (.func 24) #[] #[]) (.int .i64 bn) (.int .i64 (d + 1)) wp from by have := hp; rw [HDN.out] at this; exact this)
     have HKp := Lib.hid (HK6.out.trans kp)
     have HBGp := Lib.hid (kp.blk HBG6.out hg0 (by decide))
     have HBIp := Lib.hid (kp.blk HBI6.out hgi (by decide))
     have hsp := Nat.le_trans hs6 kp.size
     clear hp kp x2 x3 x5 f5
     obtain ⟨x2, x3, x5, f5⟩ := HRp.out.cells
     have b5 : wp.cell? ⟨g, 5, none⟩ = some (.slice A' t.keys.length c') := HBGp.out.cell 5
     have HR8 := Lib.hid (show Wr B b ((l ++ ([o] ++ T.lnss bn t.keys (t.items.take j) 0 (d.toNat + 1))) ++ comma j ++ gapL bn (d.toNat + 1) ++ keyL t.keys j) (.string ⟨#[58, 32]⟩) (.func (.func 24) #[] #[]) (.int .i64 bn) (.int .i64 (d + 1)) wp from by rw [HKP.out, List.append_nil]; exact HRp.out)
     obtain ⟨q0, q1, q2, q3, q4, q5⟩ : wp.cell? ⟨gi, 0, none⟩ = some (.int .i64 x.kind) ∧ wp.cell? ⟨gi, 1, none⟩ = some (.bool x.tr) ∧ wp.cell? ⟨gi, 2, none⟩ = some (.int .i64 x.num) ∧ wp.cell? ⟨gi, 3, none⟩ = some (.string x.str) ∧ wp.cell? ⟨gi, 4, none⟩ = some (.slice D x.items.length f) ∧ wp.cell? ⟨gi, 5, none⟩ = some (.slice D' x.keys.length f') := ⟨HBIp.out.cell 0, HBIp.out.cell 1, HBIp.out.cell 2, HBIp.out.cell 3, HBIp.out.cell 4, HBIp.out.cell 5⟩
     go_wp2_with fail
     refine (ih B b _ (d + 1) x D f D' f' _ (by omega) (HN.out.at_ HX.out) (by omega) (by omega) (by simp only [List.length_append, List.length_singleton]; omega) (HT.out.on HKp.out.1) (HXV.out.under HKp.out.1) HR8.out hsp).mono ?_
     rintro e w9 ⟨rfl, h9, k9⟩
     have HR9 := Lib.hid h9
     have HK9 := Lib.hid (HKp.out.trans k9)
     have HBG9 := Lib.hid (k9.blk HBGp.out hg0 (by decide))
     clear h9 k9 q0 q1 q2 q3 q4 q5
     go_wp2_with fail
     go_roundw
     case rel => exact ⟨j + 1, hlt, by go_num, ⟨by rw [lnss_take HX.out]; have := HR9.out; rw [HDN.out] at this; simpa only [List.append_assoc] using this, HK9.out⟩, HBG9.out⟩
     case measure => simp [intOf]; omega
  ·
   have u1 : decide (j < t.items.length) = false := decide_eq_false hlt
   have u2 : decide ((j : Int) < (t.items.length : Int)) = false := decide_eq_false (by omega)
   have hfull : t.items.take j = t.items := List.take_of_length_le (by omega)
   rw [hfull] at hpre
   have HRF := Lib.hid (show Wr B b (l ++ ([o] ++ T.lnss bn t.keys t.items 0 (d.toNat + 1))) (.string ⟨#[58, 32]⟩) (.func (.func 24) #[] #[]) (.int .i64 bn) (.int .i64 (d + 1)) wr from by have := HR.out; rw [hfull] at this; exact this)
   obtain ⟨x2, x3, x5, f5⟩ := HRF.out.cells
   obtain ⟨hwe, hke⟩ := HRF.out.deep (.int .i64 d)
   have hwr2 : IntKind.i64.wrap (d + 1 - 1) = d := by rw [show d + 1 - 1 = d by omega]; exact IntWalk.i64_in _ (by omega)
   have hwr3 : IntKind.i64.wrap d = d := IntWalk.i64_in _ (by omega)
   have HWE := Lib.hid hwe
   have HKE := Lib.hid (HKR.out.trans hke)
   have HBE := Lib.hid (hke.blk HBG.out hg0 (by decide))
   have hse : B ≤ (wr.setCell ⟨b, 5, none⟩ (.int .i64 d)).heap.size := Nat.le_trans hsr hke.size
   clear hwe hke hfull HR
   go_upto_region 15 with fail
   change Code.wp _ _ _ _ (wr.setCell ⟨b, 5, none⟩ (.int .i64 d))
   generalize (wr.setCell ⟨b, 5, none⟩ (.int .i64 d)) = WE at *
   clear x2 x3 x5 f5
   obtain ⟨x2, x3, x5, f5⟩ := HWE.out.cells
   have b4 : WE.cell? ⟨g, 4, none⟩ = some (.slice A t.items.length c) := HBE.out.cell 4
   have hgpe := gapL_len (d := d.toNat) hbn (by omega)
   by_cases hz : 0 < t.items.length
   ·
    have v1 : decide (0 < t.items.length) = true := decide_eq_true hz
    have v2 : decide ((0 : Int) < (t.items.length : Int)) = true := decide_eq_true (by omega)
    have HIF := Lib.hid (show lnE bn d.toNat t.items.length = gapL bn d.toNat from if_neg (by omega))
    clear hz
    go_wp2_with fail
    refine (line_any B b _ _ _ bn d hbn hd0 (by omega) _ HWE.out (by simp only [List.length_append, List.length_singleton]; omega) hse).mono ?_
    rintro e w6 ⟨rfl, h6, k6⟩
    have HWE := Lib.hid h6
    have HKE := Lib.hid (HKE.out.trans k6)
    have hse := Nat.le_trans hse k6.size
    clear h6 k6 x2 x3 x5 f5 b4
    go_wp2_with fail
    refine (wstr_any B b _ _ _ _ _ ⟨#[z]⟩ _ HWE.out (by show _ + 1 ≤ 900000; simp only [List.length_append, List.length_singleton]; omega) hse).mono ?_
    rintro e w7 ⟨rfl, h7, k7⟩
    have HR7 := Lib.hid h7
    have HK7 := Lib.hid (HKE.out.trans k7)
    clear h7 k7
    go_wp2_with fail
    go_end0
    refine ⟨rfl, ?_, HK7.out⟩
    rw [HIF.out]
    have := HR7.out
    simpa only [List.append_assoc, List.singleton_append, List.cons_append, List.nil_append] using this
   ·
    have v1 : decide (0 < t.items.length) = false := decide_eq_false hz
    have v2 : decide ((0 : Int) < (t.items.length : Int)) = false := decide_eq_false (by omega)
    have HIF := Lib.hid (show lnE bn d.toNat t.items.length = [] from if_pos (by omega))
    clear hz
    go_wp2_with fail
    refine (wstr_any B b _ _ _ _ _ ⟨#[z]⟩ _ HWE.out (by show _ + 1 ≤ 900000; simp only [List.length_append, List.length_singleton]; omega) hse).mono ?_
    rintro e w7 ⟨rfl, h7, k7⟩
    have HR7 := Lib.hid h7
    have HK7 := Lib.hid (HKE.out.trans k7)
    clear h7 k7
    go_wp2_with fail
    go_end0
    refine ⟨rfl, ?_, HK7.out⟩
    rw [HIF.out]
    have := HR7.out
    simpa only [List.append_assoc, List.singleton_append, List.cons_append, List.nil_append] using this
end Go.Proofs.YtaeimlfehlbiiaaGreatDoor
namespace Go.Proofs.YtaeimlfehlbiiaaGreatDoor
open Go.RowKit
set_option linter.unusedVariables false
set_option maxRecDepth 100000 in
set_option maxHeartbeats 8000000 in
theorem valueL_at (bn : Nat) (hbn : bn ≤ 8) (n : Nat) : ValueAtL bn n := by
 induction n with
 | zero => intro B b l d t A c A' c' w h; have := t.size_pos; omega
 | succ n ih =>
  intro B b l d t A c A' c' w hsz hn hd0 hd hlen htab hv hw hBw
  have hg := hn.good.here
  have hf := hn.fit.here
  have hbl := hw.lt
  have hB0 : Blk (w.alloc (.cells #[.int .i64 t.kind, .bool t.tr, .int .i64 t.num, .string t.str, .slice A t.items.length c, .slice A' t.keys.length c'] 32)) w.heap.size 32 #[.int .i64 t.kind, .bool t.tr, .int .i64 t.num, .string t.str, .slice A t.items.length c, .slice A' t.keys.length c'] := Blk.new w _ _
  have hbb : Below w.heap.size w (w.alloc (.cells #[.int .i64 t.kind, .bool t.tr, .int .i64 t.num, .string t.str, .slice A t.items.length c, .slice A' t.keys.length c'] 32)) := (Below.refl _ _).alloc (Nat.le_refl _) _
  have HW := Lib.hid (hw.on hbb)
  have HK := Lib.hid (KeptW.of (b := b) hbb hBw)
  have HN := Lib.hid hn
  have HT := Lib.hid (htab.on (hbb.mono hBw))
  have HV := Lib.hid (hv.under (hbb.mono hBw))
  have hs1 := Nat.le_trans hBw hbb.size
  have htx := T.lns_eq bn d.toNat t
  have hk0 := hg.k0
  have hk5 := hg.k5
  have hn0 := hf.n0
  have hn1 := hf.n1
  have hs60 := hf.str
  clear hn htab hv hw hg hf
  rcases (by omega : t.kind = 0 ∨ t.kind = 1 ∨ t.kind = 2 ∨ t.kind = 3 ∨ t.kind = 4 ∨ t.kind = 5) with hk | hk | hk | hk | hk | hk
  ·
   have k1 : (t.kind == 1) = false := by rw [beq_eq_false_iff_ne]; omega
   have k2 : (t.kind == 2) = false := by rw [beq_eq_false_iff_ne]; omega
   have k3 : (t.kind == 3) = false := by rw [beq_eq_false_iff_ne]; omega
   have k4 : (t.kind == 4) = false := by rw [beq_eq_false_iff_ne]; omega
   have k5 : (t.kind == 5) = false := by rw [beq_eq_false_iff_ne]; omega
   have htxt : t.lns bn d.toNat = [110, 117, 108, 108] := by rw [htx]; rw [if_neg (by omega)]; rw [if_neg (by omega)]; rw [if_neg (by omega)]; rw [if_neg (by omega)]; rw [if_neg (by omega)]
   have HX := Lib.hid htxt
   clear htxt
   clear hk htx
   go_enter Tryz.func25, Tryz.ntmps25
   go_upto_region 1 with fail
   change Code.wp _ _ _ _ (w.alloc (.cells #[.int .i64 t.kind, .bool t.tr, .int .i64 t.num, .string t.str, .slice A t.items.length c, .slice A' t.keys.length c'] 32))
   generalize (w.alloc (.cells #[.int .i64 t.kind, .bool t.tr, .int .i64 t.num, .string t.str, .slice A t.items.length c, .slice A' t.keys.length c'] 32)) = W at *
   have HB0 := Lib.hid hB0
   generalize w.heap.size = g at *
   obtain ⟨a0, a1, a2, a3, a4, a5⟩ : W.cell? ⟨g, 0, none⟩ = some (.int .i64 t.kind) ∧ W.cell? ⟨g, 1, none⟩ = some (.bool t.tr) ∧ W.cell? ⟨g, 2, none⟩ = some (.int .i64 t.num) ∧ W.cell? ⟨g, 3, none⟩ = some (.string t.str) ∧ W.cell? ⟨g, 4, none⟩ = some (.slice A t.items.length c) ∧ W.cell? ⟨g, 5, none⟩ = some (.slice A' t.keys.length c') := ⟨HB0.out.cell 0, HB0.out.cell 1, HB0.out.cell 2, HB0.out.cell 3, HB0.out.cell 4, HB0.out.cell 5⟩
   clear hB0 hbb
   go_wp2_with fail
   refine (wstr_any B b l _ _ _ _ ⟨#[110, 117, 108, 108]⟩ _ HW.out (by show l.length + 4 ≤ 900000; omega) hs1).mono ?_
   rintro e w9 ⟨rfl, h9, k9⟩
   have H9 := Lib.hid h9
   have K9 := Lib.hid (HK.out.trans k9)
   clear h9 k9
   go_wp2_with fail
   go_end0
   exact ⟨rfl, by rw [HX.out]; exact H9.out, K9.out⟩
  ·
   have k1 : (t.kind == 1) = true := by rw [beq_iff_eq]; exact hk
   have htxt : t.lns bn d.toNat = if t.tr then [116, 114, 117, 101] else [102, 97, 108, 115, 101] := by rw [htx]; rw [if_pos hk]
   have HX := Lib.hid htxt
   clear htxt
   clear hk htx
   go_enter Tryz.func25, Tryz.ntmps25
   go_upto_region 1 with fail
   change Code.wp _ _ _ _ (w.alloc (.cells #[.int .i64 t.kind, .bool t.tr, .int .i64 t.num, .string t.str, .slice A t.items.length c, .slice A' t.keys.length c'] 32))
   generalize (w.alloc (.cells #[.int .i64 t.kind, .bool t.tr, .int .i64 t.num, .string t.str, .slice A t.items.length c, .slice A' t.keys.length c'] 32)) = W at *
   have HB0 := Lib.hid hB0
   generalize w.heap.size = g at *
   obtain ⟨a0, a1, a2, a3, a4, a5⟩ : W.cell? ⟨g, 0, none⟩ = some (.int .i64 t.kind) ∧ W.cell? ⟨g, 1, none⟩ = some (.bool t.tr) ∧ W.cell? ⟨g, 2, none⟩ = some (.int .i64 t.num) ∧ W.cell? ⟨g, 3, none⟩ = some (.string t.str) ∧ W.cell? ⟨g, 4, none⟩ = some (.slice A t.items.length c) ∧ W.cell? ⟨g, 5, none⟩ = some (.slice A' t.keys.length c') := ⟨HB0.out.cell 0, HB0.out.cell 1, HB0.out.cell 2, HB0.out.cell 3, HB0.out.cell 4, HB0.out.cell 5⟩
   clear hB0 hbb
   go_wp2_with fail
   refine (truth_any7 B b l _ _ _ _ t.tr _ HW.out (by omega) hs1).mono ?_
   rintro e w9 ⟨rfl, h9, k9⟩
   have H9 := Lib.hid h9
   have K9 := Lib.hid (HK.out.trans k9)
   clear h9 k9
   go_wp2_with fail
   go_end0
   exact ⟨rfl, by rw [HX.out]; exact H9.out, K9.out⟩
  ·
   have k1 : (t.kind == 1) = false := by rw [beq_eq_false_iff_ne]; omega
   have k2 : (t.kind == 2) = true := by rw [beq_iff_eq]; exact hk
   have htxt : t.lns bn d.toNat = Lib.itoa t.num := by rw [htx]; rw [if_neg (by omega)]; rw [if_pos hk]
   have HX := Lib.hid htxt
   clear htxt
   clear hk htx
   go_enter Tryz.func25, Tryz.ntmps25
   go_upto_region 1 with fail
   change Code.wp _ _ _ _ (w.alloc (.cells #[.int .i64 t.kind, .bool t.tr, .int .i64 t.num, .string t.str, .slice A t.items.length c, .slice A' t.keys.length c'] 32))
   generalize (w.alloc (.cells #[.int .i64 t.kind, .bool t.tr, .int .i64 t.num, .string t.str, .slice A t.items.length c, .slice A' t.keys.length c'] 32)) = W at *
   have HB0 := Lib.hid hB0
   generalize w.heap.size = g at *
   obtain ⟨a0, a1, a2, a3, a4, a5⟩ : W.cell? ⟨g, 0, none⟩ = some (.int .i64 t.kind) ∧ W.cell? ⟨g, 1, none⟩ = some (.bool t.tr) ∧ W.cell? ⟨g, 2, none⟩ = some (.int .i64 t.num) ∧ W.cell? ⟨g, 3, none⟩ = some (.string t.str) ∧ W.cell? ⟨g, 4, none⟩ = some (.slice A t.items.length c) ∧ W.cell? ⟨g, 5, none⟩ = some (.slice A' t.keys.length c') := ⟨HB0.out.cell 0, HB0.out.cell 1, HB0.out.cell 2, HB0.out.cell 3, HB0.out.cell 4, HB0.out.cell 5⟩
   clear hB0 hbb
   go_wp2_with fail
   refine wp_region_held_drew (S := fun w' => w'.cell? ⟨g, 2, none⟩ = some (.int .i64 t.num)) (by kernel_rfl) ?_ (fun hHeld => ?_)
   · exact a2
   refine wpAnyH_take (i := 0) (v := ?_) rfl (by kernel_rfl) (by kernel_rfl) (by kernel_rfl) (fun _ _ _ h => h) (Or.inl ⟨by rfl, ?_⟩) (by assumption) ?_
   rotate_left
   ·
    intro wq hSw
    try dsimp only at hSw
    go_simp
    try (with_reducible rfl)
   try simp only [Act.put, List.getElem_toArray, List.getElem_cons_zero, List.setIfInBounds_toArray, List.set_cons_zero, List.set_cons_succ]
   refine wpAnyH_take (i := 1) (v := ?_) rfl (by kernel_rfl) (by kernel_rfl) (by kernel_rfl) (fun _ _ _ h => h) (Or.inl ⟨by rfl, ?_⟩) (by assumption) ?_
   rotate_left
   ·
    intro wq hSw
    try dsimp only at hSw
    go_simp
    try (with_reducible rfl)
   try simp only [Act.put, List.getElem_toArray, List.getElem_cons_succ, List.getElem_cons_zero, List.setIfInBounds_toArray, List.set_cons_zero, List.set_cons_succ]
   refine wpAnyH_take (i := 2) (v := ?_) rfl (by kernel_rfl) (by kernel_rfl) (by kernel_rfl) (fun _ _ _ h => h) (Or.inl ⟨by rfl, ?_⟩) (by assumption) ?_
   rotate_left
   ·
    intro wq hSw
    try dsimp only at hSw
    go_simp
    try (with_reducible rfl)
   try simp only [Act.put, List.getElem_toArray, List.getElem_cons_succ, List.getElem_cons_zero, List.setIfInBounds_toArray, List.set_cons_zero, List.set_cons_succ]
   refine wpAnyH_take (i := 3) (v := ?_) rfl (by kernel_rfl) (by kernel_rfl) (by kernel_rfl) (fun _ _ _ h => h) (Or.inl ⟨by rfl, ?_⟩) (by assumption) ?_
   rotate_left
   ·
    intro wq hSw
    try dsimp only at hSw
    go_simp
    try (with_reducible rfl)
   try simp only [Act.put, List.getElem_toArray, List.getElem_cons_succ, List.getElem_cons_zero, List.setIfInBounds_toArray, List.set_cons_zero, List.set_cons_succ]
   refine wpAnyH_take (i := 4) (v := ?_) rfl (by kernel_rfl) (by kernel_rfl) (by kernel_rfl) (fun _ _ _ h => h) (Or.inl ⟨by rfl, ?_⟩) (by assumption) ?_
   rotate_left
   ·
    intro wq hSw
    try dsimp only at hSw
    go_simp
    try (with_reducible rfl)
   try simp only [Act.put, List.getElem_toArray, List.getElem_cons_succ, List.getElem_cons_zero, List.setIfInBounds_toArray, List.set_cons_zero, List.set_cons_succ]
   refine wpAnyH_ready (rs := [5]) (by kernel_rfl) (by simp) ?_
   refine AllReadyH.cons rfl (fun K0 hK => ?_) ?_
   rotate_left
   · exact AllReadyH.nil
   go_simp
   refine (wtext_any t.num _ hn0 hn1 (HT.out.on (Below.refl B W).drew).2).mono ?_
   rintro e w2 ⟨rfl, hb2⟩
   have hb3 : Below W.heap.size W w2 := (Below.refl W.heap.size W).drew.trans hb2
   have HW2 := Lib.hid (HW.out.on hb3)
   have HK2 := Lib.hid (HK.out.trans (KeptW.of (b := b) hb3 hs1))
   have hs2 := Nat.le_trans hs1 hb3.size
   have q2 : w2.cell? ⟨g, 2, none⟩ = some (.int .i64 t.num) := (HB0.out.onto hb3).cell 2
   have hnl := De.itoa_len (n := t.num) ⟨hn0, hn1⟩
   have HB2 := Lib.hid (HB0.out.onto hb3)
   have hgb : g ≠ b := by omega
   clear hb2 hb3
   go_wp2_with fail
   refine hK.out _ _ ?_ (fun hHeld => ?_)
   · exact q2
   clear hK K0
   try simp only [Act.put, List.getElem_toArray, List.getElem_cons_succ, List.getElem_cons_zero, List.setIfInBounds_toArray, List.set_cons_zero, List.set_cons_succ]
   refine wpAnyH_ready (rs := [6]) (by kernel_rfl) (by simp) ?_
   refine AllReadyH.cons rfl (fun K0 hK => ?_) ?_
   rotate_left
   · exact AllReadyH.nil
   go_simp
   refine (wstr_any B b l _ _ _ _ ⟨(Lib.itoa t.num).toArray⟩ _ HW2.out (by show l.length + (Lib.itoa t.num).toArray.size ≤ 900000; simp; omega) hs2).mono ?_
   rintro e w9 ⟨rfl, h9, k9⟩
   have H9 := Lib.hid (show Wr B b (l ++ Lib.itoa t.num) _ _ _ _ w9 from h9)
   have K9 := Lib.hid (HK2.out.trans k9)
   have q9 : w9.cell? ⟨g, 2, none⟩ = some (.int .i64 t.num) := (k9.blk (show Blk w2 g 32 #[.int .i64 t.kind, .bool t.tr, .int .i64 t.num, .string t.str, .slice A t.items.length c, .slice A' t.keys.length c'] from HB2.out) hgb (by decide)).cell 2
   clear h9 k9
   go_wp2_with fail
   refine hK.out _ _ ?_ (fun hHeld => ?_)
   · exact q9
   clear hK K0
   try simp only [Act.put, List.getElem_toArray, List.getElem_cons_succ, List.getElem_cons_zero, List.setIfInBounds_toArray, List.set_cons_zero, List.set_cons_succ]
   refine wpAnyH_done (by kernel_rfl) ?_ _
   go_wp2_with fail
   go_end0
   exact ⟨rfl, by rw [HX.out]; exact H9.out, K9.out⟩
  ·
   have k1 : (t.kind == 1) = false := by rw [beq_eq_false_iff_ne]; omega
   have k2 : (t.kind == 2) = false := by rw [beq_eq_false_iff_ne]; omega
   have k3 : (t.kind == 3) = true := by rw [beq_iff_eq]; exact hk
   have htxt : t.lns bn d.toNat = Q.quo t.str.data.toList := by rw [htx]; rw [if_neg (by omega)]; rw [if_neg (by omega)]; rw [if_pos hk, ByteArray.toList_eq]
   have HX := Lib.hid htxt
   clear htxt
   clear hk htx
   go_enter Tryz.func25, Tryz.ntmps25
   go_upto_region 1 with fail
   change Code.wp _ _ _ _ (w.alloc (.cells #[.int .i64 t.kind, .bool t.tr, .int .i64 t.num, .string t.str, .slice A t.items.length c, .slice A' t.keys.length c'] 32))
   generalize (w.alloc (.cells #[.int .i64 t.kind, .bool t.tr, .int .i64 t.num, .string t.str, .slice A t.items.length c, .slice A' t.keys.length c'] 32)) = W at *
   have HB0 := Lib.hid hB0
   generalize w.heap.size = g at *
   obtain ⟨a0, a1, a2, a3, a4, a5⟩ : W.cell? ⟨g, 0, none⟩ = some (.int .i64 t.kind) ∧ W.cell? ⟨g, 1, none⟩ = some (.bool t.tr) ∧ W.cell? ⟨g, 2, none⟩ = some (.int .i64 t.num) ∧ W.cell? ⟨g, 3, none⟩ = some (.string t.str) ∧ W.cell? ⟨g, 4, none⟩ = some (.slice A t.items.length c) ∧ W.cell? ⟨g, 5, none⟩ = some (.slice A' t.keys.length c') := ⟨HB0.out.cell 0, HB0.out.cell 1, HB0.out.cell 2, HB0.out.cell 3, HB0.out.cell 4, HB0.out.cell 5⟩
   clear hB0 hbb
   go_wp2_with fail
   refine (quote_any7 B b l _ _ _ _ t.str _ HW.out (by omega) (by omega) hs1).mono ?_
   rintro e w9 ⟨rfl, h9, k9⟩
   have H9 := Lib.hid h9
   have K9 := Lib.hid (HK.out.trans k9)
   clear h9 k9
   go_wp2_with fail
   go_end0
   exact ⟨rfl, by rw [HX.out]; exact H9.out, K9.out⟩
  ·
   have k1 : (t.kind == 1) = false := by rw [beq_eq_false_iff_ne]; omega
   have k2 : (t.kind == 2) = false := by rw [beq_eq_false_iff_ne]; omega
   have k3 : (t.kind == 3) = false := by rw [beq_eq_false_iff_ne]; omega
   have k4 : (t.kind == 4) = true := by rw [beq_iff_eq]; exact hk
   have htxt : t.lns bn d.toNat = 91 :: (T.lnss bn t.keys t.items 0 (d.toNat + 1) ++ (lnE bn d.toNat t.items.length ++ [93])) := by rw [htx]; rw [if_neg (by omega)]; rw [if_neg (by omega)]; rw [if_neg (by omega)]; rw [if_pos hk]; rfl
   have HX := Lib.hid htxt
   clear htxt
   clear hk htx
   go_enter Tryz.func25, Tryz.ntmps25
   go_upto_region 1 with fail
   change Code.wp _ _ _ _ (w.alloc (.cells #[.int .i64 t.kind, .bool t.tr, .int .i64 t.num, .string t.str, .slice A t.items.length c, .slice A' t.keys.length c'] 32))
   generalize (w.alloc (.cells #[.int .i64 t.kind, .bool t.tr, .int .i64 t.num, .string t.str, .slice A t.items.length c, .slice A' t.keys.length c'] 32)) = W at *
   have HB0 := Lib.hid hB0
   generalize w.heap.size = g at *
   obtain ⟨a0, a1, a2, a3, a4, a5⟩ : W.cell? ⟨g, 0, none⟩ = some (.int .i64 t.kind) ∧ W.cell? ⟨g, 1, none⟩ = some (.bool t.tr) ∧ W.cell? ⟨g, 2, none⟩ = some (.int .i64 t.num) ∧ W.cell? ⟨g, 3, none⟩ = some (.string t.str) ∧ W.cell? ⟨g, 4, none⟩ = some (.slice A t.items.length c) ∧ W.cell? ⟨g, 5, none⟩ = some (.slice A' t.keys.length c') := ⟨HB0.out.cell 0, HB0.out.cell 1, HB0.out.cell 2, HB0.out.cell 3, HB0.out.cell 4, HB0.out.cell 5⟩
   clear hB0 hbb
   go_wp2_with fail
   refine (thingsL_at bn hbn n ih B b l 91 93 d t A c A' c' _ hsz HN.out hd0 hd hlen HT.out HV.out HW.out hs1).mono ?_
   rintro e w9 ⟨rfl, h9, k9⟩
   have H9 := Lib.hid h9
   have K9 := Lib.hid (HK.out.trans k9)
   clear h9 k9
   go_wp2_with fail
   go_end0
   exact ⟨rfl, by rw [HX.out]; exact H9.out, K9.out⟩
  ·
   have k1 : (t.kind == 1) = false := by rw [beq_eq_false_iff_ne]; omega
   have k2 : (t.kind == 2) = false := by rw [beq_eq_false_iff_ne]; omega
   have k3 : (t.kind == 3) = false := by rw [beq_eq_false_iff_ne]; omega
   have k4 : (t.kind == 4) = false := by rw [beq_eq_false_iff_ne]; omega
   have k5 : (t.kind == 5) = true := by rw [beq_iff_eq]; exact hk
   have htxt : t.lns bn d.toNat = 123 :: (T.lnss bn t.keys t.items 0 (d.toNat + 1) ++ (lnE bn d.toNat t.items.length ++ [125])) := by rw [htx]; rw [if_neg (by omega)]; rw [if_neg (by omega)]; rw [if_neg (by omega)]; rw [if_neg (by omega)]; rw [if_pos hk]; rfl
   have HX := Lib.hid htxt
   clear htxt
   clear hk htx
   go_enter Tryz.func25, Tryz.ntmps25
   go_upto_region 1 with fail
   change Code.wp _ _ _ _ (w.alloc (.cells #[.int .i64 t.kind, .bool t.tr, .int .i64 t.num, .string t.str, .slice A t.items.length c, .slice A' t.keys.length c'] 32))
   generalize (w.alloc (.cells #[.int .i64 t.kind, .bool t.tr, .int .i64 t.num, .string t.str, .slice A t.items.length c, .slice A' t.keys.length c'] 32)) = W at *
   have HB0 := Lib.hid hB0
   generalize w.heap.size = g at *
   obtain ⟨a0, a1, a2, a3, a4, a5⟩ : W.cell? ⟨g, 0, none⟩ = some (.int .i64 t.kind) ∧ W.cell? ⟨g, 1, none⟩ = some (.bool t.tr) ∧ W.cell? ⟨g, 2, none⟩ = some (.int .i64 t.num) ∧ W.cell? ⟨g, 3, none⟩ = some (.string t.str) ∧ W.cell? ⟨g, 4, none⟩ = some (.slice A t.items.length c) ∧ W.cell? ⟨g, 5, none⟩ = some (.slice A' t.keys.length c') := ⟨HB0.out.cell 0, HB0.out.cell 1, HB0.out.cell 2, HB0.out.cell 3, HB0.out.cell 4, HB0.out.cell 5⟩
   clear hB0 hbb
   go_wp2_with fail
   refine (thingsL_at bn hbn n ih B b l 123 125 d t A c A' c' _ hsz HN.out hd0 hd hlen HT.out HV.out HW.out hs1).mono ?_
   rintro e w9 ⟨rfl, h9, k9⟩
   have H9 := Lib.hid h9
   have K9 := Lib.hid (HK.out.trans k9)
   clear h9 k9
   go_wp2_with fail
   go_end0
   exact ⟨rfl, by rw [HX.out]; exact H9.out, K9.out⟩
end Go.Proofs.YtaeimlfehlbiiaaGreatDoor
