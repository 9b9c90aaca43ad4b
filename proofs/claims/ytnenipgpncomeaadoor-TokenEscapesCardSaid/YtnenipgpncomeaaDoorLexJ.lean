/- The lexer's reader of a word: its contract. -/
import Derived.Test.YtnenipgpncomeaaDoorLexH
import Derived.Laws.BytesArg
namespace Go.Proofs.YtnenipgpncomeaaDoor
open Go.RowKit
open Tk
set_option linter.unusedVariables false

theorem wordE_stop {s : ByteArray} {c : Nat} {r : List Nat} {i : Nat} (h : bt s i ≠ c) : wordE s (c :: r) i = i := by unfold wordE; rw [if_neg h]
theorem wordE_go {s : ByteArray} {c : Nat} {r : List Nat} {i : Nat} (h : bt s i = c) : wordE s (c :: r) i = wordE s r (i + 1) := by rw [wordE, if_pos h]
theorem word_ok {s : ByteArray} {a : Nat} {L : List Nat} {k : Int} (h1 : wordOf (bt s a) = L) (h2 : kindOf (bt s a) = k) (h : wordE s L a = a + L.length) : wordAns s a = .tok ⟨k, nix, 0, a, a + L.length⟩ := by unfold wordAns; rw [h1, h2, if_pos h]
theorem word_no {s : ByteArray} {a : Nat} {L : List Nat} (h1 : wordOf (bt s a) = L) {p : Nat} (h : wordE s L a = p) (hp : p < a + L.length) : wordAns s a = .err p 1 := by unfold wordAns; rw [h1, h, if_neg (by omega)]
theorem drop_at (L : List Nat) (k : Nat) (h : k < L.length) : L.drop k = L.getD k 0 :: L.drop (k + 1) := by
  rw [List.drop_eq_getElem_cons h, List.getD_eq_getElem?_getD, List.getElem?_eq_getElem h]; rfl
def wt : List Nat := [116, 114, 117, 101]
def wf : List Nat := [102, 97, 108, 115, 101]
def wn : List Nat := [110, 117, 108, 108]
theorem word_bd (L : List Nat) (h : L = wt ∨ L = wf ∨ L = wn) (k : Nat) (hk : k < L.length) : 0 < L.getD k 0 ∧ L.getD k 0 < 256 := by
  rcases h with rfl | rfl | rfl
  · rcases (by simp [wt] at hk; omega : k = 0 ∨ k = 1 ∨ k = 2 ∨ k = 3) with rfl | rfl | rfl | rfl <;> decide
  · rcases (by simp [wf] at hk; omega : k = 0 ∨ k = 1 ∨ k = 2 ∨ k = 3 ∨ k = 4) with rfl | rfl | rfl | rfl | rfl <;> decide
  · rcases (by simp [wn] at hk; omega : k = 0 ∨ k = 1 ∨ k = 2 ∨ k = 3) with rfl | rfl | rfl | rfl <;> decide
set_option maxRecDepth 100000 in
set_option maxHeartbeats 4000000 in
theorem word_t (b : Nat) (s : ByteArray) (a : Nat) (w : World) (hs : s.size ≤ 90000) (hc : w.cell? ⟨b, 0, none⟩ = some (.string s)) (ha : a < s.size) (hk : bt s a = 116) : Calls Tryd.prog 29 #[.pointer (some ⟨b, 0, none⟩), .int .i64 a] w fun e w' => e = .returned (wordAns s a).val ∧ Below w.heap.size w w' := by
  have hb := cell_lt5 hc
  have hx := bt_at s a ha
  have HO := Lib.hid (fun h => word_ok (s := s) (a := a) (L := wt) (k := 4) (by rw [hk]; rfl) (by rw [hk]; rfl) h)
  have HN := Lib.hid (fun p h hp => word_no (s := s) (a := a) (L := wt) (by rw [hk]; rfl) (p := p) h hp)
  have HL := Lib.hid (word_bd wt (by simp))
  have HD := Lib.hid (drop_at wt)
  have hn : wt.length = 4 := rfl
  have i1 : (a : Int) < (s.size : Int) := by omega
  have i2 : (0 : Int) ≤ (a : Int) := by omega
  have v : (s[a].toNat : Int) = 116 := by omega
  have v0 : ((s[a].toNat : Int) == 116) = true := beq_iff_eq.2 v
  generalize hres : wordAns s a = res at *
  clear hx hres hk
  go_enter Tryd.func29, Tryd.ntmps29
  go_upto_region 8 with fail
  have hB : Blk (w.alloc (.cells #[.int .i64 0, .string ⟨#[]⟩, .int .i64 0, .int .i64 0, .int .i64 0] 28)) w.heap.size 28 #[.int .i64 0, .string ⟨#[]⟩, .int .i64 0, .int .i64 0, .int .i64 0] := Blk.new w _ _
  have hW : Below w.heap.size w (w.alloc (.cells #[.int .i64 0, .string ⟨#[]⟩, .int .i64 0, .int .i64 0, .int .i64 0] 28)) := (Below.refl _ _).alloc (Nat.le_refl _) _
  change Code.wp _ _ _ _ (w.alloc (.cells #[.int .i64 0, .string ⟨#[]⟩, .int .i64 0, .int .i64 0, .int .i64 0] 28))
  generalize (w.alloc (.cells #[.int .i64 0, .string ⟨#[]⟩, .int .i64 0, .int .i64 0, .int .i64 0] 28)) = W at *
  have hcv := Lib.run_convert_string_bytes (P := Tryd.prog) W 9 49 5 (⟨#[116, 114, 117, 101]⟩ : ByteArray) (u := .string) Tryd.underlying9 Tryd.underlying49 Tryd.underlying5
  have hbc : ∀ k, k < wt.length → (Lib.bytesWorld W 5 (⟨#[116, 114, 117, 101]⟩ : ByteArray)).cell? ⟨W.heap.size, k, none⟩ = some (.int .u8 (wt.getD k 0 : Nat)) := fun k hk => by
    rw [Lib.bytesWorld_cell W 5 (⟨#[116, 114, 117, 101]⟩ : ByteArray) k (show k < 4 by rw [hn] at hk; exact hk)]
    have : ((⟨#[116, 114, 117, 101]⟩ : ByteArray).data.toList.getD k 0).toNat = wt.getD k 0 := by
      rw [hn] at hk
      rcases (by omega : k = 0 ∨ k = 1 ∨ k = 2 ∨ k = 3) with rfl | rfl | rfl | rfl <;> rfl
    rw [this]
  have hB1 := hB.onto (Lib.bytesWorld_below W 5 (⟨#[116, 114, 117, 101]⟩ : ByteArray))
  have hW1 := hW.trans ((Lib.bytesWorld_below W 5 (⟨#[116, 114, 117, 101]⟩ : ByteArray)).mono hW.size)
  have hsz : (⟨#[116, 114, 117, 101]⟩ : ByteArray).size = 4 := rfl
  rw [hsz] at hcv
  generalize grownCap W 4 0 5 = cap at hcv
  generalize Lib.bytesWorld W 5 (⟨#[116, 114, 117, 101]⟩ : ByteArray) = W1 at *
  generalize W.heap.size = G at *
  have hc1 : W1.cell? ⟨b, 0, none⟩ = some (.string s) := (hW1.cell (p := ⟨b, 0, none⟩) hb).trans hc
  have HW := Lib.hid hW1
  have HC := Lib.hid hbc
  have c0 := hB1.cell 0
  have c1 := hB1.cell 1
  have c2 := hB1.cell 2
  have c3 := hB1.cell 3
  have c4 := hB1.cell 4
  have f0 := hB1.free 0
  have f1 := hB1.free 1
  have f2 := hB1.free 2
  have f3 := hB1.free 3
  have f4 := hB1.free 4
  clear hW hW1 hB hB1 hbc hsz hc
  go_wp2_with fail
  go_loop [9, 26] (fun x y => ∃ k : Nat, k ≤ 4 ∧ a + k ≤ s.size ∧ wordE s wt a = wordE s (wt.drop k) (a + k) ∧ x = .int .i64 (a + k : Nat) ∧ y = .int .i64 k) (fun x y => 4 - (intOf y).toNat)
  case atStart => exact ⟨0, by omega, by omega, rfl, rfl, rfl⟩
  case round =>
    obtain ⟨k, h1, h2, h3, rfl, rfl⟩ := hrel
    have H3 := Lib.hid h3
    clear h3
    by_cases hlt : k < 4
    · have t1 : (k : Int) < 4 := by omega
      have t2 : decide ((k : Int) < 4) = true := decide_eq_true t1
      have t3 : (0 : Int) ≤ (k : Int) := by omega
      have hck := HC.out k (by rw [hn]; exact hlt)
      have hdr := HD.out k (by rw [hn]; exact hlt)
      have hbd := HL.out k (by rw [hn]; exact hlt)
      generalize wt.getD k 0 = ch at *
      have HDR := Lib.hid hdr
      clear hdr
      generalize hq : a + k = q at *
      have i3 : (0 : Int) ≤ (q : Int) := by omega
      by_cases hqs : q < s.size
      · have u1 : (q : Int) < (s.size : Int) := by omega
        have u2 : ((q : Int) == (s.size : Int)) = false := by rw [beq_eq_false_iff_ne]; omega
        have u3 : ¬ (q : Int) = (s.size : Int) := by omega
        have hy := bt_at s q hqs
        by_cases hh : bt s q = ch
        · have v1 : (s[q].toNat : Int) = (ch : Int) := by omega
          have v2 : ((s[q].toNat : Int) != (ch : Int)) = false := by simp [v1]
          have HG := Lib.hid (show wordE s wt a = wordE s (wt.drop (k + 1)) (q + 1) by rw [H3.out, HDR.out, wordE_go hh])
          clear hy hh
          go_wp2_with fail
          go_round
          case rel => exact ⟨k + 1, hlt, by omega, by rw [HG.out]; congr 1; omega, by go_num, by go_num⟩
          case measure => simp [intOf]; omega
        · have v1 : ¬ (s[q].toNat : Int) = (ch : Int) := by omega
          have v2 : ((s[q].toNat : Int) != (ch : Int)) = true := by simp [v1]
          have HE := Lib.hid (HN.out q (by rw [H3.out, HDR.out, wordE_stop hh]) (by rw [hn]; omega))
          clear hy hh
          go_wp2_with fail
          refine bodyPost_ret (v := (Ans.err q 1).val) (by simp [results, Tryd.results29, go_sem, Ans.val, c0, c1, c2, c3, c4]) rfl ⟨by rw [HE.out], ?_⟩
          exact below_put5 HW.out (Nat.le_refl _) _ _ _ _ _
      · obtain rfl : q = s.size := by omega
        have u2 : ((s.size : Int) == (s.size : Int)) = true := by simp
        have HE := Lib.hid (HN.out s.size (by rw [H3.out, HDR.out, wordE_stop (by rw [bt_end (Nat.le_refl _)]; omega)]) (by rw [hn]; omega))
        go_wp2_with fail
        refine bodyPost_ret (v := (Ans.err s.size 1).val) (by simp [results, Tryd.results29, go_sem, Ans.val, c0, c1, c2, c3, c4]) rfl ⟨by rw [HE.out], ?_⟩
        exact below_put5 HW.out (Nat.le_refl _) _ _ _ _ _
    · obtain rfl : k = 4 := by omega
      have HE := Lib.hid (show res = Ans.tok ⟨4, nix, 0, a, a + 4⟩ from HO.out (by rw [H3.out]; rfl))
      go_wp2_with fail
      refine bodyPost_ret (v := (Ans.tok ⟨4, nix, 0, a, a + 4⟩).val) (by simp [results, Tryd.results29, go_sem, Ans.val, nix, c0, c1, c2, c3, c4]) rfl ⟨by rw [HE.out], ?_⟩
      exact below_put5 HW.out (Nat.le_refl _) _ _ _ _ _
set_option maxRecDepth 100000 in
set_option maxHeartbeats 4000000 in
theorem word_f (b : Nat) (s : ByteArray) (a : Nat) (w : World) (hs : s.size ≤ 90000) (hc : w.cell? ⟨b, 0, none⟩ = some (.string s)) (ha : a < s.size) (hk : bt s a = 102) : Calls Tryd.prog 29 #[.pointer (some ⟨b, 0, none⟩), .int .i64 a] w fun e w' => e = .returned (wordAns s a).val ∧ Below w.heap.size w w' := by
  have hb := cell_lt5 hc
  have hx := bt_at s a ha
  have HO := Lib.hid (fun h => word_ok (s := s) (a := a) (L := wf) (k := 5) (by rw [hk]; rfl) (by rw [hk]; rfl) h)
  have HN := Lib.hid (fun p h hp => word_no (s := s) (a := a) (L := wf) (by rw [hk]; rfl) (p := p) h hp)
  have HL := Lib.hid (word_bd wf (by simp))
  have HD := Lib.hid (drop_at wf)
  have hn : wf.length = 5 := rfl
  have i1 : (a : Int) < (s.size : Int) := by omega
  have i2 : (0 : Int) ≤ (a : Int) := by omega
  have v : (s[a].toNat : Int) = 102 := by omega
  have v0 : ((s[a].toNat : Int) == 116) = false := by rw [v]; rfl
  have v9 : ((s[a].toNat : Int) == 102) = true := beq_iff_eq.2 v
  generalize hres : wordAns s a = res at *
  clear hx hres hk
  go_enter Tryd.func29, Tryd.ntmps29
  go_upto_region 8 with fail
  have hB : Blk (w.alloc (.cells #[.int .i64 0, .string ⟨#[]⟩, .int .i64 0, .int .i64 0, .int .i64 0] 28)) w.heap.size 28 #[.int .i64 0, .string ⟨#[]⟩, .int .i64 0, .int .i64 0, .int .i64 0] := Blk.new w _ _
  have hW : Below w.heap.size w (w.alloc (.cells #[.int .i64 0, .string ⟨#[]⟩, .int .i64 0, .int .i64 0, .int .i64 0] 28)) := (Below.refl _ _).alloc (Nat.le_refl _) _
  change Code.wp _ _ _ _ (w.alloc (.cells #[.int .i64 0, .string ⟨#[]⟩, .int .i64 0, .int .i64 0, .int .i64 0] 28))
  generalize (w.alloc (.cells #[.int .i64 0, .string ⟨#[]⟩, .int .i64 0, .int .i64 0, .int .i64 0] 28)) = W at *
  have hcv := Lib.run_convert_string_bytes (P := Tryd.prog) W 9 49 5 (⟨#[102, 97, 108, 115, 101]⟩ : ByteArray) (u := .string) Tryd.underlying9 Tryd.underlying49 Tryd.underlying5
  have hbc : ∀ k, k < wf.length → (Lib.bytesWorld W 5 (⟨#[102, 97, 108, 115, 101]⟩ : ByteArray)).cell? ⟨W.heap.size, k, none⟩ = some (.int .u8 (wf.getD k 0 : Nat)) := fun k hk => by
    rw [Lib.bytesWorld_cell W 5 (⟨#[102, 97, 108, 115, 101]⟩ : ByteArray) k (show k < 5 by rw [hn] at hk; exact hk)]
    have : ((⟨#[102, 97, 108, 115, 101]⟩ : ByteArray).data.toList.getD k 0).toNat = wf.getD k 0 := by
      rw [hn] at hk
      rcases (by omega : k = 0 ∨ k = 1 ∨ k = 2 ∨ k = 3 ∨ k = 4) with rfl | rfl | rfl | rfl | rfl <;> rfl
    rw [this]
  have hB1 := hB.onto (Lib.bytesWorld_below W 5 (⟨#[102, 97, 108, 115, 101]⟩ : ByteArray))
  have hW1 := hW.trans ((Lib.bytesWorld_below W 5 (⟨#[102, 97, 108, 115, 101]⟩ : ByteArray)).mono hW.size)
  have hsz : (⟨#[102, 97, 108, 115, 101]⟩ : ByteArray).size = 5 := rfl
  rw [hsz] at hcv
  generalize grownCap W 5 0 5 = cap at hcv
  generalize Lib.bytesWorld W 5 (⟨#[102, 97, 108, 115, 101]⟩ : ByteArray) = W1 at *
  generalize W.heap.size = G at *
  have hc1 : W1.cell? ⟨b, 0, none⟩ = some (.string s) := (hW1.cell (p := ⟨b, 0, none⟩) hb).trans hc
  have HW := Lib.hid hW1
  have HC := Lib.hid hbc
  have c0 := hB1.cell 0
  have c1 := hB1.cell 1
  have c2 := hB1.cell 2
  have c3 := hB1.cell 3
  have c4 := hB1.cell 4
  have f0 := hB1.free 0
  have f1 := hB1.free 1
  have f2 := hB1.free 2
  have f3 := hB1.free 3
  have f4 := hB1.free 4
  clear hW hW1 hB hB1 hbc hsz hc
  go_wp2_with fail
  go_loop [9, 26] (fun x y => ∃ k : Nat, k ≤ 5 ∧ a + k ≤ s.size ∧ wordE s wf a = wordE s (wf.drop k) (a + k) ∧ x = .int .i64 (a + k : Nat) ∧ y = .int .i64 k) (fun x y => 5 - (intOf y).toNat)
  case atStart => exact ⟨0, by omega, by omega, rfl, rfl, rfl⟩
  case round =>
    obtain ⟨k, h1, h2, h3, rfl, rfl⟩ := hrel
    have H3 := Lib.hid h3
    clear h3
    by_cases hlt : k < 5
    · have t1 : (k : Int) < 5 := by omega
      have t2 : decide ((k : Int) < 5) = true := decide_eq_true t1
      have t3 : (0 : Int) ≤ (k : Int) := by omega
      have hck := HC.out k (by rw [hn]; exact hlt)
      have hdr := HD.out k (by rw [hn]; exact hlt)
      have hbd := HL.out k (by rw [hn]; exact hlt)
      generalize wf.getD k 0 = ch at *
      have HDR := Lib.hid hdr
      clear hdr
      generalize hq : a + k = q at *
      have i3 : (0 : Int) ≤ (q : Int) := by omega
      by_cases hqs : q < s.size
      · have u1 : (q : Int) < (s.size : Int) := by omega
        have u2 : ((q : Int) == (s.size : Int)) = false := by rw [beq_eq_false_iff_ne]; omega
        have u3 : ¬ (q : Int) = (s.size : Int) := by omega
        have hy := bt_at s q hqs
        by_cases hh : bt s q = ch
        · have v1 : (s[q].toNat : Int) = (ch : Int) := by omega
          have v2 : ((s[q].toNat : Int) != (ch : Int)) = false := by simp [v1]
          have HG := Lib.hid (show wordE s wf a = wordE s (wf.drop (k + 1)) (q + 1) by rw [H3.out, HDR.out, wordE_go hh])
          clear hy hh
          go_wp2_with fail
          go_round
          case rel => exact ⟨k + 1, hlt, by omega, by rw [HG.out]; congr 1; omega, by go_num, by go_num⟩
          case measure => simp [intOf]; omega
        · have v1 : ¬ (s[q].toNat : Int) = (ch : Int) := by omega
          have v2 : ((s[q].toNat : Int) != (ch : Int)) = true := by simp [v1]
          have HE := Lib.hid (HN.out q (by rw [H3.out, HDR.out, wordE_stop hh]) (by rw [hn]; omega))
          clear hy hh
          go_wp2_with fail
          refine bodyPost_ret (v := (Ans.err q 1).val) (by simp [results, Tryd.results29, go_sem, Ans.val, c0, c1, c2, c3, c4]) rfl ⟨by rw [HE.out], ?_⟩
          exact below_put5 HW.out (Nat.le_refl _) _ _ _ _ _
      · obtain rfl : q = s.size := by omega
        have u2 : ((s.size : Int) == (s.size : Int)) = true := by simp
        have HE := Lib.hid (HN.out s.size (by rw [H3.out, HDR.out, wordE_stop (by rw [bt_end (Nat.le_refl _)]; omega)]) (by rw [hn]; omega))
        go_wp2_with fail
        refine bodyPost_ret (v := (Ans.err s.size 1).val) (by simp [results, Tryd.results29, go_sem, Ans.val, c0, c1, c2, c3, c4]) rfl ⟨by rw [HE.out], ?_⟩
        exact below_put5 HW.out (Nat.le_refl _) _ _ _ _ _
    · obtain rfl : k = 5 := by omega
      have HE := Lib.hid (show res = Ans.tok ⟨5, nix, 0, a, a + 5⟩ from HO.out (by rw [H3.out]; rfl))
      go_wp2_with fail
      refine bodyPost_ret (v := (Ans.tok ⟨5, nix, 0, a, a + 5⟩).val) (by simp [results, Tryd.results29, go_sem, Ans.val, nix, c0, c1, c2, c3, c4]) rfl ⟨by rw [HE.out], ?_⟩
      exact below_put5 HW.out (Nat.le_refl _) _ _ _ _ _
set_option maxRecDepth 100000 in
set_option maxHeartbeats 4000000 in
theorem word_n (b : Nat) (s : ByteArray) (a : Nat) (w : World) (hs : s.size ≤ 90000) (hc : w.cell? ⟨b, 0, none⟩ = some (.string s)) (ha : a < s.size) (hk : bt s a = 110) : Calls Tryd.prog 29 #[.pointer (some ⟨b, 0, none⟩), .int .i64 a] w fun e w' => e = .returned (wordAns s a).val ∧ Below w.heap.size w w' := by
  have hb := cell_lt5 hc
  have hx := bt_at s a ha
  have HO := Lib.hid (fun h => word_ok (s := s) (a := a) (L := wn) (k := 6) (by rw [hk]; rfl) (by rw [hk]; rfl) h)
  have HN := Lib.hid (fun p h hp => word_no (s := s) (a := a) (L := wn) (by rw [hk]; rfl) (p := p) h hp)
  have HL := Lib.hid (word_bd wn (by simp))
  have HD := Lib.hid (drop_at wn)
  have hn : wn.length = 4 := rfl
  have i1 : (a : Int) < (s.size : Int) := by omega
  have i2 : (0 : Int) ≤ (a : Int) := by omega
  have v : (s[a].toNat : Int) = 110 := by omega
  have v0 : ((s[a].toNat : Int) == 116) = false := by rw [v]; rfl
  have v9 : ((s[a].toNat : Int) == 102) = false := by rw [v]; rfl
  generalize hres : wordAns s a = res at *
  clear hx hres hk
  go_enter Tryd.func29, Tryd.ntmps29
  go_upto_region 8 with fail
  have hB : Blk (w.alloc (.cells #[.int .i64 0, .string ⟨#[]⟩, .int .i64 0, .int .i64 0, .int .i64 0] 28)) w.heap.size 28 #[.int .i64 0, .string ⟨#[]⟩, .int .i64 0, .int .i64 0, .int .i64 0] := Blk.new w _ _
  have hW : Below w.heap.size w (w.alloc (.cells #[.int .i64 0, .string ⟨#[]⟩, .int .i64 0, .int .i64 0, .int .i64 0] 28)) := (Below.refl _ _).alloc (Nat.le_refl _) _
  change Code.wp _ _ _ _ (w.alloc (.cells #[.int .i64 0, .string ⟨#[]⟩, .int .i64 0, .int .i64 0, .int .i64 0] 28))
  generalize (w.alloc (.cells #[.int .i64 0, .string ⟨#[]⟩, .int .i64 0, .int .i64 0, .int .i64 0] 28)) = W at *
  have hcv := Lib.run_convert_string_bytes (P := Tryd.prog) W 9 49 5 (⟨#[110, 117, 108, 108]⟩ : ByteArray) (u := .string) Tryd.underlying9 Tryd.underlying49 Tryd.underlying5
  have hbc : ∀ k, k < wn.length → (Lib.bytesWorld W 5 (⟨#[110, 117, 108, 108]⟩ : ByteArray)).cell? ⟨W.heap.size, k, none⟩ = some (.int .u8 (wn.getD k 0 : Nat)) := fun k hk => by
    rw [Lib.bytesWorld_cell W 5 (⟨#[110, 117, 108, 108]⟩ : ByteArray) k (show k < 4 by rw [hn] at hk; exact hk)]
    have : ((⟨#[110, 117, 108, 108]⟩ : ByteArray).data.toList.getD k 0).toNat = wn.getD k 0 := by
      rw [hn] at hk
      rcases (by omega : k = 0 ∨ k = 1 ∨ k = 2 ∨ k = 3) with rfl | rfl | rfl | rfl <;> rfl
    rw [this]
  have hB1 := hB.onto (Lib.bytesWorld_below W 5 (⟨#[110, 117, 108, 108]⟩ : ByteArray))
  have hW1 := hW.trans ((Lib.bytesWorld_below W 5 (⟨#[110, 117, 108, 108]⟩ : ByteArray)).mono hW.size)
  have hsz : (⟨#[110, 117, 108, 108]⟩ : ByteArray).size = 4 := rfl
  rw [hsz] at hcv
  generalize grownCap W 4 0 5 = cap at hcv
  generalize Lib.bytesWorld W 5 (⟨#[110, 117, 108, 108]⟩ : ByteArray) = W1 at *
  generalize W.heap.size = G at *
  have hc1 : W1.cell? ⟨b, 0, none⟩ = some (.string s) := (hW1.cell (p := ⟨b, 0, none⟩) hb).trans hc
  have HW := Lib.hid hW1
  have HC := Lib.hid hbc
  have c0 := hB1.cell 0
  have c1 := hB1.cell 1
  have c2 := hB1.cell 2
  have c3 := hB1.cell 3
  have c4 := hB1.cell 4
  have f0 := hB1.free 0
  have f1 := hB1.free 1
  have f2 := hB1.free 2
  have f3 := hB1.free 3
  have f4 := hB1.free 4
  clear hW hW1 hB hB1 hbc hsz hc
  go_wp2_with fail
  go_loop [9, 26] (fun x y => ∃ k : Nat, k ≤ 4 ∧ a + k ≤ s.size ∧ wordE s wn a = wordE s (wn.drop k) (a + k) ∧ x = .int .i64 (a + k : Nat) ∧ y = .int .i64 k) (fun x y => 4 - (intOf y).toNat)
  case atStart => exact ⟨0, by omega, by omega, rfl, rfl, rfl⟩
  case round =>
    obtain ⟨k, h1, h2, h3, rfl, rfl⟩ := hrel
    have H3 := Lib.hid h3
    clear h3
    by_cases hlt : k < 4
    · have t1 : (k : Int) < 4 := by omega
      have t2 : decide ((k : Int) < 4) = true := decide_eq_true t1
      have t3 : (0 : Int) ≤ (k : Int) := by omega
      have hck := HC.out k (by rw [hn]; exact hlt)
      have hdr := HD.out k (by rw [hn]; exact hlt)
      have hbd := HL.out k (by rw [hn]; exact hlt)
      generalize wn.getD k 0 = ch at *
      have HDR := Lib.hid hdr
      clear hdr
      generalize hq : a + k = q at *
      have i3 : (0 : Int) ≤ (q : Int) := by omega
      by_cases hqs : q < s.size
      · have u1 : (q : Int) < (s.size : Int) := by omega
        have u2 : ((q : Int) == (s.size : Int)) = false := by rw [beq_eq_false_iff_ne]; omega
        have u3 : ¬ (q : Int) = (s.size : Int) := by omega
        have hy := bt_at s q hqs
        by_cases hh : bt s q = ch
        · have v1 : (s[q].toNat : Int) = (ch : Int) := by omega
          have v2 : ((s[q].toNat : Int) != (ch : Int)) = false := by simp [v1]
          have HG := Lib.hid (show wordE s wn a = wordE s (wn.drop (k + 1)) (q + 1) by rw [H3.out, HDR.out, wordE_go hh])
          clear hy hh
          go_wp2_with fail
          go_round
          case rel => exact ⟨k + 1, hlt, by omega, by rw [HG.out]; congr 1; omega, by go_num, by go_num⟩
          case measure => simp [intOf]; omega
        · have v1 : ¬ (s[q].toNat : Int) = (ch : Int) := by omega
          have v2 : ((s[q].toNat : Int) != (ch : Int)) = true := by simp [v1]
          have HE := Lib.hid (HN.out q (by rw [H3.out, HDR.out, wordE_stop hh]) (by rw [hn]; omega))
          clear hy hh
          go_wp2_with fail
          refine bodyPost_ret (v := (Ans.err q 1).val) (by simp [results, Tryd.results29, go_sem, Ans.val, c0, c1, c2, c3, c4]) rfl ⟨by rw [HE.out], ?_⟩
          exact below_put5 HW.out (Nat.le_refl _) _ _ _ _ _
      · obtain rfl : q = s.size := by omega
        have u2 : ((s.size : Int) == (s.size : Int)) = true := by simp
        have HE := Lib.hid (HN.out s.size (by rw [H3.out, HDR.out, wordE_stop (by rw [bt_end (Nat.le_refl _)]; omega)]) (by rw [hn]; omega))
        go_wp2_with fail
        refine bodyPost_ret (v := (Ans.err s.size 1).val) (by simp [results, Tryd.results29, go_sem, Ans.val, c0, c1, c2, c3, c4]) rfl ⟨by rw [HE.out], ?_⟩
        exact below_put5 HW.out (Nat.le_refl _) _ _ _ _ _
    · obtain rfl : k = 4 := by omega
      have HE := Lib.hid (show res = Ans.tok ⟨6, nix, 0, a, a + 4⟩ from HO.out (by rw [H3.out]; rfl))
      go_wp2_with fail
      refine bodyPost_ret (v := (Ans.tok ⟨6, nix, 0, a, a + 4⟩).val) (by simp [results, Tryd.results29, go_sem, Ans.val, nix, c0, c1, c2, c3, c4]) rfl ⟨by rw [HE.out], ?_⟩
      exact below_put5 HW.out (Nat.le_refl _) _ _ _ _ _
theorem word_any5 (b : Nat) (s : ByteArray) (a : Nat) (w : World) (hs : s.size ≤ 90000) (hc : w.cell? ⟨b, 0, none⟩ = some (.string s)) (ha : a < s.size) (hk : bt s a = 116 ∨ bt s a = 102 ∨ bt s a = 110) : Calls Tryd.prog 29 #[.pointer (some ⟨b, 0, none⟩), .int .i64 a] w fun e w' => e = .returned (wordAns s a).val ∧ Below w.heap.size w w' := by
  rcases hk with h | h | h
  · exact word_t b s a w hs hc ha h
  · exact word_f b s a w hs hc ha h
  · exact word_n b s a w hs hc ha h
end Go.Proofs.YtnenipgpncomeaaDoor
