/- Sorts as numbers below 64; only, meets, Has, Of: contracts. Rows of sorts, met one by one; what an Op makes: contracts (get, and the sum). -/
import Derived.Test.YtikfmgedmiocgaaGreatDoorEX
import Derived.Outline
import Derived.Deep.DeepCutAuto
import Derived.Maps.AppendAt
namespace Go.Proofs.YtikfmgedmiocgaaGreatDoor
open Go.RowKit
set_option linter.unusedVariables false

theorem wrap_and : ∀ s m : Fin 64, IntKind.i64.wrap ((BitVec.ofInt IntKind.i64.bits (s.val : Int) &&& BitVec.ofInt IntKind.i64.bits (m.val : Int)).toNat) = ((s.val &&& m.val : Nat) : Int) := by decide +kernel
theorem bits_and (s m : Nat) (hs : s < 64) (hm : m < 64) : bits BinOp.and .i64 (s : Int) (m : Int) = ((s &&& m : Nat) : Int) := wrap_and ⟨s, hs⟩ ⟨m, hm⟩
theorem run_and (s m : Nat) (hs : s < 64) (hm : m < 64) (t : TypeId) (w : World) : (binOp BinOp.and t (.int .i64 (s : Int)) (.int .i64 (m : Int))).run Tryz.prog w = .ok (.int .i64 ((s &&& m : Nat) : Int)) w := by
  have h := wrap_and ⟨s, hs⟩ ⟨m, hm⟩
  have h2 : (binOp BinOp.and t (.int .i64 (s : Int)) (.int .i64 (m : Int))).run Tryz.prog w = .ok (.int .i64 (IntKind.i64.wrap ((BitVec.ofInt IntKind.i64.bits (s : Int) &&& BitVec.ofInt IntKind.i64.bits (m : Int)).toNat))) w := rfl
  rw [h2, h]
/-- the sorts of a kind alone -/
def onlyN (k : Int) : Nat := if 0 ≤ k ∧ k ≤ 5 then 2 ^ k.toNat else 0
theorem onlyN_lt (k : Int) : onlyN k < 64 := by
  unfold onlyN
  split
  · rename_i h
    have : k.toNat ≤ 5 := by omega
    calc 2 ^ k.toNat ≤ 2 ^ 5 := Nat.pow_le_pow_right (by decide) this
      _ < 64 := by decide
  · decide
theorem onlyN_no {k : Int} (h : ¬ (0 ≤ k ∧ k ≤ 5)) : onlyN k = 0 := if_neg h
/-- is a kind among them? -/
def hasN (s : Nat) (k : Int) : Bool := !decide (s &&& onlyN k = 0)
theorem hasN_no (s : Nat) {k : Int} (h : ¬ (0 ≤ k ∧ k ≤ 5)) : hasN s k = false := by
  unfold hasN
  rw [onlyN_no h, Nat.and_zero]
  rfl
set_option maxRecDepth 100000 in
theorem oonly_any (k : Int) (w : World) : Calls Tryz.prog 41 #[.int .i64 k] w fun e w' => e = .returned (.int .i64 (onlyN k : Nat)) ∧ w = w' := by
  by_cases h0 : k < 0
  · have HO := Lib.hid (onlyN_no (k := k) (by omega))
    have u1 : decide (k < 0) = true := decide_eq_true h0
    go_enter Tryz.func41, Tryz.ntmps41
    go_wp2_with fail
    go_ret
    exact ⟨by rw [HO.out] <;> rfl, rfl⟩
  · have u1 : decide (k < 0) = false := decide_eq_false h0
    by_cases h5 : 5 < k
    · have HO := Lib.hid (onlyN_no (k := k) (by omega))
      have u2 : decide (5 < k) = true := decide_eq_true h5
      go_enter Tryz.func41, Tryz.ntmps41
      go_wp2_with fail
      go_ret
      exact ⟨by rw [HO.out] <;> rfl, rfl⟩
    · rcases (by omega : k = 0 ∨ k = 1 ∨ k = 2 ∨ k = 3 ∨ k = 4 ∨ k = 5) with rfl | rfl | rfl | rfl | rfl | rfl <;>
      ( clear h0 h5 u1
        go_enter Tryz.func41, Tryz.ntmps41
        go_wp2_with fail
        go_ret
        exact ⟨rfl, rfl⟩)
set_option maxRecDepth 100000 in
theorem omeets_any (s m : Nat) (hs : s < 64) (hm : m < 64) (w : World) : Calls Tryz.prog 40 #[.int .i64 (s : Int), .int .i64 (m : Int)] w fun e w' => e = .returned (.bool (!decide (s &&& m = 0))) ∧ w = w' := by
  have hrun := bits_and s m hs hm
  have HZ := Lib.hid (show ∃ z, s &&& m = z from ⟨_, rfl⟩)
  obtain ⟨z, hz⟩ := HZ.out
  rw [hz] at hrun ⊢
  clear HZ hz hs hm
  by_cases h : z = 0
  · subst h
    go_enter Tryz.func40, Tryz.ntmps40
    go_wp2_with fail
    go_ret
    exact ⟨rfl, rfl⟩
  · have u1 : ((z : Int) != 0) = true := by simp; omega
    have u2 : ((z : Int) == 0) = false := by simp; omega
    have u3 : decide ((z : Int) = 0) = false := decide_eq_false (by omega)
    have HD := Lib.hid (show (!decide (z = 0)) = true by rw [decide_eq_false h]; rfl)
    clear h
    go_enter Tryz.func40, Tryz.ntmps40
    go_wp2_with fail
    go_ret
    exact ⟨by rw [HD.out] <;> rfl, rfl⟩
set_option maxRecDepth 100000 in
theorem ohas_any (s : Nat) (k : Int) (hs : s < 64) (w : World) : Calls Tryz.prog 16 #[.int .i64 (s : Int), .int .i64 k] w fun e w' => e = .returned (.bool (hasN s k)) ∧ w = w' := by
  go_enter Tryz.func16, Tryz.ntmps16
  go_wp2_with fail
  refine (oonly_any k w).mono ?_
  rintro e w2 ⟨rfl, rfl⟩
  go_wp2_with fail
  refine (omeets_any s (onlyN k) hs (onlyN_lt k) w).mono ?_
  rintro e w2 ⟨rfl, rfl⟩
  go_wp2_with fail
  go_ret
  exact ⟨rfl, rfl⟩
set_option maxRecDepth 100000 in
theorem oof_any (k : Int) (v1 v2 v3 v4 v5 : Value) (w : World) : Calls Tryz.prog 17 #[.agg #[.int .i64 k, v1, v2, v3, v4, v5]] w fun e w' => e = .returned (.int .i64 (onlyN k : Nat)) ∧ Below w.heap.size w w' := by
  go_enter Tryz.func17, Tryz.ntmps17
  go_upto_region 1 with fail
  have hB := Blk.new w 27 #[.int .i64 k, v1, v2, v3, v4, v5]
  have hW : Below w.heap.size w (w.alloc (.cells #[.int .i64 k, v1, v2, v3, v4, v5] 27)) := (Below.refl _ _).alloc (Nat.le_refl _) _
  change Code.wp _ _ _ _ (w.alloc (.cells #[.int .i64 k, v1, v2, v3, v4, v5] 27))
  generalize (w.alloc (.cells #[.int .i64 k, v1, v2, v3, v4, v5] 27)) = W at *
  have HW := Lib.hid hW
  have a0 := hB.cell 0
  clear hB hW
  go_wp2_with fail
  refine (oonly_any k W).mono ?_
  rintro e w2 ⟨rfl, rfl⟩
  go_wp2_with fail
  go_ret
  exact ⟨rfl, HW.out⟩
end Go.Proofs.YtikfmgedmiocgaaGreatDoor
namespace Go.Proofs.YtikfmgedmiocgaaGreatDoor
open Go.RowKit
set_option linter.unusedVariables false

/-- a row of sorts lies there -/
def SRow (w : World) (b o : Nat) (l : List Nat) : Prop := b < w.heap.size ∧ ∀ (i x : Nat), l[i]? = some x → w.cell? ⟨b, o + i, none⟩ = some (.int .i64 (x : Int))
theorem SRow.on {w w' : World} {b o : Nat} {l : List Nat} (h : SRow w b o l) (hb : Below w.heap.size w w') : SRow w' b o l :=
  ⟨Nat.lt_of_lt_of_le h.1 hb.size, fun i x hx => (hb.cell (p := ⟨b, o + i, none⟩) h.1).trans (h.2 i x hx)⟩
/-- do the sorts of two rows meet, one by one? -/
def meetsAll : List Nat → List Nat → Bool
  | [], [] => true
  | x :: l, y :: m => !decide (x &&& y = 0) && meetsAll l m
  | _, _ => false
theorem meets_len : ∀ {l m : List Nat}, l.length ≠ m.length → meetsAll l m = false
  | [], [], h => absurd rfl h
  | [], _ :: _, _ => rfl
  | _ :: _, [], _ => rfl
  | x :: l, y :: m, h => by
    unfold meetsAll
    rw [meets_len (l := l) (m := m) (fun e => h (by rw [List.length_cons, List.length_cons, e]))]
    simp
theorem meets_yes : ∀ {l m : List Nat}, l.length = m.length → (∀ i x y : Nat, l[i]? = some x → m[i]? = some y → x &&& y ≠ 0) → meetsAll l m = true
  | [], [], _, _ => rfl
  | [], _ :: _, h, _ => by cases h
  | _ :: _, [], h, _ => by cases h
  | x :: l, y :: m, h, ha => by
    unfold meetsAll
    rw [meets_yes (l := l) (m := m) (by simpa using h) (fun i x y h1 h2 => ha (i + 1) x y (by simpa using h1) (by simpa using h2))]
    have := ha 0 x y rfl rfl
    simp [this]
theorem meets_no : ∀ {l m : List Nat} {i x y : Nat}, l[i]? = some x → m[i]? = some y → x &&& y = 0 → meetsAll l m = false
  | [], _, _, _, _, h, _, _ => by simp at h
  | _ :: _, [], _, _, _, _, h, _ => by simp at h
  | a :: l, b :: m, i, x, y, h1, h2, h => by
    unfold meetsAll
    cases i with
    | zero =>
      simp at h1 h2
      subst h1 h2
      simp [h]
    | succ i =>
      rw [meets_no (l := l) (m := m) (i := i) (by simpa using h1) (by simpa using h2) h]
      simp
set_option maxRecDepth 100000 in
set_option maxHeartbeats 4000000 in
theorem eqf_any (l m : List Nat) (b1 o1 c1 b2 o2 c2 : Nat) (w : World) (hn : l.length ≤ 1000) (hk : m.length ≤ 1000) (hl : ∀ x ∈ l, x < 64) (hm : ∀ x ∈ m, x < 64) (h1 : SRow w b1 o1 l) (h2 : SRow w b2 o2 m) :
    Calls Tryz.prog 110 #[.slice (some ⟨b1, o1, none⟩) l.length c1, .slice (some ⟨b2, o2, none⟩) m.length c2, .func (.func 40) #[] #[]] w fun e w' => e = .returned (.bool (meetsAll l m)) ∧ w = w' := by
  have H1 := Lib.hid h1
  have H2 := Lib.hid h2
  have HL := Lib.hid hl
  have HM := Lib.hid hm
  clear h1 h2 hl hm
  by_cases hlm : l.length = m.length
  · have HY := Lib.hid (fun h => meets_yes (l := l) (m := m) hlm h)
    have HN := Lib.hid (fun i x y h1 h2 h3 => meets_no (l := l) (m := m) (i := i) (x := x) (y := y) h1 h2 h3)
    generalize meetsAll l m = R at *
    rw [← hlm]
    have HLM := Lib.hid hlm
    clear hlm
    have v1 : ((l.length : Int) != (l.length : Int)) = false := by simp
    go_enter Tryz.func110, Tryz.ntmps110
    go_wp2_with fail
    go_loop [17] (fun x => ∃ k : Nat, k ≤ l.length ∧ x = .int .i64 k ∧ ∀ i x y : Nat, i < k → l[i]? = some x → m[i]? = some y → x &&& y ≠ 0) (fun x => l.length - (intOf x).toNat)
    case atStart => exact ⟨0, Nat.zero_le _, rfl, fun i x y h => absurd h (Nat.not_lt_zero i)⟩
    case round =>
      obtain ⟨k, hk2, rfl, hall⟩ := hrel
      have HALL := Lib.hid hall
      clear hall
      by_cases hlt : k < l.length
      · have u1 : decide (k < l.length) = true := decide_eq_true hlt
        have u2 : decide ((k : Int) < (l.length : Int)) = true := decide_eq_true (by omega)
        have i1 : (k : Int) < (l.length : Int) := by omega
        have i2 : (0 : Int) ≤ (k : Int) := by omega
        obtain ⟨x, hx⟩ : ∃ x, l[k]? = some x := ⟨_, List.getElem?_eq_getElem hlt⟩
        obtain ⟨y, hy⟩ : ∃ y, m[k]? = some y := ⟨_, List.getElem?_eq_getElem (by rw [← HLM.out]; exact hlt)⟩
        have c1 := H1.out.2 k x hx
        have c2 := H2.out.2 k y hy
        have HX := Lib.hid hx
        have HYY := Lib.hid hy
        have hx64 := HL.out x (List.mem_of_getElem? hx)
        have hy64 := HM.out y (List.mem_of_getElem? hy)
        have HMT := Lib.hid (fun w1 => omeets_any x y hx64 hy64 w1)
        clear hx hy hx64 hy64
        obtain ⟨z, hz⟩ : ∃ z, (x &&& y = 0) = z := ⟨_, rfl⟩
        by_cases h0 : x &&& y = 0
        · have HMF := Lib.hid (show ∀ w1, Calls Tryz.prog 40 #[.int .i64 (x : Int), .int .i64 (y : Int)] w1 fun e w' => e = .returned (.bool false) ∧ w1 = w' from fun w1 => by have := HMT.out w1; rw [decide_eq_true h0] at this; exact this)
          have HRF := Lib.hid (HN.out k x y HX.out HYY.out h0)
          clear h0 hz HMT
          go_wp2_with fail
          refine (HMF.out _).mono ?_
          rintro e w2 ⟨rfl, rfl⟩
          go_wp2_with fail
          go_ret
          exact ⟨by rw [HRF.out] <;> rfl, rfl⟩
        · have HMF := Lib.hid (show ∀ w1, Calls Tryz.prog 40 #[.int .i64 (x : Int), .int .i64 (y : Int)] w1 fun e w' => e = .returned (.bool true) ∧ w1 = w' from fun w1 => by have := HMT.out w1; rw [decide_eq_false h0] at this; exact this)
          have HNE := Lib.hid h0
          clear h0 hz HMT
          go_wp2_with fail
          refine (HMF.out _).mono ?_
          rintro e w2 ⟨rfl, rfl⟩
          go_wp2_with fail
          go_round
          case rel => exact ⟨k + 1, hlt, by go_num, fun i x' y' hi hx' hy' => by
            rcases Nat.lt_or_ge i k with h | h
            · exact HALL.out i x' y' h hx' hy'
            · obtain rfl : i = k := by omega
              rw [HX.out] at hx'
              rw [HYY.out] at hy'
              injection hx' with hx'
              injection hy' with hy'
              subst hx' hy'
              exact HNE.out⟩
          case measure => simp [intOf]; omega
      · obtain rfl : k = l.length := by omega
        have u1 : decide (l.length < l.length) = false := decide_eq_false (by omega)
        have u2 : decide ((l.length : Int) < (l.length : Int)) = false := decide_eq_false (by omega)
        have HRT := Lib.hid (HY.out (fun i x y hx hy => HALL.out i x y (List.getElem?_eq_some_iff.1 hx).1 hx hy))
        go_wp2_with fail
        go_ret
        exact ⟨by rw [HRT.out] <;> rfl, rfl⟩
  · have HF := Lib.hid (meets_len hlm)
    have v1 : ((l.length : Int) != (m.length : Int)) = true := by simp; omega
    have v2 : ((l.length : Int) == (m.length : Int)) = false := beq_eq_false_iff_ne.2 (by omega)
    have v3 : decide ((l.length : Int) = (m.length : Int)) = false := decide_eq_false (by omega)
    generalize l.length = ll at *
    generalize m.length = mm at *
    clear hlm
    go_enter Tryz.func110, Tryz.ntmps110
    go_wp2_with fail
    go_ret
    exact ⟨by rw [HF.out] <;> rfl, rfl⟩
set_option maxRecDepth 100000 in
theorem omay_any (l m : List Nat) (b1 o1 c1 b2 o2 c2 : Nat) (w : World) (hn : l.length ≤ 1000) (hk : m.length ≤ 1000) (hl : ∀ x ∈ l, x < 64) (hm : ∀ x ∈ m, x < 64) (h1 : SRow w b1 o1 l) (h2 : SRow w b2 o2 m) :
    Calls Tryz.prog 88 #[.slice (some ⟨b1, o1, none⟩) l.length c1, .slice (some ⟨b2, o2, none⟩) m.length c2] w fun e w' => e = .returned (.bool (meetsAll l m)) ∧ w = w' := by
  have HE := Lib.hid (eqf_any l m b1 o1 c1 b2 o2 c2 w hn hk hl hm h1 h2)
  clear hl hm h1 h2
  go_enter Tryz.func88, Tryz.ntmps88
  go_wp2_with fail
  refine HE.out.mono ?_
  rintro e w2 ⟨rfl, rfl⟩
  go_wp2_with fail
  go_ret
  exact ⟨rfl, rfl⟩
set_option maxRecDepth 100000 in
set_option maxHeartbeats 4000000 in
theorem odone_get (x : Nat) (b c : Nat) (w : World) (hx : x < 64) (h : SRow w b 0 [x]) :
    Calls Tryz.prog 66 #[.string ⟨#[103, 101, 116]⟩, .slice (some ⟨b, 0, none⟩) 1 c] w fun e w' => e = .returned (.tuple #[.int .i64 63, .bool (meetsAll [x] [32])]) ∧ Below w.heap.size w w' := by
  have hW : Below w.heap.size w (w.alloc (.cells #[.int .i64 32] 45)) := (Below.refl _ _).alloc (Nat.le_refl _) _
  have HE := Lib.hid (omay_any [x] [32] b 0 c w.heap.size 0 1 (w.alloc (.cells #[.int .i64 32] 45)) (by simp) (by simp) (fun y hy => by simp at hy; omega) (fun y hy => by simp at hy; omega) (h.on hW) ⟨(Blk.new w _ _).lt, fun i y hy => by
    rcases i with _ | i
    · injection hy with hy; subst hy; exact (Blk.new w 45 #[.int .i64 32]).cell 0
    · simp at hy⟩)
  have HW := Lib.hid hW
  generalize meetsAll [x] [32] = R at *
  clear h hW
  go_enter Tryz.func66, Tryz.ntmps66
  go_wp2_with fail
  refine HE.out.mono ?_
  rintro e w2 ⟨rfl, rfl⟩
  go_wp2_with fail
  go_ret2
  exact ⟨rfl, HW.out⟩
set_option maxRecDepth 100000 in
set_option maxHeartbeats 4000000 in
theorem odone_plus (x y : Nat) (b c : Nat) (w : World) (hx : x < 64) (hy : y < 64) (h : SRow w b 0 [x, y]) :
    Calls Tryz.prog 66 #[.string ⟨#[43]⟩, .slice (some ⟨b, 0, none⟩) 2 c] w fun e w' => e = .returned (.tuple #[.int .i64 4, .bool (meetsAll [x, y] [4, 4])]) ∧ Below w.heap.size w w' := by
  have hW : Below w.heap.size w (w.alloc (.cells #[.int .i64 4, .int .i64 4] 45)) := (Below.refl _ _).alloc (Nat.le_refl _) _
  have HE := Lib.hid (omay_any [x, y] [4, 4] b 0 c w.heap.size 0 2 (w.alloc (.cells #[.int .i64 4, .int .i64 4] 45)) (by simp) (by simp) (fun z hz => by simp at hz; omega) (fun z hz => by simp at hz; omega) (h.on hW) ⟨(Blk.new w _ _).lt, fun i z hz => by
    rcases i with _ | _ | i
    · injection hz with hz; subst hz; exact (Blk.new w 45 #[.int .i64 4, .int .i64 4]).cell 0
    · injection hz with hz; subst hz; exact (Blk.new w 45 #[.int .i64 4, .int .i64 4]).cell 1
    · simp at hz⟩)
  have HW := Lib.hid hW
  generalize meetsAll [x, y] [4, 4] = R at *
  clear h hW
  go_enter Tryz.func66, Tryz.ntmps66
  go_wp2_with fail
  refine HE.out.mono ?_
  rintro e w2 ⟨rfl, rfl⟩
  go_wp2_with fail
  go_ret2
  exact ⟨rfl, HW.out⟩
end Go.Proofs.YtikfmgedmiocgaaGreatDoor
