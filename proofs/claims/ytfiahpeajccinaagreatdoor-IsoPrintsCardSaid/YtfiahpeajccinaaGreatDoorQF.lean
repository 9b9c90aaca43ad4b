/- The reference's isos: one. -/
import Derived.Test.YtfiahpeajccinaaGreatDoorQE
import Derived.Test.YtfiahpeajccinaaGreatDoorPJ
import Derived.Test.YtfiahpeajccinaaGreatDoorQC
import Derived.Test.YtfiahpeajccinaaGreatDoorQD
namespace Go.Proofs.YtfiahpeajccinaaGreatDoor
open Go.RowKit
open Tk Ex
set_option linter.unusedVariables false
set_option linter.unusedSimpArgs false

/-- a row of the reference's isos of the call's own -/
def RowI (w : World) (base : Nat) (v : Value) (l : List Iz.Iso) : Prop := w.ownsRow base 27 3 v l.length (flat3 l)
/-- what one answers -/
def OneR (r : Iz.IRes) (w : World) (e : Ending) (w' : World) : Prop := Below w.heap.size w w' ∧ match r with
  | .ok x p => ∃ g, w.heap.size ≤ g ∧ e = .returned (.agg #[.slice (some ⟨g, 0, none⟩) 1 1, .int .i64 (p : Nat), .int .i64 0]) ∧ Blk w' g 27 #[.string x.name, .int .i64 x.n, .string x.key]
  | .err p c => e = .returned (.agg #[.slice none 0 0, .int .i64 (p : Nat), .int .i64 c])
theorem next_str {s : ByteArray} {a : Nat} (h : bt s a = 34) : next s a = strAns s a := by
  have h1 : a < s.size := lt_of_bt (by rw [h]; decide)
  unfold next
  rw [span_no (by rw [h]; rfl)]
  unfold ansAt
  rw [if_neg (by omega), if_neg (by rw [h]; decide), if_pos h]
theorem wd_ne {s : ByteArray} {i : Nat} (h : isLt (bt s (bl s i)) = true) (hi : i ≤ s.size) : ((wd s i).toList == []) = false ∧ ((wd s i).toList == (⟨#[]⟩ : ByteArray).toList) = false := by
  have h1 := Iz.wE_pos h
  have h2 := Iz.wE_le (bl_le hi)
  have hs : (wd s i).size = wE s (bl s i) - bl s i := by
    show (s.extract (bl s i) (wE s (bl s i))).size = _
    rw [ByteArray.size_extract]; omega
  have h3 : (wd s i).toList ≠ [] := fun e => by
    have : (wd s i).toList.length = 0 := by rw [e]; rfl
    rw [ByteArray.toList_eq] at this
    have h4 : (wd s i).data.toList.length = (wd s i).size := rfl
    omega
  have h5 : ((wd s i).toList == []) = false := beq_eq_false_iff_ne.2 h3
  exact ⟨h5, by rw [show (⟨#[]⟩ : ByteArray).toList = [] from by decide +kernel]; exact h5⟩
set_option maxRecDepth 100000 in
set_option maxHeartbeats 8000000 in
theorem rone_w (s : ByteArray) (i : Nat) (w : World) (hs : s.size ≤ 2000) (hi : i ≤ s.size) (hq : isLt (bt s (bl s i)) = false) : Calls Tryz.prog 26 #[.string s, .int .i64 i] w (OneR (Iz.oneI s i) w) := by
  have ha0 := bl_le hi
  have HB1 := Lib.hid (fun w1 => rblanks_any s i w1 (by omega) (by omega))
  have HW := Lib.hid (fun w1 => r8word_any s i w1 (by omega) hi)
  rw [show wordT s i = nix from by unfold wordT; rw [if_neg (by rw [hq]; decide)], show wordP s i = i from by unfold wordP; rw [if_neg (by rw [hq]; decide)]] at HW
  rw [show span isBl s i = bl s i from rfl] at HB1
  have HO := Lib.hid (oneI_1 hq)
  unfold nix at HW
  have n2 : (([] : List UInt8) == (⟨#[]⟩ : ByteArray).toList) = true := by rw [show (⟨#[]⟩ : ByteArray).toList = [] from by decide +kernel]; rfl
  have n3 : ((⟨#[]⟩ : ByteArray).toList == (⟨#[]⟩ : ByteArray).toList) = true := by simp
  generalize Iz.oneI s i = res at *
  clear hq
  generalize bl s i = a0 at *
  go_enter Tryz.func26, Tryz.ntmps26
  go_upto_region 1 with fail
  refine alloc_gz (fun W1 hW hR => ?_)
  have HW1 := Lib.hid hW
  have HR := Lib.hid hR
  clear hW hR
  go_wp2_with fail
  refine (HB1.out _).mono ?_
  rintro e w2 ⟨rfl, rfl⟩
  go_wp2_with fail
  refine (HW.out _).mono ?_
  rintro e w2 ⟨rfl, rfl⟩
  have r0 := HR.out.cell 0
  have r1 := HR.out.cell 1
  have r2 := HR.out.cell 2
  have q0 := HR.out.free 0
  have q1 := HR.out.free 1
  have q2 := HR.out.free 2
  go_wp2_with fail
  refine bodyPost_ret (v := .agg #[.slice none 0 0, .int .i64 (a0 : Nat), .int .i64 1]) (by simp [results, Tryz.results26, go_sem, r0, r1, r2]) rfl ?_
  rw [HO.out]
  exact ⟨below_put3 HW1.out (Nat.le_refl _) _ _ _, rfl⟩
set_option maxRecDepth 100000 in
set_option maxHeartbeats 8000000 in
theorem rone_0 (s : ByteArray) (i : Nat) (w : World) (hs : s.size ≤ 2000) (hi : i ≤ s.size) (hq : isLt (bt s (bl s i)) = true) (hu : Iz.use (wd s i) = 0) : Calls Tryz.prog 26 #[.string s, .int .i64 i] w (OneR (Iz.oneI s i) w) := by
  have ha0 := bl_le hi
  have hz := Iz.wE_le ha0
  have ha := bl_le hz
  have HB1 := Lib.hid (fun w1 => rblanks_any s i w1 (by omega) (by omega))
  have HB2 := Lib.hid (fun w1 => rblanks_any s (wE s (bl s i)) w1 (by omega) (by omega))
  have HW := Lib.hid (fun w1 => r8word_any s i w1 (by omega) hi)
  rw [show wordT s i = wd s i from by unfold wordT; rw [if_pos hq], show wordP s i = wE s (bl s i) from by unfold wordP; rw [if_pos hq]] at HW
  have HRU := Lib.hid (fun w1 => ruses_any (wd s i) w1)
  have hnt := use_times (wd s i)
  unfold Iz.timesW at hnt
  obtain ⟨hn1, hn2⟩ := wd_ne hq hi
  rw [show span isBl s i = bl s i from rfl] at HB1
  rw [show span isBl s (wE s (bl s i)) = bl s (wE s (bl s i)) from rfl] at HB2
  have HO := Lib.hid (oneI_2 hq hu)
  rw [hu] at HRU hnt
  generalize Iz.oneI s i = res at *
  clear hq
  generalize wd s i = nm at *
  generalize bl s (wE s (bl s i)) = a at *
  generalize wE s (bl s i) = z at *
  generalize bl s i = a0 at *
  go_enter Tryz.func26, Tryz.ntmps26
  go_upto_region 1 with fail
  refine alloc_gz (fun W1 hW hR => ?_)
  have HW1 := Lib.hid hW
  have HR := Lib.hid hR
  clear hW hR
  go_wp2_with fail
  refine (HB1.out _).mono ?_
  rintro e w2 ⟨rfl, rfl⟩
  go_wp2_with fail
  refine (HW.out _).mono ?_
  rintro e w2 ⟨rfl, rfl⟩
  go_upto_region 6 with fail
  refine alloc_gz (fun W2 hW hX => ?_)
  have HW2 := Lib.hid (HW1.out.trans (hW.mono HW1.out.size))
  have hlX0 := HR.out.lt
  have HR := Lib.hid (HR.out.onto hW)
  obtain ⟨X, hXe⟩ : ∃ X, W1.heap.size = X := ⟨_, rfl⟩
  have hlX : w.heap.size < X := by rw [← hXe]; exact hlX0
  rw [hXe] at hX ⊢
  clear hlX0
  have HX := Lib.hid hX
  clear hW hX hXe
  go_wp2_with fail
  refine (HRU.out _).mono ?_
  rintro e w3 ⟨rfl, rfl⟩
  unfold usesI
  dsimp only
  have r0 := HR.out.cell 0
  have r1 := HR.out.cell 1
  have r2 := HR.out.cell 2
  have q0 := HR.out.free 0
  have q1 := HR.out.free 1
  have q2 := HR.out.free 2
  go_wp2_with fail
  refine bodyPost_ret (v := .agg #[.slice none 0 0, .int .i64 (a0 : Nat), .int .i64 13]) (by simp [results, Tryz.results26, go_sem, r0, r1, r2]) rfl ?_
  rw [HO.out]
  exact ⟨below_put3 HW2.out (Nat.le_refl _) _ _ _, rfl⟩
set_option maxRecDepth 100000 in
set_option maxHeartbeats 8000000 in
theorem rone_1 (s : ByteArray) (i : Nat) (w : World) (hs : s.size ≤ 2000) (hi : i ≤ s.size) (hq : isLt (bt s (bl s i)) = true) (hu : Iz.use (wd s i) = 1) : Calls Tryz.prog 26 #[.string s, .int .i64 i] w (OneR (Iz.oneI s i) w) := by
  have ha0 := bl_le hi
  have hz := Iz.wE_le ha0
  have ha := bl_le hz
  have HB1 := Lib.hid (fun w1 => rblanks_any s i w1 (by omega) (by omega))
  have HB2 := Lib.hid (fun w1 => rblanks_any s (wE s (bl s i)) w1 (by omega) (by omega))
  have HW := Lib.hid (fun w1 => r8word_any s i w1 (by omega) hi)
  rw [show wordT s i = wd s i from by unfold wordT; rw [if_pos hq], show wordP s i = wE s (bl s i) from by unfold wordP; rw [if_pos hq]] at HW
  have HRU := Lib.hid (fun w1 => ruses_any (wd s i) w1)
  have hnt := use_times (wd s i)
  unfold Iz.timesW at hnt
  obtain ⟨hn1, hn2⟩ := wd_ne hq hi
  rw [show span isBl s i = bl s i from rfl] at HB1
  rw [show span isBl s (wE s (bl s i)) = bl s (wE s (bl s i)) from rfl] at HB2
  have HO := Lib.hid (oneI_3 hq hu)
  rw [hu] at HRU hnt
  generalize Iz.oneI s i = res at *
  clear hq
  generalize wd s i = nm at *
  generalize bl s (wE s (bl s i)) = a at *
  generalize wE s (bl s i) = z at *
  generalize bl s i = a0 at *
  go_enter Tryz.func26, Tryz.ntmps26
  go_upto_region 1 with fail
  refine alloc_gz (fun W1 hW hR => ?_)
  have HW1 := Lib.hid hW
  have HR := Lib.hid hR
  clear hW hR
  go_wp2_with fail
  refine (HB1.out _).mono ?_
  rintro e w2 ⟨rfl, rfl⟩
  go_wp2_with fail
  refine (HW.out _).mono ?_
  rintro e w2 ⟨rfl, rfl⟩
  go_upto_region 6 with fail
  refine alloc_gz (fun W2 hW hX => ?_)
  have HW2 := Lib.hid (HW1.out.trans (hW.mono HW1.out.size))
  have hlX0 := HR.out.lt
  have HR := Lib.hid (HR.out.onto hW)
  obtain ⟨X, hXe⟩ : ∃ X, W1.heap.size = X := ⟨_, rfl⟩
  have hlX : w.heap.size < X := by rw [← hXe]; exact hlX0
  rw [hXe] at hX ⊢
  clear hlX0
  have HX := Lib.hid hX
  clear hW hX hXe
  go_wp2_with fail
  refine (HRU.out _).mono ?_
  rintro e w3 ⟨rfl, rfl⟩
  unfold usesI
  dsimp only
  go_wp2_with fail
  refine (HB2.out _).mono ?_
  rintro e w3 ⟨rfl, rfl⟩
  have HRq := Lib.hid (HR.out.alloc (.cells #[.string nm, .int .i64 0, .string ⟨#[]⟩] 27))
  have hlq := HX.out.lt
  have x0 := HX.out.cell 0
  have x1 := HX.out.cell 1
  have x2 := HX.out.cell 2
  have r0 := HRq.out.cell 0
  have r1 := HRq.out.cell 1
  have r2 := HRq.out.cell 2
  have q0 := HRq.out.free 0
  have q1 := HRq.out.free 1
  have q2 := HRq.out.free 2
  go_wp2_with fail
  refine bodyPost_ret (v := .agg #[.slice (some ⟨(W2).heap.size, 0, none⟩) 1 1, .int .i64 (z : Nat), .int .i64 0]) (by simp [results, Tryz.results26, go_sem, r0, r1, r2]) rfl ?_
  rw [HO.out]
  exact ⟨below_put3 (HW2.out.alloc HW2.out.size _) (Nat.le_refl _) _ _ _, _, HW2.out.size, rfl, blk_far3 (Blk.new _ _ _) (by omega) _ _ _⟩
set_option maxRecDepth 100000 in
set_option maxHeartbeats 8000000 in
theorem rone_k0 (s : ByteArray) (i : Nat) (w : World) (hs : s.size ≤ 2000) (hi : i ≤ s.size) (hq : isLt (bt s (bl s i)) = true) (hu : Iz.use (wd s i) = 4) (hk : ¬ bt s (bl s (wE s (bl s i))) = 34) : Calls Tryz.prog 26 #[.string s, .int .i64 i] w (OneR (Iz.oneI s i) w) := by
  have ha0 := bl_le hi
  have hz := Iz.wE_le ha0
  have ha := bl_le hz
  have HB1 := Lib.hid (fun w1 => rblanks_any s i w1 (by omega) (by omega))
  have HB2 := Lib.hid (fun w1 => rblanks_any s (wE s (bl s i)) w1 (by omega) (by omega))
  have HW := Lib.hid (fun w1 => r8word_any s i w1 (by omega) hi)
  rw [show wordT s i = wd s i from by unfold wordT; rw [if_pos hq], show wordP s i = wE s (bl s i) from by unfold wordP; rw [if_pos hq]] at HW
  have HRU := Lib.hid (fun w1 => ruses_any (wd s i) w1)
  have hnt := use_times (wd s i)
  unfold Iz.timesW at hnt
  obtain ⟨hn1, hn2⟩ := wd_ne hq hi
  rw [show span isBl s i = bl s i from rfl] at HB1
  rw [show span isBl s (wE s (bl s i)) = bl s (wE s (bl s i)) from rfl] at HB2
  have HO1 := oneI_4 hq hu
  rw [hu] at HRU hnt
  have HO := Lib.hid (HO1.trans (keyI_no (nm := wd s i) hk))
  have hcase : ¬ (bl s (wE s (bl s i))) < s.size ∨ ∃ h : (bl s (wE s (bl s i))) < s.size, ¬ (s[(bl s (wE s (bl s i)))]'h).toNat = 34 := by
    by_cases h : (bl s (wE s (bl s i))) < s.size
    · exact .inr ⟨h, by rw [bt_at s _ h]; exact hk⟩
    · exact .inl h
  clear HO1 hk
  generalize Iz.oneI s i = res at *
  clear hq
  generalize wd s i = nm at *
  generalize bl s (wE s (bl s i)) = a at *
  generalize wE s (bl s i) = z at *
  generalize bl s i = a0 at *
  go_enter Tryz.func26, Tryz.ntmps26
  go_upto_region 1 with fail
  refine alloc_gz (fun W1 hW hR => ?_)
  have HW1 := Lib.hid hW
  have HR := Lib.hid hR
  clear hW hR
  go_wp2_with fail
  refine (HB1.out _).mono ?_
  rintro e w2 ⟨rfl, rfl⟩
  go_wp2_with fail
  refine (HW.out _).mono ?_
  rintro e w2 ⟨rfl, rfl⟩
  go_upto_region 6 with fail
  refine alloc_gz (fun W2 hW hX => ?_)
  have HW2 := Lib.hid (HW1.out.trans (hW.mono HW1.out.size))
  have hlX0 := HR.out.lt
  have HR := Lib.hid (HR.out.onto hW)
  obtain ⟨X, hXe⟩ : ∃ X, W1.heap.size = X := ⟨_, rfl⟩
  have hlX : w.heap.size < X := by rw [← hXe]; exact hlX0
  rw [hXe] at hX ⊢
  clear hlX0
  have HX := Lib.hid hX
  clear hW hX hXe
  go_wp2_with fail
  refine (HRU.out _).mono ?_
  rintro e w3 ⟨rfl, rfl⟩
  unfold usesI
  dsimp only
  go_wp2_with fail
  refine (HB2.out _).mono ?_
  rintro e w3 ⟨rfl, rfl⟩
  rcases hcase with h | ⟨h, h2⟩
  · have u1 : decide ((a : Int) ≥ (s.size : Int)) = true := decide_eq_true (by omega)
    have u2 : decide ((s.size : Int) ≤ (a : Int)) = true := u1
    have r0 := HR.out.cell 0
    have r1 := HR.out.cell 1
    have r2 := HR.out.cell 2
    have q0 := HR.out.free 0
    have q1 := HR.out.free 1
    have q2 := HR.out.free 2
    go_wp2_with fail
    refine bodyPost_ret (v := .agg #[.slice none 0 0, .int .i64 (a : Nat), .int .i64 1]) (by simp [results, Tryz.results26, go_sem, r0, r1, r2]) rfl ?_
    rw [HO.out]
    exact ⟨below_put3 HW2.out (Nat.le_refl _) _ _ _, rfl⟩
  · have u1 : decide ((a : Int) ≥ (s.size : Int)) = false := decide_eq_false (by omega)
    have u2 : decide ((s.size : Int) ≤ (a : Int)) = false := u1
    have e1 : (((s[a]'h).toNat : Int) != 34) = true := by rw [bne_iff_ne]; omega
    have e2 : (((s[a]'h).toNat : Int) == 34) = false := beq_eq_false_iff_ne.2 (by omega)
    have i1 : (0 : Int) ≤ (a : Int) := by omega
    have i2 : (a : Int) < (s.size : Int) := by omega
    have r0 := HR.out.cell 0
    have r1 := HR.out.cell 1
    have r2 := HR.out.cell 2
    have q0 := HR.out.free 0
    have q1 := HR.out.free 1
    have q2 := HR.out.free 2
    go_wp2_with fail
    refine bodyPost_ret (v := .agg #[.slice none 0 0, .int .i64 (a : Nat), .int .i64 1]) (by simp [results, Tryz.results26, go_sem, r0, r1, r2]) rfl ?_
    rw [HO.out]
    exact ⟨below_put3 HW2.out (Nat.le_refl _) _ _ _, rfl⟩
set_option maxRecDepth 100000 in
set_option maxHeartbeats 8000000 in
theorem rone_k1 (s : ByteArray) (i : Nat) (w : World) (hs : s.size ≤ 2000) (hi : i ≤ s.size) (hq : isLt (bt s (bl s i)) = true) (hu : Iz.use (wd s i) = 4) (hk : bt s (bl s (wE s (bl s i))) = 34) (p : Nat) (c : Int) (hx : strAns s (bl s (wE s (bl s i))) = .err p c) : Calls Tryz.prog 26 #[.string s, .int .i64 i] w (OneR (Iz.oneI s i) w) := by
  have ha0 := bl_le hi
  have hz := Iz.wE_le ha0
  have ha := bl_le hz
  have HB1 := Lib.hid (fun w1 => rblanks_any s i w1 (by omega) (by omega))
  have HB2 := Lib.hid (fun w1 => rblanks_any s (wE s (bl s i)) w1 (by omega) (by omega))
  have HW := Lib.hid (fun w1 => r8word_any s i w1 (by omega) hi)
  rw [show wordT s i = wd s i from by unfold wordT; rw [if_pos hq], show wordP s i = wE s (bl s i) from by unfold wordP; rw [if_pos hq]] at HW
  have HRU := Lib.hid (fun w1 => ruses_any (wd s i) w1)
  have hnt := use_times (wd s i)
  unfold Iz.timesW at hnt
  obtain ⟨hn1, hn2⟩ := wd_ne hq hi
  rw [show span isBl s i = bl s i from rfl] at HB1
  rw [show span isBl s (wE s (bl s i)) = bl s (wE s (bl s i)) from rfl] at HB2
  have HO1 := oneI_4 hq hu
  rw [hu] at HRU hnt
  have h34 : ∃ h : (bl s (wE s (bl s i))) < s.size, (s[(bl s (wE s (bl s i)))]'h).toNat = 34 := by
    have h : (bl s (wE s (bl s i))) < s.size := lt_of_bt (by rw [hk]; decide)
    exact ⟨h, by rw [bt_at s _ h]; exact hk⟩
  have HNX := Lib.hid (fun w1 => rnext_far s (bl s (wE s (bl s i))) w1 (by omega) (by omega) ha)
  rw [next_str hk] at HNX
  rw [hx] at HNX
  have HO := Lib.hid (show Iz.oneI s i = .err p c from HO1.trans (by unfold Iz.keyI; rw [if_pos hk, hx]))
  have hc0 : ¬ c = 0 := by
    have h1 := next_str hk
    have h2 : ansAt s (span isBl s (bl s (wE s (bl s i)))) = .err p c := h1.trans hx
    have := err_num s _ p c h2
    omega
  have v1 : (c != 0) = true := by rw [bne_iff_ne]; exact hc0
  clear HO1 hk hx
  generalize Iz.oneI s i = res at *
  clear hq
  generalize wd s i = nm at *
  generalize bl s (wE s (bl s i)) = a at *
  generalize wE s (bl s i) = z at *
  generalize bl s i = a0 at *
  go_enter Tryz.func26, Tryz.ntmps26
  go_upto_region 1 with fail
  refine alloc_gz (fun W1 hW hR => ?_)
  have HW1 := Lib.hid hW
  have HR := Lib.hid hR
  clear hW hR
  go_wp2_with fail
  refine (HB1.out _).mono ?_
  rintro e w2 ⟨rfl, rfl⟩
  go_wp2_with fail
  refine (HW.out _).mono ?_
  rintro e w2 ⟨rfl, rfl⟩
  go_upto_region 6 with fail
  refine alloc_gz (fun W2 hW hX => ?_)
  have HW2 := Lib.hid (HW1.out.trans (hW.mono HW1.out.size))
  have hlX0 := HR.out.lt
  have HR := Lib.hid (HR.out.onto hW)
  obtain ⟨X, hXe⟩ : ∃ X, W1.heap.size = X := ⟨_, rfl⟩
  have hlX : w.heap.size < X := by rw [← hXe]; exact hlX0
  rw [hXe] at hX ⊢
  clear hlX0
  have HX := Lib.hid hX
  clear hW hX hXe
  go_wp2_with fail
  refine (HRU.out _).mono ?_
  rintro e w3 ⟨rfl, rfl⟩
  unfold usesI
  dsimp only
  go_wp2_with fail
  refine (HB2.out _).mono ?_
  rintro e w3 ⟨rfl, rfl⟩
  obtain ⟨h, h2⟩ := h34
  have u1 : decide ((a : Int) ≥ (s.size : Int)) = false := decide_eq_false (by omega)
  have u2 : decide ((s.size : Int) ≤ (a : Int)) = false := u1
  have e1 : (((s[a]'h).toNat : Int) != 34) = false := by rw [h2]; rfl
  have e2 : (((s[a]'h).toNat : Int) == 34) = true := by rw [h2]; rfl
  have i1 : (0 : Int) ≤ (a : Int) := by omega
  have i2 : (a : Int) < (s.size : Int) := by omega
  clear h2
  go_wp2_with fail
  refine (HNX.out _).mono ?_
  rintro e w4 ⟨rfl, hb⟩
  have HW4 := Lib.hid (HW2.out.trans (hb.mono HW2.out.size))
  have HR := Lib.hid (HR.out.onto hb)
  have HX := Lib.hid (HX.out.onto hb)
  clear hb
  unfold Ans.val
  go_upto_region 29 with fail
  refine alloc_gz (fun W5 hW hT => ?_)
  have HW5 := Lib.hid (HW4.out.trans (hW.mono HW4.out.size))
  have HR := Lib.hid (HR.out.onto hW)
  have hX4 := HX.out.lt
  have HX := Lib.hid (HX.out.onto hW)
  obtain ⟨T, hTe⟩ : ∃ T, w4.heap.size = T := ⟨_, rfl⟩
  rw [hTe] at hT hX4 ⊢
  have HT := Lib.hid hT
  clear hW hT hTe e1 e2 u1 u2
  have r0 := HR.out.cell 0
  have r1 := HR.out.cell 1
  have r2 := HR.out.cell 2
  have q0 := HR.out.free 0
  have q1 := HR.out.free 1
  have q2 := HR.out.free 2
  go_wp2_with fail
  refine bodyPost_ret (v := .agg #[.slice none 0 0, .int .i64 (p : Nat), .int .i64 c]) (by simp [results, Tryz.results26, go_sem, r0, r1, r2]) rfl ?_
  rw [HO.out]
  exact ⟨below_put3 HW5.out (Nat.le_refl _) _ _ _, rfl⟩
set_option maxRecDepth 100000 in
set_option maxHeartbeats 8000000 in
theorem rone_k2 (s : ByteArray) (i : Nat) (w : World) (hs : s.size ≤ 2000) (hi : i ≤ s.size) (hq : isLt (bt s (bl s i)) = true) (hu : Iz.use (wd s i) = 4) (hk : bt s (bl s (wE s (bl s i))) = 34) (tk : Tok) (hx : strAns s (bl s (wE s (bl s i))) = .tok tk) : Calls Tryz.prog 26 #[.string s, .int .i64 i] w (OneR (Iz.oneI s i) w) := by
  have ha0 := bl_le hi
  have hz := Iz.wE_le ha0
  have ha := bl_le hz
  have HB1 := Lib.hid (fun w1 => rblanks_any s i w1 (by omega) (by omega))
  have HB2 := Lib.hid (fun w1 => rblanks_any s (wE s (bl s i)) w1 (by omega) (by omega))
  have HW := Lib.hid (fun w1 => r8word_any s i w1 (by omega) hi)
  rw [show wordT s i = wd s i from by unfold wordT; rw [if_pos hq], show wordP s i = wE s (bl s i) from by unfold wordP; rw [if_pos hq]] at HW
  have HRU := Lib.hid (fun w1 => ruses_any (wd s i) w1)
  have hnt := use_times (wd s i)
  unfold Iz.timesW at hnt
  obtain ⟨hn1, hn2⟩ := wd_ne hq hi
  rw [show span isBl s i = bl s i from rfl] at HB1
  rw [show span isBl s (wE s (bl s i)) = bl s (wE s (bl s i)) from rfl] at HB2
  have HO1 := oneI_4 hq hu
  rw [hu] at HRU hnt
  have h34 : ∃ h : (bl s (wE s (bl s i))) < s.size, (s[(bl s (wE s (bl s i)))]'h).toNat = 34 := by
    have h : (bl s (wE s (bl s i))) < s.size := lt_of_bt (by rw [hk]; decide)
    exact ⟨h, by rw [bt_at s _ h]; exact hk⟩
  have HNX := Lib.hid (fun w1 => rnext_far s (bl s (wE s (bl s i))) w1 (by omega) (by omega) ha)
  rw [next_str hk] at HNX
  rw [hx] at HNX
  have HO := Lib.hid (show Iz.oneI s i = .ok ⟨wd s i, 0, tk.text⟩ tk.fin from HO1.trans (by unfold Iz.keyI; rw [if_pos hk, hx]))
  clear HO1 hk hx
  generalize Iz.oneI s i = res at *
  clear hq
  generalize wd s i = nm at *
  generalize bl s (wE s (bl s i)) = a at *
  generalize wE s (bl s i) = z at *
  generalize bl s i = a0 at *
  go_enter Tryz.func26, Tryz.ntmps26
  go_upto_region 1 with fail
  refine alloc_gz (fun W1 hW hR => ?_)
  have HW1 := Lib.hid hW
  have HR := Lib.hid hR
  clear hW hR
  go_wp2_with fail
  refine (HB1.out _).mono ?_
  rintro e w2 ⟨rfl, rfl⟩
  go_wp2_with fail
  refine (HW.out _).mono ?_
  rintro e w2 ⟨rfl, rfl⟩
  go_upto_region 6 with fail
  refine alloc_gz (fun W2 hW hX => ?_)
  have HW2 := Lib.hid (HW1.out.trans (hW.mono HW1.out.size))
  have hlX0 := HR.out.lt
  have HR := Lib.hid (HR.out.onto hW)
  obtain ⟨X, hXe⟩ : ∃ X, W1.heap.size = X := ⟨_, rfl⟩
  have hlX : w.heap.size < X := by rw [← hXe]; exact hlX0
  rw [hXe] at hX ⊢
  clear hlX0
  have HX := Lib.hid hX
  clear hW hX hXe
  go_wp2_with fail
  refine (HRU.out _).mono ?_
  rintro e w3 ⟨rfl, rfl⟩
  unfold usesI
  dsimp only
  go_wp2_with fail
  refine (HB2.out _).mono ?_
  rintro e w3 ⟨rfl, rfl⟩
  obtain ⟨h, h2⟩ := h34
  have u1 : decide ((a : Int) ≥ (s.size : Int)) = false := decide_eq_false (by omega)
  have u2 : decide ((s.size : Int) ≤ (a : Int)) = false := u1
  have e1 : (((s[a]'h).toNat : Int) != 34) = false := by rw [h2]; rfl
  have e2 : (((s[a]'h).toNat : Int) == 34) = true := by rw [h2]; rfl
  have i1 : (0 : Int) ≤ (a : Int) := by omega
  have i2 : (a : Int) < (s.size : Int) := by omega
  clear h2
  go_wp2_with fail
  refine (HNX.out _).mono ?_
  rintro e w4 ⟨rfl, hb⟩
  have HW4 := Lib.hid (HW2.out.trans (hb.mono HW2.out.size))
  have HR := Lib.hid (HR.out.onto hb)
  have HX := Lib.hid (HX.out.onto hb)
  clear hb
  unfold Ans.val
  go_upto_region 29 with fail
  refine alloc_gz (fun W5 hW hT => ?_)
  have HW5 := Lib.hid (HW4.out.trans (hW.mono HW4.out.size))
  have HR := Lib.hid (HR.out.onto hW)
  have hX4 := HX.out.lt
  have HX := Lib.hid (HX.out.onto hW)
  obtain ⟨T, hTe⟩ : ∃ T, w4.heap.size = T := ⟨_, rfl⟩
  rw [hTe] at hT hX4 ⊢
  have HT := Lib.hid hT
  clear hW hT hTe e1 e2 u1 u2
  have t0 := HT.out.cell 0
  have t1 := HT.out.cell 1
  have t2 := HT.out.cell 2
  have t3 := HT.out.cell 3
  have t4 := HT.out.cell 4
  have x0 := HX.out.cell 0
  have x1 := HX.out.cell 1
  have x2 := HX.out.cell 2
  have y0 := HX.out.free 0
  have y1 := HX.out.free 1
  have y2 := HX.out.free 2
  go_upto_region 33 with fail
  have HX := Lib.hid (show Blk (W5.setCell ⟨X, 2, none⟩ (.string tk.text)) X _ #[.string nm, .int .i64 0, .string tk.text] from HX.out.set_ 2 _)
  have HR := Lib.hid (HR.out.far (p := ⟨X, 2, none⟩) (show ¬ w.heap.size = X by omega) (.string tk.text))
  have HW6 := Lib.hid (HW5.out.setCell (p := ⟨X, 2, none⟩) (show w.heap.size ≤ X by omega) (.string tk.text))
  clear t0 t1 t2 t3 t4 x0 x1 x2 y0 y1 y2
  generalize (W5.setCell ⟨X, 2, none⟩ (.string tk.text)) = W6 at *
  have HRq := Lib.hid (HR.out.alloc (.cells #[.string nm, .int .i64 0, .string tk.text] 27))
  have hlq := HX.out.lt
  have x0 := HX.out.cell 0
  have x1 := HX.out.cell 1
  have x2 := HX.out.cell 2
  have r0 := HRq.out.cell 0
  have r1 := HRq.out.cell 1
  have r2 := HRq.out.cell 2
  have q0 := HRq.out.free 0
  have q1 := HRq.out.free 1
  have q2 := HRq.out.free 2
  go_wp2_with fail
  refine bodyPost_ret (v := .agg #[.slice (some ⟨(W6).heap.size, 0, none⟩) 1 1, .int .i64 (tk.fin : Nat), .int .i64 0]) (by simp [results, Tryz.results26, go_sem, r0, r1, r2]) rfl ?_
  rw [HO.out]
  exact ⟨below_put3 (HW6.out.alloc HW6.out.size _) (Nat.le_refl _) _ _ _, _, HW6.out.size, rfl, blk_far3 (Blk.new _ _ _) (by omega) _ _ _⟩
end Go.Proofs.YtfiahpeajccinaaGreatDoor
