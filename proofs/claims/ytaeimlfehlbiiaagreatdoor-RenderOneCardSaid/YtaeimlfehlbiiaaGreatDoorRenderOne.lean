/- However a value was written, its text is one; two values have one text just if they are the same: for every two lists of nodes and every bytes, over the library's variables as they are laid. -/
import Derived.Test.YtaeimlfehlbiiaaGreatDoorCards
import Derived.Test.YtaeimlfehlbiiaaGreatDoorTie
import Derived.WalkKit
import Derived.ProofKit
import Derived.OpenShut
import Derived.ChangeOld
import Derived.ShutString
import Derived.Below
import Derived.LaidMore
import Derived.Lib.LaidTab
import Derived.Stop.Joined
import Derived.Stop.LaidErr
import Derived.SevenTiedAt
import Derived.Lay
import Derived.Test.YtaeimlfehlbiiaaGreatDoorMS
import Derived.Test.YtaeimlfehlbiiaaGreatDoorMX
import Derived.Test.YtaeimlfehlbiiaaGreatDoorOC
import Derived.Test.YtaeimlfehlbiiaaGreatDoorOB
import Derived.Test.YtaeimlfehlbiiaaGreatDoorNJ
import Derived.Test.YtaeimlfehlbiiaaGreatDoorMZ
import Derived.Test.YtaeimlfehlbiiaaGreatDoorMY
import Derived.Test.YtaeimlfehlbiiaaGreatDoorMJ
namespace Go.Proofs.YtaeimlfehlbiiaaGreatDoor.renderOne
open Go.ChangeShapes Go.WideShapes Go.ChangeAt Go.RowKit
open Go.ChangeMaps (open_string shut_string)
open Tk Pl
set_option linter.unusedVariables false

theorem own : ownKnob Tryz.prog.godebug = none := by kernel_rfl
theorem laidOut : laidOutB Tryz.prog = true := by kernel_rfl
theorem gRange : Tryz.prog.globalNamed "strconv.ErrRange" = some 7 := by kernel_rfl
theorem star : "*" ++ "errors.errorString" = "*errors.errorString" := by decide
theorem rowPtr (u : TypeId) (h : Tryz.prog.typeName? 3 u = some "*errors.errorString") : u = 230 :=
  typeName_ptr_named (nm := "errors.errorString") (by rw [star]; kernel_rfl) (by kernel_rfl) (by decide) u (by rw [star]; exact h)
/-- what the row's list gives -/
theorem errs {W : World} (h : laidMetH Tryz.prog Rows.renderOneRow.laid W) : RangeErr W := by
  have h' : laidMet Tryz.prog Rows.renderOneRow.laid W := h
  obtain ⟨a, s, hv, _⟩ := laid_sentinel h'.tail.tail.tail.tail gRange (by kernel_rfl) Tryz.underlying90 rowPtr Tryz.underlying230 Tryz.underlying232 rfl rfl Tryz.underlying9 (by kernel_rfl) (by kernel_rfl)
  exact ⟨_, _, hv⟩
theorem gPow5 : Tryz.prog.globalNamed "internal/strconv.uint64pow10" = some 0 := by kernel_rfl
/-- and its table -/
theorem table {W : World} (h : laidMetH Tryz.prog Rows.renderOneRow.laid W) : Lib.TabIs Tryz.prog W "internal/strconv.uint64pow10" .u64 Lib.pow10Tab := by
  have h' : laidMet Tryz.prog Rows.renderOneRow.laid W := h
  exact Lib.tabIs_of_head (rest := _) gPow5 (by kernel_rfl) Tryz.underlying194 Tryz.underlying144 (by kernel_rfl) (by kernel_rfl) h'.tail.tail

theorem parse_whole {s : ByteArray} {d : Nat} (hd : d ≤ 64) (hs : s.size ≤ 16384) : Rd.parseR s d = Rd.whole Rd.Ob s d := by
  unfold Rd.parseR
  rw [if_neg (by omega), if_neg (by omega)]
  rfl
theorem depth_size : ∀ t : T, t.depth ≤ t.size := by
  have h : ∀ n, (∀ t : T, t.size ≤ n → t.depth ≤ t.size) := by
    intro n
    induction n with
    | zero => intro t h; have := t.size_pos; omega
    | succ n ih =>
      intro t ht
      cases t with
      | mk k tr nn s l ks =>
        have hs : ∀ l : List T, T.sizes l ≤ n → T.depths l ≤ T.sizes l := by
          intro l
          induction l with
          | nil => intro _; simp [T.depths, T.sizes]
          | cons a l ihl =>
            intro h
            simp only [T.sizes] at h
            have h1 := ih a (by omega)
            have h2 := ihl (by omega)
            simp only [T.depths, T.sizes]
            omega
        have e := T.size_eq (.mk k tr nn s l ks)
        have h2 := hs l (by have : (T.mk k tr nn s l ks).items = l := rfl; rw [this] at e; omega)
        rw [e]
        show T.depth _ ≤ 1 + T.sizes l
        unfold T.depth
        split <;> omega
  exact fun t => h t.size t (Nat.le_refl _)
theorem ref_c (B0 : Nat) (t : T) (A : Option Addr) (c : Nat) (A' : Option Addr) (c' : Nat) (w : World) (ht : t.size ≤ 100000) (hB : B0 ≤ w.heap.size) (hv : TV w (· < B0) t A c A' c') :
    Calls Tryz.prog 14 #[.agg #[.int .i64 t.kind, .bool t.tr, .int .i64 t.num, .string t.str, .slice A t.items.length c, .slice A' t.keys.length c']] w (GivesR B0 t w) := ref_any B0 t A c A' c' w ht hB hv
theorem rsame_c (t : T) (A : Option Addr) (c : Nat) (A' : Option Addr) (c' : Nat) (B : Option Addr) (d : Nat) (B' : Option Addr) (d' : Nat) (w : World) (ht : t.size ≤ 100000) (hs : t.Small) (hv : TV w (· < w.heap.size) t A c A' c') (hu : TV w (· < w.heap.size) t B d B' d') :
    Calls Tryz.prog 13 #[.agg #[.int .i64 t.kind, .bool t.tr, .int .i64 t.num, .string t.str, .slice A t.items.length c, .slice A' t.keys.length c'], .agg #[.int .i64 t.kind, .bool t.tr, .int .i64 t.num, .string t.str, .slice B t.items.length d, .slice B' t.keys.length d']] w fun e w' => e = .returned (.bool true) ∧ Below w.heap.size w w' := rsame_yes t A c A' c' B d B' d' w ht hs hv hu
theorem bytes8_onw {w w' : World} {A : Option Addr} {m : Nat} (h : Bytes8 w (· < w.heap.size) A m) (hb : Below w.heap.size w w') : Bytes8 w' (· < w'.heap.size) A m :=
  (h.keep fun i hi => hb.block i hi).wide fun i hi => Nat.lt_of_lt_of_le hi hb.size
theorem real_c (t : T) (A : Option Addr) (c : Nat) (A' : Option Addr) (c' : Nat) (w : World) (ht : t.size ≤ 100000) (hs : t.Small) (hv : TV w (· < w.heap.size) t A c A' c') :
    Calls Tryz.prog 9 #[.agg #[.int .i64 t.kind, .bool t.tr, .int .i64 t.num, .string t.str, .slice A t.items.length c, .slice A' t.keys.length c']] w (GivesT t w) := real_any t A c A' c' w ht hs hv
theorem rsame_n (t u : T) (A : Option Addr) (c : Nat) (A' : Option Addr) (c' : Nat) (B : Option Addr) (d : Nat) (B' : Option Addr) (d' : Nat) (w : World) (hne : t ≠ u) (ht : t.size ≤ 100000) (hs : t.Small) (hv : TV w (· < w.heap.size) t A c A' c') (hu : TV w (· < w.heap.size) u B d B' d') :
    Calls Tryz.prog 13 #[.agg #[.int .i64 t.kind, .bool t.tr, .int .i64 t.num, .string t.str, .slice A t.items.length c, .slice A' t.keys.length c'], .agg #[.int .i64 u.kind, .bool u.tr, .int .i64 u.num, .string u.str, .slice B u.items.length d, .slice B' u.keys.length d']] w fun e w' => e = .returned (.bool false) ∧ Below w.heap.size w w' := rsame_no t u A c A' c' B d B' d' w hne ht hs hv hu
theorem rsame_b (t u : T) (A : Option Addr) (c : Nat) (A' : Option Addr) (c' : Nat) (B : Option Addr) (d : Nat) (B' : Option Addr) (d' : Nat) (w : World) (ht : t.size ≤ 100000) (hs : t.Small) (b : Bool) (hb : b = true ↔ t = u) (hv : TV w (· < w.heap.size) t A c A' c') (hu : TV w (· < w.heap.size) u B d B' d') :
    Calls Tryz.prog 13 #[.agg #[.int .i64 t.kind, .bool t.tr, .int .i64 t.num, .string t.str, .slice A t.items.length c, .slice A' t.keys.length c'], .agg #[.int .i64 u.kind, .bool u.tr, .int .i64 u.num, .string u.str, .slice B u.items.length d, .slice B' u.keys.length d']] w fun e w' => e = .returned (.bool b) ∧ Below w.heap.size w w' := by
  by_cases h : t = u
  · subst h
    rw [hb.2 rfl]
    exact rsame_c t A c A' c' B d B' d' w ht hs hv hu
  · have : b = false := by
      cases b
      · rfl
      · exact absurd (hb.1 rfl) h
    rw [this]
    exact rsame_n t u A c A' c' B d B' d' w h ht hs hv hu
set_option maxRecDepth 100000 in
set_option maxHeartbeats 16000000 in
theorem walk (A : Option Addr) (n c : Nat) (A1 : Option Addr) (n1 c1 : Nat) (B : Option Addr) (m mc : Nat) (w : World) (hnc : n ≤ c) (hcm : c ≤ maxLen) (hN : Nodes w (· < w.heap.size) A n) (hnc1 : n1 ≤ c1) (hcm1 : c1 ≤ maxLen) (hN1 : Nodes w (· < w.heap.size) A1 n1) (hmc : m ≤ mc) (hmm : mc ≤ maxLen) (hB : Bytes8 w (· < w.heap.size) B m) (hr : RangeErr w) (htb : Lib.TabIs Tryz.prog w "internal/strconv.uint64pow10" .u64 Lib.pow10Tab) :
    Calls Tryz.prog 4 #[.slice A n c, .slice A1 n1 c1, .slice B m mc] w fun e w' => e = .returned (.bool true) ∧ Below w.heap.size w w' := by
  have HR := Lib.hid hr
  have HTB := Lib.hid (tab_of htb)
  have HN := Lib.hid hN
  have HN1 := Lib.hid hN1
  have HB := Lib.hid hB
  clear hr hN hN1 hB htb
  by_cases h50 : m ≤ 50
  · have u0 : decide ((m : Int) > 50) = false := decide_eq_false (by omega)
    have u0' : decide ((50 : Int) < (m : Int)) = false := decide_eq_false (by omega)
    have u0n : decide (50 < m) = false := decide_eq_false (by omega)
    go_enter Tryz.func4, Tryz.ntmps4
    go_wp2_with fail
    refine (awake7_any _ HTB.out.2).mono ?_
    rintro e w1 ⟨rfl, hb1⟩
    have H1 := Lib.hid hb1
    clear hb1
    go_wp2_with fail
    refine (tree_any A n c _ hnc hcm (HN.out.on H1.out)).mono ?_
    rintro e w2 ⟨t, C, d, C', d', rfl, hnice, htv, hb2⟩
    have H2 := Lib.hid (H1.out.trans (hb2.mono H1.out.size))
    have HTR := Lib.hid htv
    have HNI := Lib.hid hnice
    have hsz := hnice.le
    have h40 := hnice.size
    have hdp := depth_size t
    have HSM := Lib.hid hnice.small
    clear hb2 htv hnice H1
    unfold T.agg
    go_wp2_with fail
    refine (tree_any A1 n1 c1 _ hnc1 hcm1 (HN1.out.on H2.out)).mono ?_
    rintro e w3 ⟨u, F, f, F', f', rfl, hnice, htv, hb3⟩
    have H3 := Lib.hid (H2.out.trans (hb3.mono H2.out.size))
    have HTR3 := Lib.hid (HTR.out.on hb3)
    have HUR3 := Lib.hid htv
    have HNU := Lib.hid hnice
    have husz := hnice.le
    have HUS := Lib.hid hnice.small
    clear hb3 htv hnice HTR H2
    have hwa : Below w3.heap.size w3 ((w3.alloc (.cells #[.int .i64 t.kind, .bool t.tr, .int .i64 t.num, .string t.str, .slice C t.items.length d, .slice C' t.keys.length d'] 27)).alloc (.cells #[.int .i64 u.kind, .bool u.tr, .int .i64 u.num, .string u.str, .slice F u.items.length f, .slice F' u.keys.length f'] 27)) := ((Below.refl _ _).alloc (Nat.le_refl _) _).alloc (by simp) _
    have HBX := Lib.hid ((Blk.new w3 27 #[.int .i64 t.kind, .bool t.tr, .int .i64 t.num, .string t.str, .slice C t.items.length d, .slice C' t.keys.length d']).alloc (.cells #[.int .i64 u.kind, .bool u.tr, .int .i64 u.num, .string u.str, .slice F u.items.length f, .slice F' u.keys.length f'] 27))
    have HBU := Lib.hid (show Blk ((w3.alloc (.cells #[.int .i64 t.kind, .bool t.tr, .int .i64 t.num, .string t.str, .slice C t.items.length d, .slice C' t.keys.length d'] 27)).alloc (.cells #[.int .i64 u.kind, .bool u.tr, .int .i64 u.num, .string u.str, .slice F u.items.length f, .slice F' u.keys.length f'] 27)) (w3.heap.size + 1) 27 #[.int .i64 u.kind, .bool u.tr, .int .i64 u.num, .string u.str, .slice F u.items.length f, .slice F' u.keys.length f'] from by have := Blk.new (w3.alloc (.cells #[.int .i64 t.kind, .bool t.tr, .int .i64 t.num, .string t.str, .slice C t.items.length d, .slice C' t.keys.length d'] 27)) 27 #[.int .i64 u.kind, .bool u.tr, .int .i64 u.num, .string u.str, .slice F u.items.length f, .slice F' u.keys.length f']; rwa [World.size_alloc] at this)
    have HT := Lib.hid (HTR3.out.on hwa)
    have HU := Lib.hid (HUR3.out.on hwa)
    have HW := Lib.hid (H3.out.trans (hwa.mono H3.out.size))
    have HB2 := Lib.hid (bytes8_onw HB.out HW.out)
    clear hwa HTR3 HUR3
    unfold T.agg
    go_upto_region 4 with fail
    change Code.wp _ _ _ _ ((w3.alloc (.cells #[.int .i64 t.kind, .bool t.tr, .int .i64 t.num, .string t.str, .slice C t.items.length d, .slice C' t.keys.length d'] 27)).alloc (.cells #[.int .i64 u.kind, .bool u.tr, .int .i64 u.num, .string u.str, .slice F u.items.length f, .slice F' u.keys.length f'] 27))
    generalize ((w3.alloc (.cells #[.int .i64 t.kind, .bool t.tr, .int .i64 t.num, .string t.str, .slice C t.items.length d, .slice C' t.keys.length d'] 27)).alloc (.cells #[.int .i64 u.kind, .bool u.tr, .int .i64 u.num, .string u.str, .slice F u.items.length f, .slice F' u.keys.length f'] 27)) = W at *
    have hgG : w3.heap.size ≠ w3.heap.size + 1 := by omega
    generalize w3.heap.size + 1 = GU at *
    generalize w3.heap.size = G at *
    obtain ⟨a0, a1, a2, a3, a4, a5⟩ : W.cell? ⟨G, 0, none⟩ = some (.int .i64 t.kind) ∧ W.cell? ⟨G, 1, none⟩ = some (.bool t.tr) ∧ W.cell? ⟨G, 2, none⟩ = some (.int .i64 t.num) ∧ W.cell? ⟨G, 3, none⟩ = some (.string t.str) ∧ W.cell? ⟨G, 4, none⟩ = some (.slice C t.items.length d) ∧ W.cell? ⟨G, 5, none⟩ = some (.slice C' t.keys.length d') := ⟨HBX.out.cell 0, HBX.out.cell 1, HBX.out.cell 2, HBX.out.cell 3, HBX.out.cell 4, HBX.out.cell 5⟩
    go_wp2_with fail
    refine (write_any6 t C d C' d' B m mc W HNI.out HT.out HB2.out (by omega)).mono ?_
    rintro e w4 ⟨r, rfl, hwr, hrs, hb4⟩
    clear a0 a1 a2 a3 a4 a5
    have H4 := Lib.hid (HW.out.trans (hb4.mono HW.out.size))
    have HBX4 := Lib.hid (HBX.out.onto hb4)
    have HBU4 := Lib.hid (HBU.out.onto hb4)
    have HT4 := Lib.hid (HT.out.on hb4)
    have HU4 := Lib.hid (HU.out.on hb4)
    have HWR := Lib.hid hwr
    clear hb4 hwr HB2
    by_cases hl : r.size ≤ 16000
    · have v0 : decide ((r.size : Int) > 16000) = false := decide_eq_false (by omega)
      have v0' : decide ((16000 : Int) < (r.size : Int)) = false := decide_eq_false (by omega)
      have v0n : decide (16000 < r.size) = false := decide_eq_false (by omega)
      have HP := Lib.hid (parse_any6 r 64 w4 (HR.out.on H4.out))
      rw [show Rd.parseR r 64 = Rd.whole Rd.Ob r 64 from parse_whole (d := 64) (by omega) (by omega), (Rd.whole_written HWR.out rfl 64).1 (by omega)] at HP
      go_wp2_with fail
      refine HP.out.mono ?_
      rintro e w5 ⟨E, g, E', g', rfl, hT5, hb5⟩
      have hb5a : Below w4.heap.size w4 (w5.alloc (.cells #[.int .i64 t.kind, .bool t.tr, .int .i64 t.num, .string t.str, .slice E t.items.length g, .slice E' t.keys.length g'] 32)) := hb5.alloc hb5.size _
      have HBY := Lib.hid (Blk.new w5 32 #[.int .i64 t.kind, .bool t.tr, .int .i64 t.num, .string t.str, .slice E t.items.length g, .slice E' t.keys.length g'])
      have H5 := Lib.hid (H4.out.trans (hb5a.mono H4.out.size))
      have HBX5 := Lib.hid (HBX4.out.onto hb5a)
      have HBU5 := Lib.hid (HBU4.out.onto hb5a)
      have HT5 := Lib.hid (HT4.out.on hb5a)
      have HU5 := Lib.hid (HU4.out.on hb5a)
      have HE5 := Lib.hid (show TV (w5.alloc (.cells #[.int .i64 t.kind, .bool t.tr, .int .i64 t.num, .string t.str, .slice E t.items.length g, .slice E' t.keys.length g'] 32)) (· < (w5.alloc (.cells #[.int .i64 t.kind, .bool t.tr, .int .i64 t.num, .string t.str, .slice E t.items.length g, .slice E' t.keys.length g'] 32)).heap.size) t E g E' g' from (hT5.wide (S' := (· < w5.heap.size)) fun i hi => hi.2).on ((Below.refl _ _).alloc (Nat.le_refl _) _))
      clear hb5 hb5a hT5 HP
      unfold T.agg
      go_upto_region 8 with fail
      change Code.wp _ _ _ _ (w5.alloc (.cells #[.int .i64 t.kind, .bool t.tr, .int .i64 t.num, .string t.str, .slice E t.items.length g, .slice E' t.keys.length g'] 32))
      generalize (w5.alloc (.cells #[.int .i64 t.kind, .bool t.tr, .int .i64 t.num, .string t.str, .slice E t.items.length g, .slice E' t.keys.length g'] 32)) = W5 at *
      generalize w5.heap.size = GE at *
      obtain ⟨a0, a1, a2, a3, a4, a5⟩ : W5.cell? ⟨G, 0, none⟩ = some (.int .i64 t.kind) ∧ W5.cell? ⟨G, 1, none⟩ = some (.bool t.tr) ∧ W5.cell? ⟨G, 2, none⟩ = some (.int .i64 t.num) ∧ W5.cell? ⟨G, 3, none⟩ = some (.string t.str) ∧ W5.cell? ⟨G, 4, none⟩ = some (.slice C t.items.length d) ∧ W5.cell? ⟨G, 5, none⟩ = some (.slice C' t.keys.length d') := ⟨HBX5.out.cell 0, HBX5.out.cell 1, HBX5.out.cell 2, HBX5.out.cell 3, HBX5.out.cell 4, HBX5.out.cell 5⟩
      go_wp2_with fail
      refine (real_c t C d C' d' W5 hsz HSM.out HT5.out).mono ?_
      rintro e w6 ⟨K, k, K', k', rfl, hT6, hb6⟩
      have H6 := Lib.hid (H5.out.trans (hb6.mono H5.out.size))
      have HBX6 := Lib.hid (HBX5.out.onto hb6)
      have HBU6 := Lib.hid (HBU5.out.onto hb6)
      have HBY6 := Lib.hid (HBY.out.onto hb6)
      have HT6 := Lib.hid (HT5.out.on hb6)
      have HU6 := Lib.hid (HU5.out.on hb6)
      have HE6 := Lib.hid (HE5.out.on hb6)
      have HK6 := Lib.hid (show TV w6 (· < w6.heap.size) t K k K' k' from hT6.wide fun b hb => hb.2)
      clear hb6 hT6 a0 a1 a2 a3 a4 a5
      have HTT := Lib.hid (fun A c A' c' w' (h : Below w.heap.size w w') hv => rntext_any t A c A' c' w' HNI.out.fine (HTB.out.on h).2 hv)
      have HTU := Lib.hid (fun A c A' c' w' (h : Below w.heap.size w w') hv => rntext_any u A c A' c' w' HNU.out.fine (HTB.out.on h).2 hv)
      have hin : mkB u.txt = mkB t.txt ↔ t = u := by
        have := Rd.txt_inj HNU.out.good HNI.out.good (HNU.out.fit.imp fun _ g => ⟨g.n0, g.n1⟩) (HNI.out.fit.imp fun _ g => ⟨g.n0, g.n1⟩)
        constructor
        · intro h
          exact (this.1 (by have h2 := congrArg (fun s : ByteArray => s.data.toList) h; simpa only [mkB_data] using h2)).symm
        · intro h; rw [h]
      generalize mkB t.txt = S at *
      generalize mkB u.txt = U at *
      have us : (S.toList == S.toList) = true := beq_self_eq_true _
      obtain ⟨bb, hbb⟩ : ∃ bb : Bool, bb = (U.toList == S.toList) := ⟨_, rfl⟩
      have hbu : bb = true ↔ t = u := by rw [hbb, tl_eq6, decide_eq_true_iff]; exact hin
      have ub : (U.toList == S.toList) = bb := hbb.symm
      have HSB := Lib.hid (fun A c A' c' B d B' d' w' hv hu => rsame_b t u A c A' c' B d B' d' w' hsz HSM.out bb hbu hv hu)
      clear hin hbb hbu
      unfold T.agg
      go_wp2_with fail
      refine (HTT.out K k K' k' w6 H6.out HK6.out).mono ?_
      rintro e W7 ⟨rfl, hb7⟩
      have H9 := Lib.hid (H6.out.trans (hb7.mono H6.out.size))
      have HBX7 := Lib.hid (HBX6.out.onto hb7)
      have HBU7 := Lib.hid (HBU6.out.onto hb7)
      have HBY7 := Lib.hid (HBY6.out.onto hb7)
      have HT7 := Lib.hid (HT6.out.on hb7)
      have HU7 := Lib.hid (HU6.out.on hb7)
      have HE7 := Lib.hid (HE6.out.on hb7)
      clear hb7 HK6
      go_upto_region 9 with fail
      have HSS := Lib.hid (show ∀ w', Below W7.heap.size W7 w' → (w'.cell? ⟨G, 0, none⟩ = some (.int .i64 t.kind) ∧ w'.cell? ⟨G, 1, none⟩ = some (.bool t.tr) ∧ w'.cell? ⟨G, 2, none⟩ = some (.int .i64 t.num) ∧ w'.cell? ⟨G, 3, none⟩ = some (.string t.str) ∧ w'.cell? ⟨G, 4, none⟩ = some (.slice C t.items.length d) ∧ w'.cell? ⟨G, 5, none⟩ = some (.slice C' t.keys.length d')) ∧ (w'.cell? ⟨GU, 0, none⟩ = some (.int .i64 u.kind) ∧ w'.cell? ⟨GU, 1, none⟩ = some (.bool u.tr) ∧ w'.cell? ⟨GU, 2, none⟩ = some (.int .i64 u.num) ∧ w'.cell? ⟨GU, 3, none⟩ = some (.string u.str) ∧ w'.cell? ⟨GU, 4, none⟩ = some (.slice F u.items.length f) ∧ w'.cell? ⟨GU, 5, none⟩ = some (.slice F' u.keys.length f')) ∧ (w'.cell? ⟨GE, 0, none⟩ = some (.int .i64 t.kind) ∧ w'.cell? ⟨GE, 1, none⟩ = some (.bool t.tr) ∧ w'.cell? ⟨GE, 2, none⟩ = some (.int .i64 t.num) ∧ w'.cell? ⟨GE, 3, none⟩ = some (.string t.str) ∧ w'.cell? ⟨GE, 4, none⟩ = some (.slice E t.items.length g) ∧ w'.cell? ⟨GE, 5, none⟩ = some (.slice E' t.keys.length g')) from fun w' hb => by
        have e1 := HBX7.out.onto hb
        have e2 := HBU7.out.onto hb
        have e3 := HBY7.out.onto hb
        exact ⟨⟨e1.cell 0, e1.cell 1, e1.cell 2, e1.cell 3, e1.cell 4, e1.cell 5⟩, ⟨e2.cell 0, e2.cell 1, e2.cell 2, e2.cell 3, e2.cell 4, e2.cell 5⟩, ⟨e3.cell 0, e3.cell 1, e3.cell 2, e3.cell 3, e3.cell 4, e3.cell 5⟩⟩)
      obtain ⟨⟨a0, a1, a2, a3, a4, a5⟩, ⟨b0, b1, b2, b3, b4, b5⟩, ⟨c0, c1', c2, c3, c4, c5⟩⟩ := HSS.out W7 (Below.refl _ _)
      have HBc := Lib.hid (Below.refl W7.heap.size W7)
      have TOK := Lib.hid True.intro
      go_region_held3 (fun w' => (w'.cell? ⟨G, 0, none⟩ = some (.int .i64 t.kind) ∧ w'.cell? ⟨G, 1, none⟩ = some (.bool t.tr) ∧ w'.cell? ⟨G, 2, none⟩ = some (.int .i64 t.num) ∧ w'.cell? ⟨G, 3, none⟩ = some (.string t.str) ∧ w'.cell? ⟨G, 4, none⟩ = some (.slice C t.items.length d) ∧ w'.cell? ⟨G, 5, none⟩ = some (.slice C' t.keys.length d')) ∧ (w'.cell? ⟨GU, 0, none⟩ = some (.int .i64 u.kind) ∧ w'.cell? ⟨GU, 1, none⟩ = some (.bool u.tr) ∧ w'.cell? ⟨GU, 2, none⟩ = some (.int .i64 u.num) ∧ w'.cell? ⟨GU, 3, none⟩ = some (.string u.str) ∧ w'.cell? ⟨GU, 4, none⟩ = some (.slice F u.items.length f) ∧ w'.cell? ⟨GU, 5, none⟩ = some (.slice F' u.keys.length f')) ∧ (w'.cell? ⟨GE, 0, none⟩ = some (.int .i64 t.kind) ∧ w'.cell? ⟨GE, 1, none⟩ = some (.bool t.tr) ∧ w'.cell? ⟨GE, 2, none⟩ = some (.int .i64 t.num) ∧ w'.cell? ⟨GE, 3, none⟩ = some (.string t.str) ∧ w'.cell? ⟨GE, 4, none⟩ = some (.slice E t.items.length g) ∧ w'.cell? ⟨GE, 5, none⟩ = some (.slice E' t.keys.length g')))
        (first
          | with_reducible exact HSS.out _ HBc.out
          | with_reducible exact HSS.out _ (below_drewN HBc.out _)
          | exact HSS.out _ HBc.out.drew
          | go_keep)
        (first
          | (go_at_call 16
             have hg := TOK.out
             clear hg TOK
             with_reducible refine (HTT.out E g E' g' _ (H9.out.trans (Below.mono (show Below W7.heap.size W7 _ from ?_) H9.out.size)) (HE7.out.on ?_)).mono ?_
             · exact (by first | with_reducible exact HBc.out | with_reducible exact below_drewN HBc.out _ | exact HBc.out.drew)
             · exact (by first | with_reducible exact HBc.out | with_reducible exact below_drewN HBc.out _ | exact HBc.out.drew)
             rintro e8 w8 ⟨rfl, hb8⟩
             have HBc := Lib.hid (show Below W7.heap.size W7 w8 from by first | with_reducible exact HBc.out.trans (hb8.mono HBc.out.size) | with_reducible exact (below_drewN HBc.out _).trans (hb8.mono HBc.out.size) | exact HBc.out.drew.trans (hb8.mono HBc.out.size))
             clear hb8)
          | (go_at_call 9
             with_reducible refine (real_c u F f F' f' _ husz HUS.out (HU7.out.on ?_)).mono ?_
             · exact (by first | with_reducible exact HBc.out | with_reducible exact below_drewN HBc.out _ | exact HBc.out.drew)
             rintro e8 w8 ⟨J, j, J', j', rfl, hT8, hb8⟩
             unfold T.agg
             have HBc := Lib.hid (show Below W7.heap.size W7 w8 from by first | with_reducible exact HBc.out.trans (hb8.mono HBc.out.size) | with_reducible exact (below_drewN HBc.out _).trans (hb8.mono HBc.out.size) | exact HBc.out.drew.trans (hb8.mono HBc.out.size))
             have HRl := Lib.hid (show TV w8 (· < w8.heap.size) u J j J' j' from hT8.wide fun b hb => hb.2)
             have HBr := Lib.hid (Below.refl w8.heap.size w8)
             clear hT8 hb8)
          | (go_at_call 16
             have hg := HRl.out
             clear hg
             with_reducible refine (HTU.out J j J' j' _ (H9.out.trans (Below.mono (show Below W7.heap.size W7 _ from ?_) H9.out.size)) (HRl.out.on ?_)).mono ?_
             · exact (by first | with_reducible exact HBc.out | with_reducible exact below_drewN HBc.out _ | exact HBc.out.drew)
             · exact (by first | with_reducible exact HBr.out | with_reducible exact below_drewN HBr.out _ | exact HBr.out.drew)
             rintro e8 w8 ⟨rfl, hb8⟩
             have HBc := Lib.hid (show Below W7.heap.size W7 w8 from by first | with_reducible exact HBc.out.trans (hb8.mono HBc.out.size) | with_reducible exact (below_drewN HBc.out _).trans (hb8.mono HBc.out.size) | exact HBc.out.drew.trans (hb8.mono HBc.out.size))
             clear hb8)
          | (go_at_call 13
             with_reducible refine (HSB.out C d C' d' F f F' f' _ (HT7.out.on ?_) (HU7.out.on ?_)).mono ?_
             · exact (by first | with_reducible exact HBc.out | with_reducible exact below_drewN HBc.out _ | exact HBc.out.drew)
             · exact (by first | with_reducible exact HBc.out | with_reducible exact below_drewN HBc.out _ | exact HBc.out.drew)
             rintro e8 w8 ⟨rfl, hb8⟩
             have HBc := Lib.hid (show Below W7.heap.size W7 w8 from by first | with_reducible exact HBc.out.trans (hb8.mono HBc.out.size) | with_reducible exact (below_drewN HBc.out _).trans (hb8.mono HBc.out.size) | exact HBc.out.drew.trans (hb8.mono HBc.out.size))
             clear hb8))
      all_goals
        go_wp2_with fail
        go_ret
        exact ⟨by simp, H9.out.trans (HBc.out.mono H9.out.size)⟩
    · have v0 : decide ((r.size : Int) > 16000) = true := decide_eq_true (by omega)
      have v0' : decide ((16000 : Int) < (r.size : Int)) = true := decide_eq_true (by omega)
      have v0n : decide (16000 < r.size) = true := decide_eq_true (by omega)
      go_wp2_with fail
      go_ret
      exact ⟨rfl, H4.out⟩
  · have u0 : decide ((m : Int) > 50) = true := decide_eq_true (by omega)
    have u0' : decide ((50 : Int) < (m : Int)) = true := decide_eq_true (by omega)
    have u0n : decide (50 < m) = true := decide_eq_true (by omega)
    go_enter Tryz.func4, Tryz.ntmps4
    go_wp2_with fail
    refine (awake7_any _ HTB.out.2).mono ?_
    rintro e w1 ⟨rfl, hb1⟩
    have H1 := Lib.hid hb1
    clear hb1
    go_wp2_with fail
    refine (awake7_any _ (HTB.out.on H1.out).2).mono ?_
    rintro e w2 ⟨rfl, hb2⟩
    have H2 := Lib.hid (H1.out.trans (hb2.mono H1.out.size))
    clear hb2
    go_wp2_with fail
    go_ret
    exact ⟨rfl, H2.out⟩

set_option maxRecDepth 100000 in
theorem lifted (os : Os) (started : os.Started) (H : Type) (enc : TypeId × Value → H) :
    ReturnsInHanded {} Tryz.checked os 4 .any (fun w args => (Rows.renderOneSpec.pre enc Tryz.prog Tryz.f4 [] false w args ∧ laidMetH Tryz.prog Rows.renderOneRow.laid w) ∧ sizedMet enc Tryz.prog Tryz.f4 (OpenSpec.ofChange Rows.renderOneSpec) false w args)
      (Rows.renderOneSpec.post enc Tryz.prog Tryz.f4 false true false false) := by
  refine returnsInHanded_of_change_and (C := Tryz.checked) (X := fun w _ => laidMetH Tryz.prog Rows.renderOneRow.laid w) (fun _ _ _ hh h => h.of_heap hh) own started (by kernel_rfl) Tryz.func4
    (ChangeSpec.witness_shaped (enc := enc) (C := Tryz.checked) (os := os) (X := fun w _ => laidMetH Tryz.prog Rows.renderOneRow.laid w) false (World.laidAll Tryz.prog os Rows.renderOneRow.laid) #[.slice none 0 0, .slice none 0 0, .slice none 0 0] 8 (World.laidAll_os _ _ _) (World.shaped_of_ZipB (by kernel_rfl) (by kernel_rfl)) (by kernel_rfl) (by kernel_rfl) (by kernel_rfl) (by rw [MakeChecks.laidMetH_plain _ _ _ (by kernel_rfl)]; exact laidMet_laidAll _ (by kernel_rfl) (by kernel_rfl))) ?_
  intro W base args ds gs before hval0 hW _ _ hL _
  have hval : ∀ (j : Nat) t v, Tryz.f4.params[j]? = some t → args[j]? = some v → Value.okWide Tryz.prog W .any base t v := hval0
  have hW' := hW
  obtain ⟨p, q, hA0, hV, rfl, hfz, hnd⟩ := hW
  have hA : DataW.TrodAll enc Tryz.prog W 0 (fun _ => true) true Tryz.f4.params.toList args.toList ds p := hA0
  rw [Tryz.params4] at hA hval
  obtain ⟨v0, vs0, d0, ds0, p0, q0, hargs, rfl, rfl, h0, r0⟩ := trodAll_cons hA
  obtain ⟨v1, vs1, d1, ds1, p1, q1, rfl, rfl, rfl, h1, r1⟩ := trodAll_cons r0
  obtain ⟨v2, vs2, d2, ds2, p2, q2, rfl, rfl, rfl, h2, r2⟩ := trodAll_cons r1
  obtain ⟨rfl, rfl, rfl⟩ := trodAll_nil r2
  obtain rfl : args = #[v0, v1, v2] := by cases args; simp_all
  obtain ⟨rfl, rfl⟩ := trodVars_none hV
  obtain ⟨a0, n0, c0, rfl⟩ := okWide_slice Tryz.underlying22 (hval 0 22 v0 rfl rfl)
  have k0 := h0
  have lt0 : ∀ x ∈ p0, x.block < W.heap.size := by obtain ⟨m, hm⟩ := k0; exact DataW.trod_lt m _ _ _ hm
  obtain ⟨f0, hf0⟩ := h0
  obtain ⟨hnc0, hcm0, hN0⟩ := nodes_open (show DataW.trod enc Tryz.prog W 0 _ _ f0 22 [.slice a0 n0 c0] = some (d0, p0) from hf0)
  obtain ⟨a1, n1, c1, rfl⟩ := okWide_slice Tryz.underlying22 (hval 1 22 v1 rfl rfl)
  have k1 := h1
  have lt1 : ∀ x ∈ p1, x.block < W.heap.size := by obtain ⟨m, hm⟩ := k1; exact DataW.trod_lt m _ _ _ hm
  obtain ⟨f1, hf1⟩ := h1
  obtain ⟨hnc1, hcm1, hN1⟩ := nodes_open (show DataW.trod enc Tryz.prog W 0 _ _ f1 22 [.slice a1 n1 c1] = some (d1, p1) from hf1)
  obtain ⟨a2, n2, c2, rfl⟩ := okWide_slice Tryz.underlying42 (hval 2 42 v2 rfl rfl)
  have k2 := h2
  have lt2 : ∀ x ∈ p2, x.block < W.heap.size := by obtain ⟨m, hm⟩ := k2; exact DataW.trod_lt m _ _ _ hm
  obtain ⟨f2, hf2⟩ := h2
  obtain ⟨hnc2, hcm2, hN2⟩ := bytes_open (show DataW.trod enc Tryz.prog W 0 _ _ f2 42 [.slice a2 n2 c2] = some (d2, p2) from hf2)
  clear hA0 hval0
  refine (walk a0 n0 c0 a1 n1 c1 a2 n2 c2 W hnc0 hcm0 hN0 hnc1 hcm1 hN1 hnc2 hcm2 hN2 (errs hL) (table hL)).mono fun e W' ⟨he, bel⟩ => ?_
  subst he
  exact ⟨_, rfl, _, _, _, [], _, [], hW', trodAll_mk1 (shut_bool Tryz.underlying4 _), (trodAll_cons_mk (Below.trod laidOut (by kernel_rfl) (of_decide_eq_true (by kernel_rfl)) k0 bel lt0) (trodAll_cons_mk (Below.trod laidOut (by kernel_rfl) (of_decide_eq_true (by kernel_rfl)) k1 bel lt1) (trodAll_cons_mk (Below.trod laidOut (by kernel_rfl) (of_decide_eq_true (by kernel_rfl)) k2 bel lt2) trodAll_mk0))), rfl, bel.frame _, fun h => by cases h⟩

theorem said : Rows.RenderOneSaid :=
  OpenClaim.holds_of_wide 4 Tryz.f4 rfl rfl rfl rfl rfl rfl rfl ⟨rfl, rfl, rfl, rfl, rfl⟩ rfl rfl rfl rfl rfl (by kernel_rfl) Tryz.func4 (by kernel_rfl)
    (of_decide_eq_true (by kernel_rfl)) (by unfold Func.isWrapper; first | (rw [if_pos (by decide +kernel)]; kernel_rfl) | (rw [if_neg (by decide +kernel)]; exact ⟨rfl, rfl⟩))
    (fun os started H enc _ => lifted os started H enc)

/-- no parameter wants a stand-in -/
theorem plain (f : FuncId) (fn : Func) (hf : Tryz.pinned.checked.prog.funcNamed "cheval/chevallaw07.RenderOne" = some f) (hfn : Tryz.pinned.checked.prog.funcs[f]? = some fn) :
    true = Tryz.pinned.checked.prog.looks [] ∧ ∀ (j : Nat) t, fn.params[j]? = some t → Tryz.pinned.checked.prog.wantsStandIn t = false := by
  obtain rfl : f = 4 := Option.some.inj ((show Tryz.prog.funcNamed "cheval/chevallaw07.RenderOne" = some 4 by kernel_rfl).symm.trans hf) |>.symm
  obtain rfl : fn = Tryz.f4 := (Option.some.inj (Tryz.func4.symm.trans hfn)).symm
  refine ⟨by kernel_rfl, fun j t ht => ?_⟩
  rw [Tryz.params4] at ht
  have hm := Array.mem_of_getElem? ht
  simp only [List.mem_toArray, List.mem_cons, List.not_mem_nil, or_false] at hm
  rcases hm with rfl | rfl | rfl
  · exact (show Tryz.prog.wantsStandIn 22 = false by kernel_rfl)
  · exact (show Tryz.prog.wantsStandIn 22 = false by kernel_rfl)
  · exact (show Tryz.prog.wantsStandIn 42 = false by kernel_rfl)

/-- The statement: the tied card. -/
theorem card : Rows.RenderOneCardSaid :=
  Claim7.holds_tied_plain_at .later [] _ _ _ _ said (fun _ h => by cases h) (by kernel_rfl) (fun _ h => by cases h) renderOne_row_tie rfl ⟨rfl, rfl⟩ (by kernel_rfl) rfl plain (by kernel_rfl)
end Go.Proofs.YtaeimlfehlbiiaaGreatDoor.renderOne
