/- Any value's text is the document's, and is read as it, at just its depth: for every list of nodes, over the library's variables as they are laid. -/
import Derived.Test.YthfhlblpjjniiaaGreatDoorCards
import Derived.Test.YthfhlblpjjniiaaGreatDoorTie
import Derived.WalkKit
import Derived.ProofKit
import Derived.OpenShut
import Derived.ChangeOld
import Derived.ShutString
import Derived.Below
import Derived.LaidMore
import Derived.Lib.LaidTab
import Derived.Stop.Joined
import Derived.Stop.LaidErr
import Derived.SevenTiedAt
import Derived.Lay
import Derived.Test.YthfhlblpjjniiaaGreatDoorPS
import Derived.Test.YthfhlblpjjniiaaGreatDoorOC
import Derived.Test.YthfhlblpjjniiaaGreatDoorOB
import Derived.Test.YthfhlblpjjniiaaGreatDoorQJ
import Derived.Test.YthfhlblpjjniiaaGreatDoorPZ
import Derived.Test.YthfhlblpjjniiaaGreatDoorPY
import Derived.Test.YthfhlblpjjniiaaGreatDoorPJ
namespace Go.Proofs.YthfhlblpjjniiaaGreatDoor.renderTexts
open Go.ChangeShapes Go.WideShapes Go.ChangeAt Go.RowKit
open Go.ChangeMaps (open_string shut_string)
open Tk Pl
set_option linter.unusedVariables false
theorem own : ownKnob Tryz.prog.godebug = none := by kernel_rfl
theorem laidOut : laidOutB Tryz.prog = true := by kernel_rfl
theorem gRange : Tryz.prog.globalNamed "strconv.ErrRange" = some 7 := by kernel_rfl
theorem star : "*" ++ "errors.errorString" = "*errors.errorString" := by decide
theorem rowPtr (u : TypeId) (h : Tryz.prog.typeName? 3 u = some "*errors.errorString") : u = 269 :=
 typeName_ptr_named (nm := "errors.errorString") (by rw [star]; kernel_rfl) (by kernel_rfl) (by decide) u (by rw [star]; exact h)
/-- what the row's list gives -/
theorem errs {W : World} (h : laidMetH Tryz.prog Rows.renderTextsRow.laid W) : RangeErr W := by
 have h' : laidMet Tryz.prog Rows.renderTextsRow.laid W := h
 obtain ⟨a, s, hv, _⟩ := laid_sentinel h'.tail.tail.tail.tail gRange (by kernel_rfl) Tryz.underlying140 rowPtr Tryz.underlying269 Tryz.underlying271 rfl rfl Tryz.underlying9 (by kernel_rfl) (by kernel_rfl)
 exact ⟨_, _, hv⟩
theorem gPow5 : Tryz.prog.globalNamed "internal/strconv.uint64pow10" = some 0 := by kernel_rfl
/-- and its table -/
theorem table {W : World} (h : laidMetH Tryz.prog Rows.renderTextsRow.laid W) : Lib.TabIs Tryz.prog W "internal/strconv.uint64pow10" .u64 Lib.pow10Tab := by
 have h' : laidMet Tryz.prog Rows.renderTextsRow.laid W := h
 exact Lib.tabIs_of_head (rest := _) gPow5 (by kernel_rfl) Tryz.underlying243 Tryz.underlying189 (by kernel_rfl) (by kernel_rfl) h'.tail.tail
theorem parse_whole {s : ByteArray} {d : Nat} (hd : d ≤ 64) (hs : s.size ≤ 16384) : Rd.parseR s d = Rd.whole Rd.Ob s d := by
 unfold Rd.parseR
 rw [if_neg (by omega), if_neg (by omega)]
 rfl
theorem depth_size : ∀ t : T, t.depth ≤ t.size := by
 have h : ∀ n, (∀ t : T, t.size ≤ n → t.depth ≤ t.size) := by
  intro n
  induction n with
  | zero => intro t h; have := t.size_pos; omega
  | succ n ih =>
   intro t ht
   cases t with
   | mk k tr nn s l ks =>
    have hs : ∀ l : List T, T.sizes l ≤ n → T.depths l ≤ T.sizes l := by
     intro l
     induction l with
     | nil => intro _; simp [T.depths, T.sizes]
     | cons a l ihl =>
      intro h
      simp only [T.sizes] at h
      have h1 := ih a (by omega)
      have h2 := ihl (by omega)
      simp only [T.depths, T.sizes]
      omega
    have e := T.size_eq (.mk k tr nn s l ks)
    have h2 := hs l (by have : (T.mk k tr nn s l ks).items = l := rfl; rw [this] at e; omega)
    rw [e]
    show T.depth _ ≤ 1 + T.sizes l
    unfold T.depth
    split <;> omega
 exact fun t => h t.size t (Nat.le_refl _)
theorem ref_c (B0 : Nat) (t : T) (A : Option Addr) (c : Nat) (A' : Option Addr) (c' : Nat) (w : World) (ht : t.size ≤ 100000) (hB : B0 ≤ w.heap.size) (hv : TV w (· < B0) t A c A' c') :
 Calls Tryz.prog 17 #[.agg #[.int .i64 t.kind, .bool t.tr, .int .i64 t.num, .string t.str, .slice A t.items.length c, .slice A' t.keys.length c']] w (GivesR B0 t w) := ref_any B0 t A c A' c' w ht hB hv
theorem rsame_c (t : T) (A : Option Addr) (c : Nat) (A' : Option Addr) (c' : Nat) (B : Option Addr) (d : Nat) (B' : Option Addr) (d' : Nat) (w : World) (ht : t.size ≤ 100000) (hs : t.Small) (hv : TV w (· < w.heap.size) t A c A' c') (hu : TV w (· < w.heap.size) t B d B' d') :
 Calls Tryz.prog 16 #[.agg #[.int .i64 t.kind, .bool t.tr, .int .i64 t.num, .string t.str, .slice A t.items.length c, .slice A' t.keys.length c'], .agg #[.int .i64 t.kind, .bool t.tr, .int .i64 t.num, .string t.str, .slice B t.items.length d, .slice B' t.keys.length d']] w fun e w' => e = .returned (.bool true) ∧ Below w.heap.size w w' := rsame_yes t A c A' c' B d B' d' w ht hs hv hu
theorem rdepth_c (t : T) (A : Option Addr) (c : Nat) (A' : Option Addr) (c' : Nat) (w : World) (ht : t.size ≤ 100000) (hk : t.Kinds) (hv : TV w (· < w.heap.size) t A c A' c') :
 Calls Tryz.prog 22 #[.agg #[.int .i64 t.kind, .bool t.tr, .int .i64 t.num, .string t.str, .slice A t.items.length c, .slice A' t.keys.length c']] w fun e w' => e = .returned (.int .i64 t.depth) ∧ Below w.heap.size w w' := rdepth_any 100000 t A c A' c' w ht (Nat.le_refl _) hk hv
theorem real_c (t : T) (A : Option Addr) (c : Nat) (A' : Option Addr) (c' : Nat) (w : World) (ht : t.size ≤ 100000) (hs : t.Small) (hv : TV w (· < w.heap.size) t A c A' c') :
 Calls Tryz.prog 28 #[.agg #[.int .i64 t.kind, .bool t.tr, .int .i64 t.num, .string t.str, .slice A t.items.length c, .slice A' t.keys.length c']] w (GivesT t w) := real_any t A c A' c' w ht hs hv
set_option maxRecDepth 100000 in
set_option maxHeartbeats 8000000 in
theorem walk (A : Option Addr) (n c : Nat) (w : World) (hnc : n ≤ c) (hcm : c ≤ maxLen) (hN : Nodes w (· < w.heap.size) A n) (hr : RangeErr w) (htb : Lib.TabIs Tryz.prog w "internal/strconv.uint64pow10" .u64 Lib.pow10Tab) :
 Calls Tryz.prog 9 #[.slice A n c] w fun e w' => e = .returned (.bool true) ∧ Below w.heap.size w w' := by
 have HR := Lib.hid hr
 have HTB := Lib.hid (tab_of htb)
 have HN := Lib.hid hN
 clear hr hN htb
 go_enter Tryz.func9, Tryz.ntmps9
 go_wp2_with fail
 refine (awake7_any _ HTB.out.2).mono ?_
 rintro e w1 ⟨rfl, hb1⟩
 have H1 := Lib.hid hb1
 clear hb1
 go_wp2_with fail
 refine (tree_any A n c _ hnc hcm (HN.out.on H1.out)).mono ?_
 rintro e w2 ⟨t, C, d, C', d', rfl, hnice, htv, hb2⟩
 have H2 := Lib.hid (H1.out.trans (hb2.mono H1.out.size))
 have HNI := Lib.hid hnice
 have hsz := hnice.le
 have h40 := hnice.size
 have hdp := depth_size t
 have HSM := Lib.hid hnice.small
 have HKI := Lib.hid hnice.good.kinds
 have hW : Below w.heap.size w (w2.alloc (.cells #[.int .i64 t.kind, .bool t.tr, .int .i64 t.num, .string t.str, .slice C t.items.length d, .slice C' t.keys.length d'] 32)) := H2.out.alloc H2.out.size _
 have HBX := Lib.hid (Blk.new w2 32 #[.int .i64 t.kind, .bool t.tr, .int .i64 t.num, .string t.str, .slice C t.items.length d, .slice C' t.keys.length d'])
 have HT := Lib.hid (show TV (w2.alloc (.cells #[.int .i64 t.kind, .bool t.tr, .int .i64 t.num, .string t.str, .slice C t.items.length d, .slice C' t.keys.length d'] 32)) (· < (w2.alloc (.cells #[.int .i64 t.kind, .bool t.tr, .int .i64 t.num, .string t.str, .slice C t.items.length d, .slice C' t.keys.length d'] 32)).heap.size) t C d C' d' from htv.on ((Below.refl _ _).alloc (Nat.le_refl _) _))
 have HW := Lib.hid hW
 clear hb2 htv hnice hW H1
 unfold T.agg
 go_upto_region 4 with fail
 change Code.wp _ _ _ _ (w2.alloc (.cells #[.int .i64 t.kind, .bool t.tr, .int .i64 t.num, .string t.str, .slice C t.items.length d, .slice C' t.keys.length d'] 32))
 generalize (w2.alloc (.cells #[.int .i64 t.kind, .bool t.tr, .int .i64 t.num, .string t.str, .slice C t.items.length d, .slice C' t.keys.length d'] 32)) = W at *
 generalize w2.heap.size = G at *
 obtain ⟨a0, a1, a2, a3, a4, a5⟩ : W.cell? ⟨G, 0, none⟩ = some (.int .i64 t.kind) ∧ W.cell? ⟨G, 1, none⟩ = some (.bool t.tr) ∧ W.cell? ⟨G, 2, none⟩ = some (.int .i64 t.num) ∧ W.cell? ⟨G, 3, none⟩ = some (.string t.str) ∧ W.cell? ⟨G, 4, none⟩ = some (.slice C t.items.length d) ∧ W.cell? ⟨G, 5, none⟩ = some (.slice C' t.keys.length d') := ⟨HBX.out.cell 0, HBX.out.cell 1, HBX.out.cell 2, HBX.out.cell 3, HBX.out.cell 4, HBX.out.cell 5⟩
 go_wp2_with fail
 refine (real_c t C d C' d' W hsz HSM.out HT.out).mono ?_
 rintro e w3 ⟨D, f, D', f', rfl, hT3, hb3⟩
 have H3 := Lib.hid (HW.out.trans (hb3.mono HW.out.size))
 have HBX3 := Lib.hid (HBX.out.onto hb3)
 have HT3 := Lib.hid (HT.out.on hb3)
 have HD3 := Lib.hid (show TV w3 (· < w3.heap.size) t D f D' f' from hT3.wide fun b hb => hb.2)
 clear hb3 hT3 a0 a1 a2 a3 a4 a5
 unfold T.agg
 go_wp2_with fail
 refine (rntext_any t D f D' f' w3 HNI.out.fine (HTB.out.on H3.out).2 HD3.out).mono ?_
 rintro e w4 ⟨rfl, hb4⟩
 have H4 := Lib.hid (H3.out.trans (hb4.mono H3.out.size))
 have HBX4 := Lib.hid (HBX3.out.onto hb4)
 have HT4 := Lib.hid (HT3.out.on hb4)
 clear hb4 HD3
 have HRT := Lib.hid (fun w' (h : TV w' (· < w'.heap.size) t C d C' d') => rtext7_any t C d C' d' w' HNI.out.fine h)
 have hl := txt_len t HNI.out.fit
 have HSZ := Lib.hid (mkB_size t.txt)
 have hs3 : (mkB t.txt).size ≤ 64000 := by rw [HSZ.out]; omega
 have HWT := Lib.hid (fun room => (Rd.whole_txt Rd.Ob_good HNI.out.good (HNI.out.fit.imp fun _ g => ⟨g.n0, g.n1⟩) (mkB_data t.txt) room).1)
 have HWD := Lib.hid (show ∀ w' D f D' f', Below w.heap.size w w' → TV w' (· < w'.heap.size) t D f D' f' → Calls Tryz.prog 30 #[.agg #[.int .i64 t.kind, .bool t.tr, .int .i64 t.num, .string t.str, .slice D t.items.length f, .slice D' t.keys.length f']] w' fun e w'' => e = .returned (.int .i64 (mkB t.txt).size) ∧ Below w'.heap.size w' w'' from fun w' D f D' f' h hv => by
  rw [HSZ.out]
  exact width_any t D f D' f' w' HNI.out.fine (HTB.out.on h).2 hv)
 go_upto_region 5 with fail
 generalize mkB t.txt = S at *
 have us : (S.toList == S.toList) = true := beq_self_eq_true _
 have us' : (S.toList != S.toList) = false := by rw [bne, us]; rfl
 have uz : ((S.size : Int) == (S.size : Int)) = true := beq_self_eq_true _
 have uz' : ((S.size : Int) != (S.size : Int)) = false := by rw [bne, uz]; rfl
 obtain ⟨a0, a1, a2, a3, a4, a5⟩ : w4.cell? ⟨G, 0, none⟩ = some (.int .i64 t.kind) ∧ w4.cell? ⟨G, 1, none⟩ = some (.bool t.tr) ∧ w4.cell? ⟨G, 2, none⟩ = some (.int .i64 t.num) ∧ w4.cell? ⟨G, 3, none⟩ = some (.string t.str) ∧ w4.cell? ⟨G, 4, none⟩ = some (.slice C t.items.length d) ∧ w4.cell? ⟨G, 5, none⟩ = some (.slice C' t.keys.length d') := ⟨HBX4.out.cell 0, HBX4.out.cell 1, HBX4.out.cell 2, HBX4.out.cell 3, HBX4.out.cell 4, HBX4.out.cell 5⟩
 go_wp2_with fail
 refine (HRT.out w4 HT4.out).mono ?_
 rintro e w5 ⟨rfl, hb5⟩
 have H5 := Lib.hid (H4.out.trans (hb5.mono H4.out.size))
 have HBX5 := Lib.hid (HBX4.out.onto hb5)
 have HT5 := Lib.hid (HT4.out.on hb5)
 clear hb5 a0 a1 a2 a3 a4 a5
 obtain ⟨a0, a1, a2, a3, a4, a5⟩ : w5.cell? ⟨G, 0, none⟩ = some (.int .i64 t.kind) ∧ w5.cell? ⟨G, 1, none⟩ = some (.bool t.tr) ∧ w5.cell? ⟨G, 2, none⟩ = some (.int .i64 t.num) ∧ w5.cell? ⟨G, 3, none⟩ = some (.string t.str) ∧ w5.cell? ⟨G, 4, none⟩ = some (.slice C t.items.length d) ∧ w5.cell? ⟨G, 5, none⟩ = some (.slice C' t.keys.length d') := ⟨HBX5.out.cell 0, HBX5.out.cell 1, HBX5.out.cell 2, HBX5.out.cell 3, HBX5.out.cell 4, HBX5.out.cell 5⟩
 go_wp2_with fail
 refine (real_c t C d C' d' w5 hsz HSM.out HT5.out).mono ?_
 rintro e w6 ⟨D, f, D', f', rfl, hT6, hb6⟩
 have H6 := Lib.hid (H5.out.trans (hb6.mono H5.out.size))
 have HBX6 := Lib.hid (HBX5.out.onto hb6)
 have HT6 := Lib.hid (HT5.out.on hb6)
 have HD6 := Lib.hid (show TV w6 (· < w6.heap.size) t D f D' f' from hT6.wide fun b hb => hb.2)
 clear hb6 hT6 a0 a1 a2 a3 a4 a5
 unfold T.agg
 go_wp2_with fail
 refine (HWD.out w6 D f D' f' H6.out HD6.out).mono ?_
 rintro e w7 ⟨rfl, hb7⟩
 have H7 := Lib.hid (H6.out.trans (hb7.mono H6.out.size))
 have HBX7 := Lib.hid (HBX6.out.onto hb7)
 have HT7 := Lib.hid (HT6.out.on hb7)
 clear hb7 HD6
 obtain ⟨a0, a1, a2, a3, a4, a5⟩ : w7.cell? ⟨G, 0, none⟩ = some (.int .i64 t.kind) ∧ w7.cell? ⟨G, 1, none⟩ = some (.bool t.tr) ∧ w7.cell? ⟨G, 2, none⟩ = some (.int .i64 t.num) ∧ w7.cell? ⟨G, 3, none⟩ = some (.string t.str) ∧ w7.cell? ⟨G, 4, none⟩ = some (.slice C t.items.length d) ∧ w7.cell? ⟨G, 5, none⟩ = some (.slice C' t.keys.length d') := ⟨HBX7.out.cell 0, HBX7.out.cell 1, HBX7.out.cell 2, HBX7.out.cell 3, HBX7.out.cell 4, HBX7.out.cell 5⟩
 go_wp2_with fail
 refine (rdepth_c t C d C' d' w7 hsz HKI.out HT7.out).mono ?_
 rintro e w8 ⟨rfl, hb8⟩
 have H8 := Lib.hid (H7.out.trans (hb8.mono H7.out.size))
 have HBX8 := Lib.hid (HBX7.out.onto hb8)
 have HT8 := Lib.hid (HT7.out.on hb8)
 clear hb8 a0 a1 a2 a3 a4 a5
 have HP := Lib.hid (parse_any6 S (t.depth : Int) w8 (HR.out.on H8.out))
 by_cases hl2 : S.size ≤ 16384
 ·
  have v0 : decide ((S.size : Int) > 16384) = false := decide_eq_false (by omega)
  have v0' : decide ((16384 : Int) < (S.size : Int)) = false := decide_eq_false (by omega)
  have v0n : decide (16384 < S.size) = false := decide_eq_false (by omega)
  rw [parse_whole (d := t.depth) (by omega) hl2, HWT.out t.depth (Nat.le_refl _)] at HP
  go_wp2_with fail
  refine HP.out.mono ?_
  rintro e w9 ⟨E, g, E', g', rfl, hT9, hb9⟩
  have hb9a : Below w8.heap.size w8 (w9.alloc (.cells #[.int .i64 t.kind, .bool t.tr, .int .i64 t.num, .string t.str, .slice E t.items.length g, .slice E' t.keys.length g'] 26)) := hb9.alloc hb9.size _
  have HBY := Lib.hid (Blk.new w9 26 #[.int .i64 t.kind, .bool t.tr, .int .i64 t.num, .string t.str, .slice E t.items.length g, .slice E' t.keys.length g'])
  have H9 := Lib.hid (H8.out.trans (hb9a.mono H8.out.size))
  have HBX4 := Lib.hid (HBX8.out.onto hb9a)
  have HT4 := Lib.hid (HT8.out.on hb9a)
  have HU4 := Lib.hid (show TV (w9.alloc (.cells #[.int .i64 t.kind, .bool t.tr, .int .i64 t.num, .string t.str, .slice E t.items.length g, .slice E' t.keys.length g'] 26)) (· < (w9.alloc (.cells #[.int .i64 t.kind, .bool t.tr, .int .i64 t.num, .string t.str, .slice E t.items.length g, .slice E' t.keys.length g'] 26)).heap.size) t E g E' g' from (hT9.wide (S' := (· < w9.heap.size)) fun i hi => hi.2).on ((Below.refl _ _).alloc (Nat.le_refl _) _))
  clear hb9 hb9a hT9 HP
  unfold T.agg
  go_upto_region 8 with fail
  change Code.wp _ _ _ _ (w9.alloc (.cells #[.int .i64 t.kind, .bool t.tr, .int .i64 t.num, .string t.str, .slice E t.items.length g, .slice E' t.keys.length g'] 26))
  generalize (w9.alloc (.cells #[.int .i64 t.kind, .bool t.tr, .int .i64 t.num, .string t.str, .slice E t.items.length g, .slice E' t.keys.length g'] 26)) = W4 at *
  generalize w9.heap.size = G4 at *
  have hl1 := HBX4.out.lt
  have hl2 := HBY.out.lt
  have HSS := Lib.hid (show ∀ w', Below W4.heap.size W4 w' → (w'.cell? ⟨G, 0, none⟩ = some (.int .i64 t.kind) ∧ w'.cell? ⟨G, 1, none⟩ = some (.bool t.tr) ∧ w'.cell? ⟨G, 2, none⟩ = some (.int .i64 t.num) ∧ w'.cell? ⟨G, 3, none⟩ = some (.string t.str) ∧ w'.cell? ⟨G, 4, none⟩ = some (.slice C t.items.length d) ∧ w'.cell? ⟨G, 5, none⟩ = some (.slice C' t.keys.length d')) ∧ (w'.cell? ⟨G4, 0, none⟩ = some (.int .i64 t.kind) ∧ w'.cell? ⟨G4, 1, none⟩ = some (.bool t.tr) ∧ w'.cell? ⟨G4, 2, none⟩ = some (.int .i64 t.num) ∧ w'.cell? ⟨G4, 3, none⟩ = some (.string t.str) ∧ w'.cell? ⟨G4, 4, none⟩ = some (.slice E t.items.length g) ∧ w'.cell? ⟨G4, 5, none⟩ = some (.slice E' t.keys.length g')) from fun w' hb => by
   have e1 := HBX4.out.onto hb
   have e2 := HBY.out.onto hb
   exact ⟨⟨e1.cell 0, e1.cell 1, e1.cell 2, e1.cell 3, e1.cell 4, e1.cell 5⟩, ⟨e2.cell 0, e2.cell 1, e2.cell 2, e2.cell 3, e2.cell 4, e2.cell 5⟩⟩)
  obtain ⟨⟨a0, a1, a2, a3, a4, a5⟩, ⟨b0, b1, b2, b3, b4, b5⟩⟩ := HSS.out W4 (Below.refl _ _)
  have HBc := Lib.hid (Below.refl W4.heap.size W4)
  go_region_held3 (fun w' => (w'.cell? ⟨G, 0, none⟩ = some (.int .i64 t.kind) ∧ w'.cell? ⟨G, 1, none⟩ = some (.bool t.tr) ∧ w'.cell? ⟨G, 2, none⟩ = some (.int .i64 t.num) ∧ w'.cell? ⟨G, 3, none⟩ = some (.string t.str) ∧ w'.cell? ⟨G, 4, none⟩ = some (.slice C t.items.length d) ∧ w'.cell? ⟨G, 5, none⟩ = some (.slice C' t.keys.length d')) ∧ (w'.cell? ⟨G4, 0, none⟩ = some (.int .i64 t.kind) ∧ w'.cell? ⟨G4, 1, none⟩ = some (.bool t.tr) ∧ w'.cell? ⟨G4, 2, none⟩ = some (.int .i64 t.num) ∧ w'.cell? ⟨G4, 3, none⟩ = some (.string t.str) ∧ w'.cell? ⟨G4, 4, none⟩ = some (.slice E t.items.length g) ∧ w'.cell? ⟨G4, 5, none⟩ = some (.slice E' t.keys.length g')))
   (first
    | with_reducible exact HSS.out _ HBc.out
    | with_reducible exact HSS.out _ (below_drewN HBc.out _)
    | exact HSS.out _ HBc.out.drew
    | go_keep)
   (first
    | (
     go_at_call 17
     with_reducible refine (ref_c _ t E g E' g' _ hsz (Nat.le_refl _) (HU4.out.on ?_)).mono ?_
     · exact (by first | with_reducible exact HBc.out | with_reducible exact below_drewN HBc.out _ | exact HBc.out.drew)
     rintro e5 w5 ⟨K, k, K', k', rfl, hT5, hb5⟩
     unfold T.agg
     have HBc := Lib.hid (show Below W4.heap.size W4 w5 from by first | with_reducible exact HBc.out.trans (hb5.mono HBc.out.size) | with_reducible exact (below_drewN HBc.out _).trans (hb5.mono HBc.out.size) | exact HBc.out.drew.trans (hb5.mono HBc.out.size))
     have HRf := Lib.hid (show TV w5 (· < w5.heap.size) t K k K' k' from hT5.wide fun i hi => by
      have := hb5.size
      rcases hi with hi | hi
      · show i < w5.heap.size; omega
      · exact hi.2)
     have HBr := Lib.hid (Below.refl w5.heap.size w5)
     clear hT5 hb5)
    | (
     go_at_call 16
     with_reducible refine (rsame_c t K k K' k' C d C' d' _ hsz HSM.out (HRf.out.on ?_) (HT4.out.on ?_)).mono ?_
     · exact (by first | with_reducible exact HBr.out | with_reducible exact below_drewN HBr.out _ | exact HBr.out.drew)
     · exact (by first | with_reducible exact HBc.out | with_reducible exact below_drewN HBc.out _ | exact HBc.out.drew)
     rintro e6 w6 ⟨rfl, hb6⟩
     have HBc := Lib.hid (show Below W4.heap.size W4 w6 from by first | with_reducible exact HBc.out.trans (hb6.mono HBc.out.size) | with_reducible exact (below_drewN HBc.out _).trans (hb6.mono HBc.out.size) | exact HBc.out.drew.trans (hb6.mono HBc.out.size))
     clear hb6))
  all_goals
   go_wp2_with fail
   go_ret
   exact ⟨rfl, H9.out.trans (HBc.out.mono H9.out.size)⟩
 ·
  have v0 : decide ((S.size : Int) > 16384) = true := decide_eq_true (by omega)
  have v0' : decide ((16384 : Int) < (S.size : Int)) = true := decide_eq_true (by omega)
  have v0n : decide (16384 < S.size) = true := decide_eq_true (by omega)
  rw [show Rd.parseR S (t.depth : Int) = .err 0 7 from by unfold Rd.parseR; rw [if_neg (by omega), if_pos (by omega)]] at HP
  go_wp2_with fail
  refine HP.out.mono ?_
  rintro e w9 ⟨rfl, hb9⟩
  have H9 := Lib.hid ((H8.out.trans (hb9.mono H8.out.size)).alloc (Nat.le_trans H8.out.size hb9.size) (.cells #[.int .i64 0, .bool false, .int .i64 0, .string ⟨#[]⟩, .slice none 0 0, .slice none 0 0] 26))
  clear hb9 HP
  unfold T.agg
  go_upto_region 8 with fail
  change Code.wp _ _ _ _ (w9.alloc (.cells #[.int .i64 0, .bool false, .int .i64 0, .string ⟨#[]⟩, .slice none 0 0, .slice none 0 0] 26))
  generalize (w9.alloc (.cells #[.int .i64 0, .bool false, .int .i64 0, .string ⟨#[]⟩, .slice none 0 0, .slice none 0 0] 26)) = W4 at *
  go_quiet (fail)
  go_wp2_with fail
  go_ret
  exact ⟨rfl, below_drewN H9.out _⟩
set_option maxRecDepth 100000 in
theorem lifted (os : Os) (started : os.Started) (H : Type) (enc : TypeId × Value → H) :
 ReturnsInHanded {} Tryz.checked os 9 .any (fun w args => (Rows.renderTextsSpec.pre enc Tryz.prog Tryz.f9 [] false w args ∧ laidMetH Tryz.prog Rows.renderTextsRow.laid w) ∧ sizedMet enc Tryz.prog Tryz.f9 (OpenSpec.ofChange Rows.renderTextsSpec) false w args)
  (Rows.renderTextsSpec.post enc Tryz.prog Tryz.f9 false true false false) := by
 refine returnsInHanded_of_change_and (C := Tryz.checked) (X := fun w _ => laidMetH Tryz.prog Rows.renderTextsRow.laid w) (fun _ _ _ hh h => h.of_heap hh) own started (by kernel_rfl) Tryz.func9
  (ChangeSpec.witness_shaped (enc := enc) (C := Tryz.checked) (os := os) (X := fun w _ => laidMetH Tryz.prog Rows.renderTextsRow.laid w) false (World.laidAll Tryz.prog os Rows.renderTextsRow.laid) #[.slice none 0 0] 8 (World.laidAll_os _ _ _) (World.shaped_of_ZipB (by kernel_rfl) (by kernel_rfl)) (by kernel_rfl) (by kernel_rfl) (by kernel_rfl) (by rw [MakeChecks.laidMetH_plain _ _ _ (by kernel_rfl)]; exact laidMet_laidAll _ (by kernel_rfl) (by kernel_rfl))) ?_
 intro W base args ds gs before hval0 hW _ _ hL _
 have hval : ∀ (j : Nat) t v, Tryz.f9.params[j]? = some t → args[j]? = some v → Value.okWide Tryz.prog W .any base t v := hval0
 have hW' := hW
 obtain ⟨p, q, hA0, hV, rfl, hfz, hnd⟩ := hW
 have hA : DataW.TrodAll enc Tryz.prog W 0 (fun _ => true) true Tryz.f9.params.toList args.toList ds p := hA0
 rw [Tryz.params9] at hA hval
 obtain ⟨v0, vs0, d0, ds0, p0, q0, hargs, rfl, rfl, h0, r0⟩ := trodAll_cons hA
 obtain ⟨rfl, rfl, rfl⟩ := trodAll_nil r0
 obtain rfl : args = #[v0] := by cases args; simp_all
 obtain ⟨rfl, rfl⟩ := trodVars_none hV
 obtain ⟨a0, n0, c0, rfl⟩ := okWide_slice Tryz.underlying38 (hval 0 38 v0 rfl rfl)
 have k0 := h0
 have lt0 : ∀ x ∈ p0, x.block < W.heap.size := by obtain ⟨m, hm⟩ := k0; exact DataW.trod_lt m _ _ _ hm
 obtain ⟨f0, hf0⟩ := h0
 obtain ⟨hnc0, hcm0, hN0⟩ := nodes_open (show DataW.trod enc Tryz.prog W 0 _ _ f0 38 [.slice a0 n0 c0] = some (d0, p0) from hf0)
 clear hA0 hval0
 refine (walk a0 n0 c0 W hnc0 hcm0 hN0 (errs hL) (table hL)).mono fun e W' ⟨he, bel⟩ => ?_
 subst he
 exact ⟨_, rfl, _, _, _, [], _, [], hW', trodAll_mk1 (shut_bool Tryz.underlying4 _), (trodAll_cons_mk (Below.trod laidOut (by kernel_rfl) (of_decide_eq_true (by kernel_rfl)) k0 bel lt0) trodAll_mk0), rfl, bel.frame _, fun h => by cases h⟩
theorem said : Rows.RenderTextsSaid :=
 OpenClaim.holds_of_wide 9 Tryz.f9 rfl rfl rfl rfl rfl rfl rfl ⟨rfl, rfl, rfl, rfl, rfl⟩ rfl rfl rfl rfl rfl (by kernel_rfl) Tryz.func9 (by kernel_rfl)
  (of_decide_eq_true (by kernel_rfl)) (by unfold Func.isWrapper; first | (rw [if_pos (by decide +kernel)]; kernel_rfl) | (rw [if_neg (by decide +kernel)]; exact ⟨rfl, rfl⟩))
  (fun os started H enc _ => lifted os started H enc)
/-- no parameter wants a stand-in -/
theorem plain (f : FuncId) (fn : Func) (hf : Tryz.pinned.checked.prog.funcNamed "cheval/chevallaw07.RenderTexts" = some f) (hfn : Tryz.pinned.checked.prog.funcs[f]? = some fn) :
 true = Tryz.pinned.checked.prog.looks [] ∧ ∀ (j : Nat) t, fn.params[j]? = some t → Tryz.pinned.checked.prog.wantsStandIn t = false := by
 obtain rfl : f = 9 := Option.some.inj ((show Tryz.prog.funcNamed "cheval/chevallaw07.RenderTexts" = some 9 by kernel_rfl).symm.trans hf) |>.symm
 obtain rfl : fn = Tryz.f9 := (Option.some.inj (Tryz.func9.symm.trans hfn)).symm
 refine ⟨by kernel_rfl, fun j t ht => ?_⟩
 rw [Tryz.params9] at ht
 have hm := Array.mem_of_getElem? ht
 simp only [List.mem_toArray, List.mem_cons, List.not_mem_nil, or_false] at hm
 subst hm
 exact (show Tryz.prog.wantsStandIn 38 = false by kernel_rfl)
/-- The statement: the tied card. -/
theorem card : Rows.RenderTextsCardSaid :=
 Claim7.holds_tied_plain_at .later [] _ _ _ _ said (fun _ h => by cases h) (by kernel_rfl) (fun _ h => by cases h) renderTexts_row_tie rfl ⟨rfl, rfl⟩ (by kernel_rfl) rfl plain (by kernel_rfl)
end Go.Proofs.YthfhlblpjjniiaaGreatDoor.renderTexts
