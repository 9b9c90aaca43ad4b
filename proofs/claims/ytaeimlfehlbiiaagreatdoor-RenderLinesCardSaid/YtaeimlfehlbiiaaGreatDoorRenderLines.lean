/- Any value's text in lines is the document's, and is read as it: for every list of nodes and every number, over the library's variables as they are laid. -/
import Derived.Test.YtaeimlfehlbiiaaGreatDoorCards
import Derived.Test.YtaeimlfehlbiiaaGreatDoorTie
import Derived.WalkKit
import Derived.ProofKit
import Derived.OpenShut
import Derived.ChangeOld
import Derived.ShutString
import Derived.Below
import Derived.LaidMore
import Derived.Lib.LaidTab
import Derived.Stop.Joined
import Derived.Stop.LaidErr
import Derived.SevenTiedAt
import Derived.Lay
import Derived.Test.YtaeimlfehlbiiaaGreatDoorMS
import Derived.Test.YtaeimlfehlbiiaaGreatDoorOH
import Derived.Test.YtaeimlfehlbiiaaGreatDoorOK
import Derived.Test.YtaeimlfehlbiiaaGreatDoorOI
import Derived.Test.YtaeimlfehlbiiaaGreatDoorNJ
import Derived.Test.YtaeimlfehlbiiaaGreatDoorMZ
import Derived.Test.YtaeimlfehlbiiaaGreatDoorMY
import Derived.Test.YtaeimlfehlbiiaaGreatDoorMJ
import Derived.Test.YtaeimlfehlbiiaaGreatDoorOF
namespace Go.Proofs.YtaeimlfehlbiiaaGreatDoor.renderLines
open Go.ChangeShapes Go.WideShapes Go.ChangeAt Go.RowKit
open Go.ChangeMaps (open_string shut_string)
open Tk Pl
set_option linter.unusedVariables false
theorem own : ownKnob Tryz.prog.godebug = none := by kernel_rfl
theorem laidOut : laidOutB Tryz.prog = true := by kernel_rfl
theorem gRange : Tryz.prog.globalNamed "strconv.ErrRange" = some 7 := by kernel_rfl
theorem star : "*" ++ "errors.errorString" = "*errors.errorString" := by decide
theorem rowPtr (u : TypeId) (h : Tryz.prog.typeName? 3 u = some "*errors.errorString") : u = 230 :=
 typeName_ptr_named (nm := "errors.errorString") (by rw [star]; kernel_rfl) (by kernel_rfl) (by decide) u (by rw [star]; exact h)
/-- what the row's list gives -/
theorem errs {W : World} (h : laidMetH Tryz.prog Rows.renderLinesRow.laid W) : RangeErr W := by
 have h' : laidMet Tryz.prog Rows.renderLinesRow.laid W := h
 obtain ⟨a, s, hv, _⟩ := laid_sentinel h'.tail.tail.tail.tail gRange (by kernel_rfl) Tryz.underlying90 rowPtr Tryz.underlying230 Tryz.underlying232 rfl rfl Tryz.underlying9 (by kernel_rfl) (by kernel_rfl)
 exact ⟨_, _, hv⟩
theorem gPow5 : Tryz.prog.globalNamed "internal/strconv.uint64pow10" = some 0 := by kernel_rfl
/-- and its table -/
theorem table {W : World} (h : laidMetH Tryz.prog Rows.renderLinesRow.laid W) : Lib.TabIs Tryz.prog W "internal/strconv.uint64pow10" .u64 Lib.pow10Tab := by
 have h' : laidMet Tryz.prog Rows.renderLinesRow.laid W := h
 exact Lib.tabIs_of_head (rest := _) gPow5 (by kernel_rfl) Tryz.underlying194 Tryz.underlying144 (by kernel_rfl) (by kernel_rfl) h'.tail.tail
theorem parse_whole {s : ByteArray} {d : Nat} (hd : d ≤ 64) (hs : s.size ≤ 16384) : Rd.parseR s d = Rd.whole Rd.Ob s d := by
 unfold Rd.parseR
 rw [if_neg (by omega), if_neg (by omega)]
 rfl
theorem depth_size : ∀ t : T, t.depth ≤ t.size := by
 have h : ∀ n, (∀ t : T, t.size ≤ n → t.depth ≤ t.size) := by
  intro n
  induction n with
  | zero => intro t h; have := t.size_pos; omega
  | succ n ih =>
   intro t ht
   cases t with
   | mk k tr nn s l ks =>
    have hs : ∀ l : List T, T.sizes l ≤ n → T.depths l ≤ T.sizes l := by
     intro l
     induction l with
     | nil => intro _; simp [T.depths, T.sizes]
     | cons a l ihl =>
      intro h
      simp only [T.sizes] at h
      have h1 := ih a (by omega)
      have h2 := ihl (by omega)
      simp only [T.depths, T.sizes]
      omega
    have e := T.size_eq (.mk k tr nn s l ks)
    have h2 := hs l (by have : (T.mk k tr nn s l ks).items = l := rfl; rw [this] at e; omega)
    rw [e]
    show T.depth _ ≤ 1 + T.sizes l
    unfold T.depth
    split <;> omega
 exact fun t => h t.size t (Nat.le_refl _)
theorem ref_c (B0 : Nat) (t : T) (A : Option Addr) (c : Nat) (A' : Option Addr) (c' : Nat) (w : World) (ht : t.size ≤ 100000) (hB : B0 ≤ w.heap.size) (hv : TV w (· < B0) t A c A' c') :
 Calls Tryz.prog 14 #[.agg #[.int .i64 t.kind, .bool t.tr, .int .i64 t.num, .string t.str, .slice A t.items.length c, .slice A' t.keys.length c']] w (GivesR B0 t w) := ref_any B0 t A c A' c' w ht hB hv
theorem rsame_c (t : T) (A : Option Addr) (c : Nat) (A' : Option Addr) (c' : Nat) (B : Option Addr) (d : Nat) (B' : Option Addr) (d' : Nat) (w : World) (ht : t.size ≤ 100000) (hs : t.Small) (hv : TV w (· < w.heap.size) t A c A' c') (hu : TV w (· < w.heap.size) t B d B' d') :
 Calls Tryz.prog 13 #[.agg #[.int .i64 t.kind, .bool t.tr, .int .i64 t.num, .string t.str, .slice A t.items.length c, .slice A' t.keys.length c'], .agg #[.int .i64 t.kind, .bool t.tr, .int .i64 t.num, .string t.str, .slice B t.items.length d, .slice B' t.keys.length d']] w fun e w' => e = .returned (.bool true) ∧ Below w.heap.size w w' := rsame_yes t A c A' c' B d B' d' w ht hs hv hu
theorem rdepth_c (t : T) (A : Option Addr) (c : Nat) (A' : Option Addr) (c' : Nat) (w : World) (ht : t.size ≤ 100000) (hk : t.Kinds) (hv : TV w (· < w.heap.size) t A c A' c') :
 Calls Tryz.prog 11 #[.agg #[.int .i64 t.kind, .bool t.tr, .int .i64 t.num, .string t.str, .slice A t.items.length c, .slice A' t.keys.length c']] w fun e w' => e = .returned (.int .i64 t.depth) ∧ Below w.heap.size w w' := rdepth_any 100000 t A c A' c' w ht (Nat.le_refl _) hk hv
theorem real_c (t : T) (A : Option Addr) (c : Nat) (A' : Option Addr) (c' : Nat) (w : World) (ht : t.size ≤ 100000) (hs : t.Small) (hv : TV w (· < w.heap.size) t A c A' c') :
 Calls Tryz.prog 9 #[.agg #[.int .i64 t.kind, .bool t.tr, .int .i64 t.num, .string t.str, .slice A t.items.length c, .slice A' t.keys.length c']] w (GivesT t w) := real_any t A c A' c' w ht hs hv
set_option maxRecDepth 100000 in
set_option maxHeartbeats 8000000 in
theorem walk (A : Option Addr) (n c : Nat) (y : Int) (w : World) (hnc : n ≤ c) (hcm : c ≤ maxLen) (hN : Nodes w (· < w.heap.size) A n) (hy0 : -9223372036854775808 ≤ y) (hy1 : y ≤ 9223372036854775807) (hr : RangeErr w) (htb : Lib.TabIs Tryz.prog w "internal/strconv.uint64pow10" .u64 Lib.pow10Tab) :
 Calls Tryz.prog 3 #[.slice A n c, .int .i64 y] w fun e w' => e = .returned (.bool true) ∧ Below w.heap.size w w' := by
 have HR := Lib.hid hr
 have HTB := Lib.hid (tab_of htb)
 have HN := Lib.hid hN
 clear hr hN htb
 go_enter Tryz.func3, Tryz.ntmps3
 go_wp2_with fail
 refine (awake7_any _ HTB.out.2).mono ?_
 rintro e w1 ⟨rfl, hb1⟩
 have H1 := Lib.hid hb1
 clear hb1
 go_wp2_with fail
 refine (tree_any A n c _ hnc hcm (HN.out.on H1.out)).mono ?_
 rintro e w2 ⟨t, C, d, C', d', rfl, hnice, htv, hb2⟩
 have H2 := Lib.hid (H1.out.trans (hb2.mono H1.out.size))
 have HNI := Lib.hid hnice
 have hsz := hnice.le
 have h40 := hnice.size
 have hdp := depth_size t
 have HSM := Lib.hid hnice.small
 have HKI := Lib.hid hnice.good.kinds
 have hW : Below w.heap.size w (w2.alloc (.cells #[.int .i64 t.kind, .bool t.tr, .int .i64 t.num, .string t.str, .slice C t.items.length d, .slice C' t.keys.length d'] 27)) := H2.out.alloc H2.out.size _
 have HBX := Lib.hid (Blk.new w2 27 #[.int .i64 t.kind, .bool t.tr, .int .i64 t.num, .string t.str, .slice C t.items.length d, .slice C' t.keys.length d'])
 have HT := Lib.hid (show TV (w2.alloc (.cells #[.int .i64 t.kind, .bool t.tr, .int .i64 t.num, .string t.str, .slice C t.items.length d, .slice C' t.keys.length d'] 27)) (· < (w2.alloc (.cells #[.int .i64 t.kind, .bool t.tr, .int .i64 t.num, .string t.str, .slice C t.items.length d, .slice C' t.keys.length d'] 27)).heap.size) t C d C' d' from htv.on ((Below.refl _ _).alloc (Nat.le_refl _) _))
 have HW := Lib.hid hW
 clear hb2 htv hnice hW H1
 unfold T.agg
 go_upto_region 4 with fail
 change Code.wp _ _ _ _ (w2.alloc (.cells #[.int .i64 t.kind, .bool t.tr, .int .i64 t.num, .string t.str, .slice C t.items.length d, .slice C' t.keys.length d'] 27))
 generalize (w2.alloc (.cells #[.int .i64 t.kind, .bool t.tr, .int .i64 t.num, .string t.str, .slice C t.items.length d, .slice C' t.keys.length d'] 27)) = W at *
 generalize w2.heap.size = G at *
 obtain ⟨a0, a1, a2, a3, a4, a5⟩ : W.cell? ⟨G, 0, none⟩ = some (.int .i64 t.kind) ∧ W.cell? ⟨G, 1, none⟩ = some (.bool t.tr) ∧ W.cell? ⟨G, 2, none⟩ = some (.int .i64 t.num) ∧ W.cell? ⟨G, 3, none⟩ = some (.string t.str) ∧ W.cell? ⟨G, 4, none⟩ = some (.slice C t.items.length d) ∧ W.cell? ⟨G, 5, none⟩ = some (.slice C' t.keys.length d') := ⟨HBX.out.cell 0, HBX.out.cell 1, HBX.out.cell 2, HBX.out.cell 3, HBX.out.cell 4, HBX.out.cell 5⟩
 go_wp2_with fail
 refine (real_c t C d C' d' W hsz HSM.out HT.out).mono ?_
 rintro e w3 ⟨D, f, D', f', rfl, hT3, hb3⟩
 have H3 := Lib.hid (HW.out.trans (hb3.mono HW.out.size))
 have HBX3 := Lib.hid (HBX.out.onto hb3)
 have HT3 := Lib.hid (HT.out.on hb3)
 have HD3 := Lib.hid (show TV w3 (· < w3.heap.size) t D f D' f' from hT3.wide fun b hb => hb.2)
 clear hb3 hT3 a0 a1 a2 a3 a4 a5
 unfold T.agg
 go_wp2_with fail
 refine (rnlines_any t D f D' f' y w3 HNI.out (HTB.out.on H3.out).2 HD3.out).mono ?_
 rintro e w4 ⟨rfl, hb4⟩
 have H4 := Lib.hid (H3.out.trans (hb4.mono H3.out.size))
 have HBX4 := Lib.hid (HBX3.out.onto hb4)
 have HT4 := Lib.hid (HT3.out.on hb4)
 clear hb4 HD3
 have HRT := Lib.hid (fun w' (h : TV w' (· < w'.heap.size) t C d C' d') => r7lines_any t C d C' d' y w' HNI.out h)
 have hl := lns_len (byN_le y) t HNI.out.fine.fit 0 (by omega)
 have HSZ := Lib.hid (mkB_size (t.lns (byN y) 0))
 have hs3 : (mkB (t.lns (byN y) 0)).size ≤ 130000 := by rw [HSZ.out]; omega
 have HWT := Lib.hid (fun room => (Rd.whole_written (Rd.written_lns (byN y) t HNI.out.good (HNI.out.fit.imp fun _ g => ⟨g.n0, g.n1⟩) 0) (mkB_data (t.lns (byN y) 0)) room).1)
 go_upto_region 5 with fail
 generalize mkB (t.lns (byN y) 0) = S at *
 have us : (S.toList == S.toList) = true := beq_self_eq_true _
 have us' : (S.toList != S.toList) = false := by rw [bne, us]; rfl
 have uz : ((S.size : Int) == (S.size : Int)) = true := beq_self_eq_true _
 have uz' : ((S.size : Int) != (S.size : Int)) = false := by rw [bne, uz]; rfl
 obtain ⟨a0, a1, a2, a3, a4, a5⟩ : w4.cell? ⟨G, 0, none⟩ = some (.int .i64 t.kind) ∧ w4.cell? ⟨G, 1, none⟩ = some (.bool t.tr) ∧ w4.cell? ⟨G, 2, none⟩ = some (.int .i64 t.num) ∧ w4.cell? ⟨G, 3, none⟩ = some (.string t.str) ∧ w4.cell? ⟨G, 4, none⟩ = some (.slice C t.items.length d) ∧ w4.cell? ⟨G, 5, none⟩ = some (.slice C' t.keys.length d') := ⟨HBX4.out.cell 0, HBX4.out.cell 1, HBX4.out.cell 2, HBX4.out.cell 3, HBX4.out.cell 4, HBX4.out.cell 5⟩
 go_wp2_with fail
 refine (rdepth_c t C d C' d' w4 hsz HKI.out HT4.out).mono ?_
 rintro e w8 ⟨rfl, hb8⟩
 have H8 := Lib.hid (H4.out.trans (hb8.mono H4.out.size))
 have HBX8 := Lib.hid (HBX4.out.onto hb8)
 have HT8 := Lib.hid (HT4.out.on hb8)
 clear hb8 a0 a1 a2 a3 a4 a5
 have HP := Lib.hid (parse_any6 S (t.depth : Int) w8 (HR.out.on H8.out))
 by_cases hl2 : S.size ≤ 16384
 ·
  have v0 : decide ((S.size : Int) > 16384) = false := decide_eq_false (by omega)
  have v0' : decide ((16384 : Int) < (S.size : Int)) = false := decide_eq_false (by omega)
  have v0n : decide (16384 < S.size) = false := decide_eq_false (by omega)
  rw [parse_whole (d := t.depth) (by omega) hl2, HWT.out t.depth (Nat.le_refl _)] at HP
  go_wp2_with fail
  refine HP.out.mono ?_
  rintro e w9 ⟨E, g, E', g', rfl, hT9, hb9⟩
  have hb9a : Below w8.heap.size w8 (w9.alloc (.cells #[.int .i64 t.kind, .bool t.tr, .int .i64 t.num, .string t.str, .slice E t.items.length g, .slice E' t.keys.length g'] 32)) := hb9.alloc hb9.size _
  have HBY := Lib.hid (Blk.new w9 32 #[.int .i64 t.kind, .bool t.tr, .int .i64 t.num, .string t.str, .slice E t.items.length g, .slice E' t.keys.length g'])
  have H9 := Lib.hid (H8.out.trans (hb9a.mono H8.out.size))
  have HBX4 := Lib.hid (HBX8.out.onto hb9a)
  have HT4 := Lib.hid (HT8.out.on hb9a)
  have HU4 := Lib.hid (show TV (w9.alloc (.cells #[.int .i64 t.kind, .bool t.tr, .int .i64 t.num, .string t.str, .slice E t.items.length g, .slice E' t.keys.length g'] 32)) (· < (w9.alloc (.cells #[.int .i64 t.kind, .bool t.tr, .int .i64 t.num, .string t.str, .slice E t.items.length g, .slice E' t.keys.length g'] 32)).heap.size) t E g E' g' from (hT9.wide (S' := (· < w9.heap.size)) fun i hi => hi.2).on ((Below.refl _ _).alloc (Nat.le_refl _) _))
  clear hb9 hb9a hT9 HP
  unfold T.agg
  go_upto_region 6 with fail
  change Code.wp _ _ _ _ (w9.alloc (.cells #[.int .i64 t.kind, .bool t.tr, .int .i64 t.num, .string t.str, .slice E t.items.length g, .slice E' t.keys.length g'] 32))
  generalize (w9.alloc (.cells #[.int .i64 t.kind, .bool t.tr, .int .i64 t.num, .string t.str, .slice E t.items.length g, .slice E' t.keys.length g'] 32)) = W4 at *
  generalize w9.heap.size = G4 at *
  have hl1 := HBX4.out.lt
  have hl2 := HBY.out.lt
  have HSS := Lib.hid (show ∀ w', Below W4.heap.size W4 w' → (w'.cell? ⟨G, 0, none⟩ = some (.int .i64 t.kind) ∧ w'.cell? ⟨G, 1, none⟩ = some (.bool t.tr) ∧ w'.cell? ⟨G, 2, none⟩ = some (.int .i64 t.num) ∧ w'.cell? ⟨G, 3, none⟩ = some (.string t.str) ∧ w'.cell? ⟨G, 4, none⟩ = some (.slice C t.items.length d) ∧ w'.cell? ⟨G, 5, none⟩ = some (.slice C' t.keys.length d')) ∧ (w'.cell? ⟨G4, 0, none⟩ = some (.int .i64 t.kind) ∧ w'.cell? ⟨G4, 1, none⟩ = some (.bool t.tr) ∧ w'.cell? ⟨G4, 2, none⟩ = some (.int .i64 t.num) ∧ w'.cell? ⟨G4, 3, none⟩ = some (.string t.str) ∧ w'.cell? ⟨G4, 4, none⟩ = some (.slice E t.items.length g) ∧ w'.cell? ⟨G4, 5, none⟩ = some (.slice E' t.keys.length g')) from fun w' hb => by
   have e1 := HBX4.out.onto hb
   have e2 := HBY.out.onto hb
   exact ⟨⟨e1.cell 0, e1.cell 1, e1.cell 2, e1.cell 3, e1.cell 4, e1.cell 5⟩, ⟨e2.cell 0, e2.cell 1, e2.cell 2, e2.cell 3, e2.cell 4, e2.cell 5⟩⟩)
  obtain ⟨⟨a0, a1, a2, a3, a4, a5⟩, ⟨b0, b1, b2, b3, b4, b5⟩⟩ := HSS.out W4 (Below.refl _ _)
  have HBc := Lib.hid (Below.refl W4.heap.size W4)
  go_region_held3 (fun w' => (w'.cell? ⟨G, 0, none⟩ = some (.int .i64 t.kind) ∧ w'.cell? ⟨G, 1, none⟩ = some (.bool t.tr) ∧ w'.cell? ⟨G, 2, none⟩ = some (.int .i64 t.num) ∧ w'.cell? ⟨G, 3, none⟩ = some (.string t.str) ∧ w'.cell? ⟨G, 4, none⟩ = some (.slice C t.items.length d) ∧ w'.cell? ⟨G, 5, none⟩ = some (.slice C' t.keys.length d')) ∧ (w'.cell? ⟨G4, 0, none⟩ = some (.int .i64 t.kind) ∧ w'.cell? ⟨G4, 1, none⟩ = some (.bool t.tr) ∧ w'.cell? ⟨G4, 2, none⟩ = some (.int .i64 t.num) ∧ w'.cell? ⟨G4, 3, none⟩ = some (.string t.str) ∧ w'.cell? ⟨G4, 4, none⟩ = some (.slice E t.items.length g) ∧ w'.cell? ⟨G4, 5, none⟩ = some (.slice E' t.keys.length g')))
   (first
    | with_reducible exact HSS.out _ HBc.out
    | with_reducible exact HSS.out _ (below_drewN HBc.out _)
    | exact HSS.out _ HBc.out.drew
    | go_keep)
   (first
    | (
     go_at_call 12
     with_reducible refine (HRT.out _ (HT4.out.on ?_)).mono ?_
     · exact (by first | with_reducible exact HBc.out | with_reducible exact below_drewN HBc.out _ | exact HBc.out.drew)
     rintro e7 w7 ⟨rfl, hb7⟩
     have HBc := Lib.hid (show Below W4.heap.size W4 w7 from by first | with_reducible exact HBc.out.trans (hb7.mono HBc.out.size) | with_reducible exact (below_drewN HBc.out _).trans (hb7.mono HBc.out.size) | exact HBc.out.drew.trans (hb7.mono HBc.out.size))
     clear hb7)
    | (
     go_at_call 14
     with_reducible refine (ref_c _ t E g E' g' _ hsz (Nat.le_refl _) (HU4.out.on ?_)).mono ?_
     · exact (by first | with_reducible exact HBc.out | with_reducible exact below_drewN HBc.out _ | exact HBc.out.drew)
     rintro e5 w5 ⟨K, k, K', k', rfl, hT5, hb5⟩
     unfold T.agg
     have HBc := Lib.hid (show Below W4.heap.size W4 w5 from by first | with_reducible exact HBc.out.trans (hb5.mono HBc.out.size) | with_reducible exact (below_drewN HBc.out _).trans (hb5.mono HBc.out.size) | exact HBc.out.drew.trans (hb5.mono HBc.out.size))
     have HRf := Lib.hid (show TV w5 (· < w5.heap.size) t K k K' k' from hT5.wide fun i hi => by
      have := hb5.size
      rcases hi with hi | hi
      · show i < w5.heap.size; omega
      · exact hi.2)
     have HBr := Lib.hid (Below.refl w5.heap.size w5)
     clear hT5 hb5)
    | (
     go_at_call 13
     with_reducible refine (rsame_c t K k K' k' C d C' d' _ hsz HSM.out (HRf.out.on ?_) (HT4.out.on ?_)).mono ?_
     · exact (by first | with_reducible exact HBr.out | with_reducible exact below_drewN HBr.out _ | exact HBr.out.drew)
     · exact (by first | with_reducible exact HBc.out | with_reducible exact below_drewN HBc.out _ | exact HBc.out.drew)
     rintro e6 w6 ⟨rfl, hb6⟩
     have HBc := Lib.hid (show Below W4.heap.size W4 w6 from by first | with_reducible exact HBc.out.trans (hb6.mono HBc.out.size) | with_reducible exact (below_drewN HBc.out _).trans (hb6.mono HBc.out.size) | exact HBc.out.drew.trans (hb6.mono HBc.out.size))
     clear hb6))
  all_goals
   go_wp2_with fail
   go_ret
   exact ⟨rfl, H9.out.trans (HBc.out.mono H9.out.size)⟩
 ·
  have v0 : decide ((S.size : Int) > 16384) = true := decide_eq_true (by omega)
  have v0' : decide ((16384 : Int) < (S.size : Int)) = true := decide_eq_true (by omega)
  have v0n : decide (16384 < S.size) = true := decide_eq_true (by omega)
  rw [show Rd.parseR S (t.depth : Int) = .err 0 7 from by unfold Rd.parseR; rw [if_neg (by omega), if_pos (by omega)]] at HP
  go_wp2_with fail
  refine HP.out.mono ?_
  rintro e w9 ⟨rfl, hb9⟩
  have H9 := Lib.hid ((H8.out.trans (hb9.mono H8.out.size)).alloc (Nat.le_trans H8.out.size hb9.size) (.cells #[.int .i64 0, .bool false, .int .i64 0, .string ⟨#[]⟩, .slice none 0 0, .slice none 0 0] 32))
  have hb9a : Below w8.heap.size w8 (w9.alloc (.cells #[.int .i64 0, .bool false, .int .i64 0, .string ⟨#[]⟩, .slice none 0 0, .slice none 0 0] 32)) := hb9.alloc hb9.size _
  have HBX4 := Lib.hid (HBX8.out.onto hb9a)
  have HT4 := Lib.hid (HT8.out.on hb9a)
  clear hb9 hb9a HP
  unfold T.agg
  go_upto_region 6 with fail
  change Code.wp _ _ _ _ (w9.alloc (.cells #[.int .i64 0, .bool false, .int .i64 0, .string ⟨#[]⟩, .slice none 0 0, .slice none 0 0] 32))
  generalize (w9.alloc (.cells #[.int .i64 0, .bool false, .int .i64 0, .string ⟨#[]⟩, .slice none 0 0, .slice none 0 0] 32)) = W4 at *
  have HSS := Lib.hid (show ∀ w', Below W4.heap.size W4 w' → (w'.cell? ⟨G, 0, none⟩ = some (.int .i64 t.kind) ∧ w'.cell? ⟨G, 1, none⟩ = some (.bool t.tr) ∧ w'.cell? ⟨G, 2, none⟩ = some (.int .i64 t.num) ∧ w'.cell? ⟨G, 3, none⟩ = some (.string t.str) ∧ w'.cell? ⟨G, 4, none⟩ = some (.slice C t.items.length d) ∧ w'.cell? ⟨G, 5, none⟩ = some (.slice C' t.keys.length d')) from fun w' hb => by
   have e1 := HBX4.out.onto hb
   exact ⟨e1.cell 0, e1.cell 1, e1.cell 2, e1.cell 3, e1.cell 4, e1.cell 5⟩)
  obtain ⟨a0, a1, a2, a3, a4, a5⟩ := HSS.out W4 (Below.refl _ _)
  refine wp_region_held_drew (S := fun w' => (w'.cell? ⟨G, 0, none⟩ = some (.int .i64 t.kind) ∧ w'.cell? ⟨G, 1, none⟩ = some (.bool t.tr) ∧ w'.cell? ⟨G, 2, none⟩ = some (.int .i64 t.num) ∧ w'.cell? ⟨G, 3, none⟩ = some (.string t.str) ∧ w'.cell? ⟨G, 4, none⟩ = some (.slice C t.items.length d) ∧ w'.cell? ⟨G, 5, none⟩ = some (.slice C' t.keys.length d'))) (by kernel_rfl) ?_ (fun hHeld => ?_)
  · exact ⟨a0, a1, a2, a3, a4, a5⟩
  refine wpAnyH_take (i := 0) (v := ?_) rfl (by kernel_rfl) (by kernel_rfl) (by kernel_rfl) (fun _ _ _ h => h) (Or.inl ⟨by rfl, ?_⟩) (by assumption) ?_
  rotate_left
  ·
   intro wq hSw
   try dsimp only at hSw
   go_simp
   try (with_reducible rfl)
  try simp only [Act.put, List.getElem_toArray, List.getElem_cons_zero, List.setIfInBounds_toArray, List.set_cons_zero, List.set_cons_succ]
  refine wpAnyH_take (i := 1) (v := ?_) rfl (by kernel_rfl) (by kernel_rfl) (by kernel_rfl) (fun _ _ _ h => h) (Or.inl ⟨by rfl, ?_⟩) (by assumption) ?_
  rotate_left
  ·
   intro wq hSw
   try dsimp only at hSw
   go_simp
   try (with_reducible rfl)
  try simp only [Act.put, List.getElem_toArray, List.getElem_cons_succ, List.getElem_cons_zero, List.setIfInBounds_toArray, List.set_cons_zero, List.set_cons_succ]
  refine wpAnyH_take (i := 2) (v := ?_) rfl (by kernel_rfl) (by kernel_rfl) (by kernel_rfl) (fun _ _ _ h => h) (Or.inl ⟨by rfl, ?_⟩) (by assumption) ?_
  rotate_left
  ·
   intro wq hSw
   try dsimp only at hSw
   go_simp
   try (with_reducible rfl)
  try simp only [Act.put, List.getElem_toArray, List.getElem_cons_succ, List.getElem_cons_zero, List.setIfInBounds_toArray, List.set_cons_zero, List.set_cons_succ]
  refine wpAnyH_ready (rs := [3]) (by kernel_rfl) (by simp) ?_
  refine AllReadyH.cons rfl (fun K0 hK => ?_) ?_
  rotate_left
  · exact AllReadyH.nil
  go_simp
  have hd4 : Below W4.heap.size W4 W4.drew := (Below.refl _ _).drew
  refine (HRT.out _ (HT4.out.on hd4)).mono ?_
  rintro e W5 ⟨rfl, hb5⟩
  have hb6 : Below W4.heap.size W4 W5 := hd4.trans hb5
  have H5 := Lib.hid (H9.out.trans (hb6.mono H9.out.size))
  have HS5 := Lib.hid (HSS.out W5 hb6)
  clear hb5 hb6 hd4
  go_wp2_with fail
  refine hK.out _ _ ?_ (fun hHeld => ?_)
  · exact HS5.out
  clear hK K0
  try simp only [Act.put, List.getElem_toArray, List.getElem_cons_succ, List.getElem_cons_zero, List.setIfInBounds_toArray, List.set_cons_zero, List.set_cons_succ]
  refine wpAnyH_take (i := 4) (v := ?_) rfl (by kernel_rfl) (by kernel_rfl) (by kernel_rfl) (fun _ _ _ h => h) (Or.inl ⟨by rfl, ?_⟩) (by assumption) ?_
  rotate_left
  ·
   intro wq hSw
   try dsimp only at hSw
   go_simp
   try (with_reducible rfl)
  try simp only [Act.put, List.getElem_toArray, List.getElem_cons_succ, List.getElem_cons_zero, List.setIfInBounds_toArray, List.set_cons_zero, List.set_cons_succ]
  refine wpAnyH_take (i := 5) (v := ?_) rfl (by kernel_rfl) (by kernel_rfl) (by kernel_rfl) (fun _ _ _ h => h) (Or.inl ⟨by rfl, ?_⟩) (by assumption) ?_
  rotate_left
  ·
   intro wq hSw
   try dsimp only at hSw
   go_simp
   try (with_reducible rfl)
  try simp only [Act.put, List.getElem_toArray, List.getElem_cons_succ, List.getElem_cons_zero, List.setIfInBounds_toArray, List.set_cons_zero, List.set_cons_succ]
  refine wpAnyH_take (i := 6) (v := ?_) rfl (by kernel_rfl) (by kernel_rfl) (by kernel_rfl) (fun _ _ _ h => h) (Or.inl ⟨by rfl, ?_⟩) (by assumption) ?_
  rotate_left
  ·
   intro wq hSw
   try dsimp only at hSw
   go_simp
   try (with_reducible rfl)
  try simp only [Act.put, List.getElem_toArray, List.getElem_cons_succ, List.getElem_cons_zero, List.setIfInBounds_toArray, List.set_cons_zero, List.set_cons_succ]
  refine wpAnyH_take (i := 7) (v := ?_) rfl (by kernel_rfl) (by kernel_rfl) (by kernel_rfl) (fun _ _ _ h => h) (Or.inl ⟨by rfl, ?_⟩) (by assumption) ?_
  rotate_left
  ·
   intro wq hSw
   try dsimp only at hSw
   go_simp
   try (with_reducible rfl)
  try simp only [Act.put, List.getElem_toArray, List.getElem_cons_succ, List.getElem_cons_zero, List.setIfInBounds_toArray, List.set_cons_zero, List.set_cons_succ]
  refine wpAnyH_take (i := 8) (v := ?_) rfl (by kernel_rfl) (by kernel_rfl) (by kernel_rfl) (fun _ _ _ h => h) (Or.inl ⟨by rfl, ?_⟩) (by assumption) ?_
  rotate_left
  ·
   intro wq hSw
   try dsimp only at hSw
   go_simp
   try (with_reducible rfl)
  try simp only [Act.put, List.getElem_toArray, List.getElem_cons_succ, List.getElem_cons_zero, List.setIfInBounds_toArray, List.set_cons_zero, List.set_cons_succ]
  refine wpAnyH_take (i := 9) (v := ?_) rfl (by kernel_rfl) (by kernel_rfl) (by kernel_rfl) (fun _ _ _ h => h) (Or.inl ⟨by rfl, ?_⟩) (by assumption) ?_
  rotate_left
  ·
   intro wq hSw
   try dsimp only at hSw
   go_simp
   try (with_reducible rfl)
  try simp only [Act.put, List.getElem_toArray, List.getElem_cons_succ, List.getElem_cons_zero, List.setIfInBounds_toArray, List.set_cons_zero, List.set_cons_succ]
  refine wpAnyH_take (i := 10) rfl (by kernel_rfl) (by kernel_rfl) (by kernel_rfl) (fun _ _ _ h => h) (Or.inr ⟨by rfl, rfl⟩) (by assumption) ?_
  try simp only [Act.put, List.getElem_toArray, List.getElem_cons_succ, List.getElem_cons_zero, List.setIfInBounds_toArray, List.set_cons_zero, List.set_cons_succ]
  refine wpAnyH_take (i := 11) rfl (by kernel_rfl) (by kernel_rfl) (by kernel_rfl) (fun _ _ _ h => h) (Or.inr ⟨by rfl, rfl⟩) (by assumption) ?_
  try simp only [Act.put, List.getElem_toArray, List.getElem_cons_succ, List.getElem_cons_zero, List.setIfInBounds_toArray, List.set_cons_zero, List.set_cons_succ]
  refine wpAnyH_take (i := 12) rfl (by kernel_rfl) (by kernel_rfl) (by kernel_rfl) (fun _ _ _ h => h) (Or.inr ⟨by rfl, rfl⟩) (by assumption) ?_
  try simp only [Act.put, List.getElem_toArray, List.getElem_cons_succ, List.getElem_cons_zero, List.setIfInBounds_toArray, List.set_cons_zero, List.set_cons_succ]
  refine wpAnyH_take (i := 13) rfl (by kernel_rfl) (by kernel_rfl) (by kernel_rfl) (fun _ _ _ h => h) (Or.inr ⟨by rfl, rfl⟩) (by assumption) ?_
  try simp only [Act.put, List.getElem_toArray, List.getElem_cons_succ, List.getElem_cons_zero, List.setIfInBounds_toArray, List.set_cons_zero, List.set_cons_succ]
  refine wpAnyH_take (i := 14) rfl (by kernel_rfl) (by kernel_rfl) (by kernel_rfl) (fun _ _ _ h => h) (Or.inr ⟨by rfl, rfl⟩) (by assumption) ?_
  try simp only [Act.put, List.getElem_toArray, List.getElem_cons_succ, List.getElem_cons_zero, List.setIfInBounds_toArray, List.set_cons_zero, List.set_cons_succ]
  refine wpAnyH_take (i := 15) rfl (by kernel_rfl) (by kernel_rfl) (by kernel_rfl) (fun _ _ _ h => h) (Or.inr ⟨by rfl, rfl⟩) (by assumption) ?_
  try simp only [Act.put, List.getElem_toArray, List.getElem_cons_succ, List.getElem_cons_zero, List.setIfInBounds_toArray, List.set_cons_zero, List.set_cons_succ]
  refine wpAnyH_take (i := 16) rfl (by kernel_rfl) (by kernel_rfl) (by kernel_rfl) (fun _ _ _ h => h) (Or.inr ⟨by rfl, rfl⟩) (by assumption) ?_
  try simp only [Act.put, List.getElem_toArray, List.getElem_cons_succ, List.getElem_cons_zero, List.setIfInBounds_toArray, List.set_cons_zero, List.set_cons_succ]
  refine wpAnyH_take (i := 17) rfl (by kernel_rfl) (by kernel_rfl) (by kernel_rfl) (fun _ _ _ h => h) (Or.inr ⟨by rfl, rfl⟩) (by assumption) ?_
  try simp only [Act.put, List.getElem_toArray, List.getElem_cons_succ, List.getElem_cons_zero, List.setIfInBounds_toArray, List.set_cons_zero, List.set_cons_succ]
  refine wpAnyH_take (i := 18) (v := ?_) rfl (by kernel_rfl) (by kernel_rfl) (by kernel_rfl) (fun _ _ _ h => h) (Or.inl ⟨by rfl, ?_⟩) (by assumption) ?_
  rotate_left
  ·
   intro wq hSw
   try dsimp only at hSw
   go_simp
   try (with_reducible rfl)
  try simp only [Act.put, List.getElem_toArray, List.getElem_cons_succ, List.getElem_cons_zero, List.setIfInBounds_toArray, List.set_cons_zero, List.set_cons_succ]
  refine wpAnyH_take (i := 19) (v := ?_) rfl (by kernel_rfl) (by kernel_rfl) (by kernel_rfl) (fun _ _ _ h => h) (Or.inl ⟨by rfl, ?_⟩) (by assumption) ?_
  rotate_left
  ·
   intro wq hSw
   try dsimp only at hSw
   go_simp
   try (with_reducible rfl)
  try simp only [Act.put, List.getElem_toArray, List.getElem_cons_succ, List.getElem_cons_zero, List.setIfInBounds_toArray, List.set_cons_zero, List.set_cons_succ]
  refine wpAnyH_take (i := 20) (v := ?_) rfl (by kernel_rfl) (by kernel_rfl) (by kernel_rfl) (fun _ _ _ h => h) (Or.inl ⟨by rfl, ?_⟩) (by assumption) ?_
  rotate_left
  ·
   intro wq hSw
   try dsimp only at hSw
   go_simp
   try (with_reducible rfl)
  try simp only [Act.put, List.getElem_toArray, List.getElem_cons_succ, List.getElem_cons_zero, List.setIfInBounds_toArray, List.set_cons_zero, List.set_cons_succ]
  refine wpAnyH_done (by kernel_rfl) ?_ _
  go_wp2_with fail
  go_ret
  exact ⟨rfl, H5.out⟩
set_option maxRecDepth 100000 in
theorem lifted (os : Os) (started : os.Started) (H : Type) (enc : TypeId × Value → H) :
 ReturnsInHanded {} Tryz.checked os 3 .any (fun w args => (Rows.renderLinesSpec.pre enc Tryz.prog Tryz.f3 [] false w args ∧ laidMetH Tryz.prog Rows.renderLinesRow.laid w) ∧ sizedMet enc Tryz.prog Tryz.f3 (OpenSpec.ofChange Rows.renderLinesSpec) false w args)
  (Rows.renderLinesSpec.post enc Tryz.prog Tryz.f3 false true false false) := by
 refine returnsInHanded_of_change_and (C := Tryz.checked) (X := fun w _ => laidMetH Tryz.prog Rows.renderLinesRow.laid w) (fun _ _ _ hh h => h.of_heap hh) own started (by kernel_rfl) Tryz.func3
  (ChangeSpec.witness_shaped (enc := enc) (C := Tryz.checked) (os := os) (X := fun w _ => laidMetH Tryz.prog Rows.renderLinesRow.laid w) false (World.laidAll Tryz.prog os Rows.renderLinesRow.laid) #[.slice none 0 0, .int .i64 0] 8 (World.laidAll_os _ _ _) (World.shaped_of_ZipB (by kernel_rfl) (by kernel_rfl)) (by kernel_rfl) (by kernel_rfl) (by kernel_rfl) (by rw [MakeChecks.laidMetH_plain _ _ _ (by kernel_rfl)]; exact laidMet_laidAll _ (by kernel_rfl) (by kernel_rfl))) ?_
 intro W base args ds gs before hval0 hW _ _ hL _
 have hval : ∀ (j : Nat) t v, Tryz.f3.params[j]? = some t → args[j]? = some v → Value.okWide Tryz.prog W .any base t v := hval0
 have hW' := hW
 obtain ⟨p, q, hA0, hV, rfl, hfz, hnd⟩ := hW
 have hA : DataW.TrodAll enc Tryz.prog W 0 (fun _ => true) true Tryz.f3.params.toList args.toList ds p := hA0
 rw [Tryz.params3] at hA hval
 obtain ⟨v0, vs0, d0, ds0, p0, q0, hargs, rfl, rfl, h0, r0⟩ := trodAll_cons hA
 obtain ⟨v1, vs1, d1, ds1, p1, q1, rfl, rfl, rfl, h1, r1⟩ := trodAll_cons r0
 obtain ⟨rfl, rfl, rfl⟩ := trodAll_nil r1
 obtain rfl : args = #[v0, v1] := by cases args; simp_all
 obtain ⟨rfl, rfl⟩ := trodVars_none hV
 obtain ⟨a0, n0, c0, rfl⟩ := okWide_slice Tryz.underlying22 (hval 0 22 v0 rfl rfl)
 have k0 := h0
 have lt0 : ∀ x ∈ p0, x.block < W.heap.size := by obtain ⟨m, hm⟩ := k0; exact DataW.trod_lt m _ _ _ hm
 obtain ⟨f0, hf0⟩ := h0
 obtain ⟨hnc0, hcm0, hN0⟩ := nodes_open (show DataW.trod enc Tryz.prog W 0 _ _ f0 22 [.slice a0 n0 c0] = some (d0, p0) from hf0)
 obtain ⟨x1, rfl, rfl, rfl, w1⟩ := open_int Tryz.underlying3 (hval 1 3 v1 rfl rfl) h1
 have b1 := w1
 simp only [Lit.wf, decide_eq_true_eq, Bool.and_eq_true] at b1
 have eu8a : IntKind.u8.min = 0 := rfl
 have eu8b : IntKind.u8.max = 255 := rfl
 have ei64a : IntKind.i64.min = -9223372036854775808 := rfl
 have ei64b : IntKind.i64.max = 9223372036854775807 := rfl
 have eu32a : IntKind.u32.min = 0 := rfl
 have eu32b : IntKind.u32.max = 4294967295 := rfl
 clear hA0 hval0
 refine (walk a0 n0 c0 x1 W hnc0 hcm0 hN0 (by omega) (by omega) (errs hL) (table hL)).mono fun e W' ⟨he, bel⟩ => ?_
 subst he
 exact ⟨_, rfl, _, _, _, [], _, [], hW', trodAll_mk1 (shut_bool Tryz.underlying4 _), (trodAll_cons_mk (Below.trod laidOut (by kernel_rfl) (of_decide_eq_true (by kernel_rfl)) k0 bel lt0) (trodAll_cons_mk (shut_int Tryz.underlying3 w1) trodAll_mk0)), rfl, bel.frame _, fun h => by cases h⟩
theorem said : Rows.RenderLinesSaid :=
 OpenClaim.holds_of_wide 3 Tryz.f3 rfl rfl rfl rfl rfl rfl rfl ⟨rfl, rfl, rfl, rfl, rfl⟩ rfl rfl rfl rfl rfl (by kernel_rfl) Tryz.func3 (by kernel_rfl)
  (of_decide_eq_true (by kernel_rfl)) (by unfold Func.isWrapper; first | (rw [if_pos (by decide +kernel)]; kernel_rfl) | (rw [if_neg (by decide +kernel)]; exact ⟨rfl, rfl⟩))
  (fun os started H enc _ => lifted os started H enc)
/-- no parameter wants a stand-in -/
theorem plain (f : FuncId) (fn : Func) (hf : Tryz.pinned.checked.prog.funcNamed "cheval/chevallaw07.RenderLines" = some f) (hfn : Tryz.pinned.checked.prog.funcs[f]? = some fn) :
 true = Tryz.pinned.checked.prog.looks [] ∧ ∀ (j : Nat) t, fn.params[j]? = some t → Tryz.pinned.checked.prog.wantsStandIn t = false := by
 obtain rfl : f = 3 := Option.some.inj ((show Tryz.prog.funcNamed "cheval/chevallaw07.RenderLines" = some 3 by kernel_rfl).symm.trans hf) |>.symm
 obtain rfl : fn = Tryz.f3 := (Option.some.inj (Tryz.func3.symm.trans hfn)).symm
 refine ⟨by kernel_rfl, fun j t ht => ?_⟩
 rw [Tryz.params3] at ht
 have hm := Array.mem_of_getElem? ht
 simp only [List.mem_toArray, List.mem_cons, List.not_mem_nil, or_false] at hm
 rcases hm with rfl | rfl
 · exact (show Tryz.prog.wantsStandIn 22 = false by kernel_rfl)
 · exact (show Tryz.prog.wantsStandIn 3 = false by kernel_rfl)
/-- The statement: the tied card. -/
theorem card : Rows.RenderLinesCardSaid :=
 Claim7.holds_tied_plain_at .later [] _ _ _ _ said (fun _ h => by cases h) (by kernel_rfl) (fun _ h => by cases h) renderLines_row_tie rfl ⟨rfl, rfl⟩ (by kernel_rfl) rfl plain (by kernel_rfl)
end Go.Proofs.YtaeimlfehlbiiaaGreatDoor.renderLines
