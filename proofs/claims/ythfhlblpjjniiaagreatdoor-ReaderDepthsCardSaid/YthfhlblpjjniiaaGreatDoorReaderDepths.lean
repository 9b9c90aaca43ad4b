/- A value's text is read as it just if the depth that is allowed isn't less than its own, and else is told where it is too deep: for every list of nodes, every list of bytes and every byte, over the library's variables as they are laid. -/
import Derived.Test.YthfhlblpjjniiaaGreatDoorCards
import Derived.Test.YthfhlblpjjniiaaGreatDoorTie
import Derived.WalkKit
import Derived.ProofKit
import Derived.OpenShut
import Derived.ChangeOld
import Derived.ShutString
import Derived.Below
import Derived.LaidMore
import Derived.Lib.LaidTab
import Derived.Stop.Joined
import Derived.Stop.LaidErr
import Derived.SevenTiedAt
import Derived.Lay
import Derived.Test.YthfhlblpjjniiaaGreatDoorMS
import Derived.Test.YthfhlblpjjniiaaGreatDoorMX
import Derived.Test.YthfhlblpjjniiaaGreatDoorNJ
import Derived.Test.YthfhlblpjjniiaaGreatDoorMZ
import Derived.Test.YthfhlblpjjniiaaGreatDoorMY
namespace Go.Proofs.YthfhlblpjjniiaaGreatDoor.readerDepths
open Go.ChangeShapes Go.WideShapes Go.ChangeAt Go.RowKit
open Go.ChangeMaps (open_string shut_string)
open Tk Pl
set_option linter.unusedVariables false
theorem own : ownKnob Tryz.prog.godebug = none := by kernel_rfl
theorem laidOut : laidOutB Tryz.prog = true := by kernel_rfl
theorem gRange : Tryz.prog.globalNamed "strconv.ErrRange" = some 7 := by kernel_rfl
theorem star : "*" ++ "errors.errorString" = "*errors.errorString" := by decide
theorem rowPtr (u : TypeId) (h : Tryz.prog.typeName? 3 u = some "*errors.errorString") : u = 269 :=
 typeName_ptr_named (nm := "errors.errorString") (by rw [star]; kernel_rfl) (by kernel_rfl) (by decide) u (by rw [star]; exact h)
/-- what the row's list gives -/
theorem errs {W : World} (h : laidMetH Tryz.prog Rows.readerDepthsRow.laid W) : RangeErr W := by
 have h' : laidMet Tryz.prog Rows.readerDepthsRow.laid W := h
 obtain ⟨a, s, hv, _⟩ := laid_sentinel h'.tail.tail.tail.tail gRange (by kernel_rfl) Tryz.underlying140 rowPtr Tryz.underlying269 Tryz.underlying271 rfl rfl Tryz.underlying9 (by kernel_rfl) (by kernel_rfl)
 exact ⟨_, _, hv⟩
theorem parse_whole {s : ByteArray} {d : Nat} (hd : d ≤ 64) (hs : s.size ≤ 16384) : Rd.parseR s d = Rd.whole Rd.Ob s d := by
 unfold Rd.parseR
 rw [if_neg (by omega), if_neg (by omega)]
 rfl
theorem depth_size : ∀ t : T, t.depth ≤ t.size := by
 have h : ∀ n, (∀ t : T, t.size ≤ n → t.depth ≤ t.size) := by
  intro n
  induction n with
  | zero => intro t h; have := t.size_pos; omega
  | succ n ih =>
   intro t ht
   cases t with
   | mk k tr nn s l ks =>
    have hs : ∀ l : List T, T.sizes l ≤ n → T.depths l ≤ T.sizes l := by
     intro l
     induction l with
     | nil => intro _; simp [T.depths, T.sizes]
     | cons a l ihl =>
      intro h
      simp only [T.sizes] at h
      have h1 := ih a (by omega)
      have h2 := ihl (by omega)
      simp only [T.depths, T.sizes]
      omega
    have e := T.size_eq (.mk k tr nn s l ks)
    have h2 := hs l (by have : (T.mk k tr nn s l ks).items = l := rfl; rw [this] at e; omega)
    rw [e]
    show T.depth _ ≤ 1 + T.sizes l
    unfold T.depth
    split <;> omega
 exact fun t => h t.size t (Nat.le_refl _)
theorem ref_c (B0 : Nat) (t : T) (A : Option Addr) (c : Nat) (A' : Option Addr) (c' : Nat) (w : World) (ht : t.size ≤ 100000) (hB : B0 ≤ w.heap.size) (hv : TV w (· < B0) t A c A' c') :
 Calls Tryz.prog 17 #[.agg #[.int .i64 t.kind, .bool t.tr, .int .i64 t.num, .string t.str, .slice A t.items.length c, .slice A' t.keys.length c']] w (GivesR B0 t w) := ref_any B0 t A c A' c' w ht hB hv
theorem rsame_c (t : T) (A : Option Addr) (c : Nat) (A' : Option Addr) (c' : Nat) (B : Option Addr) (d : Nat) (B' : Option Addr) (d' : Nat) (w : World) (ht : t.size ≤ 100000) (hs : t.Small) (hv : TV w (· < w.heap.size) t A c A' c') (hu : TV w (· < w.heap.size) t B d B' d') :
 Calls Tryz.prog 16 #[.agg #[.int .i64 t.kind, .bool t.tr, .int .i64 t.num, .string t.str, .slice A t.items.length c, .slice A' t.keys.length c'], .agg #[.int .i64 t.kind, .bool t.tr, .int .i64 t.num, .string t.str, .slice B t.items.length d, .slice B' t.keys.length d']] w fun e w' => e = .returned (.bool true) ∧ Below w.heap.size w w' := rsame_yes t A c A' c' B d B' d' w ht hs hv hu
theorem bytes8_onw {w w' : World} {A : Option Addr} {m : Nat} (h : Bytes8 w (· < w.heap.size) A m) (hb : Below w.heap.size w w') : Bytes8 w' (· < w'.heap.size) A m :=
 (h.keep fun i hi => hb.block i hi).wide fun i hi => Nat.lt_of_lt_of_le hi hb.size
theorem rdepth_c (t : T) (A : Option Addr) (c : Nat) (A' : Option Addr) (c' : Nat) (w : World) (ht : t.size ≤ 100000) (hk : t.Kinds) (hv : TV w (· < w.heap.size) t A c A' c') :
 Calls Tryz.prog 22 #[.agg #[.int .i64 t.kind, .bool t.tr, .int .i64 t.num, .string t.str, .slice A t.items.length c, .slice A' t.keys.length c']] w fun e w' => e = .returned (.int .i64 t.depth) ∧ Below w.heap.size w w' := rdepth_any 100000 t A c A' c' w ht (Nat.le_refl _) hk hv
set_option maxRecDepth 100000 in
set_option maxHeartbeats 8000000 in
theorem walk (A : Option Addr) (n c : Nat) (B : Option Addr) (m mc : Nat) (x : Int) (w : World) (hnc : n ≤ c) (hcm : c ≤ maxLen) (hN : Nodes w (· < w.heap.size) A n) (hmc : m ≤ mc) (hmm : mc ≤ maxLen) (hB : Bytes8 w (· < w.heap.size) B m) (hx0 : 0 ≤ x) (hx1 : x ≤ 255) (hr : RangeErr w) :
 Calls Tryz.prog 5 #[.slice A n c, .slice B m mc, .int .u8 x] w fun e w' => e = .returned (.bool true) ∧ Below w.heap.size w w' := by
 have HR := Lib.hid hr
 have HN := Lib.hid hN
 have HB := Lib.hid hB
 clear hr hN hB
 obtain ⟨dn, hd, hd7⟩ : ∃ d : Nat, x % 65 = (d : Int) ∧ d < 65 := ⟨(x % 65).toNat, by omega, by omega⟩
 have hdt : x.tmod 65 = (dn : Int) := by rw [Int.tmod_eq_emod_of_nonneg hx0]; exact hd
 by_cases h50 : m ≤ 50
 ·
  have u0 : decide ((m : Int) > 50) = false := decide_eq_false (by omega)
  have u0' : decide ((50 : Int) < (m : Int)) = false := decide_eq_false (by omega)
  have u0n : decide (50 < m) = false := decide_eq_false (by omega)
  go_enter Tryz.func5, Tryz.ntmps5
  go_wp2_with fail
  refine (awake6_any _ HR.out).mono ?_
  rintro e w1 ⟨rfl, hb1⟩
  have H1 := Lib.hid hb1
  clear hb1
  go_wp2_with fail
  refine (tree_any A n c _ hnc hcm (HN.out.on H1.out)).mono ?_
  rintro e w2 ⟨t, C, d, C', d', rfl, hnice, htv, hb2⟩
  have H2 := Lib.hid (H1.out.trans (hb2.mono H1.out.size))
  have HNI := Lib.hid hnice
  have hsz := hnice.le
  have h40 := hnice.size
  have hdp := depth_size t
  have HSM := Lib.hid hnice.small
  have HKI := Lib.hid hnice.good.kinds
  have hW : Below w.heap.size w (w2.alloc (.cells #[.int .i64 t.kind, .bool t.tr, .int .i64 t.num, .string t.str, .slice C t.items.length d, .slice C' t.keys.length d'] 32)) := H2.out.alloc H2.out.size _
  have HBX := Lib.hid (Blk.new w2 32 #[.int .i64 t.kind, .bool t.tr, .int .i64 t.num, .string t.str, .slice C t.items.length d, .slice C' t.keys.length d'])
  have HT := Lib.hid (show TV (w2.alloc (.cells #[.int .i64 t.kind, .bool t.tr, .int .i64 t.num, .string t.str, .slice C t.items.length d, .slice C' t.keys.length d'] 32)) (· < (w2.alloc (.cells #[.int .i64 t.kind, .bool t.tr, .int .i64 t.num, .string t.str, .slice C t.items.length d, .slice C' t.keys.length d'] 32)).heap.size) t C d C' d' from htv.on ((Below.refl _ _).alloc (Nat.le_refl _) _))
  have HB2 := Lib.hid (bytes8_onw HB.out hW)
  have HW := Lib.hid hW
  clear hb2 htv hnice hW H1
  unfold T.agg
  go_upto_region 4 with fail
  change Code.wp _ _ _ _ (w2.alloc (.cells #[.int .i64 t.kind, .bool t.tr, .int .i64 t.num, .string t.str, .slice C t.items.length d, .slice C' t.keys.length d'] 32))
  generalize (w2.alloc (.cells #[.int .i64 t.kind, .bool t.tr, .int .i64 t.num, .string t.str, .slice C t.items.length d, .slice C' t.keys.length d'] 32)) = W at *
  generalize w2.heap.size = G at *
  obtain ⟨a0, a1, a2, a3, a4, a5⟩ : W.cell? ⟨G, 0, none⟩ = some (.int .i64 t.kind) ∧ W.cell? ⟨G, 1, none⟩ = some (.bool t.tr) ∧ W.cell? ⟨G, 2, none⟩ = some (.int .i64 t.num) ∧ W.cell? ⟨G, 3, none⟩ = some (.string t.str) ∧ W.cell? ⟨G, 4, none⟩ = some (.slice C t.items.length d) ∧ W.cell? ⟨G, 5, none⟩ = some (.slice C' t.keys.length d') := ⟨HBX.out.cell 0, HBX.out.cell 1, HBX.out.cell 2, HBX.out.cell 3, HBX.out.cell 4, HBX.out.cell 5⟩
  go_wp2_with fail
  refine (write_any6 t C d C' d' B m mc W HNI.out HT.out HB2.out (by omega)).mono ?_
  rintro e w3 ⟨r, rfl, hwr, hrs, hb3⟩
  clear a0 a1 a2 a3 a4 a5
  have H3 := Lib.hid (HW.out.trans (hb3.mono HW.out.size))
  have HBX3 := Lib.hid (HBX.out.onto hb3)
  have HT3 := Lib.hid (HT.out.on hb3)
  have HWR := Lib.hid hwr
  clear hb3 hwr HB2
  by_cases hl : r.size ≤ 16000
  ·
   have v0 : decide ((r.size : Int) > 16000) = false := decide_eq_false (by omega)
   have v0' : decide ((16000 : Int) < (r.size : Int)) = false := decide_eq_false (by omega)
   have v0n : decide (16000 < r.size) = false := decide_eq_false (by omega)
   have HP := Lib.hid (parse_any6 r (dn : Int) w3 (HR.out.on H3.out))
   rw [parse_whole (d := dn) (by omega) (by omega)] at HP
   by_cases hdd : t.depth ≤ dn
   ·
    have t0 : decide ((t.depth : Int) ≤ (dn : Int)) = true := decide_eq_true (by omega)
    have t1 : decide (t.depth ≤ dn) = true := decide_eq_true hdd
    rw [(Rd.whole_written HWR.out rfl dn).1 hdd] at HP
    go_wp2_with fail
    refine HP.out.mono ?_
    rintro e w4 ⟨E, f, E', f', rfl, hT4, hb4⟩
    have hb4a : Below w3.heap.size w3 (w4.alloc (.cells #[.int .i64 t.kind, .bool t.tr, .int .i64 t.num, .string t.str, .slice E t.items.length f, .slice E' t.keys.length f'] 26)) := hb4.alloc hb4.size _
    have HBY := Lib.hid (Blk.new w4 26 #[.int .i64 t.kind, .bool t.tr, .int .i64 t.num, .string t.str, .slice E t.items.length f, .slice E' t.keys.length f'])
    have H4 := Lib.hid (H3.out.trans (hb4a.mono H3.out.size))
    have HBX4 := Lib.hid (HBX3.out.onto hb4a)
    have HT4 := Lib.hid (HT3.out.on hb4a)
    have HU4 := Lib.hid (show TV (w4.alloc (.cells #[.int .i64 t.kind, .bool t.tr, .int .i64 t.num, .string t.str, .slice E t.items.length f, .slice E' t.keys.length f'] 26)) (· < (w4.alloc (.cells #[.int .i64 t.kind, .bool t.tr, .int .i64 t.num, .string t.str, .slice E t.items.length f, .slice E' t.keys.length f'] 26)).heap.size) t E f E' f' from (hT4.wide (S' := (· < w4.heap.size)) fun i hi => hi.2).on ((Below.refl _ _).alloc (Nat.le_refl _) _))
    clear hb4 hb4a hT4 HP
    unfold T.agg
    go_upto_region 8 with fail
    change Code.wp _ _ _ _ (w4.alloc (.cells #[.int .i64 t.kind, .bool t.tr, .int .i64 t.num, .string t.str, .slice E t.items.length f, .slice E' t.keys.length f'] 26))
    generalize (w4.alloc (.cells #[.int .i64 t.kind, .bool t.tr, .int .i64 t.num, .string t.str, .slice E t.items.length f, .slice E' t.keys.length f'] 26)) = W3 at *
    generalize w4.heap.size = G4 at *
    obtain ⟨a0, a1, a2, a3, a4, a5⟩ : W3.cell? ⟨G, 0, none⟩ = some (.int .i64 t.kind) ∧ W3.cell? ⟨G, 1, none⟩ = some (.bool t.tr) ∧ W3.cell? ⟨G, 2, none⟩ = some (.int .i64 t.num) ∧ W3.cell? ⟨G, 3, none⟩ = some (.string t.str) ∧ W3.cell? ⟨G, 4, none⟩ = some (.slice C t.items.length d) ∧ W3.cell? ⟨G, 5, none⟩ = some (.slice C' t.keys.length d') := ⟨HBX4.out.cell 0, HBX4.out.cell 1, HBX4.out.cell 2, HBX4.out.cell 3, HBX4.out.cell 4, HBX4.out.cell 5⟩
    go_wp2_with fail
    refine (rdepth_c t C d C' d' W3 hsz HKI.out HT4.out).mono ?_
    rintro e W4 ⟨rfl, hb5⟩
    have H4 := Lib.hid (H4.out.trans (hb5.mono H4.out.size))
    have HBX4 := Lib.hid (HBX4.out.onto hb5)
    have HBY := Lib.hid (HBY.out.onto hb5)
    have HT4 := Lib.hid (HT4.out.on hb5)
    have HU4 := Lib.hid (HU4.out.on hb5)
    clear hb5 a0 a1 a2 a3 a4 a5
    have hl1 := HBX4.out.lt
    have hl2 := HBY.out.lt
    have HSS := Lib.hid (show ∀ w', Below W4.heap.size W4 w' → (w'.cell? ⟨G, 0, none⟩ = some (.int .i64 t.kind) ∧ w'.cell? ⟨G, 1, none⟩ = some (.bool t.tr) ∧ w'.cell? ⟨G, 2, none⟩ = some (.int .i64 t.num) ∧ w'.cell? ⟨G, 3, none⟩ = some (.string t.str) ∧ w'.cell? ⟨G, 4, none⟩ = some (.slice C t.items.length d) ∧ w'.cell? ⟨G, 5, none⟩ = some (.slice C' t.keys.length d')) ∧ (w'.cell? ⟨G4, 0, none⟩ = some (.int .i64 t.kind) ∧ w'.cell? ⟨G4, 1, none⟩ = some (.bool t.tr) ∧ w'.cell? ⟨G4, 2, none⟩ = some (.int .i64 t.num) ∧ w'.cell? ⟨G4, 3, none⟩ = some (.string t.str) ∧ w'.cell? ⟨G4, 4, none⟩ = some (.slice E t.items.length f) ∧ w'.cell? ⟨G4, 5, none⟩ = some (.slice E' t.keys.length f')) from fun w' hb => by
     have e1 := HBX4.out.onto hb
     have e2 := HBY.out.onto hb
     exact ⟨⟨e1.cell 0, e1.cell 1, e1.cell 2, e1.cell 3, e1.cell 4, e1.cell 5⟩, ⟨e2.cell 0, e2.cell 1, e2.cell 2, e2.cell 3, e2.cell 4, e2.cell 5⟩⟩)
    obtain ⟨⟨a0, a1, a2, a3, a4, a5⟩, ⟨b0, b1, b2, b3, b4, b5⟩⟩ := HSS.out W4 (Below.refl _ _)
    have HBc := Lib.hid (Below.refl W4.heap.size W4)
    go_upto_region 9 with fail
    go_region_held3 (fun w' => (w'.cell? ⟨G, 0, none⟩ = some (.int .i64 t.kind) ∧ w'.cell? ⟨G, 1, none⟩ = some (.bool t.tr) ∧ w'.cell? ⟨G, 2, none⟩ = some (.int .i64 t.num) ∧ w'.cell? ⟨G, 3, none⟩ = some (.string t.str) ∧ w'.cell? ⟨G, 4, none⟩ = some (.slice C t.items.length d) ∧ w'.cell? ⟨G, 5, none⟩ = some (.slice C' t.keys.length d')) ∧ (w'.cell? ⟨G4, 0, none⟩ = some (.int .i64 t.kind) ∧ w'.cell? ⟨G4, 1, none⟩ = some (.bool t.tr) ∧ w'.cell? ⟨G4, 2, none⟩ = some (.int .i64 t.num) ∧ w'.cell? ⟨G4, 3, none⟩ = some (.string t.str) ∧ w'.cell? ⟨G4, 4, none⟩ = some (.slice E t.items.length f) ∧ w'.cell? ⟨G4, 5, none⟩ = some (.slice E' t.keys.length f')))
     (first
      | with_reducible exact HSS.out _ HBc.out
      | with_reducible exact HSS.out _ (below_drewN HBc.out _)
      | exact HSS.out _ HBc.out.drew
      | go_keep)
     (first
      | (
       go_at_call 17
       with_reducible refine (ref_c _ t E f E' f' _ hsz (Nat.le_refl _) (HU4.out.on ?_)).mono ?_
       · exact (by first | with_reducible exact HBc.out | with_reducible exact below_drewN HBc.out _ | exact HBc.out.drew)
       rintro e5 w5 ⟨D, g, D', g', rfl, hT5, hb5⟩
       unfold T.agg
       have HBc := Lib.hid (show Below W4.heap.size W4 w5 from by first | with_reducible exact HBc.out.trans (hb5.mono HBc.out.size) | with_reducible exact (below_drewN HBc.out _).trans (hb5.mono HBc.out.size) | exact HBc.out.drew.trans (hb5.mono HBc.out.size))
       have HRf := Lib.hid (show TV w5 (· < w5.heap.size) t D g D' g' from hT5.wide fun i hi => by
        have := hb5.size
        rcases hi with hi | hi
        · show i < w5.heap.size; omega
        · exact hi.2)
       have HBr := Lib.hid (Below.refl w5.heap.size w5)
       clear hT5 hb5)
      | (
       go_at_call 16
       with_reducible refine (rsame_c t D g D' g' C d C' d' _ hsz HSM.out (HRf.out.on ?_) (HT4.out.on ?_)).mono ?_
       · exact (by first | with_reducible exact HBr.out | with_reducible exact below_drewN HBr.out _ | exact HBr.out.drew)
       · exact (by first | with_reducible exact HBc.out | with_reducible exact below_drewN HBc.out _ | exact HBc.out.drew)
       rintro e6 w6 ⟨rfl, hb6⟩
       have HBc := Lib.hid (show Below W4.heap.size W4 w6 from by first | with_reducible exact HBc.out.trans (hb6.mono HBc.out.size) | with_reducible exact (below_drewN HBc.out _).trans (hb6.mono HBc.out.size) | exact HBc.out.drew.trans (hb6.mono HBc.out.size))
       clear hb6))
    all_goals
     go_wp2_with fail
     go_ret
     exact ⟨rfl, H4.out.trans (HBc.out.mono H4.out.size)⟩
   ·
    have t0 : decide ((t.depth : Int) ≤ (dn : Int)) = false := decide_eq_false (by omega)
    have t1 : decide (t.depth ≤ dn) = false := decide_eq_false hdd
    obtain ⟨p, hw6, hpl, hbt⟩ := (Rd.whole_written HWR.out rfl dn).2 (by omega)
    rw [hw6] at HP
    have HBT := Lib.hid hbt
    clear hbt hw6
    have p0 : decide ((p : Int) < (r.size : Int)) = true := decide_eq_true (by omega)
    have p1 : decide (p < r.size) = true := decide_eq_true hpl
    have p2 : decide ((0 : Int) ≤ (p : Int)) = true := decide_eq_true (by omega)
    have p3 : decide ((p : Int) ≥ 0) = true := decide_eq_true (by omega)
    go_wp2_with fail
    refine HP.out.mono ?_
    rintro e w4 ⟨rfl, hb4⟩
    have hb4a : Below w3.heap.size w3 (w4.alloc (.cells #[.int .i64 0, .bool false, .int .i64 0, .string ⟨#[]⟩, .slice none 0 0, .slice none 0 0] 26)) := hb4.alloc hb4.size _
    have H4 := Lib.hid (H3.out.trans (hb4a.mono H3.out.size))
    have HBX4 := Lib.hid (HBX3.out.onto hb4a)
    have HT4 := Lib.hid (HT3.out.on hb4a)
    clear hb4 hb4a HP
    unfold T.agg
    go_upto_region 8 with fail
    change Code.wp _ _ _ _ (w4.alloc (.cells #[.int .i64 0, .bool false, .int .i64 0, .string ⟨#[]⟩, .slice none 0 0, .slice none 0 0] 26))
    generalize (w4.alloc (.cells #[.int .i64 0, .bool false, .int .i64 0, .string ⟨#[]⟩, .slice none 0 0, .slice none 0 0] 26)) = W3 at *
    obtain ⟨a0, a1, a2, a3, a4, a5⟩ : W3.cell? ⟨G, 0, none⟩ = some (.int .i64 t.kind) ∧ W3.cell? ⟨G, 1, none⟩ = some (.bool t.tr) ∧ W3.cell? ⟨G, 2, none⟩ = some (.int .i64 t.num) ∧ W3.cell? ⟨G, 3, none⟩ = some (.string t.str) ∧ W3.cell? ⟨G, 4, none⟩ = some (.slice C t.items.length d) ∧ W3.cell? ⟨G, 5, none⟩ = some (.slice C' t.keys.length d') := ⟨HBX4.out.cell 0, HBX4.out.cell 1, HBX4.out.cell 2, HBX4.out.cell 3, HBX4.out.cell 4, HBX4.out.cell 5⟩
    go_wp2_with fail
    refine (rdepth_c t C d C' d' W3 hsz HKI.out HT4.out).mono ?_
    rintro e W4 ⟨rfl, hb5⟩
    have H4 := Lib.hid (H4.out.trans (hb5.mono H4.out.size))
    clear hb5 a0 a1 a2 a3 a4 a5
    by_cases h91 : bt r p = 91
    ·
     have e1 : (((r[p]'hpl).toNat : Int) == 91) = true := by rw [beq_iff_eq, bt_at r p hpl, h91]; rfl
     clear h91
     go_wp2_with fail
     go_ret
     exact ⟨rfl, H4.out⟩
    ·
     have e1 : (((r[p]'hpl).toNat : Int) == 91) = false := by rw [beq_eq_false_iff_ne, bt_at r p hpl]; omega
     have e2 : (((r[p]'hpl).toNat : Int) == 123) = true := by
      rw [beq_iff_eq, bt_at r p hpl]
      rcases HBT.out with h | h
      · exact absurd h h91
      · rw [h]; rfl
     clear h91
     go_wp2_with fail
     go_ret
     exact ⟨rfl, H4.out⟩
  ·
   have v0 : decide ((r.size : Int) > 16000) = true := decide_eq_true (by omega)
   have v0' : decide ((16000 : Int) < (r.size : Int)) = true := decide_eq_true (by omega)
   have v0n : decide (16000 < r.size) = true := decide_eq_true (by omega)
   go_wp2_with fail
   go_ret
   exact ⟨rfl, H3.out⟩
 ·
  have u0 : decide ((m : Int) > 50) = true := decide_eq_true (by omega)
  have u0' : decide ((50 : Int) < (m : Int)) = true := decide_eq_true (by omega)
  have u0n : decide (50 < m) = true := decide_eq_true (by omega)
  go_enter Tryz.func5, Tryz.ntmps5
  go_wp2_with fail
  refine (awake6_any _ HR.out).mono ?_
  rintro e w1 ⟨rfl, hb1⟩
  have H1 := Lib.hid hb1
  clear hb1
  go_wp2_with fail
  refine (awake6_any _ (HR.out.on H1.out)).mono ?_
  rintro e w2 ⟨rfl, hb2⟩
  have H2 := Lib.hid (H1.out.trans (hb2.mono H1.out.size))
  clear hb2
  go_wp2_with fail
  go_ret
  exact ⟨rfl, H2.out⟩
set_option maxRecDepth 100000 in
theorem lifted (os : Os) (started : os.Started) (H : Type) (enc : TypeId × Value → H) :
 ReturnsInHanded {} Tryz.checked os 5 .any (fun w args => (Rows.readerDepthsSpec.pre enc Tryz.prog Tryz.f5 [] false w args ∧ laidMetH Tryz.prog Rows.readerDepthsRow.laid w) ∧ sizedMet enc Tryz.prog Tryz.f5 (OpenSpec.ofChange Rows.readerDepthsSpec) false w args)
  (Rows.readerDepthsSpec.post enc Tryz.prog Tryz.f5 false true false false) := by
 refine returnsInHanded_of_change_and (C := Tryz.checked) (X := fun w _ => laidMetH Tryz.prog Rows.readerDepthsRow.laid w) (fun _ _ _ hh h => h.of_heap hh) own started (by kernel_rfl) Tryz.func5
  (ChangeSpec.witness_shaped (enc := enc) (C := Tryz.checked) (os := os) (X := fun w _ => laidMetH Tryz.prog Rows.readerDepthsRow.laid w) false (World.laidAll Tryz.prog os Rows.readerDepthsRow.laid) #[.slice none 0 0, .slice none 0 0, .int .u8 0] 8 (World.laidAll_os _ _ _) (World.shaped_of_ZipB (by kernel_rfl) (by kernel_rfl)) (by kernel_rfl) (by kernel_rfl) (by kernel_rfl) (by rw [MakeChecks.laidMetH_plain _ _ _ (by kernel_rfl)]; exact laidMet_laidAll _ (by kernel_rfl) (by kernel_rfl))) ?_
 intro W base args ds gs before hval0 hW _ _ hL _
 have hval : ∀ (j : Nat) t v, Tryz.f5.params[j]? = some t → args[j]? = some v → Value.okWide Tryz.prog W .any base t v := hval0
 have hW' := hW
 obtain ⟨p, q, hA0, hV, rfl, hfz, hnd⟩ := hW
 have hA : DataW.TrodAll enc Tryz.prog W 0 (fun _ => true) true Tryz.f5.params.toList args.toList ds p := hA0
 rw [Tryz.params5] at hA hval
 obtain ⟨v0, vs0, d0, ds0, p0, q0, hargs, rfl, rfl, h0, r0⟩ := trodAll_cons hA
 obtain ⟨v1, vs1, d1, ds1, p1, q1, rfl, rfl, rfl, h1, r1⟩ := trodAll_cons r0
 obtain ⟨v2, vs2, d2, ds2, p2, q2, rfl, rfl, rfl, h2, r2⟩ := trodAll_cons r1
 obtain ⟨rfl, rfl, rfl⟩ := trodAll_nil r2
 obtain rfl : args = #[v0, v1, v2] := by cases args; simp_all
 obtain ⟨rfl, rfl⟩ := trodVars_none hV
 obtain ⟨a0, n0, c0, rfl⟩ := okWide_slice Tryz.underlying38 (hval 0 38 v0 rfl rfl)
 have k0 := h0
 have lt0 : ∀ x ∈ p0, x.block < W.heap.size := by obtain ⟨m, hm⟩ := k0; exact DataW.trod_lt m _ _ _ hm
 obtain ⟨f0, hf0⟩ := h0
 obtain ⟨hnc0, hcm0, hN0⟩ := nodes_open (show DataW.trod enc Tryz.prog W 0 _ _ f0 38 [.slice a0 n0 c0] = some (d0, p0) from hf0)
 obtain ⟨a1, n1, c1, rfl⟩ := okWide_slice Tryz.underlying39 (hval 1 39 v1 rfl rfl)
 have k1 := h1
 have lt1 : ∀ x ∈ p1, x.block < W.heap.size := by obtain ⟨m, hm⟩ := k1; exact DataW.trod_lt m _ _ _ hm
 obtain ⟨f1, hf1⟩ := h1
 obtain ⟨hnc1, hcm1, hN1⟩ := bytes_open (show DataW.trod enc Tryz.prog W 0 _ _ f1 39 [.slice a1 n1 c1] = some (d1, p1) from hf1)
 obtain ⟨x2, rfl, rfl, rfl, w2⟩ := open_int Tryz.underlying5 (hval 2 5 v2 rfl rfl) h2
 have b2 := w2
 simp only [Lit.wf, decide_eq_true_eq, Bool.and_eq_true] at b2
 have eu8a : IntKind.u8.min = 0 := rfl
 have eu8b : IntKind.u8.max = 255 := rfl
 have ei64a : IntKind.i64.min = -9223372036854775808 := rfl
 have ei64b : IntKind.i64.max = 9223372036854775807 := rfl
 have eu32a : IntKind.u32.min = 0 := rfl
 have eu32b : IntKind.u32.max = 4294967295 := rfl
 clear hA0 hval0
 refine (walk a0 n0 c0 a1 n1 c1 x2 W hnc0 hcm0 hN0 hnc1 hcm1 hN1 (by omega) (by omega) (errs hL)).mono fun e W' ⟨he, bel⟩ => ?_
 subst he
 exact ⟨_, rfl, _, _, _, [], _, [], hW', trodAll_mk1 (shut_bool Tryz.underlying4 _), (trodAll_cons_mk (Below.trod laidOut (by kernel_rfl) (of_decide_eq_true (by kernel_rfl)) k0 bel lt0) (trodAll_cons_mk (Below.trod laidOut (by kernel_rfl) (of_decide_eq_true (by kernel_rfl)) k1 bel lt1) (trodAll_cons_mk (shut_int Tryz.underlying5 w2) trodAll_mk0))), rfl, bel.frame _, fun h => by cases h⟩
theorem said : Rows.ReaderDepthsSaid :=
 OpenClaim.holds_of_wide 5 Tryz.f5 rfl rfl rfl rfl rfl rfl rfl ⟨rfl, rfl, rfl, rfl, rfl⟩ rfl rfl rfl rfl rfl (by kernel_rfl) Tryz.func5 (by kernel_rfl)
  (of_decide_eq_true (by kernel_rfl)) (by unfold Func.isWrapper; first | (rw [if_pos (by decide +kernel)]; kernel_rfl) | (rw [if_neg (by decide +kernel)]; exact ⟨rfl, rfl⟩))
  (fun os started H enc _ => lifted os started H enc)
/-- no parameter wants a stand-in -/
theorem plain (f : FuncId) (fn : Func) (hf : Tryz.pinned.checked.prog.funcNamed "cheval/chevallaw06.ReaderDepths" = some f) (hfn : Tryz.pinned.checked.prog.funcs[f]? = some fn) :
 true = Tryz.pinned.checked.prog.looks [] ∧ ∀ (j : Nat) t, fn.params[j]? = some t → Tryz.pinned.checked.prog.wantsStandIn t = false := by
 obtain rfl : f = 5 := Option.some.inj ((show Tryz.prog.funcNamed "cheval/chevallaw06.ReaderDepths" = some 5 by kernel_rfl).symm.trans hf) |>.symm
 obtain rfl : fn = Tryz.f5 := (Option.some.inj (Tryz.func5.symm.trans hfn)).symm
 refine ⟨by kernel_rfl, fun j t ht => ?_⟩
 rw [Tryz.params5] at ht
 have hm := Array.mem_of_getElem? ht
 simp only [List.mem_toArray, List.mem_cons, List.not_mem_nil, or_false] at hm
 rcases hm with rfl | rfl | rfl
 · exact (show Tryz.prog.wantsStandIn 38 = false by kernel_rfl)
 · exact (show Tryz.prog.wantsStandIn 39 = false by kernel_rfl)
 · exact (show Tryz.prog.wantsStandIn 5 = false by kernel_rfl)
/-- The statement: the tied card. -/
theorem card : Rows.ReaderDepthsCardSaid :=
 Claim7.holds_tied_plain_at .later [] _ _ _ _ said (fun _ h => by cases h) (by kernel_rfl) (fun _ h => by cases h) readerDepths_row_tie rfl ⟨rfl, rfl⟩ (by kernel_rfl) rfl plain (by kernel_rfl)
end Go.Proofs.YthfhlblpjjniiaaGreatDoor.readerDepths
