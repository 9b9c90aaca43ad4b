/- Behind a value nothing but blanks may stand: for every list of nodes and every text, over the library's variables as they are laid. -/
import Derived.Test.YthfhlblpjjniiaaGreatDoorCards
import Derived.Test.YthfhlblpjjniiaaGreatDoorTie
import Derived.WalkKit
import Derived.ProofKit
import Derived.OpenShut
import Derived.ChangeOld
import Derived.ShutString
import Derived.Below
import Derived.LaidMore
import Derived.Lib.LaidTab
import Derived.Stop.Joined
import Derived.Stop.LaidErr
import Derived.SevenTiedAt
import Derived.Lay
import Derived.Test.YthfhlblpjjniiaaGreatDoorMS
import Derived.Test.YthfhlblpjjniiaaGreatDoorMX
import Derived.Test.YthfhlblpjjniiaaGreatDoorMZ
import Derived.Test.YthfhlblpjjniiaaGreatDoorMY
import Derived.Test.YthfhlblpjjniiaaGreatDoorND
import Derived.Test.YthfhlblpjjniiaaGreatDoorMJ
namespace Go.Proofs.YthfhlblpjjniiaaGreatDoor.readerEnds
open Go.ChangeShapes Go.WideShapes Go.ChangeAt Go.RowKit
open Go.ChangeMaps (open_string shut_string)
open Tk Pl
set_option linter.unusedVariables false
theorem own : ownKnob Tryz.prog.godebug = none := by kernel_rfl
theorem laidOut : laidOutB Tryz.prog = true := by kernel_rfl
theorem gRange : Tryz.prog.globalNamed "strconv.ErrRange" = some 7 := by kernel_rfl
theorem star : "*" ++ "errors.errorString" = "*errors.errorString" := by decide
theorem rowPtr (u : TypeId) (h : Tryz.prog.typeName? 3 u = some "*errors.errorString") : u = 269 :=
 typeName_ptr_named (nm := "errors.errorString") (by rw [star]; kernel_rfl) (by kernel_rfl) (by decide) u (by rw [star]; exact h)
/-- what the row's list gives -/
theorem errs {W : World} (h : laidMetH Tryz.prog Rows.readerEndsRow.laid W) : RangeErr W := by
 have h' : laidMet Tryz.prog Rows.readerEndsRow.laid W := h
 obtain ⟨a, s, hv, _⟩ := laid_sentinel h'.tail.tail.tail.tail gRange (by kernel_rfl) Tryz.underlying140 rowPtr Tryz.underlying269 Tryz.underlying271 rfl rfl Tryz.underlying9 (by kernel_rfl) (by kernel_rfl)
 exact ⟨_, _, hv⟩
theorem parse_whole {s : ByteArray} {d : Nat} (hd : d ≤ 64) (hs : s.size ≤ 16384) : Rd.parseR s d = Rd.whole Rd.Ob s d := by
 unfold Rd.parseR
 rw [if_neg (by omega), if_neg (by omega)]
 rfl
theorem depth_size : ∀ t : T, t.depth ≤ t.size := by
 have h : ∀ n, (∀ t : T, t.size ≤ n → t.depth ≤ t.size) := by
  intro n
  induction n with
  | zero => intro t h; have := t.size_pos; omega
  | succ n ih =>
   intro t ht
   cases t with
   | mk k tr nn s l ks =>
    have hs : ∀ l : List T, T.sizes l ≤ n → T.depths l ≤ T.sizes l := by
     intro l
     induction l with
     | nil => intro _; simp [T.depths, T.sizes]
     | cons a l ihl =>
      intro h
      simp only [T.sizes] at h
      have h1 := ih a (by omega)
      have h2 := ihl (by omega)
      simp only [T.depths, T.sizes]
      omega
    have e := T.size_eq (.mk k tr nn s l ks)
    have h2 := hs l (by have : (T.mk k tr nn s l ks).items = l := rfl; rw [this] at e; omega)
    rw [e]
    show T.depth _ ≤ 1 + T.sizes l
    unfold T.depth
    split <;> omega
 exact fun t => h t.size t (Nat.le_refl _)
theorem ends_whole {t : T} {r q : ByteArray} (h : Rd.Written t r.data.toList) (hd : t.depth ≤ 64) : Rd.whole Rd.Ob (r ++ ⟨#[32]⟩ ++ q) 64 = match next (r ++ ⟨#[32]⟩ ++ q) (r ++ ⟨#[32]⟩).size with
 | .err p c => .err p c
 | .tok u => if u.kind = 0 then .val t 0 else .err u.at_ 1 := by
 have hX : (r ++ ⟨#[32]⟩ ++ q).data.toList = r.data.toList ++ (32 :: q.data.toList) := by simp
 have hh : Here (r ++ ⟨#[32]⟩ ++ q) r.data.toList.length (32 :: q.data.toList) := by
  have := here_all (r ++ ⟨#[32]⟩ ++ q)
  rw [hX] at this
  simpa using this.right
 have hb := hh.hd.1
 have e := next_bl (B := [32]) (Here.left (A := [32]) (B := q.data.toList) hh) (by intro b hb; rw [List.mem_singleton.1 hb]; decide)
 have e2 : r.data.toList.length + [(32 : UInt8)].length = (r ++ ⟨#[32]⟩).size := by rw [ByteArray.size_append, size_toList]; rfl
 rw [e2] at e
 rw [Rd.whole_more h hX (by rw [hb]; unfold isNo; decide) 64 hd, e]
 cases next (r ++ ⟨#[32]⟩ ++ q) (r ++ ⟨#[32]⟩).size <;> rfl
theorem none8 (w : World) (S : Nat → Prop) : Bytes8 w S none 0 := fun j hj => absurd hj (Nat.not_lt_zero j)
set_option maxRecDepth 100000 in
set_option maxHeartbeats 8000000 in
theorem walk (A : Option Addr) (n c : Nat) (q : ByteArray) (w : World) (hnc : n ≤ c) (hcm : c ≤ maxLen) (hN : Nodes w (· < w.heap.size) A n) (hz : q.size ≤ maxLen) (hr : RangeErr w) :
 Calls Tryz.prog 8 #[.slice A n c, .string q] w fun e w' => e = .returned (.bool true) ∧ Below w.heap.size w w' := by
 have HR := Lib.hid hr
 have HN := Lib.hid hN
 clear hr hN
 by_cases h50 : q.size ≤ 100
 ·
  have u0 : decide ((q.size : Int) > 100) = false := decide_eq_false (by omega)
  have u0' : decide ((100 : Int) < (q.size : Int)) = false := decide_eq_false (by omega)
  have u0n : decide (100 < q.size) = false := decide_eq_false (by omega)
  go_enter Tryz.func8, Tryz.ntmps8
  go_wp2_with fail
  refine (awake6_any _ HR.out).mono ?_
  rintro e w1 ⟨rfl, hb1⟩
  have H1 := Lib.hid hb1
  clear hb1
  go_wp2_with fail
  refine (tree_any A n c _ hnc hcm (HN.out.on H1.out)).mono ?_
  rintro e w2 ⟨t, C, d, C', d', rfl, hnice, htv, hb2⟩
  have H2 := Lib.hid (H1.out.trans (hb2.mono H1.out.size))
  have HNI := Lib.hid hnice
  have h40 := hnice.size
  have hdp := depth_size t
  have hW : Below w.heap.size w (w2.alloc (.cells #[.int .i64 t.kind, .bool t.tr, .int .i64 t.num, .string t.str, .slice C t.items.length d, .slice C' t.keys.length d'] 32)) := H2.out.alloc H2.out.size _
  have HBX := Lib.hid (Blk.new w2 32 #[.int .i64 t.kind, .bool t.tr, .int .i64 t.num, .string t.str, .slice C t.items.length d, .slice C' t.keys.length d'])
  have HT := Lib.hid (show TV (w2.alloc (.cells #[.int .i64 t.kind, .bool t.tr, .int .i64 t.num, .string t.str, .slice C t.items.length d, .slice C' t.keys.length d'] 32)) (· < (w2.alloc (.cells #[.int .i64 t.kind, .bool t.tr, .int .i64 t.num, .string t.str, .slice C t.items.length d, .slice C' t.keys.length d'] 32)).heap.size) t C d C' d' from htv.on ((Below.refl _ _).alloc (Nat.le_refl _) _))
  have HW := Lib.hid hW
  clear hb2 htv hnice hW H1
  unfold T.agg
  go_upto_region 4 with fail
  change Code.wp _ _ _ _ (w2.alloc (.cells #[.int .i64 t.kind, .bool t.tr, .int .i64 t.num, .string t.str, .slice C t.items.length d, .slice C' t.keys.length d'] 32))
  generalize (w2.alloc (.cells #[.int .i64 t.kind, .bool t.tr, .int .i64 t.num, .string t.str, .slice C t.items.length d, .slice C' t.keys.length d'] 32)) = W at *
  generalize w2.heap.size = G at *
  obtain ⟨a0, a1, a2, a3, a4, a5⟩ : W.cell? ⟨G, 0, none⟩ = some (.int .i64 t.kind) ∧ W.cell? ⟨G, 1, none⟩ = some (.bool t.tr) ∧ W.cell? ⟨G, 2, none⟩ = some (.int .i64 t.num) ∧ W.cell? ⟨G, 3, none⟩ = some (.string t.str) ∧ W.cell? ⟨G, 4, none⟩ = some (.slice C t.items.length d) ∧ W.cell? ⟨G, 5, none⟩ = some (.slice C' t.keys.length d') := ⟨HBX.out.cell 0, HBX.out.cell 1, HBX.out.cell 2, HBX.out.cell 3, HBX.out.cell 4, HBX.out.cell 5⟩
  go_wp2_with fail
  refine (write_any6 t C d C' d' none 0 0 W HNI.out HT.out (none8 _ _) (by omega)).mono ?_
  rintro e w3 ⟨r, rfl, hwr, hrs, hb3⟩
  clear a0 a1 a2 a3 a4 a5
  have H3 := Lib.hid (HW.out.trans (hb3.mono HW.out.size))
  have HWR := Lib.hid hwr
  clear hb3 hwr
  have hr64 : r.size ≤ 64000 := by omega
  have HEW := Lib.hid (ends_whole (q := q) HWR.out (by omega))
  have HSZ := Lib.hid (show (r ++ ⟨#[32]⟩ : ByteArray).size = r.size + 1 by rw [ByteArray.size_append]; rfl)
  go_upto_region 5 with fail
  have hs0 : (r ++ ⟨#[32]⟩ : ByteArray).size ≤ 64001 := by rw [HSZ.out]; omega
  generalize (r ++ ⟨#[32]⟩ : ByteArray) = s at *
  by_cases hl : s.size ≤ 16000
  ·
   have v0 : decide ((s.size : Int) > 16000) = false := decide_eq_false (by omega)
   have v0' : decide ((16000 : Int) < (s.size : Int)) = false := decide_eq_false (by omega)
   have v0n : decide (16000 < s.size) = false := decide_eq_false (by omega)
   have zs2a : ¬ ((9223372036854775807 : Int) < (s.size : Int) + (q.size : Int)) := by omega
   have zs2b : ¬ (9223372036854775807 < s.size + q.size) := by omega
   have zs2c : s.size + q.size ≤ 9223372036854775807 := by omega
   have zs2d : (s.size : Int) + (q.size : Int) ≤ (9223372036854775807 : Int) := by omega
   have HXZ := Lib.hid (show (s ++ q).size = s.size + q.size from ByteArray.size_append)
   have HNX := Lib.hid (rnext_far (s ++ q) s.size w3 (by rw [HXZ.out]; omega) (by rw [HXZ.out]; omega) (by rw [HXZ.out]; omega))
   have HEP := Lib.hid (fun p c => next_code (s := s ++ q) (i := s.size) (p := p) (c := c))
   have HPP := Lib.hid (fun w' (h : Below w.heap.size w w') => show Calls Tryz.prog 14 #[.string (s ++ q), .int .i64 64] w' (PGives (Rd.whole Rd.Ob (s ++ q) 64) w') from by
    have := parse_any6 (s ++ q) 64 w' (HR.out.on h)
    rwa [show Rd.parseR (s ++ q) 64 = Rd.whole Rd.Ob (s ++ q) 64 from parse_whole (d := 64) (by omega) (by rw [HXZ.out]; omega)] at this)
   rw [HEW.out] at HPP
   clear HEW
   generalize next (s ++ q) s.size = nx at *
   cases nx with
   | err p c0 =>
    have hc0 := HEP.out p c0 rfl
    have k0 : (c0 != 0) = true := by rw [bne_iff_ne]; omega
    have k1 : (c0 == 0) = false := by rw [beq_eq_false_iff_ne]; omega
    clear HEP
    go_wp2_with fail
    refine HNX.out.mono ?_
    rintro e w4 ⟨rfl, hb4⟩
    have hb4a := hb4.alloc hb4.size (.cells #[.int .i64 0, .string ⟨#[]⟩, .int .i64 0, .int .i64 0, .int .i64 0] 50)
    have H4 := Lib.hid (H3.out.trans (hb4a.mono H3.out.size))
    clear hb4 hb4a HNX
    unfold Tk.Ans.val
    go_upto_region 8 with fail
    change Code.wp _ _ _ _ (w4.alloc (.cells #[.int .i64 0, .string ⟨#[]⟩, .int .i64 0, .int .i64 0, .int .i64 0] 50))
    generalize (w4.alloc (.cells #[.int .i64 0, .string ⟨#[]⟩, .int .i64 0, .int .i64 0, .int .i64 0] 50)) = W4 at *
    go_wp2_with fail
    refine (HPP.out W4 H4.out).mono ?_
    rintro e w5 ⟨rfl, hb5⟩
    have H5 := Lib.hid ((H4.out.trans (hb5.mono H4.out.size)).alloc (Nat.le_trans H4.out.size hb5.size) (.cells #[.int .i64 0, .bool false, .int .i64 0, .string ⟨#[]⟩, .slice none 0 0, .slice none 0 0] 26))
    clear hb5 HPP
    unfold T.agg
    go_upto_region 9 with fail
    change Code.wp _ _ _ _ (w5.alloc (.cells #[.int .i64 0, .bool false, .int .i64 0, .string ⟨#[]⟩, .slice none 0 0, .slice none 0 0] 26))
    generalize (w5.alloc (.cells #[.int .i64 0, .bool false, .int .i64 0, .string ⟨#[]⟩, .slice none 0 0, .slice none 0 0] 26)) = W5 at *
    go_wp2_with fail
    go_ret
    exact ⟨by simp, H5.out⟩
   | tok u =>
    clear HEP
    go_wp2_with fail
    refine HNX.out.mono ?_
    rintro e w4 ⟨rfl, hb4⟩
    have hb4a := hb4.alloc hb4.size (.cells #[.int .i64 u.kind, .string u.text, .int .i64 u.num, .int .i64 u.at_, .int .i64 u.fin] 50)
    have H4 := Lib.hid (H3.out.trans (hb4a.mono H3.out.size))
    have HTB := Lib.hid (Blk.new w4 50 #[.int .i64 u.kind, .string u.text, .int .i64 u.num, .int .i64 u.at_, .int .i64 u.fin])
    clear hb4 hb4a HNX
    unfold Tk.Ans.val
    go_upto_region 8 with fail
    change Code.wp _ _ _ _ (w4.alloc (.cells #[.int .i64 u.kind, .string u.text, .int .i64 u.num, .int .i64 u.at_, .int .i64 u.fin] 50))
    generalize (w4.alloc (.cells #[.int .i64 u.kind, .string u.text, .int .i64 u.num, .int .i64 u.at_, .int .i64 u.fin] 50)) = W4 at *
    generalize w4.heap.size = G4 at *
    have hg4 := HTB.out.lt
    by_cases hk : u.kind = 0
    ·
     have k0 : (u.kind != 0) = false := by rw [hk]; rfl
     have hpq : Calls Tryz.prog 14 #[.string (s ++ q), .int .i64 64] W4 (PGives (if u.kind = 0 then Rd.Res.val t 0 else Rd.Res.err u.at_ 1) W4) := HPP.out W4 H4.out
     rw [if_pos hk] at hpq
     have HPQ := Lib.hid hpq
     clear hpq
     clear HPP hk
     go_wp2_with fail
     refine HPQ.out.mono ?_
     rintro e w5 ⟨E, f, E', f', rfl, hT5, hb5⟩
     have hb5a : Below W4.heap.size W4 (w5.alloc (.cells #[.int .i64 t.kind, .bool t.tr, .int .i64 t.num, .string t.str, .slice E t.items.length f, .slice E' t.keys.length f'] 26)) := hb5.alloc hb5.size _
     have H5 := Lib.hid (H4.out.trans (hb5a.mono H4.out.size))
     have hB5 := HTB.out.onto hb5a
     have q0 := hB5.cell 0
     have q3 := hB5.cell 3
     clear hb5 hb5a hT5 HPQ hB5
     unfold T.agg
     go_upto_region 9 with fail
     change Code.wp _ _ _ _ (w5.alloc (.cells #[.int .i64 t.kind, .bool t.tr, .int .i64 t.num, .string t.str, .slice E t.items.length f, .slice E' t.keys.length f'] 26))
     generalize (w5.alloc (.cells #[.int .i64 t.kind, .bool t.tr, .int .i64 t.num, .string t.str, .slice E t.items.length f, .slice E' t.keys.length f'] 26)) = W5 at *
     change W5.cell? ⟨G4, 0, none⟩ = some (.int .i64 u.kind) at q0
     change W5.cell? ⟨G4, 3, none⟩ = some (.int .i64 u.at_) at q3
     go_wp2_with fail
     go_ret
     exact ⟨by simp, H5.out⟩
    ·
     have k0 : (u.kind != 0) = true := by rw [bne_iff_ne]; exact hk
     have hpq : Calls Tryz.prog 14 #[.string (s ++ q), .int .i64 64] W4 (PGives (if u.kind = 0 then Rd.Res.val t 0 else Rd.Res.err u.at_ 1) W4) := HPP.out W4 H4.out
     rw [if_neg hk] at hpq
     have HPQ := Lib.hid hpq
     clear hpq
     clear HPP hk
     go_wp2_with fail
     refine HPQ.out.mono ?_
     rintro e w5 ⟨rfl, hb5⟩
     have hb5a : Below W4.heap.size W4 (w5.alloc (.cells #[.int .i64 0, .bool false, .int .i64 0, .string ⟨#[]⟩, .slice none 0 0, .slice none 0 0] 26)) := hb5.alloc hb5.size _
     have H5 := Lib.hid (H4.out.trans (hb5a.mono H4.out.size))
     have hB5 := HTB.out.onto hb5a
     have q0 := hB5.cell 0
     have q3 := hB5.cell 3
     clear hb5 hb5a HPQ hB5
     unfold T.agg
     go_upto_region 9 with fail
     change Code.wp _ _ _ _ (w5.alloc (.cells #[.int .i64 0, .bool false, .int .i64 0, .string ⟨#[]⟩, .slice none 0 0, .slice none 0 0] 26))
     generalize (w5.alloc (.cells #[.int .i64 0, .bool false, .int .i64 0, .string ⟨#[]⟩, .slice none 0 0, .slice none 0 0] 26)) = W5 at *
     change W5.cell? ⟨G4, 0, none⟩ = some (.int .i64 u.kind) at q0
     change W5.cell? ⟨G4, 3, none⟩ = some (.int .i64 u.at_) at q3
     go_wp2_with fail
     go_ret
     exact ⟨by simp, H5.out⟩
  ·
   have v0 : decide ((s.size : Int) > 16000) = true := decide_eq_true (by omega)
   have v0' : decide ((16000 : Int) < (s.size : Int)) = true := decide_eq_true (by omega)
   have v0n : decide (16000 < s.size) = true := decide_eq_true (by omega)
   go_wp2_with fail
   go_ret
   exact ⟨rfl, H3.out⟩
 ·
  have u0 : decide ((q.size : Int) > 100) = true := decide_eq_true (by omega)
  have u0' : decide ((100 : Int) < (q.size : Int)) = true := decide_eq_true (by omega)
  have u0n : decide (100 < q.size) = true := decide_eq_true (by omega)
  go_enter Tryz.func8, Tryz.ntmps8
  go_wp2_with fail
  refine (awake6_any _ HR.out).mono ?_
  rintro e w1 ⟨rfl, hb1⟩
  have H1 := Lib.hid hb1
  clear hb1
  go_wp2_with fail
  refine (awake6_any _ (HR.out.on H1.out)).mono ?_
  rintro e w2 ⟨rfl, hb2⟩
  have H2 := Lib.hid (H1.out.trans (hb2.mono H1.out.size))
  clear hb2
  go_wp2_with fail
  go_ret
  exact ⟨rfl, H2.out⟩
set_option maxRecDepth 100000 in
theorem lifted (os : Os) (started : os.Started) (H : Type) (enc : TypeId × Value → H) :
 ReturnsInHanded {} Tryz.checked os 8 .any (fun w args => (Rows.readerEndsSpec.pre enc Tryz.prog Tryz.f8 [] false w args ∧ laidMetH Tryz.prog Rows.readerEndsRow.laid w) ∧ sizedMet enc Tryz.prog Tryz.f8 (OpenSpec.ofChange Rows.readerEndsSpec) false w args)
  (Rows.readerEndsSpec.post enc Tryz.prog Tryz.f8 false true false false) := by
 refine returnsInHanded_of_change_and (C := Tryz.checked) (X := fun w _ => laidMetH Tryz.prog Rows.readerEndsRow.laid w) (fun _ _ _ hh h => h.of_heap hh) own started (by kernel_rfl) Tryz.func8
  (ChangeSpec.witness_shaped (enc := enc) (C := Tryz.checked) (os := os) (X := fun w _ => laidMetH Tryz.prog Rows.readerEndsRow.laid w) false (World.laidAll Tryz.prog os Rows.readerEndsRow.laid) #[.slice none 0 0, .string ByteArray.empty] 8 (World.laidAll_os _ _ _) (World.shaped_of_ZipB (by kernel_rfl) (by kernel_rfl)) (by kernel_rfl) (by kernel_rfl) (by kernel_rfl) (by rw [MakeChecks.laidMetH_plain _ _ _ (by kernel_rfl)]; exact laidMet_laidAll _ (by kernel_rfl) (by kernel_rfl))) ?_
 intro W base args ds gs before hval0 hW _ _ hL _
 have hval : ∀ (j : Nat) t v, Tryz.f8.params[j]? = some t → args[j]? = some v → Value.okWide Tryz.prog W .any base t v := hval0
 have hW' := hW
 obtain ⟨p, q, hA0, hV, rfl, hfz, hnd⟩ := hW
 have hA : DataW.TrodAll enc Tryz.prog W 0 (fun _ => true) true Tryz.f8.params.toList args.toList ds p := hA0
 rw [Tryz.params8] at hA hval
 obtain ⟨v0, vs0, d0, ds0, p0, q0, hargs, rfl, rfl, h0, r0⟩ := trodAll_cons hA
 obtain ⟨v1, vs1, d1, ds1, p1, q1, rfl, rfl, rfl, h1, r1⟩ := trodAll_cons r0
 obtain ⟨rfl, rfl, rfl⟩ := trodAll_nil r1
 obtain rfl : args = #[v0, v1] := by cases args; simp_all
 obtain ⟨rfl, rfl⟩ := trodVars_none hV
 obtain ⟨a0, n0, c0, rfl⟩ := okWide_slice Tryz.underlying38 (hval 0 38 v0 rfl rfl)
 have k0 := h0
 have lt0 : ∀ x ∈ p0, x.block < W.heap.size := by obtain ⟨m, hm⟩ := k0; exact DataW.trod_lt m _ _ _ hm
 obtain ⟨f0, hf0⟩ := h0
 obtain ⟨hnc0, hcm0, hN0⟩ := nodes_open (show DataW.trod enc Tryz.prog W 0 _ _ f0 38 [.slice a0 n0 c0] = some (d0, p0) from hf0)
 obtain ⟨s1, rfl, rfl, rfl, w1⟩ := open_string Tryz.underlying9 (hval 1 9 v1 rfl rfl) h1
 clear hA0 hval0
 refine (walk a0 n0 c0 s1 W hnc0 hcm0 hN0 w1 (errs hL)).mono fun e W' ⟨he, bel⟩ => ?_
 subst he
 exact ⟨_, rfl, _, _, _, [], _, [], hW', trodAll_mk1 (shut_bool Tryz.underlying4 _), (trodAll_cons_mk (Below.trod laidOut (by kernel_rfl) (of_decide_eq_true (by kernel_rfl)) k0 bel lt0) (trodAll_cons_mk (shut_string Tryz.underlying9 w1) trodAll_mk0)), rfl, bel.frame _, fun h => by cases h⟩
theorem said : Rows.ReaderEndsSaid :=
 OpenClaim.holds_of_wide 8 Tryz.f8 rfl rfl rfl rfl rfl rfl rfl ⟨rfl, rfl, rfl, rfl, rfl⟩ rfl rfl rfl rfl rfl (by kernel_rfl) Tryz.func8 (by kernel_rfl)
  (of_decide_eq_true (by kernel_rfl)) (by unfold Func.isWrapper; first | (rw [if_pos (by decide +kernel)]; kernel_rfl) | (rw [if_neg (by decide +kernel)]; exact ⟨rfl, rfl⟩))
  (fun os started H enc _ => lifted os started H enc)
/-- no parameter wants a stand-in -/
theorem plain (f : FuncId) (fn : Func) (hf : Tryz.pinned.checked.prog.funcNamed "cheval/chevallaw06.ReaderEnds" = some f) (hfn : Tryz.pinned.checked.prog.funcs[f]? = some fn) :
 true = Tryz.pinned.checked.prog.looks [] ∧ ∀ (j : Nat) t, fn.params[j]? = some t → Tryz.pinned.checked.prog.wantsStandIn t = false := by
 obtain rfl : f = 8 := Option.some.inj ((show Tryz.prog.funcNamed "cheval/chevallaw06.ReaderEnds" = some 8 by kernel_rfl).symm.trans hf) |>.symm
 obtain rfl : fn = Tryz.f8 := (Option.some.inj (Tryz.func8.symm.trans hfn)).symm
 refine ⟨by kernel_rfl, fun j t ht => ?_⟩
 rw [Tryz.params8] at ht
 have hm := Array.mem_of_getElem? ht
 simp only [List.mem_toArray, List.mem_cons, List.not_mem_nil, or_false] at hm
 rcases hm with rfl | rfl
 · exact (show Tryz.prog.wantsStandIn 38 = false by kernel_rfl)
 · exact (show Tryz.prog.wantsStandIn 9 = false by kernel_rfl)
/-- The statement: the tied card. -/
theorem card : Rows.ReaderEndsCardSaid :=
 Claim7.holds_tied_plain_at .later [] _ _ _ _ said (fun _ h => by cases h) (by kernel_rfl) (fun _ h => by cases h) readerEnds_row_tie rfl ⟨rfl, rfl⟩ (by kernel_rfl) rfl plain (by kernel_rfl)
end Go.Proofs.YthfhlblpjjniiaaGreatDoor.readerEnds
