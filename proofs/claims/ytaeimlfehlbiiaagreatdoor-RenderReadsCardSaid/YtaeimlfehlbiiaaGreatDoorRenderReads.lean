/- Whatever bytes are read as a value, its text is read as that again, and is its own text's text: for every text, over the library's variables as they are laid. -/
import Derived.Test.YtaeimlfehlbiiaaGreatDoorCards
import Derived.Test.YtaeimlfehlbiiaaGreatDoorTie
import Derived.WalkKit
import Derived.ProofKit
import Derived.OpenShut
import Derived.ChangeOld
import Derived.ShutString
import Derived.Below
import Derived.LaidMore
import Derived.Lib.LaidTab
import Derived.Stop.Joined
import Derived.Stop.LaidErr
import Derived.SevenTiedAt
import Derived.Lay
import Derived.Test.YtaeimlfehlbiiaaGreatDoorMS
import Derived.Test.YtaeimlfehlbiiaaGreatDoorMT
import Derived.Test.YtaeimlfehlbiiaaGreatDoorOY
import Derived.Test.YtaeimlfehlbiiaaGreatDoorMN
import Derived.Test.YtaeimlfehlbiiaaGreatDoorOZ
import Derived.Test.YtaeimlfehlbiiaaGreatDoorOW
import Derived.Test.YtaeimlfehlbiiaaGreatDoorOX
namespace Go.Proofs.YtaeimlfehlbiiaaGreatDoor.renderReads
open Go.ChangeShapes Go.WideShapes Go.ChangeAt Go.RowKit
open Go.ChangeMaps (open_string shut_string)
open Tk Pl
set_option linter.unusedVariables false

theorem own : ownKnob Tryz.prog.godebug = none := by kernel_rfl
theorem laidOut : laidOutB Tryz.prog = true := by kernel_rfl
theorem gRange : Tryz.prog.globalNamed "strconv.ErrRange" = some 7 := by kernel_rfl
theorem star : "*" ++ "errors.errorString" = "*errors.errorString" := by decide
theorem rowPtr (u : TypeId) (h : Tryz.prog.typeName? 3 u = some "*errors.errorString") : u = 230 :=
  typeName_ptr_named (nm := "errors.errorString") (by rw [star]; kernel_rfl) (by kernel_rfl) (by decide) u (by rw [star]; exact h)
/-- what the row's list gives -/
theorem errs {W : World} (h : laidMetH Tryz.prog Rows.renderReadsRow.laid W) : RangeErr W := by
  have h' : laidMet Tryz.prog Rows.renderReadsRow.laid W := h
  obtain ⟨a, s, hv, _⟩ := laid_sentinel h'.tail.tail.tail.tail gRange (by kernel_rfl) Tryz.underlying90 rowPtr Tryz.underlying230 Tryz.underlying232 rfl rfl Tryz.underlying9 (by kernel_rfl) (by kernel_rfl)
  exact ⟨_, _, hv⟩
theorem gPow5 : Tryz.prog.globalNamed "internal/strconv.uint64pow10" = some 0 := by kernel_rfl
/-- and its table -/
theorem table {W : World} (h : laidMetH Tryz.prog Rows.renderReadsRow.laid W) : Lib.TabIs Tryz.prog W "internal/strconv.uint64pow10" .u64 Lib.pow10Tab := by
  have h' : laidMet Tryz.prog Rows.renderReadsRow.laid W := h
  exact Lib.tabIs_of_head (rest := _) gPow5 (by kernel_rfl) Tryz.underlying194 Tryz.underlying144 (by kernel_rfl) (by kernel_rfl) h'.tail.tail

theorem mkB_size9 (L : List UInt8) : (mkB L).size = L.length := by unfold mkB; simp [ByteArray.size]
theorem mkB_data9 (L : List UInt8) : (mkB L).data.toList = L := by unfold mkB; simp
theorem next_code9 {s : ByteArray} {i p : Nat} {c : Int} (h : next s i = .err p c) : c ≠ 0 := by
  have := err_num s (span isBl s i) p c h; omega
theorem from_code (s : ByteArray) : ∀ n, (∀ room t p c, Rd.fromF Rd.Ob s n room t = .err p c → c ≠ 0) ∧ (∀ room t acc p c, Rd.itemsF Rd.Ob s n room t acc = .err p c → c ≠ 0) ∧ (∀ room t acc p c, Rd.membsF Rd.Ob s n room t acc = .err p c → c ≠ 0) := by
  intro n
  induction n with
  | zero => exact ⟨fun _ _ _ _ h => (by rw [Rd.fromF] at h; cases h), fun _ _ _ _ _ h => (by rw [Rd.itemsF] at h; cases h), fun _ _ _ _ _ h => (by rw [Rd.membsF] at h; cases h)⟩
  | succ n ih =>
    obtain ⟨ih1, ih2, ih3⟩ := ih
    refine ⟨fun room t p c h => ?_, fun room t acc p c h => ?_, fun room t acc p c h => ?_⟩
    · rw [Rd.fromF] at h
      repeat' split at h
      all_goals first
        | (cases h; done)
        | exact ih2 _ _ _ _ _ h
        | exact ih3 _ _ _ _ _ h
        | (injection h with _ h; subst h; decide)
        | (rename_i hq; injection h with h1 h2; subst h1 h2; exact next_code9 hq)
    · rw [Rd.itemsF] at h
      repeat' split at h
      all_goals first
        | (cases h; done)
        | exact ih2 _ _ _ _ _ h
        | (injection h with _ h; subst h; decide)
        | (rename_i hq; injection h with h1 h2; subst h1 h2; exact next_code9 hq)
        | (rename_i hq; injection h with h1 h2; subst h1 h2; exact ih1 _ _ _ _ hq)
    · rw [Rd.membsF] at h
      repeat' split at h
      all_goals first
        | (cases h; done)
        | exact ih3 _ _ _ _ _ h
        | (injection h with _ h; subst h; decide)
        | (rename_i hq; injection h with h1 h2; subst h1 h2; exact next_code9 hq)
        | (rename_i hq; injection h with h1 h2; subst h1 h2; exact ih1 _ _ _ _ hq)
theorem whole_code {s : ByteArray} {room p : Nat} {c : Int} (h : Rd.whole Rd.Ob s room = .err p c) : c ≠ 0 := by
  unfold Rd.whole at h
  split at h
  · rename_i hq; injection h with h1 h2; subst h1 h2; exact next_code9 hq
  split at h
  · cases h
  · rename_i hq; injection h with h1 h2; subst h1 h2; exact (from_code s _).1 _ _ _ _ hq
  split at h
  · rename_i hq; injection h with h1 h2; subst h1 h2; exact next_code9 hq
  split at h
  · cases h
  · injection h with _ h; subst h; decide
theorem parse_whole {s : ByteArray} {d : Nat} (hd : d ≤ 64) (hs : s.size ≤ 16384) : Rd.parseR s d = Rd.whole Rd.Ob s d := by
  unfold Rd.parseR
  rw [if_neg (by omega), if_neg (by omega)]
  rfl
theorem vsame_c (t : T) (A : Option Addr) (c : Nat) (A' : Option Addr) (c' : Nat) (B : Option Addr) (d : Nat) (B' : Option Addr) (d' : Nat) (w : World) (ht : t.size ≤ 100000) (hst : t.Small) (hgt : t.Good) (hv : TV w (· < w.heap.size) t A c A' c') (hw : TV w (· < w.heap.size) t B d B' d') :
    Calls Tryz.prog 17 #[.agg #[.int .i64 t.kind, .bool t.tr, .int .i64 t.num, .string t.str, .slice A t.items.length c, .slice A' t.keys.length c'], .agg #[.int .i64 t.kind, .bool t.tr, .int .i64 t.num, .string t.str, .slice B t.items.length d, .slice B' t.keys.length d']] w fun e w' => e = .returned (.bool true) ∧ Below w.heap.size w w' := by
  have h := vsame_big t t A c A' c' B d B' d' w ht ht hst hst hgt hgt hv hw
  rw [ord_self] at h
  exact h
theorem small_of {t : T} (hg : t.Good) (h : t.size ≤ 100000) : t.Small := hg.small h
set_option maxRecDepth 100000 in
set_option maxHeartbeats 16000000 in
theorem walk (s : ByteArray) (w : World) (hsm : s.size ≤ maxLen) (hr : RangeErr w) (htb : Lib.TabIs Tryz.prog w "internal/strconv.uint64pow10" .u64 Lib.pow10Tab) :
    Calls Tryz.prog 5 #[.string s] w fun e w' => e = .returned (.bool true) ∧ Below w.heap.size w w' := by
  have HR := Lib.hid hr
  have HTB := Lib.hid (tab_of htb)
  clear hr htb hsm
  by_cases h3 : s.size ≤ 300
  · have u0 : decide ((s.size : Int) > 300) = false := decide_eq_false (by omega)
    have u0' : decide ((300 : Int) < (s.size : Int)) = false := decide_eq_false (by omega)
    have u0n : decide (300 < s.size) = false := decide_eq_false (by omega)
    have hres : Rd.parseR s (64 : Int) = Rd.whole Rd.Ob s 64 := parse_whole (d := 64) (by omega) (by omega)
    have HP := Lib.hid (fun w' (h : Below w.heap.size w w') => parse_any6 s 64 w' (HR.out.on h))
    rw [hres] at HP
    have hno := Rd.whole_out Rd.Ob s 64
    go_enter Tryz.func5, Tryz.ntmps5
    go_wp2_with fail
    refine (awake7_any _ HTB.out.2).mono ?_
    rintro e w1 ⟨rfl, hb1⟩
    have H1 := Lib.hid hb1
    clear hb1 hres
    go_wp2_with fail
    refine (HP.out w1 H1.out).mono ?_
    cases hq : Rd.whole Rd.Ob s 64 with
    | out => exact absurd hq hno
    | err p c =>
      have hc := whole_code hq
      have v1 : (c != 0) = true := by rw [bne_iff_ne]; exact hc
      have v2 : (c == 0) = false := beq_eq_false_iff_ne.2 hc
      rintro e w2 ⟨rfl, hb2⟩
      have H2 := Lib.hid ((H1.out.trans (hb2.mono H1.out.size)).alloc (Nat.le_trans H1.out.size hb2.size) (.cells #[.int .i64 0, .bool false, .int .i64 0, .string ⟨#[]⟩, .slice none 0 0, .slice none 0 0] 32))
      clear hb2 HP hno hq hc
      unfold T.agg
      go_wp2_with fail
      go_ret
      exact ⟨rfl, H2.out⟩
    | val t p =>
      obtain ⟨⟨hgood, hnums⟩, rfl, hlen⟩ := Rd.whole_good hq
      have hdeep := Rd.whole_deep hq
      have hsz : t.size ≤ 300 := by have := size_txt t hgood; omega
      have hsz' : t.size ≤ 100000 := by omega
      have HG := Lib.hid hgood
      have HSM := Lib.hid (hgood.small hsz')
      have hl9 : t.txt.length ≤ 900 := by omega
      have HTT := Lib.hid (fun A c A' c' w' (h : Below w.heap.size w w') hv => rntext_any t A c A' c' w' ⟨hgood, hnums⟩ hl9 (HTB.out.on h).2 hv)
      have hms := mkB_size9 t.txt
      have HWT := Lib.hid ((Rd.whole_txt Rd.Ob_good hgood hnums (mkB_data9 t.txt) 64).1 hdeep)
      have hms3 : (mkB t.txt).size ≤ s.size := by rw [hms]; exact hlen
      have HP2 := Lib.hid (fun w' (h : Below w.heap.size w w') => parse_any6 (mkB t.txt) 64 w' (HR.out.on h))
      rw [show Rd.parseR (mkB t.txt) (64 : Int) = Rd.whole Rd.Ob (mkB t.txt) 64 from parse_whole (d := 64) (by omega) (by omega), HWT.out] at HP2
      rintro e w2 ⟨C, d, C', d', rfl, hT2, hb2⟩
      have hb2a : Below w1.heap.size w1 (w2.alloc (.cells #[.int .i64 t.kind, .bool t.tr, .int .i64 t.num, .string t.str, .slice C t.items.length d, .slice C' t.keys.length d'] 32)) := hb2.alloc hb2.size _
      have HBX := Lib.hid (Blk.new w2 32 #[.int .i64 t.kind, .bool t.tr, .int .i64 t.num, .string t.str, .slice C t.items.length d, .slice C' t.keys.length d'])
      have H2 := Lib.hid (H1.out.trans (hb2a.mono H1.out.size))
      have HT := Lib.hid (show TV (w2.alloc (.cells #[.int .i64 t.kind, .bool t.tr, .int .i64 t.num, .string t.str, .slice C t.items.length d, .slice C' t.keys.length d'] 32)) (· < (w2.alloc (.cells #[.int .i64 t.kind, .bool t.tr, .int .i64 t.num, .string t.str, .slice C t.items.length d, .slice C' t.keys.length d'] 32)).heap.size) t C d C' d' from (hT2.wide (S' := (· < w2.heap.size)) fun i hi => hi.2).on ((Below.refl _ _).alloc (Nat.le_refl _) _))
      clear hb2 hb2a hT2 HP hno hq hgood hnums hdeep hms hl9 HWT
      generalize mkB t.txt = S at *
      unfold T.agg
      go_upto_region 4 with fail
      change Code.wp _ _ _ _ (w2.alloc (.cells #[.int .i64 t.kind, .bool t.tr, .int .i64 t.num, .string t.str, .slice C t.items.length d, .slice C' t.keys.length d'] 32))
      generalize (w2.alloc (.cells #[.int .i64 t.kind, .bool t.tr, .int .i64 t.num, .string t.str, .slice C t.items.length d, .slice C' t.keys.length d'] 32)) = W at *
      generalize w2.heap.size = G at *
      obtain ⟨a0, a1, a2, a3, a4, a5⟩ : W.cell? ⟨G, 0, none⟩ = some (.int .i64 t.kind) ∧ W.cell? ⟨G, 1, none⟩ = some (.bool t.tr) ∧ W.cell? ⟨G, 2, none⟩ = some (.int .i64 t.num) ∧ W.cell? ⟨G, 3, none⟩ = some (.string t.str) ∧ W.cell? ⟨G, 4, none⟩ = some (.slice C t.items.length d) ∧ W.cell? ⟨G, 5, none⟩ = some (.slice C' t.keys.length d') := ⟨HBX.out.cell 0, HBX.out.cell 1, HBX.out.cell 2, HBX.out.cell 3, HBX.out.cell 4, HBX.out.cell 5⟩
      go_wp2_with fail
      refine (HTT.out C d C' d' W H2.out HT.out).mono ?_
      rintro e w3 ⟨rfl, hb3⟩
      have H3 := Lib.hid (H2.out.trans (hb3.mono H2.out.size))
      have HBX3 := Lib.hid (HBX.out.onto hb3)
      have HT3 := Lib.hid (HT.out.on hb3)
      clear hb3 a0 a1 a2 a3 a4 a5
      go_wp2_with fail
      refine (HP2.out w3 H3.out).mono ?_
      rintro e w4 ⟨E, g, E', g', rfl, hT4, hb4⟩
      have hb4a : Below w3.heap.size w3 (w4.alloc (.cells #[.int .i64 t.kind, .bool t.tr, .int .i64 t.num, .string t.str, .slice E t.items.length g, .slice E' t.keys.length g'] 32)) := hb4.alloc hb4.size _
      have HBY := Lib.hid (Blk.new w4 32 #[.int .i64 t.kind, .bool t.tr, .int .i64 t.num, .string t.str, .slice E t.items.length g, .slice E' t.keys.length g'])
      have H4 := Lib.hid (H3.out.trans (hb4a.mono H3.out.size))
      have HBX4 := Lib.hid (HBX3.out.onto hb4a)
      have HT4 := Lib.hid (HT3.out.on hb4a)
      have HE4 := Lib.hid (show TV (w4.alloc (.cells #[.int .i64 t.kind, .bool t.tr, .int .i64 t.num, .string t.str, .slice E t.items.length g, .slice E' t.keys.length g'] 32)) (· < (w4.alloc (.cells #[.int .i64 t.kind, .bool t.tr, .int .i64 t.num, .string t.str, .slice E t.items.length g, .slice E' t.keys.length g'] 32)).heap.size) t E g E' g' from (hT4.wide (S' := (· < w4.heap.size)) fun i hi => hi.2).on ((Below.refl _ _).alloc (Nat.le_refl _) _))
      clear hb4 hb4a hT4 HP2
      unfold T.agg
      go_upto_region 8 with fail
      change Code.wp _ _ _ _ (w4.alloc (.cells #[.int .i64 t.kind, .bool t.tr, .int .i64 t.num, .string t.str, .slice E t.items.length g, .slice E' t.keys.length g'] 32))
      generalize (w4.alloc (.cells #[.int .i64 t.kind, .bool t.tr, .int .i64 t.num, .string t.str, .slice E t.items.length g, .slice E' t.keys.length g'] 32)) = W4 at *
      have hl1 := HBX4.out.lt
      have hl2 := HBY.out.lt
      generalize w4.heap.size = G4 at *
      have us : (S.toList == S.toList) = true := beq_self_eq_true _
      have e3 : IntKind.i64.wrap (3 * (s.size : Int)) = 3 * (s.size : Int) := IntWalk.i64_in _ (by omega)
      have v3 : decide ((S.size : Int) ≤ 3 * (s.size : Int)) = true := decide_eq_true (by omega)
      have hle3 : (S.size : Int) ≤ 3 * (s.size : Int) := by omega
      have HSS := Lib.hid (show ∀ w', Below W4.heap.size W4 w' → (w'.cell? ⟨G, 0, none⟩ = some (.int .i64 t.kind) ∧ w'.cell? ⟨G, 1, none⟩ = some (.bool t.tr) ∧ w'.cell? ⟨G, 2, none⟩ = some (.int .i64 t.num) ∧ w'.cell? ⟨G, 3, none⟩ = some (.string t.str) ∧ w'.cell? ⟨G, 4, none⟩ = some (.slice C t.items.length d) ∧ w'.cell? ⟨G, 5, none⟩ = some (.slice C' t.keys.length d')) ∧ (w'.cell? ⟨G4, 0, none⟩ = some (.int .i64 t.kind) ∧ w'.cell? ⟨G4, 1, none⟩ = some (.bool t.tr) ∧ w'.cell? ⟨G4, 2, none⟩ = some (.int .i64 t.num) ∧ w'.cell? ⟨G4, 3, none⟩ = some (.string t.str) ∧ w'.cell? ⟨G4, 4, none⟩ = some (.slice E t.items.length g) ∧ w'.cell? ⟨G4, 5, none⟩ = some (.slice E' t.keys.length g')) from fun w' hb => by
        have e1 := HBX4.out.onto hb
        have e2 := HBY.out.onto hb
        exact ⟨⟨e1.cell 0, e1.cell 1, e1.cell 2, e1.cell 3, e1.cell 4, e1.cell 5⟩, ⟨e2.cell 0, e2.cell 1, e2.cell 2, e2.cell 3, e2.cell 4, e2.cell 5⟩⟩)
      obtain ⟨⟨a0, a1, a2, a3, a4, a5⟩, ⟨b0, b1, b2, b3, b4, b5⟩⟩ := HSS.out W4 (Below.refl _ _)
      go_wp2_with fail
      refine (vsame_c t C d C' d' E g E' g' W4 hsz' HSM.out HG.out HT4.out HE4.out).mono ?_
      rintro e w8 ⟨rfl, hb8⟩
      have H8 := Lib.hid (H4.out.trans (hb8.mono H4.out.size))
      have HE8 := Lib.hid (HE4.out.on hb8)
      clear a0 a1 a2 a3 a4 a5 b0 b1 b2 b3 b4 b5
      obtain ⟨_, ⟨b0, b1, b2, b3, b4, b5⟩⟩ := HSS.out w8 hb8
      clear hb8
      go_wp2_with fail
      refine (HTT.out E g E' g' w8 H8.out HE8.out).mono ?_
      rintro e w9 ⟨rfl, hb9⟩
      have H9 := Lib.hid (H8.out.trans (hb9.mono H8.out.size))
      clear hb9 b0 b1 b2 b3 b4 b5
      go_wp2_with fail
      go_ret
      exact ⟨rfl, H9.out⟩
  · have u0 : decide ((s.size : Int) > 300) = true := decide_eq_true (by omega)
    have u0' : decide ((300 : Int) < (s.size : Int)) = true := decide_eq_true (by omega)
    have u0n : decide (300 < s.size) = true := decide_eq_true (by omega)
    go_enter Tryz.func5, Tryz.ntmps5
    go_wp2_with fail
    refine (awake7_any _ HTB.out.2).mono ?_
    rintro e w1 ⟨rfl, hb1⟩
    have H1 := Lib.hid hb1
    clear hb1
    go_wp2_with fail
    refine (awake7_any _ (HTB.out.on H1.out).2).mono ?_
    rintro e w2 ⟨rfl, hb2⟩
    have H2 := Lib.hid (H1.out.trans (hb2.mono H1.out.size))
    clear hb2
    go_wp2_with fail
    go_ret
    exact ⟨rfl, H2.out⟩

set_option maxRecDepth 100000 in
theorem lifted (os : Os) (started : os.Started) (H : Type) (enc : TypeId × Value → H) :
    ReturnsInHanded {} Tryz.checked os 5 .any (fun w args => (Rows.renderReadsSpec.pre enc Tryz.prog Tryz.f5 [] false w args ∧ laidMetH Tryz.prog Rows.renderReadsRow.laid w) ∧ sizedMet enc Tryz.prog Tryz.f5 (OpenSpec.ofChange Rows.renderReadsSpec) false w args)
      (Rows.renderReadsSpec.post enc Tryz.prog Tryz.f5 false true false false) := by
  refine returnsInHanded_of_change_and (C := Tryz.checked) (X := fun w _ => laidMetH Tryz.prog Rows.renderReadsRow.laid w) (fun _ _ _ hh h => h.of_heap hh) own started (by kernel_rfl) Tryz.func5
    (ChangeSpec.witness_shaped (enc := enc) (C := Tryz.checked) (os := os) (X := fun w _ => laidMetH Tryz.prog Rows.renderReadsRow.laid w) false (World.laidAll Tryz.prog os Rows.renderReadsRow.laid) #[.string ByteArray.empty] 8 (World.laidAll_os _ _ _) (World.shaped_of_ZipB (by kernel_rfl) (by kernel_rfl)) (by kernel_rfl) (by kernel_rfl) (by kernel_rfl) (by rw [MakeChecks.laidMetH_plain _ _ _ (by kernel_rfl)]; exact laidMet_laidAll _ (by kernel_rfl) (by kernel_rfl))) ?_
  intro W base args ds gs before hval0 hW _ _ hL _
  have hval : ∀ (j : Nat) t v, Tryz.f5.params[j]? = some t → args[j]? = some v → Value.okWide Tryz.prog W .any base t v := hval0
  have hW' := hW
  obtain ⟨p, q, hA0, hV, rfl, hfz, hnd⟩ := hW
  have hA : DataW.TrodAll enc Tryz.prog W 0 (fun _ => true) true Tryz.f5.params.toList args.toList ds p := hA0
  rw [Tryz.params5] at hA hval
  obtain ⟨v0, vs0, d0, ds0, p0, q0, hargs, rfl, rfl, h0, r0⟩ := trodAll_cons hA
  obtain ⟨rfl, rfl, rfl⟩ := trodAll_nil r0
  obtain rfl : args = #[v0] := by cases args; simp_all
  obtain ⟨rfl, rfl⟩ := trodVars_none hV
  obtain ⟨s0, rfl, rfl, rfl, w0⟩ := open_string Tryz.underlying9 (hval 0 9 v0 rfl rfl) h0
  clear hA0 hval0
  refine (walk s0 W w0 (errs hL) (table hL)).mono fun e W' ⟨he, bel⟩ => ?_
  subst he
  exact ⟨_, rfl, _, _, _, [], _, [], hW', trodAll_mk1 (shut_bool Tryz.underlying4 _), (trodAll_cons_mk (shut_string Tryz.underlying9 w0) trodAll_mk0), rfl, bel.frame _, fun h => by cases h⟩

theorem said : Rows.RenderReadsSaid :=
  OpenClaim.holds_of_wide 5 Tryz.f5 rfl rfl rfl rfl rfl rfl rfl ⟨rfl, rfl, rfl, rfl, rfl⟩ rfl rfl rfl rfl rfl (by kernel_rfl) Tryz.func5 (by kernel_rfl)
    (of_decide_eq_true (by kernel_rfl)) (by unfold Func.isWrapper; first | (rw [if_pos (by decide +kernel)]; kernel_rfl) | (rw [if_neg (by decide +kernel)]; exact ⟨rfl, rfl⟩))
    (fun os started H enc _ => lifted os started H enc)

/-- no parameter wants a stand-in -/
theorem plain (f : FuncId) (fn : Func) (hf : Tryz.pinned.checked.prog.funcNamed "cheval/chevallaw07.RenderReads" = some f) (hfn : Tryz.pinned.checked.prog.funcs[f]? = some fn) :
    true = Tryz.pinned.checked.prog.looks [] ∧ ∀ (j : Nat) t, fn.params[j]? = some t → Tryz.pinned.checked.prog.wantsStandIn t = false := by
  obtain rfl : f = 5 := Option.some.inj ((show Tryz.prog.funcNamed "cheval/chevallaw07.RenderReads" = some 5 by kernel_rfl).symm.trans hf) |>.symm
  obtain rfl : fn = Tryz.f5 := (Option.some.inj (Tryz.func5.symm.trans hfn)).symm
  refine ⟨by kernel_rfl, fun j t ht => ?_⟩
  rw [Tryz.params5] at ht
  have hm := Array.mem_of_getElem? ht
  simp only [List.mem_toArray, List.mem_cons, List.not_mem_nil, or_false] at hm
  subst hm
  exact (show Tryz.prog.wantsStandIn 9 = false by kernel_rfl)

/-- The statement: the tied card. -/
theorem card : Rows.RenderReadsCardSaid :=
  Claim7.holds_tied_plain_at .later [] _ _ _ _ said (fun _ h => by cases h) (by kernel_rfl) (fun _ h => by cases h) renderReads_row_tie rfl ⟨rfl, rfl⟩ (by kernel_rfl) rfl plain (by kernel_rfl)
end Go.Proofs.YtaeimlfehlbiiaaGreatDoor.renderReads
