/- The value of any bytes, at any depth, or the place and the kind of what is wrong first, is the document's: for every text and every number, over the library's variables as they are laid. -/
import Derived.Test.YthfhlblpjjniiaaGreatDoorCards
import Derived.Test.YthfhlblpjjniiaaGreatDoorTie
import Derived.WalkKit
import Derived.ProofKit
import Derived.OpenShut
import Derived.ChangeOld
import Derived.ShutString
import Derived.Below
import Derived.LaidMore
import Derived.Lib.LaidTab
import Derived.Stop.Joined
import Derived.Stop.LaidErr
import Derived.SevenTiedAt
import Derived.Lay
import Derived.Test.YthfhlblpjjniiaaGreatDoorMS
import Derived.Test.YthfhlblpjjniiaaGreatDoorNH
import Derived.Test.YthfhlblpjjniiaaGreatDoorNJ
import Derived.Test.YthfhlblpjjniiaaGreatDoorMY
import Derived.Test.YthfhlblpjjniiaaGreatDoorMT
import Derived.Test.YthfhlblpjjniiaaGreatDoorMM
namespace Go.Proofs.YthfhlblpjjniiaaGreatDoor.readerParses
open Go.ChangeShapes Go.WideShapes Go.ChangeAt Go.RowKit
open Go.ChangeMaps (open_string shut_string)
open Tk Pl
set_option linter.unusedVariables false
theorem own : ownKnob Tryz.prog.godebug = none := by kernel_rfl
theorem laidOut : laidOutB Tryz.prog = true := by kernel_rfl
theorem gRange : Tryz.prog.globalNamed "strconv.ErrRange" = some 7 := by kernel_rfl
theorem star : "*" ++ "errors.errorString" = "*errors.errorString" := by decide
theorem rowPtr (u : TypeId) (h : Tryz.prog.typeName? 3 u = some "*errors.errorString") : u = 269 :=
 typeName_ptr_named (nm := "errors.errorString") (by rw [star]; kernel_rfl) (by kernel_rfl) (by decide) u (by rw [star]; exact h)
/-- what the row's list gives -/
theorem errs {W : World} (h : laidMetH Tryz.prog Rows.readerParsesRow.laid W) : RangeErr W := by
 have h' : laidMet Tryz.prog Rows.readerParsesRow.laid W := h
 obtain ⟨a, s, hv, _⟩ := laid_sentinel h'.tail.tail.tail.tail gRange (by kernel_rfl) Tryz.underlying140 rowPtr Tryz.underlying269 Tryz.underlying271 rfl rfl Tryz.underlying9 (by kernel_rfl) (by kernel_rfl)
 exact ⟨_, _, hv⟩
theorem txts_ge (ks : List ByteArray) : ∀ (l : List T) (i : Nat), (∀ x ∈ l, x.size ≤ x.txt.length) → T.sizes l ≤ (T.txts ks l i).length
 | [], i, _ => by simp [T.sizes]
 | x :: r, i, h => by
  have h1 := h x List.mem_cons_self
  have h2 := txts_ge ks r (i + 1) (fun y hy => h y (List.mem_cons_of_mem _ hy))
  rw [txts_cons]
  simp only [T.sizes, List.length_append]
  omega
theorem itoa_no (n : Int) : Lib.itoa n ≠ [] := by
 intro e
 have h := (De.itoa_form n).1
 rw [e] at h
 revert h
 decide
theorem txt_no (t : T) : t.txt ≠ [] := by
 rw [T.txt_eq]
 split
 · split <;> simp
 split
 · exact itoa_no _
 split
 · unfold Q.quo; simp
 split
 · simp
 split
 · simp
 · simp
theorem size_txt (n : Nat) : ∀ t : T, t.size ≤ n → t.Good → t.size ≤ t.txt.length := by
 induction n with
 | zero => intro t h; have := t.size_pos; omega
 | succ n ih =>
  intro t ht hg
  have hs := T.size_eq t
  have hi : ∀ x ∈ t.items, x.size ≤ x.txt.length := fun x hx => ih x (by have := T.mem_size hx; omega) (hg.mem hx)
  have h2 := txts_ge t.keys t.items 0 hi
  by_cases h4 : t.kind = 4
  ·
   rw [T.txt_eq, if_neg (by omega), if_neg (by omega), if_neg (by omega), if_pos h4]
   simp only [List.length_cons, List.length_append, List.length_nil]
   omega
  ·
   by_cases h5 : t.kind = 5
   ·
    rw [T.txt_eq, if_neg (by omega), if_neg (by omega), if_neg (by omega), if_neg h4, if_pos h5]
    simp only [List.length_cons, List.length_append, List.length_nil]
    omega
   ·
    have h0 := hg.here.items h4 h5
    rw [h0] at hs
    have := List.length_pos_iff.2 (txt_no t)
    simp only [T.sizes] at hs
    omega
theorem parse_good {s : ByteArray} {d : Int} {v : T} {p : Nat} (h : Rd.parseR s d = .val v p) : v.Good ∧ v.size ≤ s.size := by
 unfold Rd.parseR at h
 split at h
 · cases h
 ·
  split at h
  · cases h
  ·
   obtain ⟨g, _, hl⟩ := Rd.whole_good h
   exact ⟨g.1, Nat.le_trans (size_txt v.size v (Nat.le_refl _) g.1) hl⟩
theorem ref_c (B0 : Nat) (t : T) (A : Option Addr) (c : Nat) (A' : Option Addr) (c' : Nat) (w : World) (ht : t.size ≤ 100000) (hB : B0 ≤ w.heap.size) (hv : TV w (· < B0) t A c A' c') :
 Calls Tryz.prog 17 #[.agg #[.int .i64 t.kind, .bool t.tr, .int .i64 t.num, .string t.str, .slice A t.items.length c, .slice A' t.keys.length c']] w (GivesR B0 t w) := ref_any B0 t A c A' c' w ht hB hv
theorem rsame_c (t : T) (A : Option Addr) (c : Nat) (A' : Option Addr) (c' : Nat) (B : Option Addr) (d : Nat) (B' : Option Addr) (d' : Nat) (w : World) (ht : t.size ≤ 100000) (hs : t.Small) (hv : TV w (· < w.heap.size) t A c A' c') (hu : TV w (· < w.heap.size) t B d B' d') :
 Calls Tryz.prog 16 #[.agg #[.int .i64 t.kind, .bool t.tr, .int .i64 t.num, .string t.str, .slice A t.items.length c, .slice A' t.keys.length c'], .agg #[.int .i64 t.kind, .bool t.tr, .int .i64 t.num, .string t.str, .slice B t.items.length d, .slice B' t.keys.length d']] w fun e w' => e = .returned (.bool true) ∧ Below w.heap.size w w' := rsame_yes t A c A' c' B d B' d' w ht hs hv hu
theorem vgood_c (t : T) (A : Option Addr) (c : Nat) (A' : Option Addr) (c' : Nat) (w : World) (ht : t.size ≤ 100000) (hg : t.Good) (hv : TV w (· < w.heap.size) t A c A' c') :
 Calls Tryz.prog 19 #[.agg #[.int .i64 t.kind, .bool t.tr, .int .i64 t.num, .string t.str, .slice A t.items.length c, .slice A' t.keys.length c']] w fun e w' => e = .returned (.bool true) ∧ Below w.heap.size w w' := vgood_yes t A c A' c' w ht hg hv
def GivesZ6 (w : World) (e : Ending) (w' : World) : Prop := ∃ (B : Option Addr) (d : Nat) (B' : Option Addr) (d' : Nat), e = .returned (.agg #[.int .i64 0, .bool false, .int .i64 0, .string ⟨#[]⟩, .slice B 0 d, .slice B' 0 d']) ∧ TV w' (· < w'.heap.size) T.zero B d B' d' ∧ Below w.heap.size w w'
theorem zero_small6 : T.zero.Small := T.leaf_all (Nat.zero_le _) rfl
theorem ref_zero6 (w : World) : Calls Tryz.prog 17 #[.agg #[.int .i64 0, .bool false, .int .i64 0, .string ⟨#[]⟩, .slice none 0 0, .slice none 0 0]] w (GivesZ6 w) := by
 refine (ref_any w.heap.size T.zero none 0 none 0 w (show 1 ≤ 100000 by omega) (Nat.le_refl _) (TV.leaf _ _ rfl rfl)).mono ?_
 rintro e w' ⟨B, d, B', d', rfl, hv, hb⟩
 have hsz := hb.size
 exact ⟨B, d, B', d', rfl, hv.wide fun b hb' => by show b < w'.heap.size; omega, hb⟩
theorem rsame_zero6 (B : Option Addr) (d : Nat) (B' : Option Addr) (d' : Nat) (w : World) (hv : TV w (· < w.heap.size) T.zero B d B' d') :
 Calls Tryz.prog 16 #[.agg #[.int .i64 0, .bool false, .int .i64 0, .string ⟨#[]⟩, .slice B 0 d, .slice B' 0 d'], .agg #[.int .i64 0, .bool false, .int .i64 0, .string ⟨#[]⟩, .slice none 0 0, .slice none 0 0]] w fun e w' => e = .returned (.bool true) ∧ Below w.heap.size w w' :=
 rsame_yes T.zero B d B' d' none 0 none 0 w (show 1 ≤ 100000 by omega) zero_small6 hv (TV.leaf _ _ rfl rfl)
set_option maxRecDepth 100000 in
set_option maxHeartbeats 16000000 in
theorem walk (q : ByteArray) (x : Int) (w : World) (hz : q.size ≤ maxLen) (hx0 : -9223372036854775808 ≤ x) (hx1 : x ≤ 9223372036854775807) (hr : RangeErr w) :
 Calls Tryz.prog 3 #[.string q, .int .i64 x] w fun e w' => e = .returned (.bool true) ∧ Below w.heap.size w w' := by
 have HR := Lib.hid hr
 clear hr
 by_cases h50 : q.size ≤ 500
 ·
  have u0 : decide ((q.size : Int) > 500) = false := decide_eq_false (by omega)
  have u0' : decide ((500 : Int) < (q.size : Int)) = false := decide_eq_false (by omega)
  have u0n : decide (500 < q.size) = false := decide_eq_false (by omega)
  have HPD := Lib.hid (fun w' (h : RangeErr w') => parse_any6 q x w' h)
  have HRP := Lib.hid (fun w' => r6parse_any q (by omega) x w')
  have HFT := Lib.hid (fun w' (h : RangeErr w') => fits_any6 q x w' h)
  have HOU := Lib.hid (parseR_out q x)
  have HCO := Lib.hid (fun p c (h : Rd.parseR q x = .err p c) => parseR_code q x h)
  have HGO := Lib.hid (fun v p (h : Rd.parseR q x = .val v p) => parse_good h)
  generalize Rd.parseR q x = res at *
  go_enter Tryz.func3, Tryz.ntmps3
  go_wp2_with fail
  refine (awake6_any _ HR.out).mono ?_
  rintro e w1 ⟨rfl, hb1⟩
  have H1 := Lib.hid hb1
  clear hb1
  cases res with
  | out => exact absurd rfl HOU.out
  | err p c =>
   have hc := HCO.out p c rfl
   have uc : (c != 0) = true := by rw [bne_iff_ne]; exact hc
   have ud : (c == 0) = false := by rw [beq_eq_false_iff_ne]; exact hc
   have HFX := Lib.hid (show ∀ w', RangeErr w' → Calls Tryz.prog 18 #[.string q, .int .i64 x] w' fun e w'' => e = .returned (.bool false) ∧ Below w'.heap.size w' w'' from HFT.out)
   clear hc HCO HGO HOU HFT
   go_wp2_with fail
   refine (HPD.out w1 (HR.out.on H1.out)).mono ?_
   rintro e w2 ⟨rfl, hb2⟩
   have hb2a : Below w1.heap.size w1 (w2.alloc (.cells #[.int .i64 0, .bool false, .int .i64 0, .string ⟨#[]⟩, .slice none 0 0, .slice none 0 0] 26)) := hb2.alloc hb2.size _
   have HA2 := Lib.hid (Blk.new w2 26 #[.int .i64 0, .bool false, .int .i64 0, .string ⟨#[]⟩, .slice none 0 0, .slice none 0 0])
   have H2 := Lib.hid (H1.out.trans (hb2a.mono H1.out.size))
   clear hb2 hb2a HPD
   unfold T.agg
   go_upto_region 4 with fail
   change Code.wp _ _ _ _ (w2.alloc (.cells #[.int .i64 0, .bool false, .int .i64 0, .string ⟨#[]⟩, .slice none 0 0, .slice none 0 0] 26))
   generalize (w2.alloc (.cells #[.int .i64 0, .bool false, .int .i64 0, .string ⟨#[]⟩, .slice none 0 0, .slice none 0 0] 26)) = W2 at *
   generalize w2.heap.size = G at *
   go_wp2_with fail
   refine (HRP.out W2).mono ?_
   rintro e w3 ⟨rfl, hb3⟩
   have hb3a : Below W2.heap.size W2 (w3.alloc (.cells #[.int .i64 0, .bool false, .int .i64 0, .string ⟨#[]⟩, .slice none 0 0, .slice none 0 0] 32)) := hb3.alloc hb3.size _
   have HB3 := Lib.hid (Blk.new w3 32 #[.int .i64 0, .bool false, .int .i64 0, .string ⟨#[]⟩, .slice none 0 0, .slice none 0 0])
   have HA3 := Lib.hid (HA2.out.onto hb3a)
   have H3 := Lib.hid (H2.out.trans (hb3a.mono H2.out.size))
   clear hb3 hb3a HRP
   unfold T.agg
   go_upto_region 5 with fail
   change Code.wp _ _ _ _ (w3.alloc (.cells #[.int .i64 0, .bool false, .int .i64 0, .string ⟨#[]⟩, .slice none 0 0, .slice none 0 0] 32))
   generalize (w3.alloc (.cells #[.int .i64 0, .bool false, .int .i64 0, .string ⟨#[]⟩, .slice none 0 0, .slice none 0 0] 32)) = W3 at *
   generalize w3.heap.size = G3 at *
   have HSS := Lib.hid (show ∀ w', Below W3.heap.size W3 w' → (w'.cell? ⟨G, 0, none⟩ = some (.int .i64 T.zero.kind) ∧ w'.cell? ⟨G, 1, none⟩ = some (.bool T.zero.tr) ∧ w'.cell? ⟨G, 2, none⟩ = some (.int .i64 T.zero.num) ∧ w'.cell? ⟨G, 3, none⟩ = some (.string T.zero.str) ∧ w'.cell? ⟨G, 4, none⟩ = some (.slice none T.zero.items.length 0) ∧ w'.cell? ⟨G, 5, none⟩ = some (.slice none T.zero.keys.length 0)) ∧ (w'.cell? ⟨G3, 0, none⟩ = some (.int .i64 T.zero.kind) ∧ w'.cell? ⟨G3, 1, none⟩ = some (.bool T.zero.tr) ∧ w'.cell? ⟨G3, 2, none⟩ = some (.int .i64 T.zero.num) ∧ w'.cell? ⟨G3, 3, none⟩ = some (.string T.zero.str) ∧ w'.cell? ⟨G3, 4, none⟩ = some (.slice none T.zero.items.length 0) ∧ w'.cell? ⟨G3, 5, none⟩ = some (.slice none T.zero.keys.length 0)) from fun w' hb => by
    have e1 := HA3.out.onto hb
    have e2 := HB3.out.onto hb
    exact ⟨⟨e1.cell 0, e1.cell 1, e1.cell 2, e1.cell 3, e1.cell 4, e1.cell 5⟩, ⟨e2.cell 0, e2.cell 1, e2.cell 2, e2.cell 3, e2.cell 4, e2.cell 5⟩⟩)
   have HSZ := Lib.hid (show ∀ w', Below W3.heap.size W3 w' → (w'.cell? ⟨G, 0, none⟩ = some (.int .i64 0) ∧ w'.cell? ⟨G, 1, none⟩ = some (.bool false) ∧ w'.cell? ⟨G, 2, none⟩ = some (.int .i64 0) ∧ w'.cell? ⟨G, 3, none⟩ = some (.string ⟨#[]⟩) ∧ w'.cell? ⟨G, 4, none⟩ = some (.slice none 0 0) ∧ w'.cell? ⟨G, 5, none⟩ = some (.slice none 0 0)) ∧ (w'.cell? ⟨G3, 0, none⟩ = some (.int .i64 0) ∧ w'.cell? ⟨G3, 1, none⟩ = some (.bool false) ∧ w'.cell? ⟨G3, 2, none⟩ = some (.int .i64 0) ∧ w'.cell? ⟨G3, 3, none⟩ = some (.string ⟨#[]⟩) ∧ w'.cell? ⟨G3, 4, none⟩ = some (.slice none 0 0) ∧ w'.cell? ⟨G3, 5, none⟩ = some (.slice none 0 0)) from HSS.out)
   clear HSS
   refine wp_region_held_drew (S := fun w' => (w'.cell? ⟨G, 0, none⟩ = some (.int .i64 0) ∧ w'.cell? ⟨G, 1, none⟩ = some (.bool false) ∧ w'.cell? ⟨G, 2, none⟩ = some (.int .i64 0) ∧ w'.cell? ⟨G, 3, none⟩ = some (.string ⟨#[]⟩) ∧ w'.cell? ⟨G, 4, none⟩ = some (.slice none 0 0) ∧ w'.cell? ⟨G, 5, none⟩ = some (.slice none 0 0)) ∧ (w'.cell? ⟨G3, 0, none⟩ = some (.int .i64 0) ∧ w'.cell? ⟨G3, 1, none⟩ = some (.bool false) ∧ w'.cell? ⟨G3, 2, none⟩ = some (.int .i64 0) ∧ w'.cell? ⟨G3, 3, none⟩ = some (.string ⟨#[]⟩) ∧ w'.cell? ⟨G3, 4, none⟩ = some (.slice none 0 0) ∧ w'.cell? ⟨G3, 5, none⟩ = some (.slice none 0 0))) (by kernel_rfl) ?_ (fun hHeld => ?_)
   · exact HSZ.out _ (Below.refl _ _).drew
   refine wpAnyH_take (i := 0) (v := ?_) rfl (by kernel_rfl) (by kernel_rfl) (by kernel_rfl) (fun _ _ _ h => h) (Or.inl ⟨by rfl, ?_⟩) (by assumption) ?_
   rotate_left
   ·
    intro wq hSw
    try dsimp only at hSw
    go_simp
    try (with_reducible rfl)
   try simp only [Act.put, List.getElem_toArray, List.getElem_cons_zero, List.setIfInBounds_toArray, List.set_cons_zero, List.set_cons_succ]
   refine wpAnyH_take (i := 1) (v := ?_) rfl (by kernel_rfl) (by kernel_rfl) (by kernel_rfl) (fun _ _ _ h => h) (Or.inl ⟨by rfl, ?_⟩) (by assumption) ?_
   rotate_left
   ·
    intro wq hSw
    try dsimp only at hSw
    go_simp
    try (with_reducible rfl)
   try simp only [Act.put, List.getElem_toArray, List.getElem_cons_succ, List.getElem_cons_zero, List.setIfInBounds_toArray, List.set_cons_zero, List.set_cons_succ]
   refine wpAnyH_take (i := 2) (v := ?_) rfl (by kernel_rfl) (by kernel_rfl) (by kernel_rfl) (fun _ _ _ h => h) (Or.inl ⟨by rfl, ?_⟩) (by assumption) ?_
   rotate_left
   ·
    intro wq hSw
    try dsimp only at hSw
    go_simp
    try (with_reducible rfl)
   try simp only [Act.put, List.getElem_toArray, List.getElem_cons_succ, List.getElem_cons_zero, List.setIfInBounds_toArray, List.set_cons_zero, List.set_cons_succ]
   refine wpAnyH_take (i := 3) (v := ?_) rfl (by kernel_rfl) (by kernel_rfl) (by kernel_rfl) (fun _ _ _ h => h) (Or.inl ⟨by rfl, ?_⟩) (by assumption) ?_
   rotate_left
   ·
    intro wq hSw
    try dsimp only at hSw
    go_simp
    try (with_reducible rfl)
   try simp only [Act.put, List.getElem_toArray, List.getElem_cons_succ, List.getElem_cons_zero, List.setIfInBounds_toArray, List.set_cons_zero, List.set_cons_succ]
   refine wpAnyH_take (i := 4) (v := ?_) rfl (by kernel_rfl) (by kernel_rfl) (by kernel_rfl) (fun _ _ _ h => h) (Or.inl ⟨by rfl, ?_⟩) (by assumption) ?_
   rotate_left
   ·
    intro wq hSw
    try dsimp only at hSw
    go_simp
    try (with_reducible rfl)
   try simp only [Act.put, List.getElem_toArray, List.getElem_cons_succ, List.getElem_cons_zero, List.setIfInBounds_toArray, List.set_cons_zero, List.set_cons_succ]
   refine wpAnyH_take (i := 5) (v := ?_) rfl (by kernel_rfl) (by kernel_rfl) (by kernel_rfl) (fun _ _ _ h => h) (Or.inl ⟨by rfl, ?_⟩) (by assumption) ?_
   rotate_left
   ·
    intro wq hSw
    try dsimp only at hSw
    go_simp
    try (with_reducible rfl)
   try simp only [Act.put, List.getElem_toArray, List.getElem_cons_succ, List.getElem_cons_zero, List.setIfInBounds_toArray, List.set_cons_zero, List.set_cons_succ]
   refine wpAnyH_take (i := 6) (v := ?_) rfl (by kernel_rfl) (by kernel_rfl) (by kernel_rfl) (fun _ _ _ h => h) (Or.inl ⟨by rfl, ?_⟩) (by assumption) ?_
   rotate_left
   ·
    intro wq hSw
    try dsimp only at hSw
    go_simp
    try (with_reducible rfl)
   try simp only [Act.put, List.getElem_toArray, List.getElem_cons_succ, List.getElem_cons_zero, List.setIfInBounds_toArray, List.set_cons_zero, List.set_cons_succ]
   refine wpAnyH_take (i := 7) (v := ?_) rfl (by kernel_rfl) (by kernel_rfl) (by kernel_rfl) (fun _ _ _ h => h) (Or.inl ⟨by rfl, ?_⟩) (by assumption) ?_
   rotate_left
   ·
    intro wq hSw
    try dsimp only at hSw
    go_simp
    try (with_reducible rfl)
   try simp only [Act.put, List.getElem_toArray, List.getElem_cons_succ, List.getElem_cons_zero, List.setIfInBounds_toArray, List.set_cons_zero, List.set_cons_succ]
   refine wpAnyH_take (i := 8) (v := ?_) rfl (by kernel_rfl) (by kernel_rfl) (by kernel_rfl) (fun _ _ _ h => h) (Or.inl ⟨by rfl, ?_⟩) (by assumption) ?_
   rotate_left
   ·
    intro wq hSw
    try dsimp only at hSw
    go_simp
    try (with_reducible rfl)
   try simp only [Act.put, List.getElem_toArray, List.getElem_cons_succ, List.getElem_cons_zero, List.setIfInBounds_toArray, List.set_cons_zero, List.set_cons_succ]
   refine wpAnyH_take (i := 9) (v := ?_) rfl (by kernel_rfl) (by kernel_rfl) (by kernel_rfl) (fun _ _ _ h => h) (Or.inl ⟨by rfl, ?_⟩) (by assumption) ?_
   rotate_left
   ·
    intro wq hSw
    try dsimp only at hSw
    go_simp
    try (with_reducible rfl)
   try simp only [Act.put, List.getElem_toArray, List.getElem_cons_succ, List.getElem_cons_zero, List.setIfInBounds_toArray, List.set_cons_zero, List.set_cons_succ]
   refine wpAnyH_take (i := 11) (v := ?_) rfl (by kernel_rfl) (by kernel_rfl) (by kernel_rfl) (fun _ _ _ h => h) (Or.inl ⟨by rfl, ?_⟩) (by assumption) ?_
   rotate_left
   ·
    intro wq hSw
    try dsimp only at hSw
    go_simp
    try (with_reducible rfl)
   try simp only [Act.put, List.getElem_toArray, List.getElem_cons_succ, List.getElem_cons_zero, List.setIfInBounds_toArray, List.set_cons_zero, List.set_cons_succ]
   refine wpAnyH_ready (rs := [10]) (by kernel_rfl) (by simp) ?_
   refine AllReadyH.cons rfl (fun K0 hK => ?_) ?_
   rotate_left
   · exact AllReadyH.nil
   go_simp
   refine (ref_zero6 W3.drew).mono ?_
   rintro e w4 ⟨D, g, D', g', rfl, hT4, hb4⟩
   have HB4 := Lib.hid ((Below.refl W3.heap.size W3).drew.trans hb4)
   have HT4 := Lib.hid hT4
   clear hT4 hb4
   refine hK.out _ _ ?_ (fun hHeld => ?_)
   · exact HSZ.out _ HB4.out
   clear hK K0
   try simp only [Act.put, List.getElem_toArray, List.getElem_cons_succ, List.getElem_cons_zero, List.setIfInBounds_toArray, List.set_cons_zero, List.set_cons_succ]
   refine wpAnyH_ready (rs := [12]) (by kernel_rfl) (by simp) ?_
   refine AllReadyH.cons rfl (fun K0 hK => ?_) ?_
   rotate_left
   · exact AllReadyH.nil
   go_simp
   refine (rsame_zero6 D g D' g' w4 HT4.out).mono ?_
   rintro e w5 ⟨rfl, hb5⟩
   have HB5 := Lib.hid (HB4.out.trans (hb5.mono HB4.out.size))
   clear hb5
   refine hK.out _ _ ?_ (fun hHeld => ?_)
   · exact HSZ.out _ HB5.out
   clear hK K0
   try simp only [Act.put, List.getElem_toArray, List.getElem_cons_succ, List.getElem_cons_zero, List.setIfInBounds_toArray, List.set_cons_zero, List.set_cons_succ]
   refine wpAnyH_take (i := 13) (v := ?_) rfl (by kernel_rfl) (by kernel_rfl) (by kernel_rfl) (fun _ _ _ h => h) (Or.inl ⟨by rfl, ?_⟩) (by assumption) ?_
   rotate_left
   ·
    intro wq hSw
    try dsimp only at hSw
    go_simp
    try (with_reducible rfl)
   try simp only [Act.put, List.getElem_toArray, List.getElem_cons_succ, List.getElem_cons_zero, List.setIfInBounds_toArray, List.set_cons_zero, List.set_cons_succ]
   refine wpAnyH_take (i := 14) (v := ?_) rfl (by kernel_rfl) (by kernel_rfl) (by kernel_rfl) (fun _ _ _ h => h) (Or.inl ⟨by rfl, ?_⟩) (by assumption) ?_
   rotate_left
   ·
    intro wq hSw
    try dsimp only at hSw
    go_simp
    try (with_reducible rfl)
   try simp only [Act.put, List.getElem_toArray, List.getElem_cons_succ, List.getElem_cons_zero, List.setIfInBounds_toArray, List.set_cons_zero, List.set_cons_succ]
   refine wpAnyH_take (i := 15) (v := ?_) rfl (by kernel_rfl) (by kernel_rfl) (by kernel_rfl) (fun _ _ _ h => h) (Or.inl ⟨by rfl, ?_⟩) (by assumption) ?_
   rotate_left
   ·
    intro wq hSw
    try dsimp only at hSw
    go_simp
    try (with_reducible rfl)
   try simp only [Act.put, List.getElem_toArray, List.getElem_cons_succ, List.getElem_cons_zero, List.setIfInBounds_toArray, List.set_cons_zero, List.set_cons_succ]
   refine wpAnyH_take (i := 16) (v := ?_) rfl (by kernel_rfl) (by kernel_rfl) (by kernel_rfl) (fun _ _ _ h => h) (Or.inl ⟨by rfl, ?_⟩) (by assumption) ?_
   rotate_left
   ·
    intro wq hSw
    try dsimp only at hSw
    go_simp
    try (with_reducible rfl)
   try simp only [Act.put, List.getElem_toArray, List.getElem_cons_succ, List.getElem_cons_zero, List.setIfInBounds_toArray, List.set_cons_zero, List.set_cons_succ]
   refine wpAnyH_take (i := 18) (v := ?_) rfl (by kernel_rfl) (by kernel_rfl) (by kernel_rfl) (fun _ _ _ h => h) (Or.inl ⟨by rfl, ?_⟩) (by assumption) ?_
   rotate_left
   ·
    intro wq hSw
    try dsimp only at hSw
    go_simp
    try (with_reducible rfl)
   try simp only [Act.put, List.getElem_toArray, List.getElem_cons_succ, List.getElem_cons_zero, List.setIfInBounds_toArray, List.set_cons_zero, List.set_cons_succ]
   refine wpAnyH_take (i := 19) (v := ?_) rfl (by kernel_rfl) (by kernel_rfl) (by kernel_rfl) (fun _ _ _ h => h) (Or.inl ⟨by rfl, ?_⟩) (by assumption) ?_
   rotate_left
   ·
    intro wq hSw
    try dsimp only at hSw
    go_simp
    try (with_reducible rfl)
   try simp only [Act.put, List.getElem_toArray, List.getElem_cons_succ, List.getElem_cons_zero, List.setIfInBounds_toArray, List.set_cons_zero, List.set_cons_succ]
   refine wpAnyH_ready (rs := [17]) (by kernel_rfl) (by simp) ?_
   refine AllReadyH.cons rfl (fun K0 hK => ?_) ?_
   rotate_left
   · exact AllReadyH.nil
   go_simp
   refine (HFX.out w5 (HR.out.on (H3.out.trans (HB5.out.mono H3.out.size)))).mono ?_
   rintro e w6 ⟨rfl, hb6⟩
   have HB6 := Lib.hid (HB5.out.trans (hb6.mono HB5.out.size))
   clear hb6
   refine hK.out _ _ ?_ (fun hHeld => ?_)
   · exact HSZ.out _ HB6.out
   clear hK K0
   try simp only [Act.put, List.getElem_toArray, List.getElem_cons_succ, List.getElem_cons_zero, List.setIfInBounds_toArray, List.set_cons_zero, List.set_cons_succ]
   refine wpAnyH_take (i := 20) (v := ?_) rfl (by kernel_rfl) (by kernel_rfl) (by kernel_rfl) (fun _ _ _ h => h) (Or.inl ⟨by rfl, ?_⟩) (by assumption) ?_
   rotate_left
   ·
    intro wq hSw
    try dsimp only at hSw
    go_simp
    try (with_reducible rfl)
   try simp only [Act.put, List.getElem_toArray, List.getElem_cons_succ, List.getElem_cons_zero, List.setIfInBounds_toArray, List.set_cons_zero, List.set_cons_succ]
   refine wpAnyH_take (i := 21) (v := ?_) rfl (by kernel_rfl) (by kernel_rfl) (by kernel_rfl) (fun _ _ _ h => h) (Or.inl ⟨by rfl, ?_⟩) (by assumption) ?_
   rotate_left
   ·
    intro wq hSw
    try dsimp only at hSw
    go_simp
    try (with_reducible rfl)
   try simp only [Act.put, List.getElem_toArray, List.getElem_cons_succ, List.getElem_cons_zero, List.setIfInBounds_toArray, List.set_cons_zero, List.set_cons_succ]
   refine wpAnyH_take (i := 22) (v := ?_) rfl (by kernel_rfl) (by kernel_rfl) (by kernel_rfl) (fun _ _ _ h => h) (Or.inl ⟨by rfl, ?_⟩) (by assumption) ?_
   rotate_left
   ·
    intro wq hSw
    try dsimp only at hSw
    go_simp
    try (with_reducible rfl)
   try simp only [Act.put, List.getElem_toArray, List.getElem_cons_succ, List.getElem_cons_zero, List.setIfInBounds_toArray, List.set_cons_zero, List.set_cons_succ]
   refine wpAnyH_take (i := 23) (v := ?_) rfl (by kernel_rfl) (by kernel_rfl) (by kernel_rfl) (fun _ _ _ h => h) (Or.inl ⟨by rfl, ?_⟩) (by assumption) ?_
   rotate_left
   ·
    intro wq hSw
    try dsimp only at hSw
    go_simp
    try (with_reducible rfl)
   try simp only [Act.put, List.getElem_toArray, List.getElem_cons_succ, List.getElem_cons_zero, List.setIfInBounds_toArray, List.set_cons_zero, List.set_cons_succ]
   refine wpAnyH_take (i := 24) (v := ?_) rfl (by kernel_rfl) (by kernel_rfl) (by kernel_rfl) (fun _ _ _ h => h) (Or.inl ⟨by rfl, ?_⟩) (by assumption) ?_
   rotate_left
   ·
    intro wq hSw
    try dsimp only at hSw
    go_simp
    try (with_reducible rfl)
   try simp only [Act.put, List.getElem_toArray, List.getElem_cons_succ, List.getElem_cons_zero, List.setIfInBounds_toArray, List.set_cons_zero, List.set_cons_succ]
   refine wpAnyH_take (i := 25) (v := ?_) rfl (by kernel_rfl) (by kernel_rfl) (by kernel_rfl) (fun _ _ _ h => h) (Or.inl ⟨by rfl, ?_⟩) (by assumption) ?_
   rotate_left
   ·
    intro wq hSw
    try dsimp only at hSw
    go_simp
    try (with_reducible rfl)
   try simp only [Act.put, List.getElem_toArray, List.getElem_cons_succ, List.getElem_cons_zero, List.setIfInBounds_toArray, List.set_cons_zero, List.set_cons_succ]
   refine wpAnyH_take (i := 26) rfl (by kernel_rfl) (by kernel_rfl) (by kernel_rfl) (fun _ _ _ h => h) (Or.inr ⟨by rfl, rfl⟩) (by assumption) ?_
   try simp only [Act.put, List.getElem_toArray, List.getElem_cons_succ, List.getElem_cons_zero, List.setIfInBounds_toArray, List.set_cons_zero, List.set_cons_succ]
   refine wpAnyH_take (i := 27) rfl (by kernel_rfl) (by kernel_rfl) (by kernel_rfl) (fun _ _ _ h => h) (Or.inr ⟨by rfl, rfl⟩) (by assumption) ?_
   try simp only [Act.put, List.getElem_toArray, List.getElem_cons_succ, List.getElem_cons_zero, List.setIfInBounds_toArray, List.set_cons_zero, List.set_cons_succ]
   refine wpAnyH_take (i := 28) (v := ?_) rfl (by kernel_rfl) (by kernel_rfl) (by kernel_rfl) (fun _ _ _ h => h) (Or.inl ⟨by rfl, ?_⟩) (by assumption) ?_
   rotate_left
   ·
    intro wq hSw
    try dsimp only at hSw
    go_simp
    try (with_reducible rfl)
   try simp only [Act.put, List.getElem_toArray, List.getElem_cons_succ, List.getElem_cons_zero, List.setIfInBounds_toArray, List.set_cons_zero, List.set_cons_succ]
   refine wpAnyH_take (i := 29) (v := ?_) rfl (by kernel_rfl) (by kernel_rfl) (by kernel_rfl) (fun _ _ _ h => h) (Or.inl ⟨by rfl, ?_⟩) (by assumption) ?_
   rotate_left
   ·
    intro wq hSw
    try dsimp only at hSw
    go_simp
    try (with_reducible rfl)
   try simp only [Act.put, List.getElem_toArray, List.getElem_cons_succ, List.getElem_cons_zero, List.setIfInBounds_toArray, List.set_cons_zero, List.set_cons_succ]
   refine wpAnyH_take (i := 30) (v := ?_) rfl (by kernel_rfl) (by kernel_rfl) (by kernel_rfl) (fun _ _ _ h => h) (Or.inl ⟨by rfl, ?_⟩) (by assumption) ?_
   rotate_left
   ·
    intro wq hSw
    try dsimp only at hSw
    go_simp
    try (with_reducible rfl)
   try simp only [Act.put, List.getElem_toArray, List.getElem_cons_succ, List.getElem_cons_zero, List.setIfInBounds_toArray, List.set_cons_zero, List.set_cons_succ]
   refine wpAnyH_done (by kernel_rfl) ?_ _
   go_wp2_with fail
   go_ret
   exact ⟨rfl, H3.out.trans (HB6.out.mono H3.out.size)⟩
  | val t p0 =>
   obtain ⟨hgd, hsz0⟩ := HGO.out t p0 rfl
   have hsz : t.size ≤ 100000 := by omega
   have HSM := Lib.hid (hgd.small hsz)
   have HGD := Lib.hid hgd
   have HFX := Lib.hid (show ∀ w', RangeErr w' → Calls Tryz.prog 18 #[.string q, .int .i64 x] w' fun e w'' => e = .returned (.bool true) ∧ Below w'.heap.size w' w'' from HFT.out)
   clear hgd HCO HGO HOU HFT
   go_wp2_with fail
   refine (HPD.out w1 (HR.out.on H1.out)).mono ?_
   rintro e w2 ⟨A, a, A', a', rfl, hT2, hb2⟩
   have hb2a : Below w1.heap.size w1 (w2.alloc (.cells #[.int .i64 t.kind, .bool t.tr, .int .i64 t.num, .string t.str, .slice A t.items.length a, .slice A' t.keys.length a'] 26)) := hb2.alloc hb2.size _
   have HA2 := Lib.hid (Blk.new w2 26 #[.int .i64 t.kind, .bool t.tr, .int .i64 t.num, .string t.str, .slice A t.items.length a, .slice A' t.keys.length a'])
   have H2 := Lib.hid (H1.out.trans (hb2a.mono H1.out.size))
   have HU2 := Lib.hid (show TV (w2.alloc (.cells #[.int .i64 t.kind, .bool t.tr, .int .i64 t.num, .string t.str, .slice A t.items.length a, .slice A' t.keys.length a'] 26)) (· < (w2.alloc (.cells #[.int .i64 t.kind, .bool t.tr, .int .i64 t.num, .string t.str, .slice A t.items.length a, .slice A' t.keys.length a'] 26)).heap.size) t A a A' a' from (hT2.wide (S' := (· < w2.heap.size)) fun i hi => hi.2).on ((Below.refl _ _).alloc (Nat.le_refl _) _))
   clear hb2 hb2a HPD hT2
   unfold T.agg
   go_upto_region 4 with fail
   change Code.wp _ _ _ _ (w2.alloc (.cells #[.int .i64 t.kind, .bool t.tr, .int .i64 t.num, .string t.str, .slice A t.items.length a, .slice A' t.keys.length a'] 26))
   generalize (w2.alloc (.cells #[.int .i64 t.kind, .bool t.tr, .int .i64 t.num, .string t.str, .slice A t.items.length a, .slice A' t.keys.length a'] 26)) = W2 at *
   generalize w2.heap.size = G at *
   go_wp2_with fail
   refine (HRP.out W2).mono ?_
   rintro e w3 ⟨B, b, B', b', rfl, hT3, hb3⟩
   have hb3a : Below W2.heap.size W2 (w3.alloc (.cells #[.int .i64 t.kind, .bool t.tr, .int .i64 t.num, .string t.str, .slice B t.items.length b, .slice B' t.keys.length b'] 32)) := hb3.alloc hb3.size _
   have HB3 := Lib.hid (Blk.new w3 32 #[.int .i64 t.kind, .bool t.tr, .int .i64 t.num, .string t.str, .slice B t.items.length b, .slice B' t.keys.length b'])
   have HA3 := Lib.hid (HA2.out.onto hb3a)
   have HU3 := Lib.hid (HU2.out.on hb3a)
   have HV3 := Lib.hid (show TV (w3.alloc (.cells #[.int .i64 t.kind, .bool t.tr, .int .i64 t.num, .string t.str, .slice B t.items.length b, .slice B' t.keys.length b'] 32)) (· < (w3.alloc (.cells #[.int .i64 t.kind, .bool t.tr, .int .i64 t.num, .string t.str, .slice B t.items.length b, .slice B' t.keys.length b'] 32)).heap.size) t B b B' b' from (hT3.wide (S' := (· < w3.heap.size)) fun i hi => hi.2).on ((Below.refl _ _).alloc (Nat.le_refl _) _))
   have H3 := Lib.hid (H2.out.trans (hb3a.mono H2.out.size))
   clear hb3 hb3a HRP hT3
   unfold T.agg
   go_upto_region 5 with fail
   change Code.wp _ _ _ _ (w3.alloc (.cells #[.int .i64 t.kind, .bool t.tr, .int .i64 t.num, .string t.str, .slice B t.items.length b, .slice B' t.keys.length b'] 32))
   generalize (w3.alloc (.cells #[.int .i64 t.kind, .bool t.tr, .int .i64 t.num, .string t.str, .slice B t.items.length b, .slice B' t.keys.length b'] 32)) = W3 at *
   generalize w3.heap.size = G3 at *
   have HSS := Lib.hid (show ∀ w', Below W3.heap.size W3 w' → (w'.cell? ⟨G, 0, none⟩ = some (.int .i64 t.kind) ∧ w'.cell? ⟨G, 1, none⟩ = some (.bool t.tr) ∧ w'.cell? ⟨G, 2, none⟩ = some (.int .i64 t.num) ∧ w'.cell? ⟨G, 3, none⟩ = some (.string t.str) ∧ w'.cell? ⟨G, 4, none⟩ = some (.slice A t.items.length a) ∧ w'.cell? ⟨G, 5, none⟩ = some (.slice A' t.keys.length a')) ∧ (w'.cell? ⟨G3, 0, none⟩ = some (.int .i64 t.kind) ∧ w'.cell? ⟨G3, 1, none⟩ = some (.bool t.tr) ∧ w'.cell? ⟨G3, 2, none⟩ = some (.int .i64 t.num) ∧ w'.cell? ⟨G3, 3, none⟩ = some (.string t.str) ∧ w'.cell? ⟨G3, 4, none⟩ = some (.slice B t.items.length b) ∧ w'.cell? ⟨G3, 5, none⟩ = some (.slice B' t.keys.length b')) from fun w' hb => by
    have e1 := HA3.out.onto hb
    have e2 := HB3.out.onto hb
    exact ⟨⟨e1.cell 0, e1.cell 1, e1.cell 2, e1.cell 3, e1.cell 4, e1.cell 5⟩, ⟨e2.cell 0, e2.cell 1, e2.cell 2, e2.cell 3, e2.cell 4, e2.cell 5⟩⟩)
   obtain ⟨⟨a0, a1, a2, a3, a4, a5⟩, ⟨b0, b1, b2, b3, b4, b5⟩⟩ := HSS.out W3 (Below.refl _ _)
   have HBc := Lib.hid (Below.refl W3.heap.size W3)
   go_region_held3 (fun w' => (w'.cell? ⟨G, 0, none⟩ = some (.int .i64 t.kind) ∧ w'.cell? ⟨G, 1, none⟩ = some (.bool t.tr) ∧ w'.cell? ⟨G, 2, none⟩ = some (.int .i64 t.num) ∧ w'.cell? ⟨G, 3, none⟩ = some (.string t.str) ∧ w'.cell? ⟨G, 4, none⟩ = some (.slice A t.items.length a) ∧ w'.cell? ⟨G, 5, none⟩ = some (.slice A' t.keys.length a')) ∧ (w'.cell? ⟨G3, 0, none⟩ = some (.int .i64 t.kind) ∧ w'.cell? ⟨G3, 1, none⟩ = some (.bool t.tr) ∧ w'.cell? ⟨G3, 2, none⟩ = some (.int .i64 t.num) ∧ w'.cell? ⟨G3, 3, none⟩ = some (.string t.str) ∧ w'.cell? ⟨G3, 4, none⟩ = some (.slice B t.items.length b) ∧ w'.cell? ⟨G3, 5, none⟩ = some (.slice B' t.keys.length b')))
    (first
     | with_reducible exact HSS.out _ HBc.out
     | with_reducible exact HSS.out _ (below_drewN HBc.out _)
     | exact HSS.out _ HBc.out.drew
     | go_keep)
    (first
     | (
      go_at_call 17
      with_reducible refine (ref_c _ t A a A' a' _ hsz (Nat.le_refl _) (HU3.out.on ?_)).mono ?_
      · exact (by first | with_reducible exact HBc.out | with_reducible exact below_drewN HBc.out _ | exact HBc.out.drew)
      rintro e5 w5 ⟨D, g, D', g', rfl, hT5, hb5⟩
      unfold T.agg
      have HBc := Lib.hid (show Below W3.heap.size W3 w5 from by first | with_reducible exact HBc.out.trans (hb5.mono HBc.out.size) | with_reducible exact (below_drewN HBc.out _).trans (hb5.mono HBc.out.size) | exact HBc.out.drew.trans (hb5.mono HBc.out.size))
      have HRf := Lib.hid (show TV w5 (· < w5.heap.size) t D g D' g' from hT5.wide fun i hi => by
       have := hb5.size
       rcases hi with hi | hi
       · show i < w5.heap.size; omega
       · exact hi.2)
      have HBr := Lib.hid (Below.refl w5.heap.size w5)
      clear hT5 hb5)
     | (
      go_at_call 16
      with_reducible refine (rsame_c t D g D' g' B b B' b' _ hsz HSM.out (HRf.out.on ?_) (HV3.out.on ?_)).mono ?_
      · exact (by first | with_reducible exact HBr.out | with_reducible exact below_drewN HBr.out _ | exact HBr.out.drew)
      · exact (by first | with_reducible exact HBc.out | with_reducible exact below_drewN HBc.out _ | exact HBc.out.drew)
      rintro e6 w6 ⟨rfl, hb6⟩
      have HBc := Lib.hid (show Below W3.heap.size W3 w6 from by first | with_reducible exact HBc.out.trans (hb6.mono HBc.out.size) | with_reducible exact (below_drewN HBc.out _).trans (hb6.mono HBc.out.size) | exact HBc.out.drew.trans (hb6.mono HBc.out.size))
      clear hb6)
     | (
      go_at_call 18
      refine (HFX.out _ (HR.out.on (H3.out.trans (Below.mono (show Below W3.heap.size W3 _ from ?_) H3.out.size)))).mono ?_
      · exact (by first | with_reducible exact HBc.out | with_reducible exact below_drewN HBc.out _ | exact HBc.out.drew)
      rintro e7 w7 ⟨rfl, hb7⟩
      have HBc := Lib.hid (show Below W3.heap.size W3 w7 from by first | with_reducible exact HBc.out.trans (hb7.mono HBc.out.size) | with_reducible exact (below_drewN HBc.out _).trans (hb7.mono HBc.out.size) | exact HBc.out.drew.trans (hb7.mono HBc.out.size))
      clear hb7)
     | (
      go_at_call 19
      with_reducible refine (vgood_c t A a A' a' _ hsz HGD.out (HU3.out.on ?_)).mono ?_
      · exact (by first | with_reducible exact HBc.out | with_reducible exact below_drewN HBc.out _ | exact HBc.out.drew)
      rintro e8 w8 ⟨rfl, hb8⟩
      have HBc := Lib.hid (show Below W3.heap.size W3 w8 from by first | with_reducible exact HBc.out.trans (hb8.mono HBc.out.size) | with_reducible exact (below_drewN HBc.out _).trans (hb8.mono HBc.out.size) | exact HBc.out.drew.trans (hb8.mono HBc.out.size))
      clear hb8))
   all_goals
    go_wp2_with fail
    go_ret
    exact ⟨rfl, H3.out.trans (HBc.out.mono H3.out.size)⟩
 ·
  have u0 : decide ((q.size : Int) > 500) = true := decide_eq_true (by omega)
  have u0' : decide ((500 : Int) < (q.size : Int)) = true := decide_eq_true (by omega)
  have u0n : decide (500 < q.size) = true := decide_eq_true (by omega)
  go_enter Tryz.func3, Tryz.ntmps3
  go_wp2_with fail
  refine (awake6_any _ HR.out).mono ?_
  rintro e w1 ⟨rfl, hb1⟩
  have H1 := Lib.hid hb1
  clear hb1
  go_wp2_with fail
  refine (awake6_any _ (HR.out.on H1.out)).mono ?_
  rintro e w2 ⟨rfl, hb2⟩
  have H2 := Lib.hid (H1.out.trans (hb2.mono H1.out.size))
  clear hb2
  go_wp2_with fail
  go_ret
  exact ⟨rfl, H2.out⟩
set_option maxRecDepth 100000 in
theorem lifted (os : Os) (started : os.Started) (H : Type) (enc : TypeId × Value → H) :
 ReturnsInHanded {} Tryz.checked os 3 .any (fun w args => (Rows.readerParsesSpec.pre enc Tryz.prog Tryz.f3 [] false w args ∧ laidMetH Tryz.prog Rows.readerParsesRow.laid w) ∧ sizedMet enc Tryz.prog Tryz.f3 (OpenSpec.ofChange Rows.readerParsesSpec) false w args)
  (Rows.readerParsesSpec.post enc Tryz.prog Tryz.f3 false true false false) := by
 refine returnsInHanded_of_change_and (C := Tryz.checked) (X := fun w _ => laidMetH Tryz.prog Rows.readerParsesRow.laid w) (fun _ _ _ hh h => h.of_heap hh) own started (by kernel_rfl) Tryz.func3
  (ChangeSpec.witness_shaped (enc := enc) (C := Tryz.checked) (os := os) (X := fun w _ => laidMetH Tryz.prog Rows.readerParsesRow.laid w) false (World.laidAll Tryz.prog os Rows.readerParsesRow.laid) #[.string ByteArray.empty, .int .i64 0] 8 (World.laidAll_os _ _ _) (World.shaped_of_ZipB (by kernel_rfl) (by kernel_rfl)) (by kernel_rfl) (by kernel_rfl) (by kernel_rfl) (by rw [MakeChecks.laidMetH_plain _ _ _ (by kernel_rfl)]; exact laidMet_laidAll _ (by kernel_rfl) (by kernel_rfl))) ?_
 intro W base args ds gs before hval0 hW _ _ hL _
 have hval : ∀ (j : Nat) t v, Tryz.f3.params[j]? = some t → args[j]? = some v → Value.okWide Tryz.prog W .any base t v := hval0
 have hW' := hW
 obtain ⟨p, q, hA0, hV, rfl, hfz, hnd⟩ := hW
 have hA : DataW.TrodAll enc Tryz.prog W 0 (fun _ => true) true Tryz.f3.params.toList args.toList ds p := hA0
 rw [Tryz.params3] at hA hval
 obtain ⟨v0, vs0, d0, ds0, p0, q0, hargs, rfl, rfl, h0, r0⟩ := trodAll_cons hA
 obtain ⟨v1, vs1, d1, ds1, p1, q1, rfl, rfl, rfl, h1, r1⟩ := trodAll_cons r0
 obtain ⟨rfl, rfl, rfl⟩ := trodAll_nil r1
 obtain rfl : args = #[v0, v1] := by cases args; simp_all
 obtain ⟨rfl, rfl⟩ := trodVars_none hV
 obtain ⟨s0, rfl, rfl, rfl, w0⟩ := open_string Tryz.underlying9 (hval 0 9 v0 rfl rfl) h0
 obtain ⟨x1, rfl, rfl, rfl, w1⟩ := open_int Tryz.underlying3 (hval 1 3 v1 rfl rfl) h1
 have b1 := w1
 simp only [Lit.wf, decide_eq_true_eq, Bool.and_eq_true] at b1
 have eu8a : IntKind.u8.min = 0 := rfl
 have eu8b : IntKind.u8.max = 255 := rfl
 have ei64a : IntKind.i64.min = -9223372036854775808 := rfl
 have ei64b : IntKind.i64.max = 9223372036854775807 := rfl
 have eu32a : IntKind.u32.min = 0 := rfl
 have eu32b : IntKind.u32.max = 4294967295 := rfl
 clear hA0 hval0
 refine (walk s0 x1 W w0 (by omega) (by omega) (errs hL)).mono fun e W' ⟨he, bel⟩ => ?_
 subst he
 exact ⟨_, rfl, _, _, _, [], _, [], hW', trodAll_mk1 (shut_bool Tryz.underlying4 _), (trodAll_cons_mk (shut_string Tryz.underlying9 w0) (trodAll_cons_mk (shut_int Tryz.underlying3 w1) trodAll_mk0)), rfl, bel.frame _, fun h => by cases h⟩
theorem said : Rows.ReaderParsesSaid :=
 OpenClaim.holds_of_wide 3 Tryz.f3 rfl rfl rfl rfl rfl rfl rfl ⟨rfl, rfl, rfl, rfl, rfl⟩ rfl rfl rfl rfl rfl (by kernel_rfl) Tryz.func3 (by kernel_rfl)
  (of_decide_eq_true (by kernel_rfl)) (by unfold Func.isWrapper; first | (rw [if_pos (by decide +kernel)]; kernel_rfl) | (rw [if_neg (by decide +kernel)]; exact ⟨rfl, rfl⟩))
  (fun os started H enc _ => lifted os started H enc)
/-- no parameter wants a stand-in -/
theorem plain (f : FuncId) (fn : Func) (hf : Tryz.pinned.checked.prog.funcNamed "cheval/chevallaw06.ReaderParses" = some f) (hfn : Tryz.pinned.checked.prog.funcs[f]? = some fn) :
 true = Tryz.pinned.checked.prog.looks [] ∧ ∀ (j : Nat) t, fn.params[j]? = some t → Tryz.pinned.checked.prog.wantsStandIn t = false := by
 obtain rfl : f = 3 := Option.some.inj ((show Tryz.prog.funcNamed "cheval/chevallaw06.ReaderParses" = some 3 by kernel_rfl).symm.trans hf) |>.symm
 obtain rfl : fn = Tryz.f3 := (Option.some.inj (Tryz.func3.symm.trans hfn)).symm
 refine ⟨by kernel_rfl, fun j t ht => ?_⟩
 rw [Tryz.params3] at ht
 have hm := Array.mem_of_getElem? ht
 simp only [List.mem_toArray, List.mem_cons, List.not_mem_nil, or_false] at hm
 rcases hm with rfl | rfl
 · exact (show Tryz.prog.wantsStandIn 9 = false by kernel_rfl)
 · exact (show Tryz.prog.wantsStandIn 3 = false by kernel_rfl)
/-- The statement: the tied card. -/
theorem card : Rows.ReaderParsesCardSaid :=
 Claim7.holds_tied_plain_at .later [] _ _ _ _ said (fun _ h => by cases h) (by kernel_rfl) (fun _ h => by cases h) readerParses_row_tie rfl ⟨rfl, rfl⟩ (by kernel_rfl) rfl plain (by kernel_rfl)
end Go.Proofs.YthfhlblpjjniiaaGreatDoor.readerParses
