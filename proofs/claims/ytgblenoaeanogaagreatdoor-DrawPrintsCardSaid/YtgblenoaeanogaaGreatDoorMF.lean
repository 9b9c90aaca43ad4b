/- The lexer's Next: its contract. The lexer's All and New: contracts. A token that is a sign, in the program and in the reference: contracts. -/
import Derived.Deep.DeepCutAuto
import Derived.Test.YtgblenoaeanogaaGreatDoorME
import Derived.Laws.AppendOwn
import Derived.OwnWalk
set_option linter.unusedVariables false
set_option maxRecDepth 100000
set_option maxHeartbeats 8000000
open Go.Lib (hid)
namespace Go.Proofs.YtgblenoaeanogaaGreatDoor
open Go.RowKit
open Tk
open Pl
structure Aside (b : Nat) (w w' : World) : Prop where
 os : w'.os = w.os
 tape : w'.tape = w.tape
 output : w'.output = w.output
 size : w.heap.size ≤ w'.heap.size
 block : ∀ k, k < w.heap.size → k ≠ b → w'.heap[k]? = w.heap[k]?
theorem Aside.of {b : Nat} {w w' : World} (h : Below w.heap.size w w') : Aside b w w' := ⟨h.os, h.tape, h.output, h.size, fun k hk _ => h.block k hk⟩
theorem Aside.set {b o : Nat} {w w' : World} (h : Aside b w w') (v : Value) : Aside b w (w'.setCell ⟨b, o, none⟩ v) :=
 ⟨h.os, h.tape, h.output, by simpa [World.setCell] using h.size, fun k hk hne => (Below.heap_setCell w' ⟨b, o, none⟩ v k hne).trans (h.block k hk hne)⟩
theorem Aside.far {b g o : Nat} {w w' : World} (h : Aside b w w') (hg : w.heap.size ≤ g) (v : Value) : Aside b w (w'.setCell ⟨g, o, none⟩ v) :=
 ⟨h.os, h.tape, h.output, by simpa [World.setCell] using h.size, fun k hk hne => (Below.heap_setCell w' ⟨g, o, none⟩ v k (by show k ≠ g; omega)).trans (h.block k hk hne)⟩
theorem Aside.put5 {b g : Nat} {w w' : World} (h : Aside b w w') (hg : w.heap.size ≤ g) (v0 v1 v2 v3 v4 : Value) :
 Aside b w (((((w'.setCell ⟨g, 0, none⟩ v0).setCell ⟨g, 1, none⟩ v1).setCell ⟨g, 2, none⟩ v2).setCell ⟨g, 3, none⟩ v3).setCell ⟨g, 4, none⟩ v4) :=
 ((((h.far hg v0).far hg v1).far hg v2).far hg v3).far hg v4
theorem Aside.below {b B : Nat} {w0 w w' : World} (h : Aside b w w') (hb : Below B w0 w) (h1 : B ≤ b) (h2 : B ≤ w.heap.size) : Below B w0 w' :=
 hb.trans ⟨h.os, h.tape, h.output, h.size, fun k hk => h.block k (by omega) (by omega)⟩
theorem Blk.put5 {w : World} {g k : Nat} {t : TypeId} {cs : Array Value} (h : Blk w g t cs) (hg : g ≠ k) (v0 v1 v2 v3 v4 : Value) :
 Blk (((((w.setCell ⟨k, 0, none⟩ v0).setCell ⟨k, 1, none⟩ v1).setCell ⟨k, 2, none⟩ v2).setCell ⟨k, 3, none⟩ v3).setCell ⟨k, 4, none⟩ v4) g t cs :=
 ((((h.far (p := ⟨k, 0, none⟩) hg v0).far (p := ⟨k, 1, none⟩) hg v1).far (p := ⟨k, 2, none⟩) hg v2).far (p := ⟨k, 3, none⟩) hg v3).far (p := ⟨k, 4, none⟩) hg v4
def Lx (w : World) (b : Nat) (s : ByteArray) (i : Nat) : Prop := Blk w b 98 #[.string s, .int .i64 i]
def Tk.placeOf (s : ByteArray) (i : Nat) : Nat := match next s i with | .tok t => t.fin | .err _ _ => i
theorem err_num (s : ByteArray) (a p : Nat) (c : Int) (h : ansAt s a = .err p c) : c = 1 ∨ c = 2 ∨ c = 3 ∨ c = 4 := by
 unfold ansAt at h
 split at h
 · cases h
 ·
  split at h
  · cases h
  ·
   split at h
   ·
    have hstr : ∀ n p acc, strF s n p acc = .bad p c ∨ True := fun _ _ _ => .inr trivial
    unfold strAns at h
    split at h
    · cases h
    ·
     rename_i q c' hq
     injection h with h1 h2
     subst h1 h2
     have key : ∀ n p acc q c, strF s n p acc = .bad q c → c = 1 ∨ c = 2 ∨ c = 3 := by
      intro n
      induction n with
      | zero => intro p acc q c h; unfold strF at h; injection h with _ h; omega
      | succ n ih =>
       intro p acc q c h
       unfold strF at h
       split at h
       · cases h
       ·
        split at h
        · exact ih _ _ _ _ h
        ·
         rename_i q' c' hc
         injection h with _ h
         subst h
         exact chAt_err hc
     have := key _ _ _ _ _ hq
     omega
   ·
    split at h
    ·
     unfold numAns at h
     repeat' split at h
     all_goals first | (injection h with _ h; omega) | cases h
    ·
     split at h
     ·
      unfold wordAns at h
      split at h
      · cases h
      · injection h with _ h; omega
     · injection h with _ h; omega
theorem rd_any (b : Nat) (s : ByteArray) (a : Nat) (hs : s.size ≤ 90000) (ha : a ≤ s.size) :
 ∃ f, rdOf s a = .func (.func f) #[] #[] ∧ (∀ args w, (callFunc f args).run Tryz.prog w = .ok (.enter f args) w) ∧ ∀ w : World, w.cell? ⟨b, 0, none⟩ = some (.string s) → RangeErr w → Calls Tryz.prog f #[.pointer (some ⟨b, 0, none⟩), .int .i64 a] w fun e w' => e = .returned (ansAt s a).val ∧ Below w.heap.size w w' := by
 unfold rdOf ansAt
 split
 · exact ⟨_, rfl, Go.Proofs.enters_of Tryz.func85 (by kernel_rfl) rfl, fun w _ _ => end_any5 b a w⟩
 ·
  rename_i h1
  have hl : a < s.size := by omega
  split
  · exact ⟨_, rfl, Go.Proofs.enters_of Tryz.func86 (by kernel_rfl) rfl, fun w hc _ => mark_any5 b s a w (by omega) hc hl⟩
  ·
   split
   · exact ⟨_, rfl, Go.Proofs.enters_of Tryz.func87 (by kernel_rfl) rfl, fun w hc _ => str_any5 b s a w hs hc hl⟩
   ·
    split
    · exact ⟨_, rfl, Go.Proofs.enters_of Tryz.func88 (by kernel_rfl) rfl, fun w hc hr => num_any5 b s a w hs hc ha hr⟩
    ·
     split
     ·
      rename_i h2
      exact ⟨_, rfl, Go.Proofs.enters_of Tryz.func89 (by kernel_rfl) rfl, fun w hc _ => word_any5 b s a w hs hc hl h2⟩
     · exact ⟨_, rfl, Go.Proofs.enters_of Tryz.func90 (by kernel_rfl) rfl, fun w _ _ => nothing_any5 b a w⟩
theorem next_any5 (b : Nat) (s : ByteArray) (i : Nat) (w : World) (hs : s.size ≤ 90000) (hl : Lx w b s i) (hi : i ≤ s.size) (hr : RangeErr w) :
 Calls Tryz.prog 43 #[.pointer (some ⟨b, 0, none⟩)] w fun e w' => e = .returned (next s i).val ∧ Aside b w w' ∧ Lx w' b s (placeOf s i) := by
 have hb : b < w.heap.size := hl.lt
 have hq := span_le isBl hi
 obtain ⟨f, hf, hen, hcall⟩ := rd_any b s (span isBl s i) hs hq
 have HF := hid hf
 have HK := hid hcall
 have HNX := hid (show next s i = ansAt s (span isBl s i) from rfl)
 have HPL := hid (show placeOf s i = match ansAt s (span isBl s i) with | .tok t => t.fin | .err _ _ => i from rfl)
 have HEN := hid (fun p c h => err_num s (span isBl s i) p c h)
 have HBL := hid (fun w h1 h2 => blanks_any5 b s i w (by omega) h1 h2 hi)
 have HRD := hid (fun w h1 => reader_any5 b s (span isBl s i) w (by omega) h1 hq)
 generalize span isBl s i = q at *
 generalize hans : ansAt s q = ans at *
 generalize next s i = nx at *
 generalize placeOf s i = pl at *
 generalize rdOf s q = rd at *
 clear hf hcall hans
 go_enter Tryz.func43, Tryz.ntmps43
 go_upto_region 1 with fail
 refine alloc_gn (fun W hW hB => ?_)
 have hlW : Lx W b s i := hl.on hW hb
 have HW := hid hW
 have HB := hid hB
 have HR := hid (hr.on hW)
 have HL := hid hlW
 have hbW : b < W.heap.size := hlW.lt
 have hGW : w.heap.size < W.heap.size := hB.lt
 generalize hG : w.heap.size = G at *
 have HG := hid hG
 clear hB hW hr hl hlW hG
 go_wp2_with fail
 refine (HBL.out _ (HL.out.cell 0) (HL.out.cell 1)).mono ?_
 rintro e w2 ⟨rfl, hb2⟩
 have H2 := hid hb2
 have HL2 := hid (show Lx w2 b s i from HL.out.onto hb2)
 clear hb2
 go_wp2_with fail
 refine (HRD.out _ (HL2.out.cell 0)).mono ?_
 rintro e w3 ⟨rfl, rfl⟩
 rw [HF.out]
 go_wp2_with fail
 refine (HK.out _ (HL2.out.cell 0) (HR.out.on H2.out)).mono ?_
 rintro e w4 ⟨rfl, hb4⟩
 have h24 := H2.out.trans (hb4.mono H2.out.size)
 have H4 := hid (HW.out.trans (h24.mono (show G ≤ W.heap.size by omega)))
 have HL4 := hid (show Lx w4 b s i from HL2.out.onto hb4)
 have HB4 := hid (HB.out.onto h24)
 have hG4 : G < w4.heap.size := HB4.out.lt
 clear hb4 h24
 cases ans with
 | err p c =>
  have hc0 := HEN.out p c rfl
  have v1 : (c != 0) = true := by rw [bne_iff_ne]; omega
  have v2 : ¬ c = 0 := by omega
  unfold Ans.val
  go_upto_region 5 with fail
  have hb5 : Below w4.heap.size w4 (w4.alloc (.cells #[.int .i64 0, .string ⟨#[]⟩, .int .i64 0, .int .i64 0, .int .i64 0] 99)) := (Below.refl _ _).alloc (Nat.le_refl _) _
  change Code.wp _ _ _ _ (w4.alloc (.cells #[.int .i64 0, .string ⟨#[]⟩, .int .i64 0, .int .i64 0, .int .i64 0] 99))
  generalize (w4.alloc (.cells #[.int .i64 0, .string ⟨#[]⟩, .int .i64 0, .int .i64 0, .int .i64 0] 99)) = W5 at *
  have HLA := hid (show Lx W5 b s i from HL4.out.onto hb5)
  have hB5 := HB4.out.onto hb5
  have HA4 := hid (show Aside b w W5 from Aside.of ((H4.out.trans (hb5.mono (show G ≤ w4.heap.size by omega))).mono (Nat.le_of_eq HG.out)))
  have hGb : G ≠ b := by omega
  have c0 := hB5.cell 0
  have c1 := hB5.cell 1
  have c2 := hB5.cell 2
  have c3 := hB5.cell 3
  have c4 := hB5.cell 4
  have f0 := hB5.free 0
  have f1 := hB5.free 1
  have f2 := hB5.free 2
  have f3 := hB5.free 3
  have f4 := hB5.free 4
  clear hB5 hc0 hb5
  go_wp2_with fail
  refine bodyPost_ret (v := (Ans.err p c).val) (by simp [results, Tryz.results43, go_sem, Ans.val, c0, c1, c2, c3, c4]) rfl ⟨by rw [HNX.out], ?_, ?_⟩
  · exact (HA4.out.put5 (Nat.le_of_eq HG.out) _ _ _ _ _)
  ·
   rw [HPL.out]
   exact HLA.out.put5 (by omega) _ _ _ _ _
 | tok t =>
  unfold Ans.val
  go_upto_region 6 with fail
  refine alloc_gn (fun W5 hb5 hK5 => ?_)
  have HL5 := hid (show Lx W5 b s i from HL4.out.onto hb5)
  have HB5 := hid (HB4.out.onto hb5)
  have hbK : b < w4.heap.size := HL4.out.lt
  have H5 := hid (H4.out.trans (hb5.mono (show G ≤ w4.heap.size by omega)))
  generalize w4.heap.size = K at *
  have HK5 := hid hK5
  have g0 := hK5.cell 0
  have g1 := hK5.cell 1
  have g2 := hK5.cell 2
  have g3 := hK5.cell 3
  have g4 := hK5.cell 4
  have l1 := HL5.out.cell 1
  have m1 := HL5.out.free 1
  clear hb5 hK5
  go_upto_region 7 with fail
  have hK6 := HK5.out.far (p := ⟨b, 1, none⟩) (by show K ≠ b; omega) (.int .i64 t.fin)
  have hB6 := HB5.out.far (p := ⟨b, 1, none⟩) (by show G ≠ b; omega) (.int .i64 t.fin)
  have hL6 := HL5.out.set_ 1 (.int .i64 t.fin)
  have hA6 := (Aside.of (H5.out.mono (Nat.le_of_eq HG.out)) : Aside b w W5).set (o := 1) (.int .i64 t.fin)
  generalize W5.setCell ⟨b, 1, none⟩ (.int .i64 t.fin) = W6 at *
  clear g0 g1 g2 g3 g4 l1 m1
  have g0 := hK6.cell 0
  have g1 := hK6.cell 1
  have g2 := hK6.cell 2
  have g3 := hK6.cell 3
  have g4 := hK6.cell 4
  have c0 := hB6.cell 0
  have c1 := hB6.cell 1
  have c2 := hB6.cell 2
  have c3 := hB6.cell 3
  have c4 := hB6.cell 4
  have f0 := hB6.free 0
  have f1 := hB6.free 1
  have f2 := hB6.free 2
  have f3 := hB6.free 3
  have f4 := hB6.free 4
  have HL6 := hid (show Lx W6 b s t.fin from hL6)
  have HA6 := hid hA6
  clear hK6 hB6 hL6 hA6
  go_wp2_with fail
  refine bodyPost_ret (v := (Ans.tok t).val) (by simp [results, Tryz.results43, go_sem, Ans.val, c0, c1, c2, c3, c4]) rfl ⟨by rw [HNX.out], ?_, ?_⟩
  · exact HA6.out.put5 (Nat.le_of_eq HG.out) _ _ _ _ _
  ·
   rw [HPL.out]
   exact HL6.out.put5 (by omega) _ _ _ _ _
open Go.RowKit
open Tk
open Pl
theorem new_any5 (s : ByteArray) (w : World) : Calls Tryz.prog 31 #[.string s] w fun e w' => e = .returned (.pointer (some ⟨w.heap.size, 0, none⟩)) ∧ w' = w.alloc (.cells #[.string s, .int .i64 0] 98) := by
 go_enter Tryz.func31, Tryz.ntmps31
 go_wp2_with fail
 go_ret
 exact ⟨rfl, rfl⟩
def Tk.Tok.cells (t : Tok) : List Value := [.int .i64 t.kind, .string t.text, .int .i64 t.num, .int .i64 t.at_, .int .i64 t.fin]
def TReads (w : World) (B : Nat) (A : Option Addr) (l : List Tok) : Prop :=
 l ≠ [] → ∃ b, A = some ⟨b, 0, none⟩ ∧ b < B ∧ ∀ i t, l[i]? = some t → w.cell? ⟨b, 5 * i, none⟩ = some (.int .i64 t.kind) ∧ w.cell? ⟨b, 5 * i + 1, none⟩ = some (.string t.text) ∧ w.cell? ⟨b, 5 * i + 2, none⟩ = some (.int .i64 t.num) ∧ w.cell? ⟨b, 5 * i + 3, none⟩ = some (.int .i64 t.at_) ∧ w.cell? ⟨b, 5 * i + 4, none⟩ = some (.int .i64 t.fin)
theorem TReads.on {w w' : World} {A : Option Addr} {l : List Tok} (h : TReads w w.heap.size A l) (hb : Below w.heap.size w w') : TReads w' w'.heap.size A l := by
 intro hn
 obtain ⟨b, e, hlt, hc⟩ := h hn
 refine ⟨b, e, Nat.lt_of_lt_of_le hlt hb.size, fun i t ht => ?_⟩
 obtain ⟨c0, c1, c2, c3, c4⟩ := hc i t ht
 exact ⟨(hb.cell (p := ⟨b, 5 * i, none⟩) hlt).trans c0, (hb.cell (p := ⟨b, 5 * i + 1, none⟩) hlt).trans c1, (hb.cell (p := ⟨b, 5 * i + 2, none⟩) hlt).trans c2, (hb.cell (p := ⟨b, 5 * i + 3, none⟩) hlt).trans c3, (hb.cell (p := ⟨b, 5 * i + 4, none⟩) hlt).trans c4⟩
def lxAt (w : World) (b : Nat) : Nat := match w.cell? ⟨b, 1, none⟩ with | some v => (intOf v).toNat | none => 0
theorem Lx.at_ {w : World} {b : Nat} {s : ByteArray} {i : Nat} (h : Lx w b s i) : lxAt w b = i := by
 unfold lxAt
 rw [show w.cell? ⟨b, 1, none⟩ = some (.int .i64 i) from Blk.cell h 1]
 simp [intOf]
theorem own_ne5 {w : World} {base : Nat} {e t : TypeId} {size n : Nat} {v : Value} {xs : List Value} {g : Nat} {cs : Array Value} {fz : Nat × Nat}
 (h : w.ownsRow base e size v n xs) (hg : w.heap[g]? = some (.cells cs t fz)) (hne : e ≠ t) : some g ≠ v.ownBlock := by
 rcases h.2 with ⟨rfl, _⟩ | ⟨g', cap, cur, rfl, _, hh, _⟩
 · simp [Value.ownBlock]
 ·
  intro he
  have e1 : g = g' := by simpa [Value.ownBlock] using he
  rw [e1, hh] at hg
  injection hg with hg
  injection hg with _ h2 _
  exact hne h2
theorem Aside.own {b : Nat} {w w' : World} (h : Aside b w w') {base : Nat} {e t : TypeId} {size n : Nat} {v : Value} {xs : List Value} (ho : w.ownsRow base e size v n xs) {cs : Array Value} (hb : Blk w b t cs) (hne : e ≠ t) : w'.ownsRow base e size v n xs :=
 World.ownsRow.kept ho (row := some b) ⟨h.os, h.tape, h.output, h.size, fun a h1 h2 => h.block a h1 (fun e => h2 (by rw [e]))⟩ (.inr (Ne.symm (own_ne5 ho hb hne)))
open Go.RowKit
open Tk
theorem tl_eq6 (a b : ByteArray) : (a.toList == b.toList) = decide (a = b) := by
 by_cases h : a = b
 · subst h; simp
 ·
  have h2 : a.toList ≠ b.toList := by
   rw [ByteArray.toList_eq, ByteArray.toList_eq]
   exact fun e => h (ba_list e)
  rw [decide_eq_false h, beq_eq_false_iff_ne.2 h2]
theorem ismark_any (t : Tok) (x : ByteArray) (w : World) : Calls Tryz.prog 81 #[.agg #[.int .i64 t.kind, .string t.text, .int .i64 t.num, .int .i64 t.at_, .int .i64 t.fin], .string x] w fun e w' => e = .returned (.bool (t.kind == 1 && decide (t.text = x))) ∧ Below w.heap.size w w' := by
 obtain ⟨k, s, n, a, f⟩ := t
 dsimp only
 by_cases hk : k = 1
 ·
  subst hk
  go_enter Tryz.func81, Tryz.ntmps81
  go_wp2_with fail
  go_ret
  exact ⟨by simp [tl_eq6], (Below.refl _ _).alloc (Nat.le_refl _) _⟩
 ·
  have u1 : (k == 1) = false := by simpa using hk
  go_enter Tryz.func81, Tryz.ntmps81
  go_wp2_with fail
  go_ret
  exact ⟨by simp [u1], (Below.refl _ _).alloc (Nat.le_refl _) _⟩
def Rd.signT (t : Tok) : ByteArray := if t.kind = 1 then t.text else nix
theorem sign_any6 (t : Tok) (w : World) : Calls Tryz.prog 45 #[.agg #[.int .i64 t.kind, .string t.text, .int .i64 t.num, .int .i64 t.at_, .int .i64 t.fin]] w fun e w' => e = .returned (.string (Rd.signT t)) ∧ Below w.heap.size w w' := by
 obtain ⟨k, s, n, a, f⟩ := t
 unfold Rd.signT
 dsimp only
 by_cases hk : k = 1
 ·
  subst hk
  rw [if_pos rfl]
  go_enter Tryz.func45, Tryz.ntmps45
  go_wp2_with fail
  go_ret
  exact ⟨rfl, (Below.refl _ _).alloc (Nat.le_refl _) _⟩
 ·
  rw [if_neg hk]
  have u1 : (k == 1) = false := by simpa using hk
  go_enter Tryz.func45, Tryz.ntmps45
  go_wp2_with fail
  go_ret
  exact ⟨rfl, (Below.refl _ _).alloc (Nat.le_refl _) _⟩
theorem Rd.sign_is {t : Tok} {c : Nat} (h : Tk.one c ≠ Tk.nix) : Rd.signT t = Tk.one c ↔ Rd.isM t c := by
 unfold Rd.signT Rd.isM
 split
 · rename_i hk; exact ⟨fun h => ⟨hk, h⟩, fun h => h.2⟩
 · rename_i hk; exact ⟨fun h' => absurd h'.symm h, fun h' => absurd h'.1 hk⟩
theorem wrong_any6 (p c : Int) (w : World) : Calls Tryz.prog 44 #[.int .i64 p, .int .i64 c] w fun e w' => e = .returned (.agg #[.int .i64 0, .bool false, .int .i64 0, .string ⟨#[]⟩, .slice none 0 0, .slice none 0 0, .int .i64 p, .int .i64 c]) ∧ Below w.heap.size w w' := by
 go_enter Tryz.func44, Tryz.ntmps44
 go_wp2_with fail
 refine bodyPost_ret (v := .agg #[.int .i64 0, .bool false, .int .i64 0, .string ⟨#[]⟩, .slice none 0 0, .slice none 0 0, .int .i64 p, .int .i64 c]) (by simp [results, Tryz.results44, go_sem]) rfl ⟨rfl, ?_⟩
 exact (Below.refl _ _).alloc (Nat.le_refl _) _
end Go.Proofs.YtgblenoaeanogaaGreatDoor
