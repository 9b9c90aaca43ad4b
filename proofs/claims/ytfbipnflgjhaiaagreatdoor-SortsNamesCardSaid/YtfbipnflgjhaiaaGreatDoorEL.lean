/- One thing: contract of the program's parser. Every level: contract of the program's parser. -/
import Derived.Test.YtfbipnflgjhaiaaGreatDoorEK
set_option linter.unusedVariables false
set_option maxRecDepth 100000
set_option maxHeartbeats 8000000
open Go.Lib (hid)
namespace Go.Proofs.YtfbipnflgjhaiaaGreatDoor
open Go.RowKit
open Tk Ex
def wrdR (s : ByteArray) (f a : Nat) : Res := if argsN (sub s a (wE s a)) = 0 then wordR s a else calR s f (sub s a (wE s a)) (wE s a)
theorem args_word {x : ByteArray} (h : argsN x ≠ 0) : isWord x = false := by
 rcases word_ways x with h0 | h0 | h0 | h0 | h0 | h0
 · rcases h0 with h0 | h0 | h0 <;> · subst h0; exact absurd (by decide) h
 · subst h0; exact absurd (by decide) h
 · subst h0; exact absurd (by decide) h
 · subst h0; exact absurd (by decide) h
 · subst h0; exact absurd (by decide) h
 · exact h0
theorem args_le (x : ByteArray) : argsN x ≤ 2 := by unfold argsN; split <;> (try split) <;> omega
def parR (s : ByteArray) (f i : Nat) : Res := if stands s i opnB = true then (match lev s f 0 (past s i opnB) with
 | .ok e p => if stands s p clsB = true then .ok e (past s p clsB) else .err (bl s p) 1
 | .err p c => .err p c
 | .out => .out)
 else .err (bl s i) 1
theorem one_step (s : ByteArray) (f i : Nat) : lev s (f + 1) 8 i = if isDg (bt s (bl s i)) = true then num s (bl s i) else if bt s (bl s i) = 34 then strs s (bl s i) else if isLt (bt s (bl s i)) = true then wrdR s f (bl s i) else parR s f i := by
 rw [lev, if_neg (by decide), if_neg (by decide), if_neg (by decide), if_pos rfl]
 by_cases h1 : isDg (bt s (bl s i)) = true
 · rw [if_pos h1, if_pos h1]
 ·
  rw [if_neg h1, if_neg h1]
  by_cases h2 : bt s (bl s i) = 34
  · rw [if_pos h2, if_pos h2]
  ·
   rw [if_neg h2, if_neg h2]
   by_cases h3 : isLt (bt s (bl s i)) = true
   ·
    rw [if_pos h3, if_pos h3]
    unfold wrdR
    rw [show wd s i = sub s (bl s i) (wE s (bl s i)) from rfl]
    by_cases h4 : argsN (sub s (bl s i) (wE s (bl s i))) = 0
    ·
     rw [if_pos h4]
     unfold wordR
     by_cases h5 : isWord (sub s (bl s i) (wE s (bl s i))) = true
     · rw [if_pos h5, if_pos h5]
     · rw [if_neg h5, if_neg h5, if_neg (by omega)]
    ·
     rw [if_neg h4, if_neg (by rw [args_word h4]; decide), if_pos (by omega)]
     rfl
   ·
    rw [if_neg h3, if_neg h3]
    rfl
theorem lt_not_dg {c : Nat} (h : isLt c = true) : isDg c = false := by
 unfold isLt at h; unfold isDg
 simp only [Bool.or_eq_true, Bool.and_eq_true, decide_eq_true_eq] at h
 simp only [Bool.and_eq_false_iff, decide_eq_false_iff_not]
 omega
theorem lt_not_quo {c : Nat} (h : isLt c = true) : c ≠ 34 := by rintro rfl; exact absurd h (by decide)
theorem xone_end (s : ByteArray) (hs : s.size ≤ 50000) (f : Nat) (IE : ∀ f', f' ≤ f → Reads8 s f' 0 21) (i b : Nat) (w : World) (hp : Px w b s i) (hE : Err8 b w) (hi : i ≤ s.size) (hend : bl s i = s.size) (R : Res) (hRR : lev s (f + 1) 8 i = R) (hR : R ≠ .out) :
 Calls Tryz.prog 111 #[.pointer (some ⟨b, 0, none⟩)] w (LevP R b s w) := by
 have HNX := hid (xnext_any b s i w (by omega) hp.c0 hp.c1 hi)
 have hq := bl_le hi
 have HP := hid hp
 have HE := hid hE
 have hbl := hp.lt
 rw [one_step] at hRR
 have HR2 := hid (show R = .err (bl s i) 1 from by
  rw [← hRR, hend]
  have hb0 : bt s s.size = 0 := Classical.byContradiction fun h => Nat.lt_irrefl _ (lt_of_bt h)
  rw [hb0, if_neg (by decide), if_neg (by decide), if_neg (by decide)]
  unfold parR
  rw [if_neg]
  · rw [hend]
  ·
   unfold stands
   rw [hend, hb0, if_neg (by decide), has_end (Nat.le_refl _) (by decide)]; decide)
 clear hp hE hRR IE hR
 rw [hend] at HNX HR2
 have i1 : (0 : Int) ≤ (s.size : Int) := by omega
 go_enter Tryz.func111, Tryz.ntmps111
 go_wp2_with fail
 refine HNX.out.mono ?_
 rintro e w1 ⟨rfl, hb1⟩
 have HA1 := hid (Aside.of (b := b) hb1)
 have HP1 := hid (HP.out.onto hb1)
 have HE1 := hid (HE.out.side (Aside.of hb1))
 have k0 : w1.cell? ⟨b, 0, none⟩ = some (.string s) := HP1.out.c0
 clear hb1 HNX
 go_wp2_with fail
 refine (xfail_any b s i s.size 1 w1 HP1.out).mono ?_
 rintro e w2 ⟨rfl, ha2, hn2⟩
 have HA2 := hid (HA1.out.then ha2)
 have HN2 := hid hn2
 clear ha2 hn2
 go_wp2_with fail
 go_ret
 rw [HR2.out]
 exact ⟨rfl, HA2.out, HN2.out⟩
theorem xone_dig (s : ByteArray) (hs : s.size ≤ 50000) (f : Nat) (IE : ∀ f', f' ≤ f → Reads8 s f' 0 21) (i b : Nat) (w : World) (hp : Px w b s i) (hE : Err8 b w) (hi : i ≤ s.size) (hx : isDg (bt s (bl s i)) = true) (R : Res) (hRR : lev s (f + 1) 8 i = R) (hR : R ≠ .out) :
 Calls Tryz.prog 111 #[.pointer (some ⟨b, 0, none⟩)] w (LevP R b s w) := by
 have HNX := hid (xnext_any b s i w (by omega) hp.c0 hp.c1 hi)
 have hq := bl_le hi
 have HP := hid hp
 have HE := hid hE
 have hbl := hp.lt
 rw [one_step] at hRR
 obtain ⟨a, hae⟩ : ∃ a, bl s i = a := ⟨_, rfl⟩
 have HAE := hid hae
 rw [hae] at hx HNX hq hRR
 have halt : a < s.size := dg_lt hx
 have i1 : (0 : Int) ≤ (a : Int) := by omega
 have i2 : (a : Int) < (s.size : Int) := by omega
 have e1 : ((a : Int) == (s.size : Int)) = false := by simp; omega
 have e2 : decide ((a : Int) = (s.size : Int)) = false := decide_eq_false (by omega)
 have e3 : decide (a = s.size) = false := decide_eq_false (by omega)
 have hbt := bt_at s a halt
 have HDG := hid (fun w1 => xdigit_any (s[a]'halt).toNat w1)
 have HLT := hid (fun w1 => xletter_any (s[a]'halt).toNat w1)
 rw [hbt] at HDG HLT
 have HIN := hid (fun w1 h1 h2 => xint_any b s i a w1 hs h1 h2 hx)
 rw [if_pos hx] at hRR
 have HR2 := hid hRR.symm
 rw [hx] at HDG
 have hne : num s a ≠ .out := by rw [hRR]; exact hR
 clear hp hE hRR IE hae
 go_enter Tryz.func111, Tryz.ntmps111
 go_wp2_with fail
 refine HNX.out.mono ?_
 rintro e w1 ⟨rfl, hb1⟩
 have HA1 := hid (Aside.of (b := b) hb1)
 have HP1 := hid (HP.out.onto hb1)
 have HE1 := hid (HE.out.side (Aside.of hb1))
 have k0 : w1.cell? ⟨b, 0, none⟩ = some (.string s) := HP1.out.c0
 clear hb1 HNX
 go_wp2_with fail
 refine (HDG.out w1).mono ?_
 rintro e w2 ⟨rfl, rfl⟩
 go_wp2_with fail
 refine (HIN.out w1 HP1.out HE1.out).mono ?_
 intro e w3 h3
 obtain ⟨v, rfl, h4⟩ := (h3.carry HA1.out).gave hne
 have H4 := hid h4
 clear h3 h4
 go_wp2_with fail
 go_ret
 rw [HR2.out]
 exact H4.out
theorem xone_word (s : ByteArray) (hs : s.size ≤ 50000) (f : Nat) (IE : ∀ f', f' ≤ f → Reads8 s f' 0 21) (i b : Nat) (w : World) (hp : Px w b s i) (hE : Err8 b w) (hi : i ≤ s.size) (hx : isLt (bt s (bl s i)) = true) (R : Res) (hRR : lev s (f + 1) 8 i = R) (hR : R ≠ .out) :
 Calls Tryz.prog 111 #[.pointer (some ⟨b, 0, none⟩)] w (LevP R b s w) := by
 have HNX := hid (xnext_any b s i w (by omega) hp.c0 hp.c1 hi)
 have hq := bl_le hi
 have HP := hid hp
 have HE := hid hE
 have hbl := hp.lt
 rw [one_step] at hRR
 obtain ⟨a, hae⟩ : ∃ a, bl s i = a := ⟨_, rfl⟩
 have HAE := hid hae
 rw [hae] at hx HNX hq hRR
 have halt : a < s.size := lt_lt hx
 have i1 : (0 : Int) ≤ (a : Int) := by omega
 have i2 : (a : Int) < (s.size : Int) := by omega
 have e1 : ((a : Int) == (s.size : Int)) = false := by simp; omega
 have e2 : decide ((a : Int) = (s.size : Int)) = false := decide_eq_false (by omega)
 have e3 : decide (a = s.size) = false := decide_eq_false (by omega)
 have hbt := bt_at s a halt
 have HDG := hid (fun w1 => xdigit_any (s[a]'halt).toNat w1)
 have HLT := hid (fun w1 => xletter_any (s[a]'halt).toNat w1)
 rw [hbt] at HDG HLT
 rw [if_neg (by rw [lt_not_dg hx]; decide), if_neg (lt_not_quo hx), if_pos hx] at hRR
 have hne : wrdR s f a ≠ .out := by rw [hRR]; exact hR
 have HW := hid (show ∀ w1, Px w1 b s i → Err8 b w1 → Calls Tryz.prog 115 #[.pointer (some ⟨b, 0, none⟩), .int .i64 a] w1 (LevP (wrdR s f a) b s w1) from by
  intro w1 h1 h2
  unfold wrdR at hne ⊢
  by_cases hn : argsN (sub s a (wE s a)) = 0
  ·
   rw [if_pos hn]
   exact xword_leaf b s i a w1 hs h1 hx hn
  ·
   rw [if_neg hn] at hne ⊢
   exact xword_call b s i a w1 hs h1 h2 hx f IE _ rfl (by omega) (args_le _) hne)
 have HR2 := hid hRR.symm
 rw [hx] at HLT
 rw [lt_not_dg hx] at HDG
 clear hp hE hRR IE hae
 go_enter Tryz.func111, Tryz.ntmps111
 go_wp2_with fail
 refine HNX.out.mono ?_
 rintro e w1 ⟨rfl, hb1⟩
 have HA1 := hid (Aside.of (b := b) hb1)
 have HP1 := hid (HP.out.onto hb1)
 have HE1 := hid (HE.out.side (Aside.of hb1))
 have k0 : w1.cell? ⟨b, 0, none⟩ = some (.string s) := HP1.out.c0
 clear hb1 HNX
 go_wp2_with fail
 refine (HDG.out w1).mono ?_
 rintro e w2 ⟨rfl, rfl⟩
 go_wp2_with fail
 refine (HLT.out w1).mono ?_
 rintro e w2 ⟨rfl, rfl⟩
 go_wp2_with fail
 refine (HW.out w1 HP1.out HE1.out).mono ?_
 intro e w3 h3
 obtain ⟨v, rfl, h4⟩ := (h3.carry HA1.out).gave hne
 have H4 := hid h4
 clear h3 h4
 go_wp2_with fail
 go_ret
 rw [HR2.out]
 exact H4.out
theorem xone_str (s : ByteArray) (hs : s.size ≤ 50000) (f : Nat) (IE : ∀ f', f' ≤ f → Reads8 s f' 0 21) (i b : Nat) (w : World) (hp : Px w b s i) (hE : Err8 b w) (hi : i ≤ s.size) (hx : bt s (bl s i) = 34) (R : Res) (hRR : lev s (f + 1) 8 i = R) (hR : R ≠ .out) :
 Calls Tryz.prog 111 #[.pointer (some ⟨b, 0, none⟩)] w (LevP R b s w) := by
 have HNX := hid (xnext_any b s i w (by omega) hp.c0 hp.c1 hi)
 have hq := bl_le hi
 have HP := hid hp
 have HE := hid hE
 have hbl := hp.lt
 rw [one_step] at hRR
 obtain ⟨a, hae⟩ : ∃ a, bl s i = a := ⟨_, rfl⟩
 have HAE := hid hae
 rw [hae] at hx HNX hq hRR
 have halt : a < s.size := lt_of_bt (by rw [hx]; decide)
 have i1 : (0 : Int) ≤ (a : Int) := by omega
 have i2 : (a : Int) < (s.size : Int) := by omega
 have e1 : ((a : Int) == (s.size : Int)) = false := by simp; omega
 have e2 : decide ((a : Int) = (s.size : Int)) = false := decide_eq_false (by omega)
 have e3 : decide (a = s.size) = false := decide_eq_false (by omega)
 have hbt := bt_at s a halt
 have HDG := hid (fun w1 => xdigit_any (s[a]'halt).toNat w1)
 have HLT := hid (fun w1 => xletter_any (s[a]'halt).toNat w1)
 rw [hbt] at HDG HLT
 have h34 := hx
 have f1 : (((bt s a : Nat) : Int) == 34) = true := by rw [h34]; rfl
 have f2 : decide (((bt s a : Nat) : Int) = 34) = true := by rw [h34]; rfl
 have f3 : decide (bt s a = 34) = true := decide_eq_true h34
 have HST := hid (fun w1 h1 h2 => xstr_any b s i a w1 hs h1 h2 hx)
 rw [if_neg (by rw [hx]; decide), if_pos hx] at hRR
 have HR1 := hid hRR.symm
 rw [show isDg (bt s a) = false by rw [hx]; decide] at HDG
 rw [show isLt (bt s a) = false by rw [hx]; decide] at HLT
 clear hp hE hRR IE hae h34 hx
 go_enter Tryz.func111, Tryz.ntmps111
 go_wp2_with fail
 refine HNX.out.mono ?_
 rintro e w1 ⟨rfl, hb1⟩
 have HA1 := hid (Aside.of (b := b) hb1)
 have HP1 := hid (HP.out.onto hb1)
 have HE1 := hid (HE.out.side (Aside.of hb1))
 have k0 : w1.cell? ⟨b, 0, none⟩ = some (.string s) := HP1.out.c0
 clear hb1 HNX
 go_wp2_with fail
 refine (HDG.out w1).mono ?_
 rintro e w2 ⟨rfl, rfl⟩
 go_wp2_with fail
 refine (HLT.out w1).mono ?_
 rintro e w2 ⟨rfl, rfl⟩
 go_wp2_with fail
 refine (HST.out w1 HP1.out HE1.out).mono ?_
 intro e w3 hp3
 cases hans : strAns s a with
 | err p c =>
  have HR2 := hid (show R = .err p c by rw [HR1.out]; unfold strs; rw [hans])
  rw [hans] at hp3
  obtain ⟨rfl, h2, h3⟩ := hp3
  have HA3 := hid (HA1.out.then h2)
  have HN3 := hid h3
  clear h2 h3 hans HST HR1
  go_wp2_with fail
  go_ret
  rw [HR2.out]
  exact ⟨rfl, HA3.out, HN3.out⟩
 | tok t =>
  have HR2 := hid (show R = .ok (litE (Rd.strT t.text)) t.fin by rw [HR1.out]; unfold strs; rw [hans])
  rw [hans] at hp3
  obtain ⟨rfl, h2, h3⟩ := hp3
  have HA3 := hid (HA1.out.then h2)
  have HP3 := hid h3
  clear h2 h3 hans HST HR1
  generalize t.text = tx at *
  generalize t.fin = tf at *
  go_wp2_with fail
  refine (xtext_any tx w3).mono ?_
  rintro e w4 ⟨rfl, hb4⟩
  have HA4 := hid (HA3.out.then (Aside.of hb4))
  have HP4 := hid (HP3.out.onto hb4)
  clear hb4
  go_wp2_with fail
  refine (xlit_any (.int .i64 3) (.bool false) (.int .i64 0) (.string tx) (.slice none 0 0) (.slice none 0 0) w4).mono ?_
  rintro e w5 ⟨g, rfl, hg, hb, hb5⟩
  have HG := hid hg
  have HB := hid hb
  have H5 := hid hb5
  clear hg hb hb5
  go_wp2_with fail
  go_ret
  rw [HR2.out]
  exact LevP.leaf (o := litB) (n := nix) (v := Rd.strT tx) HA4.out HP4.out rfl rfl HG.out HB.out H5.out
theorem xone_par (s : ByteArray) (hs : s.size ≤ 50000) (f : Nat) (IE : ∀ f', f' ≤ f → Reads8 s f' 0 21) (i b : Nat) (w : World) (hp : Px w b s i) (hE : Err8 b w) (hi : i ≤ s.size) (hx : isDg (bt s (bl s i)) = false ∧ isLt (bt s (bl s i)) = false ∧ bt s (bl s i) ≠ 34 ∧ bl s i ≠ s.size) (R : Res) (hRR : lev s (f + 1) 8 i = R) (hR : R ≠ .out) :
 Calls Tryz.prog 111 #[.pointer (some ⟨b, 0, none⟩)] w (LevP R b s w) := by
 have HNX := hid (xnext_any b s i w (by omega) hp.c0 hp.c1 hi)
 have hq := bl_le hi
 have HP := hid hp
 have HE := hid hE
 have hbl := hp.lt
 rw [one_step] at hRR
 obtain ⟨hx1, hx2, hx3, hend⟩ := hx
 obtain ⟨a, hae⟩ : ∃ a, bl s i = a := ⟨_, rfl⟩
 have HAE := hid hae
 rw [hae] at hx1 hx2 hx3 hend HNX hq hRR
 have halt : a < s.size := by omega
 have i1 : (0 : Int) ≤ (a : Int) := by omega
 have i2 : (a : Int) < (s.size : Int) := by omega
 have e1 : ((a : Int) == (s.size : Int)) = false := by simp; omega
 have e2 : decide ((a : Int) = (s.size : Int)) = false := decide_eq_false (by omega)
 have e3 : decide (a = s.size) = false := decide_eq_false (by omega)
 have hbt := bt_at s a halt
 have HDG := hid (fun w1 => xdigit_any (s[a]'halt).toNat w1)
 have HLT := hid (fun w1 => xletter_any (s[a]'halt).toNat w1)
 rw [hbt] at HDG HLT
 have h34 : ¬ bt s a = 34 := hx3
 have f1 : (((bt s a : Nat) : Int) == 34) = false := by simp; omega
 have f2 : decide (((bt s a : Nat) : Int) = 34) = false := decide_eq_false (by omega)
 have f3 : decide (bt s a = 34) = false := decide_eq_false h34
 rw [if_neg (by rw [hx1]; decide), if_neg hx3, if_neg (by rw [hx2]; decide)] at hRR
 have HR1 := hid hRR.symm
 rw [hx1] at HDG
 rw [hx2] at HLT
 have HMU := hid (fun w1 (h1 : Px w1 b s i) => xmust_any b s i opnB w1 (by omega) h1 hi (by decide) (by decide))
 have HIE := hid IE
 clear hp hE hRR IE hae h34 hx1 hx2 hx3
 go_enter Tryz.func111, Tryz.ntmps111
 go_wp2_with fail
 refine HNX.out.mono ?_
 rintro e w1 ⟨rfl, hb1⟩
 have HA1 := hid (Aside.of (b := b) hb1)
 have HP1 := hid (HP.out.onto hb1)
 have HE1 := hid (HE.out.side (Aside.of hb1))
 have k0 : w1.cell? ⟨b, 0, none⟩ = some (.string s) := HP1.out.c0
 clear hb1 HNX
 go_wp2_with fail
 refine (HDG.out w1).mono ?_
 rintro e w2 ⟨rfl, rfl⟩
 go_wp2_with fail
 refine (HLT.out w1).mono ?_
 rintro e w2 ⟨rfl, rfl⟩
 go_wp2_with fail
 refine (HMU.out w1 HP1.out).mono ?_
 intro e w2 hm
 unfold MustPost at hm
 by_cases hopn : stands s i opnB = true
 ·
  rw [if_pos hopn] at hm
  obtain ⟨rfl, h2, h3⟩ := hm
  have HR3 := hid (show R = match lev s f 0 (past s i opnB) with
   | .ok e p => if stands s p clsB = true then .ok e (past s p clsB) else .err (bl s p) 1
   | .err p c => .err p c
   | .out => .out from by rw [HR1.out]; unfold parR; rw [if_pos hopn])
  obtain ⟨hs1, hs2⟩ := stands_le hi hopn
  have HA2 := hid (HA1.out.then h2)
  have HE2 := hid (HE1.out.side h2)
  have HP2 := hid h3
  generalize past s i opnB = pa at *
  have hne : lev s f 0 pa ≠ .out := by intro h0; have := HR3.out; rw [h0] at this; exact hR this
  have HIE2 := hid (HIE.out f (Nat.le_refl f) pa b w2 HP2.out HE2.out hs2 hne)
  clear h2 h3 hopn HMU HR1
  go_wp2_with fail
  refine HIE2.out.mono ?_
  intro e w3 hl3
  cases hx : lev s f 0 pa with
  | out => exact absurd hx hne
  | err p c =>
   have HR2 := hid (show R = .err p c by rw [HR3.out, hx])
   rw [hx] at hl3
   obtain ⟨rfl, h2, h3⟩ := hl3
   have HA3 := hid (HA2.out.then h2)
   have HN3 := hid h3
   have n1 := run_nilL none
   have n2 : (none : Option Nat).isNone = true := rfl
   clear h2 h3 hx HR3 HIE2 hne
   go_wp2_with fail
   go_ret
   rw [HR2.out]
   exact ⟨rfl, HA3.out, HN3.out⟩
  | ok y p =>
   have hle := lev_le (by decide) hs2 hx
   have HR4 := hid (show R = if stands s p clsB = true then .ok y (past s p clsB) else .err (bl s p) 1 by rw [HR3.out, hx])
   rw [hx] at hl3
   obtain ⟨g, rfl, h2, h3, h4⟩ := hl3
   have n1 := run_nilL (some g)
   have n2 : (some g).isNone = false := rfl
   have HPA := hid (h2.wide (S' := fun k => w.heap.size ≤ k ∧ k < w3.heap.size) fun k hk => ⟨by have := HA2.out.size; omega, hk.2⟩)
   have HA3 := hid (HA2.out.then h3)
   have HMV := hid (xmust_any b s p clsB w3 (by omega) h4 hle.2 (by decide) (by decide))
   clear h2 h3 h4 hx HR3 HIE2 hne
   go_wp2_with fail
   refine HMV.out.mono ?_
   intro e w4 hm
   unfold MustPost at hm
   by_cases hcl : stands s p clsB = true
   ·
    rw [if_pos hcl] at hm
    obtain ⟨rfl, h2, h3⟩ := hm
    have HR2 := hid (show R = .ok y (past s p clsB) by rw [HR4.out, if_pos hcl])
    have HPB := hid (HPA.out.aside h2 hbl)
    have HA4 := hid (HA3.out.then h2)
    have HP4 := hid h3
    clear h2 h3 hcl HMV HR4
    go_wp2_with fail
    go_ret
    rw [HR2.out]
    exact ⟨g, rfl, HPB.out, HA4.out, HP4.out⟩
   ·
    rw [if_neg hcl] at hm
    obtain ⟨rfl, h2, h3⟩ := hm
    have HR2 := hid (show R = .err (bl s p) 1 by rw [HR4.out, if_neg hcl])
    have HA4 := hid (HA3.out.then h2)
    have HN4 := hid h3
    clear h2 h3 hcl HMV HR4
    go_wp2_with fail
    go_ret
    rw [HR2.out]
    exact ⟨rfl, HA4.out, HN4.out⟩
 ·
  rw [if_neg hopn] at hm
  obtain ⟨rfl, h2, h3⟩ := hm
  have HR2 := hid (show R = .err (bl s i) 1 from by rw [HR1.out]; unfold parR; rw [if_neg hopn])
  have HA2 := hid (HA1.out.then h2)
  have HN2 := hid h3
  clear h2 h3 hopn HMU HR1
  go_wp2_with fail
  go_ret
  rw [HR2.out]
  exact ⟨rfl, HA2.out, HN2.out⟩
theorem xone_any (s : ByteArray) (hs : s.size ≤ 50000) (f : Nat) (IE : ∀ f', f' ≤ f → Reads8 s f' 0 21) : Reads8 s (f + 1) 8 111 := by
 intro i b w hp hE hi hR
 by_cases h1 : bl s i = s.size
 · exact xone_end s hs f IE i b w hp hE hi h1 _ rfl hR
 ·
  by_cases h2 : isDg (bt s (bl s i)) = true
  · exact xone_dig s hs f IE i b w hp hE hi h2 _ rfl hR
  ·
   by_cases h3 : isLt (bt s (bl s i)) = true
   · exact xone_word s hs f IE i b w hp hE hi h3 _ rfl hR
   ·
    by_cases h4 : bt s (bl s i) = 34
    · exact xone_str s hs f IE i b w hp hE hi h4 _ rfl hR
    · exact xone_par s hs f IE i b w hp hE hi ⟨Bool.eq_false_iff.2 h2, Bool.eq_false_iff.2 h3, h4, h1⟩ _ rfl hR
open Go.RowKit
open Tk Ex
theorem reads_all (s : ByteArray) (hs : s.size ≤ 50000) : ∀ f n, n ≤ 8 → Reads8 s f n (meth n) := by
 intro f
 induction f using Nat.strongRecOn with
 | ind f IH =>
  intro n hn
  cases f with
  | zero => intro i b w hp hE hi hR; rw [lev] at hR; exact absurd rfl hR
  | succ f =>
   have I : ∀ n, n ≤ 8 → ∀ f', f' ≤ f → Reads8 s f' n (meth n) := fun n hn f' hf => IH f' (by omega) n hn
   match n, hn with
   | 0, _ => exact xlev0 s hs f (I 1 (by decide))
   | 1, _ => exact xlev1 s hs f (I 2 (by decide))
   | 2, _ => exact xlev2 s hs f (I 3 (by decide))
   | 3, _ => exact xlev3 s hs f (I 4 (by decide))
   | 4, _ => exact xlev4 s hs f (I 5 (by decide))
   | 5, _ => exact xlev5 s hs f (I 6 (by decide))
   | 6, _ => exact xlev6 s hs f (I 7 (by decide))
   | 7, _ => exact xpart_any s hs f (I 8 (by decide)) (I 0 (by decide))
   | 8, _ => exact xone_any s hs f (I 0 (by decide))
   | n + 9, h => omega
theorem xtop_any (s : ByteArray) (hs : s.size ≤ 50000) (i b : Nat) (w : World) (hp : Px w b s i) (hE : Err8 b w) (hi : i ≤ s.size) : Calls Tryz.prog 21 #[.pointer (some ⟨b, 0, none⟩)] w (LevP (top s i) b s w) :=
 reads_all s hs (many s) 0 (by decide) i b w hp hE hi (by
  have := (enough s (many s)).1 0 i (by decide) hi
  exact this.1 (by unfold many; omega))
end Go.Proofs.YtfbipnflgjhaiaaGreatDoor
