/- The reference's reader: an array: contract. -/
import Derived.Test.YtgblenoaeanogaaGreatDoorNE
import Derived.Outline
import Derived.Deep.DeepCutAuto
set_option linter.unusedVariables false
set_option maxRecDepth 100000
set_option maxHeartbeats 8000000
open Go.Lib (hid)
namespace Go.Proofs.YtgblenoaeanogaaGreatDoor
open Go.RowKit
open Tk
def ValAt (s : ByteArray) (n : Nat) : Prop := ∀ (room inn dep a : Nat) (w : World), dep = inn + room → dep ≤ 1000 → a ≤ s.size → (∀ t, next s a = .tok t → 2 * (s.size - t.at_) + 1 ≤ n) →
 Calls Tryz.prog 33 #[.string s, .int .i64 a, .int .i64 inn, .int .i64 dep] w (AGives (Rd.valF s n room a) w)
def tokZ (w : World) (F : Nat) : World := (((((w.setCell ⟨F, 0, none⟩ (.int .i64 0)).setCell ⟨F, 1, none⟩ (.string ⟨#[]⟩)).setCell ⟨F, 2, none⟩ (.int .i64 0)).setCell ⟨F, 3, none⟩ (.int .i64 0)).setCell ⟨F, 4, none⟩ (.int .i64 0))
def tokP (w : World) (F : Nat) (t : Tok) : World := (((((w.setCell ⟨F, 0, none⟩ (.int .i64 t.kind)).setCell ⟨F, 1, none⟩ (.string t.text)).setCell ⟨F, 2, none⟩ (.int .i64 t.num)).setCell ⟨F, 3, none⟩ (.int .i64 t.at_)).setCell ⟨F, 4, none⟩ (.int .i64 t.fin))
theorem blk_tokP {w : World} {F : Nat} {c0 c1 c2 c3 c4 : Value} (h : Blk w F 83 #[c0, c1, c2, c3, c4]) (t : Tok) : Blk (tokP w F t) F 83 #[.int .i64 t.kind, .string t.text, .int .i64 t.num, .int .i64 t.at_, .int .i64 t.fin] := ((((h.set_ 0 _).set_ 1 _).set_ 2 _).set_ 3 _).set_ 4 _
theorem blk_tokZ {w : World} {F : Nat} {c0 c1 c2 c3 c4 : Value} (h : Blk w F 83 #[c0, c1, c2, c3, c4]) : Blk (tokZ w F) F 83 #[.int .i64 0, .string ⟨#[]⟩, .int .i64 0, .int .i64 0, .int .i64 0] := ((((h.set_ 0 _).set_ 1 _).set_ 2 _).set_ 3 _).set_ 4 _
theorem far_tokP {w : World} {g F : Nat} {ty : TypeId} {cs : Array Value} (h : Blk w g ty cs) (hg : g ≠ F) (t : Tok) : Blk (tokP w F t) g ty cs := Blk.put5 h hg _ _ _ _ _
theorem far_tokZ {w : World} {g F : Nat} {ty : TypeId} {cs : Array Value} (h : Blk w g ty cs) (hg : g ≠ F) : Blk (tokZ w F) g ty cs := Blk.put5 h hg _ _ _ _ _
theorem coll_tokP {ty : TypeId} {w : World} {lo F : Nat} {X : Nat → Prop} {l : List T} {v : Value} {xs : List Value} (h : Coll ty w lo X l v xs) (hF : X F) (t : Tok) : Coll ty (tokP w F t) lo X l v xs :=
 ((((h.set (p := ⟨F, 0, none⟩) hF _).set (p := ⟨F, 1, none⟩) hF _).set (p := ⟨F, 2, none⟩) hF _).set (p := ⟨F, 3, none⟩) hF _).set (p := ⟨F, 4, none⟩) hF _
theorem coll_tokZ {ty : TypeId} {w : World} {lo F : Nat} {X : Nat → Prop} {l : List T} {v : Value} {xs : List Value} (h : Coll ty w lo X l v xs) (hF : X F) : Coll ty (tokZ w F) lo X l v xs :=
 ((((h.set (p := ⟨F, 0, none⟩) hF _).set (p := ⟨F, 1, none⟩) hF _).set (p := ⟨F, 2, none⟩) hF _).set (p := ⟨F, 3, none⟩) hF _).set (p := ⟨F, 4, none⟩) hF _
theorem below_tokP {lo F : Nat} {u w : World} (h : Below lo u w) (hF : lo ≤ F) (t : Tok) : Below lo u (tokP w F t) := ((((h.setCell hF _).setCell hF _).setCell hF _).setCell hF _).setCell hF _
theorem below_tokZ {lo F : Nat} {u w : World} (h : Below lo u w) (hF : lo ≤ F) : Below lo u (tokZ w F) := ((((h.setCell hF _).setCell hF _).setCell hF _).setCell hF _).setCell hF _
theorem tokc {w : World} {F : Nat} {t : Tok} (h : Blk w F 83 #[.int .i64 t.kind, .string t.text, .int .i64 t.num, .int .i64 t.at_, .int .i64 t.fin]) : w.cell? ⟨F, 0, none⟩ = some (.int .i64 t.kind) ∧ w.cell? ⟨F, 1, none⟩ = some (.string t.text) ∧ w.cell? ⟨F, 2, none⟩ = some (.int .i64 t.num) ∧ w.cell? ⟨F, 3, none⟩ = some (.int .i64 t.at_) ∧ w.cell? ⟨F, 4, none⟩ = some (.int .i64 t.fin) := ⟨h.cell 0, h.cell 1, h.cell 2, h.cell 3, h.cell 4⟩
theorem tokf {w : World} {F : Nat} {t : Tok} (h : Blk w F 83 #[.int .i64 t.kind, .string t.text, .int .i64 t.num, .int .i64 t.at_, .int .i64 t.fin]) : (w.cell? ⟨F, 0, none⟩ = some (.int .i64 t.kind) ∧ w.cell? ⟨F, 1, none⟩ = some (.string t.text) ∧ w.cell? ⟨F, 2, none⟩ = some (.int .i64 t.num) ∧ w.cell? ⟨F, 3, none⟩ = some (.int .i64 t.at_) ∧ w.cell? ⟨F, 4, none⟩ = some (.int .i64 t.fin)) ∧ w.frozen? ⟨F, 0, none⟩ = false ∧ w.frozen? ⟨F, 1, none⟩ = false ∧ w.frozen? ⟨F, 2, none⟩ = false ∧ w.frozen? ⟨F, 3, none⟩ = false ∧ w.frozen? ⟨F, 4, none⟩ = false := ⟨tokc h, h.free 0, h.free 1, h.free 2, h.free 3, h.free 4⟩
namespace Rd
def itemsV (s : ByteArray) (m room a : Nat) (l : List T) : Res := match next s a with
 | .err p c => .err p c
 | .tok u => itemsF Ob s m room u l
def arrV (s : ByteArray) (n room i : Nat) : Res := match next s i with
 | .err p c => .err p c
 | .tok u => if isM u 93 then .val (arrT []) u.fin else itemsF Ob s n room u []
theorem items_step {s : ByteArray} {m room a : Nat} {l : List T} (h : ∀ u, next s a = .tok u → 2 * (s.size - u.at_) + 2 ≤ m) : itemsV s m room a l = match valF s (m - 1) room a with
 | .out => .out
 | .err p c => .err p c
 | .val v e => match next s e with
  | .err p c => .err p c
  | .tok y => if isM y 93 then .val (arrT (l ++ [v])) y.fin else if ¬ isM y 44 then .err y.at_ 1 else itemsV s (m - 1) room y.fin (l ++ [v]) := by
 unfold itemsV valF
 cases hn : next s a with
 | err p c => rfl
 | tok u =>
  have := h u hn
  obtain ⟨m, rfl⟩ : ∃ k, m = k + 1 := ⟨m - 1, by omega⟩
  show itemsF Ob s (m + 1) room u l = _
  rw [itemsF]
  show _ = match fromF Ob s m room u with
   | .out => Res.out
   | .err p c => Res.err p c
   | .val v e => match next s e with
    | .err p c => Res.err p c
    | .tok y => if isM y 93 then Res.val (arrT (l ++ [v])) y.fin else if ¬ isM y 44 then Res.err y.at_ 1 else (match next s y.fin with
     | .err p c => Res.err p c
     | .tok x => itemsF Ob s m room x (l ++ [v]))
  cases fromF Ob s m room u with
  | out => rfl
  | err p c => rfl
  | val v e => cases next s e <;> rfl
theorem val_out {s : ByteArray} {n room a : Nat} (ha : a ≤ s.size) (hn : ∀ t, next s a = .tok t → 2 * (s.size - t.at_) + 1 ≤ n) : valF s n room a ≠ .out := by
 unfold valF
 cases h : next s a with
 | err p c => intro h; cases h
 | tok t => exact ((enough Ob s n).1 room t (Rd.ok_next ha h).1 (hn t h)).1
theorem val_fine {s : ByteArray} {n room a : Nat} {v : T} {e : Nat} (ha : a ≤ s.size) (hn : ∀ t, next s a = .tok t → 2 * (s.size - t.at_) + 1 ≤ n) (hv : valF s n room a = .val v e) : a < e ∧ e ≤ s.size := by
 unfold valF at hv
 cases h : next s a with
 | err p c => rw [h] at hv; cases hv
 | tok t =>
  rw [h] at hv
  obtain ⟨h1, h2⟩ := Rd.ok_next ha h
  have := ((enough Ob s n).1 room t h1 (hn t h)).2 v e hv
  exact ⟨by omega, this.2⟩
theorem val_behind {s : ByteArray} {n room a : Nat} {v : T} {e : Nat} {t : Tok} (ha : a ≤ s.size) (hn : ∀ t, next s a = .tok t → 2 * (s.size - t.at_) + 1 ≤ n) (hv : valF s n room a = .val v e) (h : next s a = .tok t) : t.at_ < e := by
 unfold valF at hv
 rw [h] at hv
 exact (((enough Ob s n).1 room t (Rd.ok_next ha h).1 (hn t h)).2 v e hv).1
theorem val_tok {s : ByteArray} {n room a : Nat} {v : T} {e p : Nat} {c : Int} (hv : valF s n room a = .val v e) : next s a ≠ .err p c := by
 intro h
 unfold valF at hv
 rw [h] at hv
 cases hv
theorem val_code {s : ByteArray} {n room a p : Nat} {c : Int} (hv : valF s n room a = .err p c) : c ≠ 0 := by
 unfold valF at hv
 cases h : next s a with
 | err p' c' => rw [h] at hv; injection hv with _ hv; subst hv; exact next_code h
 | tok t => rw [h] at hv; exact (err_pos Ob s n).1 _ _ _ _ hv
end Rd
theorem r6array_any (s : ByteArray) (hs : s.size ≤ 520) (n : Nat) (IH : ∀ k, k < n → ValAt s k) (room inn dep i : Nat) (w : World) (hd : dep = inn + room) (hd2 : dep ≤ 1000) (hi : i ≤ s.size) (hn : ∀ u, next s i = .tok u → 2 * (s.size - u.at_) + 2 ≤ n) :
 Calls Tryz.prog 46 #[.string s, .int .i64 i, .int .i64 inn, .int .i64 dep] w (AGives (Rd.arrV s n room i) w) := by
 obtain ⟨i1, hi1, hy0, hy1, hy2⟩ := info_parts infoV
 have HN := hid hn
 have HI := hid IH
 have HD := hid hd
 clear hn IH hd
 have HR := hid (show Rd.arrV s n room i = _ from rfl)
 cases hnx : next s i with
 | err p c =>
  rw [show Rd.arrV s n room i = .err p c from by unfold Rd.arrV; rw [hnx]]
  have hc := next_code hnx
  have uc : (c != 0) = true := by rw [bne_iff_ne]; exact hc
  clear hc HR
  have hbe : Below w.heap.size w ((w.alloc (.cells #[.int .i64 0, .bool false, .int .i64 0, .string ⟨#[]⟩, .slice none 0 0, .slice none 0 0, .int .i64 0, .int .i64 0] 80)).alloc (.cells #[.int .i64 4, .bool false, .int .i64 0, .string ⟨#[]⟩, .slice none 0 0, .slice none 0 0] 50)) := ((Below.refl _ _).alloc (Nat.le_refl _) _).alloc (by simp) _
  have HG0 := hid ((Blk.new w 80 #[.int .i64 0, .bool false, .int .i64 0, .string ⟨#[]⟩, .slice none 0 0, .slice none 0 0, .int .i64 0, .int .i64 0]).alloc (.cells #[.int .i64 4, .bool false, .int .i64 0, .string ⟨#[]⟩, .slice none 0 0, .slice none 0 0] 50))
  have HO0 := hid (show Blk ((w.alloc (.cells #[.int .i64 0, .bool false, .int .i64 0, .string ⟨#[]⟩, .slice none 0 0, .slice none 0 0, .int .i64 0, .int .i64 0] 80)).alloc (.cells #[.int .i64 4, .bool false, .int .i64 0, .string ⟨#[]⟩, .slice none 0 0, .slice none 0 0] 50)) (w.heap.size + 1) 50 #[.int .i64 4, .bool false, .int .i64 0, .string ⟨#[]⟩, .slice none 0 0, .slice none 0 0] from by have := Blk.new (w.alloc (.cells #[.int .i64 0, .bool false, .int .i64 0, .string ⟨#[]⟩, .slice none 0 0, .slice none 0 0, .int .i64 0, .int .i64 0] 80)) 50 #[.int .i64 4, .bool false, .int .i64 0, .string ⟨#[]⟩, .slice none 0 0, .slice none 0 0]; rwa [World.size_alloc] at this)
  have HW0 := hid hbe
  clear hbe
  go_enter Tryz.func46, Tryz.ntmps46
  go_upto_region 2 with fail
  change Code.wp _ _ _ _ ((w.alloc (.cells #[.int .i64 0, .bool false, .int .i64 0, .string ⟨#[]⟩, .slice none 0 0, .slice none 0 0, .int .i64 0, .int .i64 0] 80)).alloc (.cells #[.int .i64 4, .bool false, .int .i64 0, .string ⟨#[]⟩, .slice none 0 0, .slice none 0 0] 50))
  generalize ((w.alloc (.cells #[.int .i64 0, .bool false, .int .i64 0, .string ⟨#[]⟩, .slice none 0 0, .slice none 0 0, .int .i64 0, .int .i64 0] 80)).alloc (.cells #[.int .i64 4, .bool false, .int .i64 0, .string ⟨#[]⟩, .slice none 0 0, .slice none 0 0] 50)) = W0 at *
  have hlt0 := HO0.out.lt
  have HNX := hid (rnext_far s i W0 (by omega) (by omega) hi)
  rw [hnx] at HNX
  go_wp2_with fail
  refine HNX.out.mono ?_
  rintro ev w1 ⟨rfl, hb1⟩
  clear HNX
  have hb1a := hb1.alloc hb1.size (.cells #[.int .i64 0, .string ⟨#[]⟩, .int .i64 0, .int .i64 0, .int .i64 0] 83)
  have HF1 := hid (Blk.new w1 83 #[.int .i64 0, .string ⟨#[]⟩, .int .i64 0, .int .i64 0, .int .i64 0])
  have HG1 := hid (HG0.out.onto hb1a)
  have HO1 := hid (HO0.out.onto hb1a)
  have HW1 := hid (HW0.out.trans (hb1a.mono HW0.out.size))
  have hGF : w.heap.size + 1 < w1.heap.size := by have := hb1.size; omega
  clear hb1 hb1a HG0 HO0 HW0
  unfold Tk.Ans.val
  go_upto_region 3 with fail
  change Code.wp _ _ _ _ (w1.alloc (.cells #[.int .i64 0, .string ⟨#[]⟩, .int .i64 0, .int .i64 0, .int .i64 0] 83))
  generalize (w1.alloc (.cells #[.int .i64 0, .string ⟨#[]⟩, .int .i64 0, .int .i64 0, .int .i64 0] 83)) = W1 at *
  generalize w1.heap.size = F at *
  have hwF : w.heap.size ≤ F := by omega
  go_wp2_with fail
  refine (wrong_any6 p c W1).mono ?_
  rintro ev wz2 ⟨rfl, hb2⟩
  have HG2 := hid (HG1.out.onto hb2)
  have HW2 := hid (HW1.out.trans (hb2.mono HW1.out.size))
  clear hb2
  obtain ⟨⟨q0, q1, q2, q3, q4, q5, q6, q7⟩, x0, x1, x2, x3, x4, x5, x6, x7⟩ := box8 HG2.out
  go_wp2_with fail
  try simp only [Exit.inBlock, Exit.then]
  refine bodyPost_ret (v := .agg #[.int .i64 0, .bool false, .int .i64 0, .string ⟨#[]⟩, .slice none 0 0, .slice none 0 0, .int .i64 (p : Int), .int .i64 c]) (by simp [results, Tryz.results46, go_sem, q0, q1, q2, q3, q4, q5, q6, q7]) rfl ?_
  exact ⟨rfl, below_put8 HW2.out (Nat.le_refl _) _ _ _ _ _ _ _ _⟩
 | tok u =>
  have hok := Rd.ok_next hi hnx
  have hn2 : 2 ≤ n := by have := HN.out u hnx; omega
  by_cases h93 : Rd.isM u 93
  ·
   rw [show Rd.arrV s n room i = .val (Rd.arrT []) u.fin from by unfold Rd.arrV; rw [hnx]; exact if_pos h93]
   have hbe : Below w.heap.size w ((w.alloc (.cells #[.int .i64 0, .bool false, .int .i64 0, .string ⟨#[]⟩, .slice none 0 0, .slice none 0 0, .int .i64 0, .int .i64 0] 80)).alloc (.cells #[.int .i64 4, .bool false, .int .i64 0, .string ⟨#[]⟩, .slice none 0 0, .slice none 0 0] 50)) := ((Below.refl _ _).alloc (Nat.le_refl _) _).alloc (by simp) _
   have HG0 := hid ((Blk.new w 80 #[.int .i64 0, .bool false, .int .i64 0, .string ⟨#[]⟩, .slice none 0 0, .slice none 0 0, .int .i64 0, .int .i64 0]).alloc (.cells #[.int .i64 4, .bool false, .int .i64 0, .string ⟨#[]⟩, .slice none 0 0, .slice none 0 0] 50))
   have HO0 := hid (show Blk ((w.alloc (.cells #[.int .i64 0, .bool false, .int .i64 0, .string ⟨#[]⟩, .slice none 0 0, .slice none 0 0, .int .i64 0, .int .i64 0] 80)).alloc (.cells #[.int .i64 4, .bool false, .int .i64 0, .string ⟨#[]⟩, .slice none 0 0, .slice none 0 0] 50)) (w.heap.size + 1) 50 #[.int .i64 4, .bool false, .int .i64 0, .string ⟨#[]⟩, .slice none 0 0, .slice none 0 0] from by have := Blk.new (w.alloc (.cells #[.int .i64 0, .bool false, .int .i64 0, .string ⟨#[]⟩, .slice none 0 0, .slice none 0 0, .int .i64 0, .int .i64 0] 80)) 50 #[.int .i64 4, .bool false, .int .i64 0, .string ⟨#[]⟩, .slice none 0 0, .slice none 0 0]; rwa [World.size_alloc] at this)
   have HW0 := hid hbe
   clear hbe
   go_enter Tryz.func46, Tryz.ntmps46
   go_upto_region 2 with fail
   change Code.wp _ _ _ _ ((w.alloc (.cells #[.int .i64 0, .bool false, .int .i64 0, .string ⟨#[]⟩, .slice none 0 0, .slice none 0 0, .int .i64 0, .int .i64 0] 80)).alloc (.cells #[.int .i64 4, .bool false, .int .i64 0, .string ⟨#[]⟩, .slice none 0 0, .slice none 0 0] 50))
   generalize ((w.alloc (.cells #[.int .i64 0, .bool false, .int .i64 0, .string ⟨#[]⟩, .slice none 0 0, .slice none 0 0, .int .i64 0, .int .i64 0] 80)).alloc (.cells #[.int .i64 4, .bool false, .int .i64 0, .string ⟨#[]⟩, .slice none 0 0, .slice none 0 0] 50)) = W0 at *
   have hlt0 := HO0.out.lt
   have HNX := hid (rnext_far s i W0 (by omega) (by omega) hi)
   rw [hnx] at HNX
   go_wp2_with fail
   refine HNX.out.mono ?_
   rintro ev w1 ⟨rfl, hb1⟩
   clear HNX
   have hb1a := hb1.alloc hb1.size (.cells #[.int .i64 u.kind, .string u.text, .int .i64 u.num, .int .i64 u.at_, .int .i64 u.fin] 83)
   have HF1 := hid (Blk.new w1 83 #[.int .i64 u.kind, .string u.text, .int .i64 u.num, .int .i64 u.at_, .int .i64 u.fin])
   have HG1 := hid (HG0.out.onto hb1a)
   have HO1 := hid (HO0.out.onto hb1a)
   have HW1 := hid (HW0.out.trans (hb1a.mono HW0.out.size))
   have hGF : w.heap.size + 1 < w1.heap.size := by have := hb1.size; omega
   clear hb1 hb1a HG0 HO0 HW0
   unfold Tk.Ans.val
   go_upto_region 3 with fail
   change Code.wp _ _ _ _ (w1.alloc (.cells #[.int .i64 u.kind, .string u.text, .int .i64 u.num, .int .i64 u.at_, .int .i64 u.fin] 83))
   generalize (w1.alloc (.cells #[.int .i64 u.kind, .string u.text, .int .i64 u.num, .int .i64 u.at_, .int .i64 u.fin] 83)) = W1 at *
   generalize w1.heap.size = F at *
   have hwF : w.heap.size ≤ F := by omega
   obtain ⟨f0, f1, f2, f3, f4⟩ := tokc HF1.out
   have HSG := hid (sign_any6 u W1)
   rw [Rd.sign_yes (t := u) (c := 93) ⟨#[93]⟩ rfl h93] at HSG
   go_wp2_with fail
   refine HSG.out.mono ?_
   rintro ev ws2 ⟨rfl, hb2⟩
   clear HSG
   have HF2 := hid (HF1.out.onto hb2)
   have HG2 := hid (HG1.out.onto hb2)
   have HO2 := hid (HO1.out.onto hb2)
   have HW2 := hid (HW1.out.trans (hb2.mono HW1.out.size))
   clear hb2 f0 f1 f2 f3 f4
   obtain ⟨f0, f1, f2, f3, f4⟩ := tokc HF2.out
   have o0 : ws2.cell? ⟨w.heap.size + 1, 0, none⟩ = some (.int .i64 4) := HO2.out.cell 0
   have o1 : ws2.cell? ⟨w.heap.size + 1, 1, none⟩ = some (.bool false) := HO2.out.cell 1
   have o2 : ws2.cell? ⟨w.heap.size + 1, 2, none⟩ = some (.int .i64 0) := HO2.out.cell 2
   have o3 : ws2.cell? ⟨w.heap.size + 1, 3, none⟩ = some (.string ⟨#[]⟩) := HO2.out.cell 3
   have o4 : ws2.cell? ⟨w.heap.size + 1, 4, none⟩ = some (.slice none 0 0) := HO2.out.cell 4
   have o5 : ws2.cell? ⟨w.heap.size + 1, 5, none⟩ = some (.slice none 0 0) := HO2.out.cell 5
   obtain ⟨⟨q0, q1, q2, q3, q4, q5, q6, q7⟩, x0, x1, x2, x3, x4, x5, x6, x7⟩ := box8 HG2.out
   go_wp2_with fail
   try simp only [Exit.inBlock, Exit.then]
   refine bodyPost_ret (v := .agg #[.int .i64 4, .bool false, .int .i64 0, .string ⟨#[]⟩, .slice none 0 0, .slice none 0 0, .int .i64 (u.fin : Int), .int .i64 0]) (by simp [results, Tryz.results46, go_sem, q0, q1, q2, q3, q4, q5, q6, q7]) rfl ?_
   exact ⟨none, 0, none, 0, rfl, TV.leaf _ _ rfl rfl, below_put8 HW2.out (Nat.le_refl _) _ _ _ _ _ _ _ _⟩
  ·
   have HRES := hid (show Rd.itemsV s n room i [] = Rd.arrV s n room i from by unfold Rd.itemsV Rd.arrV; rw [hnx]; exact (if_neg h93).symm)
   clear HR
   generalize Rd.arrV s n room i = RES at *
   have n1 := Rd.sign_no (t := u) (c := 93) ⟨#[93]⟩ rfl (by unfold Tk.nix; decide) h93
   have n1' : ((Rd.signT u).toList == [93]) = false := by have h := n1; rw [ByteArray.toList_eq ⟨#[93]⟩] at h; exact h
   have hbe : Below w.heap.size w ((w.alloc (.cells #[.int .i64 0, .bool false, .int .i64 0, .string ⟨#[]⟩, .slice none 0 0, .slice none 0 0, .int .i64 0, .int .i64 0] 80)).alloc (.cells #[.int .i64 4, .bool false, .int .i64 0, .string ⟨#[]⟩, .slice none 0 0, .slice none 0 0] 50)) := ((Below.refl _ _).alloc (Nat.le_refl _) _).alloc (by simp) _
   have HG0 := hid ((Blk.new w 80 #[.int .i64 0, .bool false, .int .i64 0, .string ⟨#[]⟩, .slice none 0 0, .slice none 0 0, .int .i64 0, .int .i64 0]).alloc (.cells #[.int .i64 4, .bool false, .int .i64 0, .string ⟨#[]⟩, .slice none 0 0, .slice none 0 0] 50))
   have HO0 := hid (show Blk ((w.alloc (.cells #[.int .i64 0, .bool false, .int .i64 0, .string ⟨#[]⟩, .slice none 0 0, .slice none 0 0, .int .i64 0, .int .i64 0] 80)).alloc (.cells #[.int .i64 4, .bool false, .int .i64 0, .string ⟨#[]⟩, .slice none 0 0, .slice none 0 0] 50)) (w.heap.size + 1) 50 #[.int .i64 4, .bool false, .int .i64 0, .string ⟨#[]⟩, .slice none 0 0, .slice none 0 0] from by have := Blk.new (w.alloc (.cells #[.int .i64 0, .bool false, .int .i64 0, .string ⟨#[]⟩, .slice none 0 0, .slice none 0 0, .int .i64 0, .int .i64 0] 80)) 50 #[.int .i64 4, .bool false, .int .i64 0, .string ⟨#[]⟩, .slice none 0 0, .slice none 0 0]; rwa [World.size_alloc] at this)
   have HW0 := hid hbe
   clear hbe
   go_enter Tryz.func46, Tryz.ntmps46
   go_upto_region 2 with fail
   change Code.wp _ _ _ _ ((w.alloc (.cells #[.int .i64 0, .bool false, .int .i64 0, .string ⟨#[]⟩, .slice none 0 0, .slice none 0 0, .int .i64 0, .int .i64 0] 80)).alloc (.cells #[.int .i64 4, .bool false, .int .i64 0, .string ⟨#[]⟩, .slice none 0 0, .slice none 0 0] 50))
   generalize ((w.alloc (.cells #[.int .i64 0, .bool false, .int .i64 0, .string ⟨#[]⟩, .slice none 0 0, .slice none 0 0, .int .i64 0, .int .i64 0] 80)).alloc (.cells #[.int .i64 4, .bool false, .int .i64 0, .string ⟨#[]⟩, .slice none 0 0, .slice none 0 0] 50)) = W0 at *
   have hlt0 := HO0.out.lt
   have HNX := hid (rnext_far s i W0 (by omega) (by omega) hi)
   rw [hnx] at HNX
   go_wp2_with fail
   refine HNX.out.mono ?_
   rintro ev w1 ⟨rfl, hb1⟩
   clear HNX
   have hb1a := hb1.alloc hb1.size (.cells #[.int .i64 u.kind, .string u.text, .int .i64 u.num, .int .i64 u.at_, .int .i64 u.fin] 83)
   have HF1 := hid (Blk.new w1 83 #[.int .i64 u.kind, .string u.text, .int .i64 u.num, .int .i64 u.at_, .int .i64 u.fin])
   have HG1 := hid (HG0.out.onto hb1a)
   have HO1 := hid (HO0.out.onto hb1a)
   have HW1 := hid (HW0.out.trans (hb1a.mono HW0.out.size))
   have hGF : w.heap.size + 1 < w1.heap.size := by have := hb1.size; omega
   clear hb1 hb1a HG0 HO0 HW0
   unfold Tk.Ans.val
   go_upto_region 3 with fail
   change Code.wp _ _ _ _ (w1.alloc (.cells #[.int .i64 u.kind, .string u.text, .int .i64 u.num, .int .i64 u.at_, .int .i64 u.fin] 83))
   generalize (w1.alloc (.cells #[.int .i64 u.kind, .string u.text, .int .i64 u.num, .int .i64 u.at_, .int .i64 u.fin] 83)) = W1 at *
   generalize w1.heap.size = F at *
   have hwF : w.heap.size ≤ F := by omega
   obtain ⟨f0, f1, f2, f3, f4⟩ := tokc HF1.out
   have HSG := hid (sign_any6 u W1)
   go_wp2_with fail
   refine HSG.out.mono ?_
   rintro ev ws2 ⟨rfl, hb2⟩
   clear HSG
   have HF2 := hid (HF1.out.onto hb2)
   have HG2 := hid (HG1.out.onto hb2)
   have HO2 := hid (HO1.out.onto hb2)
   have HW2 := hid (HW1.out.trans (hb2.mono HW1.out.size))
   clear hb2 f0 f1 f2 f3 f4
   go_wp2_with fail
   clear n1 n1' hok hnx h93
   go_loopw [1, 11, 12] (fun a p9 c9 wr => ∃ (m k : Nat) (l : List T) (A : Option Addr) (d : Nat) (xs : List Value) (u0 : Tok) (P C : Int), a = .int .i64 k ∧ p9 = .int .i64 P ∧ c9 = .int .i64 C ∧ k ≤ s.size ∧ m ≤ n ∧ Rd.itemsV s m room k l = RES ∧ (∀ u, next s k = .tok u → 2 * (s.size - u.at_) + 2 ≤ m) ∧ l.length ≤ k ∧ Blk wr F 83 #[.int .i64 u0.kind, .string u0.text, .int .i64 u0.num, .int .i64 u0.at_, .int .i64 u0.fin] ∧ Blk wr (w.heap.size + 1) 50 #[.int .i64 4, .bool false, .int .i64 0, .string ⟨#[]⟩, .slice A l.length d, .slice none 0 0] ∧ Coll 50 wr (w.heap.size + 2) (fun b => b < w.heap.size + 2 ∨ b = F) l (.slice A l.length d) xs ∧ Blk wr w.heap.size 80 #[.int .i64 0, .bool false, .int .i64 0, .string ⟨#[]⟩, .slice none 0 0, .slice none 0 0, .int .i64 0, .int .i64 0] ∧ Below w.heap.size w wr) (fun a _ _ _ => s.size + 1 - (intOf a).toNat)
   case atStart => exact ⟨n, i, [], none, 0, [], u, 0, 0, rfl, rfl, rfl, hi, Nat.le_refl _, HRES.out, HN.out, Nat.zero_le _, HF2.out, HO2.out, Coll.nil _ _ _ _, HG2.out, HW2.out⟩
   case round =>
    obtain ⟨m, k, l, A, d, xs, u0, P, C, rfl, rfl, rfl, hk, hm, hres, hfu, hlk, hF, hO, hcoll, hG, hW⟩ := hrel
    have HF3 := hid hF
    have HO3 := hid hO
    have HC3 := hid hcoll
    have HG3 := hid hG
    have HW3 := hid hW
    have hvf := Rd.items_step (room := room) (l := l) hfu
    rw [hres] at hvf
    have hfv : ∀ t, next s k = .tok t → 2 * (s.size - t.at_) + 1 ≤ m - 1 := fun t ht => by have := hfu t ht; omega
    have HVC := hid (HI.out (m - 1) (by omega) room inn dep k wr HD.out hd2 hk hfv)
    have hFl := hF.lt
    clear hF hO hcoll hG hW hres HF2 HO2 HG2 HW2
    cases hvr : Rd.valF s (m - 1) room k with
    | out => exact absurd hvr (Rd.val_out hk hfv)
    | err p c =>
     rw [hvr] at HVC hvf
     have hc := Rd.val_code hvr
     have uc : (c != 0) = true := by rw [bne_iff_ne]; exact hc
     have HVF := hid (show RES = .err p c from hvf)
     clear hvf hvr hc hfu hfv
     go_wp2_with fail
     refine HVC.out.mono ?_
     rintro ev w4 ⟨rfl, hb4⟩
     clear HVC
     have hb4a := hb4.alloc hb4.size (.cells #[.int .i64 0, .bool false, .int .i64 0, .string ⟨#[]⟩, .slice none 0 0, .slice none 0 0, .int .i64 p, .int .i64 c] 80)
     have HX := hid (Blk.new w4 80 #[.int .i64 0, .bool false, .int .i64 0, .string ⟨#[]⟩, .slice none 0 0, .slice none 0 0, .int .i64 p, .int .i64 c])
     have HG4 := hid (HG3.out.onto hb4a)
     have HW4 := hid (HW3.out.trans (hb4a.mono HW3.out.size))
     clear hb4 hb4a
     go_upto_region 8 with fail
     change Code.wp _ _ _ _ (w4.alloc (.cells #[.int .i64 0, .bool false, .int .i64 0, .string ⟨#[]⟩, .slice none 0 0, .slice none 0 0, .int .i64 p, .int .i64 c] 80))
     generalize (w4.alloc (.cells #[.int .i64 0, .bool false, .int .i64 0, .string ⟨#[]⟩, .slice none 0 0, .slice none 0 0, .int .i64 p, .int .i64 c] 80)) = W4 at *
     generalize w4.heap.size = X at *
     have c0 : W4.cell? ⟨X, 0, none⟩ = some (.int .i64 0) := HX.out.cell 0
     have c1 : W4.cell? ⟨X, 1, none⟩ = some (.bool false) := HX.out.cell 1
     have c2 : W4.cell? ⟨X, 2, none⟩ = some (.int .i64 0) := HX.out.cell 2
     have c3 : W4.cell? ⟨X, 3, none⟩ = some (.string ⟨#[]⟩) := HX.out.cell 3
     have c4 : W4.cell? ⟨X, 4, none⟩ = some (.slice none 0 0) := HX.out.cell 4
     have c5 : W4.cell? ⟨X, 5, none⟩ = some (.slice none 0 0) := HX.out.cell 5
     have c6 : W4.cell? ⟨X, 6, none⟩ = some (.int .i64 p) := HX.out.cell 6
     have c7 : W4.cell? ⟨X, 7, none⟩ = some (.int .i64 c) := HX.out.cell 7
     obtain ⟨⟨q0, q1, q2, q3, q4, q5, q6, q7⟩, x0, x1, x2, x3, x4, x5, x6, x7⟩ := box8 HG4.out
     go_wp2_with fail
     try simp only [Exit.inBlock, Exit.then]
     refine bodyPost_ret (v := .agg #[.int .i64 0, .bool false, .int .i64 0, .string ⟨#[]⟩, .slice none 0 0, .slice none 0 0, .int .i64 (p : Int), .int .i64 c]) (by simp [results, Tryz.results46, go_sem, q0, q1, q2, q3, q4, q5, q6, q7]) rfl ?_
     rw [HVF.out]
     exact ⟨rfl, below_put8 HW4.out (Nat.le_refl _) _ _ _ _ _ _ _ _⟩
    | val v e =>
     obtain ⟨hke, hes⟩ := Rd.val_fine hk hfv hvr
     rw [hvr] at HVC hvf
     have hvr' := hvr
     clear hvr
     have HVF := hid hvf
     have HLE := hid (show ∀ t, next s k = .tok t → t.at_ < e from fun t ht => Rd.val_behind hk hfv hvr' ht)
     have HNE := hid (show ∀ p c, next s k ≠ .err p c from fun p c => Rd.val_tok hvr')
     clear hvf hfv hvr'
     have HFU := hid hfu
     clear hfu
     go_wp2_with fail
     refine HVC.out.mono ?_
     rintro ev w4 ⟨B, f, B', f', rfl, hT4, hb4⟩
     clear HVC
     have hb4a := hb4.alloc hb4.size (.cells #[.int .i64 v.kind, .bool v.tr, .int .i64 v.num, .string v.str, .slice B v.items.length f, .slice B' v.keys.length f', .int .i64 e, .int .i64 0] 80)
     have HX4 := hid (Blk.new w4 80 #[.int .i64 v.kind, .bool v.tr, .int .i64 v.num, .string v.str, .slice B v.items.length f, .slice B' v.keys.length f', .int .i64 e, .int .i64 0])
     have HG4 := hid (HG3.out.onto hb4a)
     have HO4 := hid (HO3.out.onto hb4a)
     have HF4 := hid (HF3.out.onto hb4a)
     have HC4 := hid (HC3.out.onto hb4a)
     have HW4 := hid (HW3.out.trans (hb4a.mono HW3.out.size))
     have hX4 : F < w4.heap.size := by have := hb4.size; omega
     have hX4w : w.heap.size + 1 < w4.heap.size := by omega
     have HT4 := hid (show TV (w4.alloc (.cells #[.int .i64 v.kind, .bool v.tr, .int .i64 v.num, .string v.str, .slice B v.items.length f, .slice B' v.keys.length f', .int .i64 e, .int .i64 0] 80)) (fun b => b < (w4.alloc (.cells #[.int .i64 v.kind, .bool v.tr, .int .i64 v.num, .string v.str, .slice B v.items.length f, .slice B' v.keys.length f', .int .i64 e, .int .i64 0] 80)).heap.size ∧ ¬ (b < w.heap.size + 2 ∨ b = F) ∧ some b ≠ (Value.slice A l.length d).ownBlock) v B f B' f' from (hT4.keep fun b hb => Below.heap_alloc _ _ _ hb.2).wide fun b hb => ⟨by have := hb.2; rw [World.size_alloc]; omega, by have := hb.1; have := HW3.out.size; omega, fun e1 => by
      have := (HC3.out.2.1.lt b e1.symm).2
      have := hb.1
      omega⟩)
     have hxo : some w4.heap.size ≠ (Value.slice A l.length d).ownBlock := fun e1 => by
      have := (HC3.out.2.1.lt _ e1.symm).2
      have := hb4.size
      omega
     clear hb4 hb4a hT4
     go_upto_region 8 with fail
     change Code.wp _ _ _ _ (w4.alloc (.cells #[.int .i64 v.kind, .bool v.tr, .int .i64 v.num, .string v.str, .slice B v.items.length f, .slice B' v.keys.length f', .int .i64 e, .int .i64 0] 80))
     have hW4l : w4.heap.size + 1 = (w4.alloc (.cells #[.int .i64 v.kind, .bool v.tr, .int .i64 v.num, .string v.str, .slice B v.items.length f, .slice B' v.keys.length f', .int .i64 e, .int .i64 0] 80)).heap.size := by rw [World.size_alloc]
     generalize (w4.alloc (.cells #[.int .i64 v.kind, .bool v.tr, .int .i64 v.num, .string v.str, .slice B v.items.length f, .slice B' v.keys.length f', .int .i64 e, .int .i64 0] 80)) = W4 at *
     have HWL := hid hW4l
     clear hW4l
     have hxW := HX4.out.lt
     generalize w4.heap.size = X at *
     have c0 : W4.cell? ⟨X, 0, none⟩ = some (.int .i64 v.kind) := HX4.out.cell 0
     have c1 : W4.cell? ⟨X, 1, none⟩ = some (.bool v.tr) := HX4.out.cell 1
     have c2 : W4.cell? ⟨X, 2, none⟩ = some (.int .i64 v.num) := HX4.out.cell 2
     have c3 : W4.cell? ⟨X, 3, none⟩ = some (.string v.str) := HX4.out.cell 3
     have c4 : W4.cell? ⟨X, 4, none⟩ = some (.slice B v.items.length f) := HX4.out.cell 4
     have c5 : W4.cell? ⟨X, 5, none⟩ = some (.slice B' v.keys.length f') := HX4.out.cell 5
     have c6 : W4.cell? ⟨X, 6, none⟩ = some (.int .i64 e) := HX4.out.cell 6
     have c7 : W4.cell? ⟨X, 7, none⟩ = some (.int .i64 0) := HX4.out.cell 7
     have o4 : W4.cell? ⟨w.heap.size + 1, 4, none⟩ = some (.slice A l.length d) := HO4.out.cell 4
     have fo4 := HO4.out.free 4
     have HOWN := hid HC4.out.2.1
     go_upto_region 11 with (
      at_builtin
      refine app_list ?_ (.tmp 44) (.tmp 47) 48 ?_ (w.heap.size + 2) 50 i1 (.agg #[.int .i64 0, .bool false, .int .i64 0, .string ⟨#[]⟩, .slice none 0 0, .slice none 0 0]) 6 88 Tryz.underlying48 hi1 hy0 hy1 hy2 ?_ ?_ (.slice A l.length d) l.length xs ?_ ?_ (some ⟨W4.heap.size, 0, none⟩) 1 1 (v.cs B f B' f').toList ?_ ?_ cs_one ?_ ?_ ?_ (l.length + 1) ?_ ?_
      · rfl
      · rfl
      · rfl
      · decide
      · rfl
      · exact HOWN.out.alloc _
      · rfl
      · exact src_of_cs (Blk.new W4 50 _)
      · unfold maxLen; omega
      · omega
      · simp; have := HW4.out.size; omega
      · rfl
      intro A5 d5 w5 ho5 hg5 hat5
      have hF5 := HC4.out.blk hg5 HF4.out (.inr rfl)
      have hO5 := HC4.out.blk hg5 HO4.out (.inl (by omega))
      have hG5 := HC4.out.blk hg5 HG4.out (.inl (by omega))
      have hX5 : Blk w5 X 80 #[.int .i64 v.kind, .bool v.tr, .int .i64 v.num, .string v.str, .slice B v.items.length f, .slice B' v.keys.length f', .int .i64 e, .int .i64 0] := (hg5.block X (by simp; omega) hxo).trans (HX4.out.alloc _)
      have hC5 := HC4.out.app_new HT4.out (by omega) rfl ho5 hg5 hat5
      have hW5 := (HW4.out.alloc HW4.out.size (.cells (v.cs B f B' f') 50)).grown hg5 (by have := HW4.out.size; simp; omega) (fun b hb => by have := (HOWN.out.lt b hb).1; omega)
      have p4 : w5.cell? ⟨w.heap.size + 1, 4, none⟩ = some (.slice A l.length d) := hO5.cell 4
      have fp4 := hO5.free 4
      have HF5 := hid hF5
      have HO5 := hid hO5
      have HG5 := hid hG5
      have HX5 := hid hX5
      have HC5 := hid hC5
      have HW5 := hid hW5
      clear hF5 hO5 hG5 hX5 hC5 hW5 ho5 hg5 hat5)
     have HF6 := hid (HF5.out.far (p := ⟨w.heap.size + 1, 4, none⟩) (by show F ≠ w.heap.size + 1; omega) (.slice A5 (l.length + 1) d5))
     have HX6 := hid (HX5.out.far (p := ⟨w.heap.size + 1, 4, none⟩) (by show X ≠ w.heap.size + 1; omega) (.slice A5 (l.length + 1) d5))
     have HG6 := hid (HG5.out.far (p := ⟨w.heap.size + 1, 4, none⟩) (by show w.heap.size ≠ w.heap.size + 1; omega) (.slice A5 (l.length + 1) d5))
     have HO6 := hid (HO5.out.set_ 4 (.slice A5 (l.length + 1) d5))
     have HC6 := hid (HC5.out.set (p := ⟨w.heap.size + 1, 4, none⟩) (.inl (by show w.heap.size + 1 < _; omega)) (.slice A5 (l.length + 1) d5))
     have HW6 := hid (HW5.out.setCell (p := ⟨w.heap.size + 1, 4, none⟩) (Nat.le_succ _) (.slice A5 (l.length + 1) d5))
     have hXF : X ≠ F := by omega
     have hXG : X ≠ w.heap.size := by omega
     change Code.wp _ _ _ _ (w5.setCell ⟨w.heap.size + 1, 4, none⟩ (.slice A5 (l.length + 1) d5))
     generalize (w5.setCell ⟨w.heap.size + 1, 4, none⟩ (.slice A5 (l.length + 1) d5)) = W6 at *
     have HO6 := hid (show Blk W6 (w.heap.size + 1) 50 #[.int .i64 4, .bool false, .int .i64 0, .string ⟨#[]⟩, .slice A5 (l.length + 1) d5, .slice none 0 0] from HO6.out)
     clear c0 c1 c2 c3 c4 c5 c6 c7 o4 fo4 p4 fp4 HF4 HO4 HG4 HX4 HC4 HW4 HF5 HO5 HG5 HX5 HC5 HW5 HT4 HOWN hxo
     have c6 : W6.cell? ⟨X, 6, none⟩ = some (.int .i64 e) := HX6.out.cell 6
     have hlen : (l ++ [v]).length = l.length + 1 := by simp
     cases hne : next s e with
     | err p c =>
      have hc := next_code hne
      have uc : (c != 0) = true := by rw [bne_iff_ne]; exact hc
      have HVG := hid (show RES = .err p c from by rw [HVF.out, hne])
      clear hc HVF
      have HNX := hid (rnext_far s e W6 (by omega) (by omega) (by omega))
      rw [hne] at HNX
      go_wp2_with fail
      refine HNX.out.mono ?_
      rintro ev wn7 ⟨rfl, hb7⟩
      clear HNX
      have HF7a := hid (HF6.out.onto hb7)
      have HG7a := hid (HG6.out.onto hb7)
      have HO7a := hid (HO6.out.onto hb7)
      have HX7a := hid (HX6.out.onto hb7)
      have HC7a := hid (HC6.out.onto hb7)
      have HW7a := hid (HW6.out.trans (hb7.mono HW6.out.size))
      obtain ⟨⟨yy0, yy1, yy2, yy3, yy4⟩, y0, y1, y2, y3, y4⟩ := tokf HF7a.out
      clear hb7
      unfold Tk.Ans.val
      go_upto_region 12 with fail
      have HF7 := hid (blk_tokZ HF7a.out)
      have HG7 := hid (far_tokZ HG7a.out (F := F) (by omega))
      have HO7 := hid (far_tokZ HO7a.out (F := F) (by omega))
      have HX7 := hid (far_tokZ HX7a.out (F := F) (by omega))
      have HC7 := hid (coll_tokZ HC7a.out (F := F) (.inr rfl))
      have HW7 := hid (below_tokZ HW7a.out hwF)
      change Code.wp _ _ _ _ (tokZ wn7 F)
      generalize tokZ wn7 F = W7 at *
      clear y0 y1 y2 y3 y4 yy0 yy1 yy2 yy3 yy4
      go_wp2_with fail
      refine (wrong_any6 p c W7).mono ?_
      rintro ev wz8 ⟨rfl, hb8⟩
      have HG8 := hid (HG7.out.onto hb8)
      have HW8 := hid (HW7.out.trans (hb8.mono HW7.out.size))
      clear hb8
      obtain ⟨⟨q0, q1, q2, q3, q4, q5, q6, q7⟩, x0, x1, x2, x3, x4, x5, x6, x7⟩ := box8 HG8.out
      go_wp2_with fail
      try simp only [Exit.inBlock, Exit.then]
      refine bodyPost_ret (v := .agg #[.int .i64 0, .bool false, .int .i64 0, .string ⟨#[]⟩, .slice none 0 0, .slice none 0 0, .int .i64 (p : Int), .int .i64 c]) (by simp [results, Tryz.results46, go_sem, q0, q1, q2, q3, q4, q5, q6, q7]) rfl ?_
      rw [HVG.out]
      exact ⟨rfl, below_put8 HW8.out (Nat.le_refl _) _ _ _ _ _ _ _ _⟩
     | tok y =>
      obtain ⟨⟨hy1', hy2', hy3'⟩, hy4'⟩ := Rd.ok_next hes hne
      have HNX := hid (rnext_far s e W6 (by omega) (by omega) (by omega))
      rw [hne] at HNX
      go_wp2_with fail
      refine HNX.out.mono ?_
      rintro ev wn7 ⟨rfl, hb7⟩
      clear HNX
      have HF7a := hid (HF6.out.onto hb7)
      have HG7a := hid (HG6.out.onto hb7)
      have HO7a := hid (HO6.out.onto hb7)
      have HX7a := hid (HX6.out.onto hb7)
      have HC7a := hid (HC6.out.onto hb7)
      have HW7a := hid (HW6.out.trans (hb7.mono HW6.out.size))
      obtain ⟨⟨yy0, yy1, yy2, yy3, yy4⟩, y0, y1, y2, y3, y4⟩ := tokf HF7a.out
      clear hb7
      unfold Tk.Ans.val
      go_upto_region 12 with fail
      have HF7 := hid (blk_tokP HF7a.out y)
      have HG7 := hid (far_tokP HG7a.out (F := F) (by omega) y)
      have HO7 := hid (far_tokP HO7a.out (F := F) (by omega) y)
      have HX7 := hid (far_tokP HX7a.out (F := F) (by omega) y)
      have HC7 := hid (coll_tokP HC7a.out (F := F) (.inr rfl) y)
      have HW7 := hid (below_tokP HW7a.out hwF y)
      change Code.wp _ _ _ _ (tokP wn7 F y)
      generalize tokP wn7 F y = W7 at *
      clear y0 y1 y2 y3 y4 yy0 yy1 yy2 yy3 yy4
      obtain ⟨f0, f1, f2, f3, f4⟩ := tokc HF7.out
      by_cases h93 : Rd.isM y 93
      ·
       have HVG := hid (show RES = .val (Rd.arrT (l ++ [v])) y.fin from by rw [HVF.out, hne]; exact if_pos h93)
       have HSG := hid (sign_any6 y W7)
       rw [Rd.sign_yes (t := y) (c := 93) ⟨#[93]⟩ rfl h93] at HSG
       go_wp2_with fail
       refine HSG.out.mono ?_
       rintro ev ws8 ⟨rfl, hb8⟩
       clear HSG
       have HF8 := hid (HF7.out.onto hb8)
       have HG8 := hid (HG7.out.onto hb8)
       have HO8 := hid (HO7.out.onto hb8)
       have HX8 := hid (HX7.out.onto hb8)
       have HC8 := hid (HC7.out.onto hb8)
       have HW8 := hid (HW7.out.trans (hb8.mono HW7.out.size))
       clear hb8 f0 f1 f2 f3 f4
       obtain ⟨f0, f1, f2, f3, f4⟩ := tokc HF8.out
       have o0 : ws8.cell? ⟨w.heap.size + 1, 0, none⟩ = some (.int .i64 4) := HO8.out.cell 0
       have o1 : ws8.cell? ⟨w.heap.size + 1, 1, none⟩ = some (.bool false) := HO8.out.cell 1
       have o2 : ws8.cell? ⟨w.heap.size + 1, 2, none⟩ = some (.int .i64 0) := HO8.out.cell 2
       have o3 : ws8.cell? ⟨w.heap.size + 1, 3, none⟩ = some (.string ⟨#[]⟩) := HO8.out.cell 3
       have o4 : ws8.cell? ⟨w.heap.size + 1, 4, none⟩ = some (.slice A5 (l.length + 1) d5) := HO8.out.cell 4
       have o5 : ws8.cell? ⟨w.heap.size + 1, 5, none⟩ = some (.slice none 0 0) := HO8.out.cell 5
       obtain ⟨hq0, hld, hvr⟩ := HC8.out.vreads
       have HTV := hid (show TV ws8 (fun q => w.heap.size ≤ q ∧ q < ws8.heap.size ∧ q ≠ w.heap.size) (Rd.arrT (l ++ [v])) A5 d5 none 0 from TV.of (by show (l ++ [v]).length ≤ d5; omega) (Nat.zero_le _) (fun hn => (VReads.wide hvr (fun q hq => ⟨by have h : ¬ q < w.heap.size + 2 := fun h => hq.2 (.inl h); omega, hq.1, by have h : ¬ q < w.heap.size + 2 := fun h => hq.2 (.inl h); omega⟩)) hn) (SReads.none_ _ _ _))
       clear hvr hld hq0
       obtain ⟨⟨q0, q1, q2, q3, q4, q5, q6, q7⟩, x0, x1, x2, x3, x4, x5, x6, x7⟩ := box8 HG8.out
       go_wp2_with fail
       try simp only [Exit.inBlock, Exit.then]
       refine bodyPost_ret (v := .agg #[.int .i64 4, .bool false, .int .i64 0, .string ⟨#[]⟩, .slice A5 (l.length + 1) d5, .slice none 0 0, .int .i64 (y.fin : Int), .int .i64 0]) (by simp [results, Tryz.results46, go_sem, q0, q1, q2, q3, q4, q5, q6, q7]) rfl ?_
       rw [HVG.out]
       exact ⟨A5, d5, none, 0, by show _ = Ending.returned (.agg #[.int .i64 4, .bool false, .int .i64 0, .string ⟨#[]⟩, .slice A5 (l ++ [v]).length d5, .slice none 0 0, .int .i64 y.fin, .int .i64 0]); rw [hlen], box_put8 HTV.out _ _ _ _ _ _ _ _, below_put8 HW8.out (Nat.le_refl _) _ _ _ _ _ _ _ _⟩
      ·
       by_cases h44 : Rd.isM y 44
       ·
        have HVG := hid (show Rd.itemsV s (m - 1) room y.fin (l ++ [v]) = RES from by rw [HVF.out, hne]; show _ = if Rd.isM y 93 then _ else _; rw [if_neg h93, if_neg (fun h => h h44)])
        have n1 := Rd.sign_no (t := y) (c := 93) ⟨#[93]⟩ rfl (by unfold Tk.nix; decide) h93
        have n1' : ((Rd.signT y).toList == [93]) = false := by have h := n1; rw [ByteArray.toList_eq ⟨#[93]⟩] at h; exact h
        have HSG := hid (sign_any6 y W7)
        go_wp2_with fail
        refine HSG.out.mono ?_
        rintro ev ws8 ⟨rfl, hb8⟩
        clear HSG
        have HF8 := hid (HF7.out.onto hb8)
        have HG8 := hid (HG7.out.onto hb8)
        have HO8 := hid (HO7.out.onto hb8)
        have HX8 := hid (HX7.out.onto hb8)
        have HC8 := hid (HC7.out.onto hb8)
        have HW8 := hid (HW7.out.trans (hb8.mono HW7.out.size))
        clear hb8 f0 f1 f2 f3 f4
        obtain ⟨f0, f1, f2, f3, f4⟩ := tokc HF8.out
        have HSG := hid (sign_any6 y ws8)
        rw [Rd.sign_yes (t := y) (c := 44) ⟨#[44]⟩ rfl h44] at HSG
        go_wp2_with fail
        refine HSG.out.mono ?_
        rintro ev ws9 ⟨rfl, hb9⟩
        clear HSG
        have HF9 := hid (HF8.out.onto hb9)
        have HG9 := hid (HG8.out.onto hb9)
        have HO9 := hid (HO8.out.onto hb9)
        have HX9 := hid (HX8.out.onto hb9)
        have HC9 := hid (HC8.out.onto hb9)
        have HW9 := hid (HW8.out.trans (hb9.mono HW8.out.size))
        clear hb9 f0 f1 f2 f3 f4
        obtain ⟨f0, f1, f2, f3, f4⟩ := tokc HF9.out
        have HFU2 := hid (show ∀ u, next s y.fin = .tok u → 2 * (s.size - u.at_) + 2 ≤ m - 1 from fun u hu => by
         obtain ⟨⟨z1, z2, z3⟩, z4⟩ := Rd.ok_next hy2' hu
         have hya := hy3' (by rw [h44.1]; decide)
         rcases hnk : next s k with ⟨t⟩ | ⟨p, c⟩
         ·
          have := HFU.out t hnk
          obtain ⟨⟨k1, k2, k3⟩, k4⟩ := Rd.ok_next hk hnk
          have := HLE.out t hnk
          omega
         · exact absurd hnk (HNE.out p c))
        have hyf : l.length + 1 ≤ y.fin := by have := hy3' (by rw [h44.1]; decide); omega
        have hkf : k < y.fin := by have := hy3' (by rw [h44.1]; decide); omega
        have HO9 := hid (show Blk ws9 (w.heap.size + 1) 50 #[.int .i64 4, .bool false, .int .i64 0, .string ⟨#[]⟩, .slice A5 (l ++ [v]).length d5, .slice none 0 0] from by rw [hlen]; exact HO9.out)
        have HC9 := hid (show Coll 50 ws9 (w.heap.size + 2) (fun b => b < w.heap.size + 2 ∨ b = F) (l ++ [v]) (.slice A5 (l ++ [v]).length d5) _ from by rw [hlen]; exact HC9.out)
        go_wp2_with fail
        clear h44 h93 n1 n1' hne
        go_roundw
        case rel => exact ⟨m - 1, y.fin, l ++ [v], A5, d5, _, y, _, _, rfl, rfl, rfl, hy2', by omega, HVG.out, HFU2.out, by rw [hlen]; exact hyf, HF9.out, HO9.out, HC9.out, HG9.out, HW9.out⟩
        case measure => simp [intOf]; omega
       ·
        have HVG := hid (show RES = .err y.at_ 1 from by rw [HVF.out, hne]; show (if Rd.isM y 93 then _ else _) = _; rw [if_neg h93, if_pos h44])
        have n1 := Rd.sign_no (t := y) (c := 93) ⟨#[93]⟩ rfl (by unfold Tk.nix; decide) h93
        have n1' : ((Rd.signT y).toList == [93]) = false := by have h := n1; rw [ByteArray.toList_eq ⟨#[93]⟩] at h; exact h
        have n2 := Rd.sign_no (t := y) (c := 44) ⟨#[44]⟩ rfl (by unfold Tk.nix; decide) h44
        have n2' : ((Rd.signT y).toList == [44]) = false := by have h := n2; rw [ByteArray.toList_eq ⟨#[44]⟩] at h; exact h
        have HSG := hid (sign_any6 y W7)
        go_wp2_with fail
        refine HSG.out.mono ?_
        rintro ev ws8 ⟨rfl, hb8⟩
        clear HSG
        have HF8 := hid (HF7.out.onto hb8)
        have HG8 := hid (HG7.out.onto hb8)
        have HO8 := hid (HO7.out.onto hb8)
        have HX8 := hid (HX7.out.onto hb8)
        have HC8 := hid (HC7.out.onto hb8)
        have HW8 := hid (HW7.out.trans (hb8.mono HW7.out.size))
        clear hb8 f0 f1 f2 f3 f4
        obtain ⟨f0, f1, f2, f3, f4⟩ := tokc HF8.out
        have HSG := hid (sign_any6 y ws8)
        go_wp2_with fail
        refine HSG.out.mono ?_
        rintro ev ws9 ⟨rfl, hb9⟩
        clear HSG
        have HF9 := hid (HF8.out.onto hb9)
        have HG9 := hid (HG8.out.onto hb9)
        have HO9 := hid (HO8.out.onto hb9)
        have HX9 := hid (HX8.out.onto hb9)
        have HC9 := hid (HC8.out.onto hb9)
        have HW9 := hid (HW8.out.trans (hb9.mono HW8.out.size))
        clear hb9 f0 f1 f2 f3 f4
        obtain ⟨f0, f1, f2, f3, f4⟩ := tokc HF9.out
        go_wp2_with fail
        refine (wrong_any6 y.at_ 1 ws9).mono ?_
        rintro ev wz10 ⟨rfl, hb10⟩
        have HG10 := hid (HG9.out.onto hb10)
        have HW10 := hid (HW9.out.trans (hb10.mono HW9.out.size))
        clear hb10
        obtain ⟨⟨q0, q1, q2, q3, q4, q5, q6, q7⟩, x0, x1, x2, x3, x4, x5, x6, x7⟩ := box8 HG10.out
        go_wp2_with fail
        try simp only [Exit.inBlock, Exit.then]
        refine bodyPost_ret (v := .agg #[.int .i64 0, .bool false, .int .i64 0, .string ⟨#[]⟩, .slice none 0 0, .slice none 0 0, .int .i64 (y.at_ : Int), .int .i64 1]) (by simp [results, Tryz.results46, go_sem, q0, q1, q2, q3, q4, q5, q6, q7]) rfl ?_
        rw [HVG.out]
        exact ⟨rfl, below_put8 HW10.out (Nat.le_refl _) _ _ _ _ _ _ _ _⟩
end Go.Proofs.YtgblenoaeanogaaGreatDoor
