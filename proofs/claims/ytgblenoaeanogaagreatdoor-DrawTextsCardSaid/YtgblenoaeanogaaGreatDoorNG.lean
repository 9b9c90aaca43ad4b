/- The reference's reader: an object: contract. -/
import Derived.Test.YtgblenoaeanogaaGreatDoorNF
import Derived.Test.YtgblenoaeanogaaGreatDoorOV
import Derived.Outline
import Derived.Deep.LoopGhost
set_option linter.unusedVariables false
set_option maxRecDepth 100000
set_option maxHeartbeats 8000000
open Go.Lib (hid)
namespace Go.Proofs.YtgblenoaeanogaaGreatDoor
open Go.RowKit
open Tk
theorem first_at {l : List ByteArray} {q : ByteArray} (h : q ∈ l) : ∃ p, p < l.length ∧ l[p]? = some q ∧ ∀ (i : Nat) (x : ByteArray), i < p → l[i]? = some x → x ≠ q := by
 induction l with
 | nil => cases h
 | cons a l ih =>
  by_cases e : a = q
  · exact ⟨0, by simp, by simp [e], fun i x h => by omega⟩
  ·
   have h2 : q ∈ l := by
    rcases List.mem_cons.1 h with h | h
    · exact absurd h.symm e
    · exact h
   obtain ⟨p, h1, h2, h3⟩ := ih h2
   refine ⟨p + 1, by simp only [List.length_cons]; omega, by simpa using h2, fun i x hi hx => ?_⟩
   cases i with
   | zero => simp at hx; exact hx ▸ e
   | succ i => exact h3 i x (by omega) (by simpa using hx)
theorem find_has (t : T) (A : Option Addr) (c : Nat) (A' : Option Addr) (c' : Nat) (q : ByteArray) (w : World) (hl : t.keys.length ≤ 100000) (hr : SReads w (· < w.heap.size) A' t.keys) (hq : q ∈ t.keys) :
 Calls Tryz.prog 65 #[.agg #[.int .i64 t.kind, .bool t.tr, .int .i64 t.num, .string t.str, .slice A t.items.length c, .slice A' t.keys.length c'], .string q] w fun e w' => ∃ p : Nat, e = .returned (.int .i64 p) ∧ Below w.heap.size w w' := by
 obtain ⟨p, h1, h2, h3⟩ := first_at hq
 refine (rfind_any t A c A' c' q p w hl hr (Nat.le_of_lt h1) h3 (fun _ => h2) p (fun _ => rfl) (fun h => by omega)).mono ?_
 rintro e w' ⟨rfl, hb⟩
 exact ⟨p, rfl, hb⟩
theorem find_not (t : T) (A : Option Addr) (c : Nat) (A' : Option Addr) (c' : Nat) (q : ByteArray) (w : World) (hl : t.keys.length ≤ 100000) (hr : SReads w (· < w.heap.size) A' t.keys) (hq : q ∉ t.keys) :
 Calls Tryz.prog 65 #[.agg #[.int .i64 t.kind, .bool t.tr, .int .i64 t.num, .string t.str, .slice A t.items.length c, .slice A' t.keys.length c'], .string q] w fun e w' => e = .returned (.int .i64 (-1)) ∧ Below w.heap.size w w' :=
 rfind_any t A c A' c' q t.keys.length w hl hr (Nat.le_refl _) (fun i x _ hx h => hq (h ▸ List.mem_of_getElem? hx)) (fun h => by omega) (-1) (fun h => by omega) (fun _ => rfl)
theorem put_c (S : Nat → Prop) (t x : T) (A : Option Addr) (c : Nat) (A' : Option Addr) (c' : Nat) (B : Option Addr) (d : Nat) (B' : Option Addr) (d' : Nat) (q : ByteArray) (w : World) (hkl : t.keys.length ≤ 100000) (hil : t.items.length = t.keys.length) (hS : ∀ b, S b → b < w.heap.size) (hv : TV w S t A c A' c') (hx : TV w S x B d B' d') (hh : ¬ t.keys[rank t.keys q]? = some q) :
 Calls Tryz.prog 66 #[.agg #[.int .i64 t.kind, .bool t.tr, .int .i64 t.num, .string t.str, .slice A t.items.length c, .slice A' t.keys.length c'], .string q, .agg #[.int .i64 x.kind, .bool x.tr, .int .i64 x.num, .string x.str, .slice B x.items.length d, .slice B' x.keys.length d']] w (PutPost S t x q w) := put_new S t x A c A' c' B d B' d' q w hkl hil hS hv hx hh
theorem tv_tokP {lo F : Nat} {w2 : World} {V : T} {A : Option Addr} {c : Nat} {A' : Option Addr} {c' : Nat} (hT : TV w2 (fun b => lo ≤ b ∧ b ≠ F ∧ b < w2.heap.size) V A c A' c') (t : Tok) : TV (tokP w2 F t) (fun b => lo ≤ b ∧ b ≠ F ∧ b < (tokP w2 F t).heap.size) V A c A' c' :=
 (hT.keep fun k hk => by unfold tokP; rw [Below.heap_setCell _ _ _ _ hk.2.1, Below.heap_setCell _ _ _ _ hk.2.1, Below.heap_setCell _ _ _ _ hk.2.1, Below.heap_setCell _ _ _ _ hk.2.1, Below.heap_setCell _ _ _ _ hk.2.1]).wide fun k hk => ⟨hk.1, hk.2.1, by unfold tokP; rw [setCell_size, setCell_size, setCell_size, setCell_size, setCell_size]; exact hk.2.2⟩
namespace Rd
def objV (s : ByteArray) (n room i : Nat) : Res := match next s i with
 | .err p c => .err p c
 | .tok u => if isM u 125 then .val (Ob []) u.fin else membsF Ob s n room u []
theorem Ob_keys (m : List (ByteArray × T)) : (Ob m).keys = srt (m.map Prod.fst) := rfl
theorem Ob_lens (m : List (ByteArray × T)) : (Ob m).items.length = (Ob m).keys.length := by rw [Ob_eq]; exact List.length_map ..
theorem Ob_klen (m : List (ByteArray × T)) : (Ob m).keys.length = m.length := by rw [Ob_keys, srt_len, List.length_map]
theorem Ob_mem {m : List (ByteArray × T)} {q : ByteArray} : q ∈ (Ob m).keys ↔ hasK m q = true := by rw [hasK_iff, Ob_keys, (srt_perm _).mem_iff]
def tailV (s : ByteArray) (n room : Nat) (m : List (ByteArray × T)) (y : Tok) : Res := if isM y 125 then .val (Ob m) y.fin else if ¬ isM y 44 then .err y.at_ 1 else match next s y.fin with
 | .err p c => .err p c
 | .tok z => membsF Ob s n room z m
def afterV (s : ByteArray) (n room e : Nat) (m : List (ByteArray × T)) : Res := match next s e with
 | .err p c => .err p c
 | .tok y => tailV s n room m y
def valV (s : ByteArray) (n room : Nat) (q : ByteArray) (acc : List (ByteArray × T)) (u : Tok) : Res := if ¬ isM u 58 then .err u.at_ 1 else match valF s n room u.fin with
 | .out => .out
 | .err p c => .err p c
 | .val v e => afterV s n room e (acc ++ [(q, v)])
def keyV (s : ByteArray) (n room : Nat) (t : Tok) (acc : List (ByteArray × T)) : Res := match next s t.fin with
 | .err p c => .err p c
 | .tok u => valV s n room t.text acc u
theorem membs_step {s : ByteArray} {n room : Nat} {t : Tok} {acc : List (ByteArray × T)} : membsF Ob s (n + 1) room t acc = (if t.kind ≠ 2 then .err t.at_ 1
 else if hasK acc t.text = true then .err t.at_ 5
 else keyV s n room t acc) := by
 rw [membsF]
 unfold keyV
 split
 · rfl
 ·
  split
  · rfl
  ·
   cases next s t.fin with
   | err p c => rfl
   | tok u =>
    dsimp only
    unfold valV
    split
    · rfl
    ·
     unfold valF
     cases next s u.fin with
     | err p c => rfl
     | tok x =>
      dsimp only
      cases fromF Ob s n room x with
      | out => rfl
      | err p c => rfl
      | val v e =>
       dsimp only
       unfold afterV
       cases next s e <;> rfl
theorem key_err {s : ByteArray} {n room : Nat} {t : Tok} {acc : List (ByteArray × T)} {p : Nat} {c : Int} (h : next s t.fin = .err p c) : keyV s n room t acc = .err p c := by unfold keyV; rw [h]
theorem key_bad {s : ByteArray} {n room : Nat} {t u : Tok} {acc : List (ByteArray × T)} (h : next s t.fin = .tok u) (k : ¬ isM u 58) : keyV s n room t acc = .err u.at_ 1 := by unfold keyV; rw [h]; exact if_pos k
theorem key_valerr {s : ByteArray} {n room : Nat} {t u : Tok} {acc : List (ByteArray × T)} {p : Nat} {c : Int} (h : next s t.fin = .tok u) (k : isM u 58) (hv : valF s n room u.fin = .err p c) : keyV s n room t acc = .err p c := by
 unfold keyV; rw [h]; dsimp only; unfold valV; rw [if_neg (fun h => h k), hv]
theorem key_val {s : ByteArray} {n room e : Nat} {t u : Tok} {acc : List (ByteArray × T)} {v : T} (h : next s t.fin = .tok u) (k : isM u 58) (hv : valF s n room u.fin = .val v e) : keyV s n room t acc = afterV s n room e (acc ++ [(t.text, v)]) := by
 unfold keyV; rw [h]; dsimp only; unfold valV; rw [if_neg (fun h => h k), hv]
theorem after_err {s : ByteArray} {n room e : Nat} {m : List (ByteArray × T)} {p : Nat} {c : Int} (h : next s e = .err p c) : afterV s n room e m = .err p c := by unfold afterV; rw [h]
theorem after_end {s : ByteArray} {n room e : Nat} {m : List (ByteArray × T)} {y : Tok} (h : next s e = .tok y) (k : isM y 125) : afterV s n room e m = .val (Ob m) y.fin := by unfold afterV; rw [h]; exact if_pos k
theorem after_bad {s : ByteArray} {n room e : Nat} {m : List (ByteArray × T)} {y : Tok} (h : next s e = .tok y) (k : ¬ isM y 125) (k2 : ¬ isM y 44) : afterV s n room e m = .err y.at_ 1 := by
 unfold afterV; rw [h]; dsimp only; unfold tailV; rw [if_neg k, if_pos k2]
theorem after_nerr {s : ByteArray} {n room e : Nat} {m : List (ByteArray × T)} {y : Tok} {p : Nat} {c : Int} (h : next s e = .tok y) (k : ¬ isM y 125) (k2 : isM y 44) (h3 : next s y.fin = .err p c) : afterV s n room e m = .err p c := by
 unfold afterV; rw [h]; dsimp only; unfold tailV; rw [if_neg k, if_neg (fun h => h k2), h3]
theorem after_next {s : ByteArray} {n room e : Nat} {m : List (ByteArray × T)} {y z : Tok} (h : next s e = .tok y) (k : ¬ isM y 125) (k2 : isM y 44) (h3 : next s y.fin = .tok z) : afterV s n room e m = membsF Ob s n room z m := by
 unfold afterV; rw [h]; dsimp only; unfold tailV; rw [if_neg k, if_neg (fun h => h k2), h3]
end Rd
theorem r6object_any (
 s : ByteArray) (hs : s.size ≤ 520) (n : Nat) (IH : ∀ k, k < n → ValAt s k) (room inn dep i : Nat) (w : World) (hd : dep = inn + room) (hd2 : dep ≤ 1000) (hi : i ≤ s.size) (hn : ∀ u, next s i = .tok u → 2 * (s.size - u.at_) + 2 ≤ n) :
 Calls Tryz.prog 47 #[.string s, .int .i64 i, .int .i64 inn, .int .i64 dep] w (AGives (Rd.objV s n room i) w) := by
 have HN := hid hn
 have HI := hid IH
 have HD := hid hd
 clear hn IH hd
 have HR := hid (show Rd.objV s n room i = _ from rfl)
 cases hnx : next s i with
 | err p c =>
  rw [show Rd.objV s n room i = .err p c from by unfold Rd.objV; rw [hnx]]
  have hc := next_code hnx
  have uc : (c != 0) = true := by rw [bne_iff_ne]; exact hc
  clear hc HR
  have hbe : Below w.heap.size w ((w.alloc (.cells #[.int .i64 0, .bool false, .int .i64 0, .string ⟨#[]⟩, .slice none 0 0, .slice none 0 0, .int .i64 0, .int .i64 0] 80)).alloc (.cells #[.int .i64 5, .bool false, .int .i64 0, .string ⟨#[]⟩, .slice none 0 0, .slice none 0 0] 50)) := ((Below.refl _ _).alloc (Nat.le_refl _) _).alloc (by simp) _
  have HG0 := hid ((Blk.new w 80 #[.int .i64 0, .bool false, .int .i64 0, .string ⟨#[]⟩, .slice none 0 0, .slice none 0 0, .int .i64 0, .int .i64 0]).alloc (.cells #[.int .i64 5, .bool false, .int .i64 0, .string ⟨#[]⟩, .slice none 0 0, .slice none 0 0] 50))
  have HO0 := hid (show Blk ((w.alloc (.cells #[.int .i64 0, .bool false, .int .i64 0, .string ⟨#[]⟩, .slice none 0 0, .slice none 0 0, .int .i64 0, .int .i64 0] 80)).alloc (.cells #[.int .i64 5, .bool false, .int .i64 0, .string ⟨#[]⟩, .slice none 0 0, .slice none 0 0] 50)) (w.heap.size + 1) 50 #[.int .i64 5, .bool false, .int .i64 0, .string ⟨#[]⟩, .slice none 0 0, .slice none 0 0] from by have := Blk.new (w.alloc (.cells #[.int .i64 0, .bool false, .int .i64 0, .string ⟨#[]⟩, .slice none 0 0, .slice none 0 0, .int .i64 0, .int .i64 0] 80)) 50 #[.int .i64 5, .bool false, .int .i64 0, .string ⟨#[]⟩, .slice none 0 0, .slice none 0 0]; rwa [World.size_alloc] at this)
  have HW0 := hid hbe
  clear hbe
  go_enter Tryz.func47, Tryz.ntmps47
  go_upto_region 2 with fail
  change Code.wp _ _ _ _ ((w.alloc (.cells #[.int .i64 0, .bool false, .int .i64 0, .string ⟨#[]⟩, .slice none 0 0, .slice none 0 0, .int .i64 0, .int .i64 0] 80)).alloc (.cells #[.int .i64 5, .bool false, .int .i64 0, .string ⟨#[]⟩, .slice none 0 0, .slice none 0 0] 50))
  generalize ((w.alloc (.cells #[.int .i64 0, .bool false, .int .i64 0, .string ⟨#[]⟩, .slice none 0 0, .slice none 0 0, .int .i64 0, .int .i64 0] 80)).alloc (.cells #[.int .i64 5, .bool false, .int .i64 0, .string ⟨#[]⟩, .slice none 0 0, .slice none 0 0] 50)) = W0 at *
  have hlt0 := HO0.out.lt
  have HNX := hid (rnext_far s i W0 (by omega) (by omega) hi)
  rw [hnx] at HNX
  go_wp2_with fail
  refine HNX.out.mono ?_
  rintro ev w1 ⟨rfl, hb1⟩
  clear HNX
  have hb1a := hb1.alloc hb1.size (.cells #[.int .i64 0, .string ⟨#[]⟩, .int .i64 0, .int .i64 0, .int .i64 0] 83)
  have HF1 := hid (Blk.new w1 83 #[.int .i64 0, .string ⟨#[]⟩, .int .i64 0, .int .i64 0, .int .i64 0])
  have HG1 := hid (HG0.out.onto hb1a)
  have HO1 := hid (HO0.out.onto hb1a)
  have HW1 := hid (HW0.out.trans (hb1a.mono HW0.out.size))
  have hGF : w.heap.size + 1 < w1.heap.size := by have := hb1.size; omega
  clear hb1 hb1a HG0 HO0 HW0
  unfold Tk.Ans.val
  go_upto_region 3 with fail
  change Code.wp _ _ _ _ (w1.alloc (.cells #[.int .i64 0, .string ⟨#[]⟩, .int .i64 0, .int .i64 0, .int .i64 0] 83))
  generalize (w1.alloc (.cells #[.int .i64 0, .string ⟨#[]⟩, .int .i64 0, .int .i64 0, .int .i64 0] 83)) = W1 at *
  generalize w1.heap.size = F at *
  have hwF : w.heap.size ≤ F := by omega
  go_wp2_with fail
  refine (wrong_any6 p c W1).mono ?_
  rintro ev wz2 ⟨rfl, hb2⟩
  have HG2 := hid (HG1.out.onto hb2)
  have HW2 := hid (HW1.out.trans (hb2.mono HW1.out.size))
  clear hb2
  obtain ⟨⟨q0, q1, q2, q3, q4, q5, q6, q7⟩, x0, x1, x2, x3, x4, x5, x6, x7⟩ := box8 HG2.out
  go_wp2_with fail
  try simp only [Exit.inBlock, Exit.then]
  refine bodyPost_ret (v := .agg #[.int .i64 0, .bool false, .int .i64 0, .string ⟨#[]⟩, .slice none 0 0, .slice none 0 0, .int .i64 (p : Int), .int .i64 c]) (by simp [results, Tryz.results47, go_sem, q0, q1, q2, q3, q4, q5, q6, q7]) rfl ?_
  exact ⟨rfl, below_put8 HW2.out (Nat.le_refl _) _ _ _ _ _ _ _ _⟩
 | tok u =>
  have hok := Rd.ok_next hi hnx
  have hn2 : 2 ≤ n := by have := HN.out u hnx; omega
  by_cases h125 : Rd.isM u 125
  ·
   rw [show Rd.objV s n room i = .val (Rd.Ob []) u.fin from by unfold Rd.objV; rw [hnx]; exact if_pos h125, Rd.Ob_nil]
   have hbe : Below w.heap.size w ((w.alloc (.cells #[.int .i64 0, .bool false, .int .i64 0, .string ⟨#[]⟩, .slice none 0 0, .slice none 0 0, .int .i64 0, .int .i64 0] 80)).alloc (.cells #[.int .i64 5, .bool false, .int .i64 0, .string ⟨#[]⟩, .slice none 0 0, .slice none 0 0] 50)) := ((Below.refl _ _).alloc (Nat.le_refl _) _).alloc (by simp) _
   have HG0 := hid ((Blk.new w 80 #[.int .i64 0, .bool false, .int .i64 0, .string ⟨#[]⟩, .slice none 0 0, .slice none 0 0, .int .i64 0, .int .i64 0]).alloc (.cells #[.int .i64 5, .bool false, .int .i64 0, .string ⟨#[]⟩, .slice none 0 0, .slice none 0 0] 50))
   have HO0 := hid (show Blk ((w.alloc (.cells #[.int .i64 0, .bool false, .int .i64 0, .string ⟨#[]⟩, .slice none 0 0, .slice none 0 0, .int .i64 0, .int .i64 0] 80)).alloc (.cells #[.int .i64 5, .bool false, .int .i64 0, .string ⟨#[]⟩, .slice none 0 0, .slice none 0 0] 50)) (w.heap.size + 1) 50 #[.int .i64 5, .bool false, .int .i64 0, .string ⟨#[]⟩, .slice none 0 0, .slice none 0 0] from by have := Blk.new (w.alloc (.cells #[.int .i64 0, .bool false, .int .i64 0, .string ⟨#[]⟩, .slice none 0 0, .slice none 0 0, .int .i64 0, .int .i64 0] 80)) 50 #[.int .i64 5, .bool false, .int .i64 0, .string ⟨#[]⟩, .slice none 0 0, .slice none 0 0]; rwa [World.size_alloc] at this)
   have HW0 := hid hbe
   clear hbe
   go_enter Tryz.func47, Tryz.ntmps47
   go_upto_region 2 with fail
   change Code.wp _ _ _ _ ((w.alloc (.cells #[.int .i64 0, .bool false, .int .i64 0, .string ⟨#[]⟩, .slice none 0 0, .slice none 0 0, .int .i64 0, .int .i64 0] 80)).alloc (.cells #[.int .i64 5, .bool false, .int .i64 0, .string ⟨#[]⟩, .slice none 0 0, .slice none 0 0] 50))
   generalize ((w.alloc (.cells #[.int .i64 0, .bool false, .int .i64 0, .string ⟨#[]⟩, .slice none 0 0, .slice none 0 0, .int .i64 0, .int .i64 0] 80)).alloc (.cells #[.int .i64 5, .bool false, .int .i64 0, .string ⟨#[]⟩, .slice none 0 0, .slice none 0 0] 50)) = W0 at *
   have hlt0 := HO0.out.lt
   have HNX := hid (rnext_far s i W0 (by omega) (by omega) hi)
   rw [hnx] at HNX
   go_wp2_with fail
   refine HNX.out.mono ?_
   rintro ev w1 ⟨rfl, hb1⟩
   clear HNX
   have hb1a := hb1.alloc hb1.size (.cells #[.int .i64 u.kind, .string u.text, .int .i64 u.num, .int .i64 u.at_, .int .i64 u.fin] 83)
   have HF1 := hid (Blk.new w1 83 #[.int .i64 u.kind, .string u.text, .int .i64 u.num, .int .i64 u.at_, .int .i64 u.fin])
   have HG1 := hid (HG0.out.onto hb1a)
   have HO1 := hid (HO0.out.onto hb1a)
   have HW1 := hid (HW0.out.trans (hb1a.mono HW0.out.size))
   have hGF : w.heap.size + 1 < w1.heap.size := by have := hb1.size; omega
   clear hb1 hb1a HG0 HO0 HW0
   unfold Tk.Ans.val
   go_upto_region 3 with fail
   change Code.wp _ _ _ _ (w1.alloc (.cells #[.int .i64 u.kind, .string u.text, .int .i64 u.num, .int .i64 u.at_, .int .i64 u.fin] 83))
   generalize (w1.alloc (.cells #[.int .i64 u.kind, .string u.text, .int .i64 u.num, .int .i64 u.at_, .int .i64 u.fin] 83)) = W1 at *
   generalize w1.heap.size = F at *
   have hwF : w.heap.size ≤ F := by omega
   obtain ⟨f0, f1, f2, f3, f4⟩ := tokc HF1.out
   have HSG := hid (sign_any6 u W1)
   rw [Rd.sign_yes (t := u) (c := 125) ⟨#[125]⟩ rfl h125] at HSG
   go_wp2_with fail
   refine HSG.out.mono ?_
   rintro ev ws2 ⟨rfl, hb2⟩
   clear HSG
   have HF2 := hid (HF1.out.onto hb2)
   have HG2 := hid (HG1.out.onto hb2)
   have HO2 := hid (HO1.out.onto hb2)
   have HW2 := hid (HW1.out.trans (hb2.mono HW1.out.size))
   clear hb2 f0 f1 f2 f3 f4
   obtain ⟨f0, f1, f2, f3, f4⟩ := tokc HF2.out
   have o0 : ws2.cell? ⟨w.heap.size + 1, 0, none⟩ = some (.int .i64 5) := HO2.out.cell 0
   have o1 : ws2.cell? ⟨w.heap.size + 1, 1, none⟩ = some (.bool false) := HO2.out.cell 1
   have o2 : ws2.cell? ⟨w.heap.size + 1, 2, none⟩ = some (.int .i64 0) := HO2.out.cell 2
   have o3 : ws2.cell? ⟨w.heap.size + 1, 3, none⟩ = some (.string ⟨#[]⟩) := HO2.out.cell 3
   have o4 : ws2.cell? ⟨w.heap.size + 1, 4, none⟩ = some (.slice none 0 0) := HO2.out.cell 4
   have o5 : ws2.cell? ⟨w.heap.size + 1, 5, none⟩ = some (.slice none 0 0) := HO2.out.cell 5
   obtain ⟨⟨q0, q1, q2, q3, q4, q5, q6, q7⟩, x0, x1, x2, x3, x4, x5, x6, x7⟩ := box8 HG2.out
   go_wp2_with fail
   try simp only [Exit.inBlock, Exit.then]
   refine bodyPost_ret (v := .agg #[.int .i64 5, .bool false, .int .i64 0, .string ⟨#[]⟩, .slice none 0 0, .slice none 0 0, .int .i64 (u.fin : Int), .int .i64 0]) (by simp [results, Tryz.results47, go_sem, q0, q1, q2, q3, q4, q5, q6, q7]) rfl ?_
   exact ⟨none, 0, none, 0, rfl, TV.leaf _ _ rfl rfl, below_put8 HW2.out (Nat.le_refl _) _ _ _ _ _ _ _ _⟩
  ·
   have HRES := hid (show Rd.membsF Rd.Ob s n room u [] = Rd.objV s n room i from by unfold Rd.objV; rw [hnx]; exact (if_neg h125).symm)
   clear HR
   generalize Rd.objV s n room i = RES at *
   have n1 := Rd.sign_no (t := u) (c := 125) ⟨#[125]⟩ rfl (by unfold Tk.nix; decide) h125
   have n1' : ((Rd.signT u).toList == [125]) = false := by have h := n1; rw [ByteArray.toList_eq ⟨#[125]⟩] at h; exact h
   have hbe : Below w.heap.size w ((w.alloc (.cells #[.int .i64 0, .bool false, .int .i64 0, .string ⟨#[]⟩, .slice none 0 0, .slice none 0 0, .int .i64 0, .int .i64 0] 80)).alloc (.cells #[.int .i64 5, .bool false, .int .i64 0, .string ⟨#[]⟩, .slice none 0 0, .slice none 0 0] 50)) := ((Below.refl _ _).alloc (Nat.le_refl _) _).alloc (by simp) _
   have HG0 := hid ((Blk.new w 80 #[.int .i64 0, .bool false, .int .i64 0, .string ⟨#[]⟩, .slice none 0 0, .slice none 0 0, .int .i64 0, .int .i64 0]).alloc (.cells #[.int .i64 5, .bool false, .int .i64 0, .string ⟨#[]⟩, .slice none 0 0, .slice none 0 0] 50))
   have HO0 := hid (show Blk ((w.alloc (.cells #[.int .i64 0, .bool false, .int .i64 0, .string ⟨#[]⟩, .slice none 0 0, .slice none 0 0, .int .i64 0, .int .i64 0] 80)).alloc (.cells #[.int .i64 5, .bool false, .int .i64 0, .string ⟨#[]⟩, .slice none 0 0, .slice none 0 0] 50)) (w.heap.size + 1) 50 #[.int .i64 5, .bool false, .int .i64 0, .string ⟨#[]⟩, .slice none 0 0, .slice none 0 0] from by have := Blk.new (w.alloc (.cells #[.int .i64 0, .bool false, .int .i64 0, .string ⟨#[]⟩, .slice none 0 0, .slice none 0 0, .int .i64 0, .int .i64 0] 80)) 50 #[.int .i64 5, .bool false, .int .i64 0, .string ⟨#[]⟩, .slice none 0 0, .slice none 0 0]; rwa [World.size_alloc] at this)
   have HW0 := hid hbe
   clear hbe
   go_enter Tryz.func47, Tryz.ntmps47
   go_upto_region 2 with fail
   change Code.wp _ _ _ _ ((w.alloc (.cells #[.int .i64 0, .bool false, .int .i64 0, .string ⟨#[]⟩, .slice none 0 0, .slice none 0 0, .int .i64 0, .int .i64 0] 80)).alloc (.cells #[.int .i64 5, .bool false, .int .i64 0, .string ⟨#[]⟩, .slice none 0 0, .slice none 0 0] 50))
   generalize ((w.alloc (.cells #[.int .i64 0, .bool false, .int .i64 0, .string ⟨#[]⟩, .slice none 0 0, .slice none 0 0, .int .i64 0, .int .i64 0] 80)).alloc (.cells #[.int .i64 5, .bool false, .int .i64 0, .string ⟨#[]⟩, .slice none 0 0, .slice none 0 0] 50)) = W0 at *
   have hlt0 := HO0.out.lt
   have HNX := hid (rnext_far s i W0 (by omega) (by omega) hi)
   rw [hnx] at HNX
   go_wp2_with fail
   refine HNX.out.mono ?_
   rintro ev w1 ⟨rfl, hb1⟩
   clear HNX
   have hb1a := hb1.alloc hb1.size (.cells #[.int .i64 u.kind, .string u.text, .int .i64 u.num, .int .i64 u.at_, .int .i64 u.fin] 83)
   have HF1 := hid (Blk.new w1 83 #[.int .i64 u.kind, .string u.text, .int .i64 u.num, .int .i64 u.at_, .int .i64 u.fin])
   have HG1 := hid (HG0.out.onto hb1a)
   have HO1 := hid (HO0.out.onto hb1a)
   have HW1 := hid (HW0.out.trans (hb1a.mono HW0.out.size))
   have hGF : w.heap.size + 1 < w1.heap.size := by have := hb1.size; omega
   clear hb1 hb1a HG0 HO0 HW0
   unfold Tk.Ans.val
   go_upto_region 3 with fail
   change Code.wp _ _ _ _ (w1.alloc (.cells #[.int .i64 u.kind, .string u.text, .int .i64 u.num, .int .i64 u.at_, .int .i64 u.fin] 83))
   generalize (w1.alloc (.cells #[.int .i64 u.kind, .string u.text, .int .i64 u.num, .int .i64 u.at_, .int .i64 u.fin] 83)) = W1 at *
   generalize w1.heap.size = F at *
   have hwF : w.heap.size ≤ F := by omega
   obtain ⟨f0, f1, f2, f3, f4⟩ := tokc HF1.out
   have HSG := hid (sign_any6 u W1)
   go_wp2_with fail
   refine HSG.out.mono ?_
   rintro ev ws2 ⟨rfl, hb2⟩
   clear HSG
   have HF2 := hid (HF1.out.onto hb2)
   have HG2 := hid (HG1.out.onto hb2)
   have HO2 := hid (HO1.out.onto hb2)
   have HW2 := hid (HW1.out.trans (hb2.mono HW1.out.size))
   clear hb2 f0 f1 f2 f3 f4
   have HOK := hid hok.1
   have HFU := hid (HN.out u hnx)
   go_wp2_with fail
   clear n1 n1' hok hnx h125 HN
   go_loopg [11, 12] n (fun m p9 c9 wr => ∃ (acc : List (ByteArray × T)) (V : T) (A : Option Addr) (c : Nat) (A' : Option Addr) (c' : Nat) (t : Tok) (P C : Int), p9 = .int .i64 P ∧ c9 = .int .i64 C ∧ m ≤ n ∧ Rd.membsF Rd.Ob s m room t acc = RES ∧ Rd.Ok s t ∧ 2 * (s.size - t.at_) + 2 ≤ m ∧ acc.length ≤ t.at_ ∧ V = Rd.Ob acc ∧ (acc.map Prod.fst).Nodup ∧ Blk wr F 83 #[.int .i64 t.kind, .string t.text, .int .i64 t.num, .int .i64 t.at_, .int .i64 t.fin] ∧ Blk wr (w.heap.size + 1) 50 #[.int .i64 V.kind, .bool V.tr, .int .i64 V.num, .string V.str, .slice A V.items.length c, .slice A' V.keys.length c'] ∧ TV wr (fun b => w.heap.size + 2 ≤ b ∧ b ≠ F ∧ b < wr.heap.size) V A c A' c' ∧ Blk wr w.heap.size 80 #[.int .i64 0, .bool false, .int .i64 0, .string ⟨#[]⟩, .slice none 0 0, .slice none 0 0, .int .i64 0, .int .i64 0] ∧ Below w.heap.size w wr)
   case atStart => exact ⟨[], _, none, 0, none, 0, u, 0, 0, rfl, rfl, Nat.le_refl _, HRES.out, HOK.out, HFU.out, Nat.zero_le _, Rd.Ob_nil.symm, List.nodup_nil, HF2.out, HO2.out, TV.leaf _ _ rfl rfl, HG2.out, HW2.out⟩
   case round =>
    obtain ⟨acc, V, A, c, A', c', t, P, C, rfl, rfl, hm, hres, hok, hfu, hla, hV, hnd, hF, hO, htv, hG, hW⟩ := hrel
    have HF3 := hid hF
    have HO3 := hid hO
    have HT3 := hid htv
    have HG3 := hid hG
    have HW3 := hid hW
    have HVE := hid hV
    have HND := hid hnd
    have hFl := hF.lt
    have hVl : V.keys.length = acc.length := by rw [hV]; exact Rd.Ob_klen acc
    have hVi : V.items.length = V.keys.length := by rw [hV]; exact Rd.Ob_lens acc
    have hVm : ∀ q, q ∈ V.keys ↔ Rd.hasK acc q = true := fun q => by rw [hV]; exact Rd.Ob_mem
    have HVL := hid hVl
    have HVI := hid hVi
    have HVM := hid hVm
    obtain ⟨hk1, hk2, hk3⟩ := hok
    obtain ⟨m, rfl⟩ : ∃ k, gk = k + 1 := ⟨gk - 1, by omega⟩
    rw [Rd.membs_step] at hres
    have hkl : V.keys.length ≤ 100000 := by omega
    clear hF hO htv hG hW hV hnd hVl hVi hVm HF2 HO2 HG2 HW2 HRES HOK HFU
    obtain ⟨f0, f1, f2, f3, f4⟩ := tokc HF3.out
    by_cases hk : t.kind = 2
    ·
     have u1 : (t.kind != 2) = false := by rw [hk]; rfl
     rw [if_neg (fun h => h hk)] at hres
     have hka := hk3 (by rw [hk]; decide)
     clear hk hk3
     have o0 : wr.cell? ⟨w.heap.size + 1, 0, none⟩ = some (.int .i64 V.kind) := HO3.out.cell 0
     have o1 : wr.cell? ⟨w.heap.size + 1, 1, none⟩ = some (.bool V.tr) := HO3.out.cell 1
     have o2 : wr.cell? ⟨w.heap.size + 1, 2, none⟩ = some (.int .i64 V.num) := HO3.out.cell 2
     have o3 : wr.cell? ⟨w.heap.size + 1, 3, none⟩ = some (.string V.str) := HO3.out.cell 3
     have o4 : wr.cell? ⟨w.heap.size + 1, 4, none⟩ = some (.slice A V.items.length c) := HO3.out.cell 4
     have o5 : wr.cell? ⟨w.heap.size + 1, 5, none⟩ = some (.slice A' V.keys.length c') := HO3.out.cell 5
     have HTK := hid (show SReads wr (· < wr.heap.size) A' V.keys from (HT3.out.wide (S' := (· < wr.heap.size)) fun b hb => hb.2.2).keys)
     by_cases hh : Rd.hasK acc t.text = true
     ·
      have HVG := hid (show RES = .err t.at_ 5 from by rw [← hres, if_pos hh])
      have HFI := hid (find_has V A c A' c' t.text wr hkl HTK.out ((HVM.out _).2 hh))
      clear hres hh
      go_wp2_with fail
      refine HFI.out.mono ?_
      rintro ev w4 ⟨p, rfl, hb4⟩
      clear HFI
      have up : decide ((p : Int) ≥ 0) = true := decide_eq_true (by omega)
      have up2 : decide ((0 : Int) ≤ (p : Int)) = true := decide_eq_true (by omega)
      have HF4 := hid (HF3.out.onto hb4)
      have HG4 := hid (HG3.out.onto hb4)
      have HO4 := hid (HO3.out.onto hb4)
      have HW4 := hid (HW3.out.trans (hb4.mono HW3.out.size))
      clear hb4 f0 f1 f2 f3 f4 o0 o1 o2 o3 o4 o5
      obtain ⟨f0, f1, f2, f3, f4⟩ := tokc HF4.out
      go_wp2_with fail
      refine (wrong_any6 t.at_ 5 w4).mono ?_
      rintro ev wz5 ⟨rfl, hb5⟩
      have HG5 := hid (HG4.out.onto hb5)
      have HW5 := hid (HW4.out.trans (hb5.mono HW4.out.size))
      clear hb5
      obtain ⟨⟨q0, q1, q2, q3, q4, q5, q6, q7⟩, x0, x1, x2, x3, x4, x5, x6, x7⟩ := box8 HG5.out
      go_wp2_with fail
      try simp only [Exit.inBlock, Exit.then]
      refine bodyPost_ret (v := .agg #[.int .i64 0, .bool false, .int .i64 0, .string ⟨#[]⟩, .slice none 0 0, .slice none 0 0, .int .i64 (t.at_ : Int), .int .i64 5]) (by simp [results, Tryz.results47, go_sem, q0, q1, q2, q3, q4, q5, q6, q7]) rfl ?_
      rw [HVG.out]
      exact ⟨rfl, below_put8 HW5.out (Nat.le_refl _) _ _ _ _ _ _ _ _⟩
     ·
      rw [if_neg hh] at hres
      have HFI := hid (find_not V A c A' c' t.text wr hkl HTK.out (fun h => hh ((HVM.out _).1 h)))
      have HNM := hid (show ¬ V.keys[rank V.keys t.text]? = some t.text from fun h => hh ((HVM.out _).1 (List.mem_of_getElem? h)))
      have HNQ := hid (show ((acc ++ [(t.text, T.zero)]).map Prod.fst).Nodup from by
       rw [List.map_append, List.nodup_append]
       refine ⟨HND.out, by simp, fun a ha b hb => ?_⟩
       simp at hb
       subst hb
       intro e
       subst e
       exact hh (Rd.hasK_iff.2 ha))
      clear hh
      go_wp2_with fail
      refine HFI.out.mono ?_
      rintro ev w4 ⟨rfl, hb4⟩
      clear HFI
      have HF4 := hid (HF3.out.onto hb4)
      have HG4 := hid (HG3.out.onto hb4)
      have HO4 := hid (HO3.out.onto hb4)
      have HW4 := hid (HW3.out.trans (hb4.mono HW3.out.size))
      have HT4 := hid (show TV w4 (fun b => w.heap.size + 2 ≤ b ∧ b ≠ F ∧ b < w4.heap.size) V A c A' c' from (HT3.out.keep fun b hb => hb4.block b hb.2.2).wide fun b hb => ⟨hb.1, hb.2.1, Nat.lt_of_lt_of_le hb.2.2 hb4.size⟩)
      clear hb4 f0 f1 f2 f3 f4 o0 o1 o2 o3 o4 o5 HTK
      obtain ⟨f0, f1, f2, f3, f4⟩ := tokc HF4.out
      cases hn1 : next s t.fin with
      | err p c1 =>
       have hc := next_code hn1
       have uc : (c1 != 0) = true := by rw [bne_iff_ne]; exact hc
       have HVG := hid (show RES = .err p c1 from hres.symm.trans (Rd.key_err hn1))
       clear hc hres
       have HNX := hid (rnext_far s t.fin w4 (by omega) (by omega) (by omega))
       rw [hn1] at HNX
       go_wp2_with fail
       refine HNX.out.mono ?_
       rintro ev wn5 ⟨rfl, hb5⟩
       clear HNX
       have HF5a := hid (HF4.out.onto hb5)
       have HG5a := hid (HG4.out.onto hb5)
       have HO5a := hid (HO4.out.onto hb5)
       have HW5a := hid (HW4.out.trans (hb5.mono HW4.out.size))
       obtain ⟨⟨yy0, yy1, yy2, yy3, yy4⟩, y0, y1, y2, y3, y4⟩ := tokf HF5a.out
       clear hb5
       unfold Tk.Ans.val
       go_upto_region 13 with fail
       have HF5 := hid (blk_tokZ HF5a.out)
       have HG5 := hid (far_tokZ HG5a.out (F := F) (by omega))
       have HO5 := hid (far_tokZ HO5a.out (F := F) (by omega))
       have HW5 := hid (below_tokZ HW5a.out hwF)
       change Code.wp _ _ _ _ (tokZ wn5 F)
       generalize tokZ wn5 F = W5 at *
       clear y0 y1 y2 y3 y4 yy0 yy1 yy2 yy3 yy4
       go_wp2_with fail
       refine (wrong_any6 p c1 W5).mono ?_
       rintro ev wz6 ⟨rfl, hb6⟩
       have HG6 := hid (HG5.out.onto hb6)
       have HW6 := hid (HW5.out.trans (hb6.mono HW5.out.size))
       clear hb6
       obtain ⟨⟨q0, q1, q2, q3, q4, q5, q6, q7⟩, x0, x1, x2, x3, x4, x5, x6, x7⟩ := box8 HG6.out
       go_wp2_with fail
       try simp only [Exit.inBlock, Exit.then]
       refine bodyPost_ret (v := .agg #[.int .i64 0, .bool false, .int .i64 0, .string ⟨#[]⟩, .slice none 0 0, .slice none 0 0, .int .i64 (p : Int), .int .i64 c1]) (by simp [results, Tryz.results47, go_sem, q0, q1, q2, q3, q4, q5, q6, q7]) rfl ?_
       rw [HVG.out]
       exact ⟨rfl, below_put8 HW6.out (Nat.le_refl _) _ _ _ _ _ _ _ _⟩
      | tok y =>
       obtain ⟨⟨hy1, hy2, hy3⟩, hy4⟩ := Rd.ok_next hk2 hn1
       have HN1 := hid hn1
       have HNX := hid (rnext_far s t.fin w4 (by omega) (by omega) (by omega))
       rw [hn1] at HNX
       go_wp2_with fail
       refine HNX.out.mono ?_
       rintro ev wn5 ⟨rfl, hb5⟩
       clear HNX
       have HF5a := hid (HF4.out.onto hb5)
       have HG5a := hid (HG4.out.onto hb5)
       have HO5a := hid (HO4.out.onto hb5)
       have HW5a := hid (HW4.out.trans (hb5.mono HW4.out.size))
       have HT5a := hid (show TV wn5 (fun b => w.heap.size + 2 ≤ b ∧ b ≠ F ∧ b < wn5.heap.size) V A c A' c' from (HT4.out.keep fun b hb => hb5.block b hb.2.2).wide fun b hb => ⟨hb.1, hb.2.1, Nat.lt_of_lt_of_le hb.2.2 hb5.size⟩)
       obtain ⟨⟨yy0, yy1, yy2, yy3, yy4⟩, y0, y1, y2, y3, y4⟩ := tokf HF5a.out
       clear hb5
       unfold Tk.Ans.val
       go_upto_region 13 with fail
       have HT5 := hid (tv_tokP HT5a.out y)
       have HF5 := hid (blk_tokP HF5a.out y)
       have HG5 := hid (far_tokP HG5a.out (F := F) (by omega) y)
       have HO5 := hid (far_tokP HO5a.out (F := F) (by omega) y)
       have HW5 := hid (below_tokP HW5a.out hwF y)
       change Code.wp _ _ _ _ (tokP wn5 F y)
       generalize tokP wn5 F y = W5 at *
       clear y0 y1 y2 y3 y4 yy0 yy1 yy2 yy3 yy4
       obtain ⟨f0, f1, f2, f3, f4⟩ := tokc HF5.out
       clear hn1
       by_cases h58 : Rd.isM y 58
       ·
        have HRS := hid hres
        clear hres
        have H58 := hid h58
        have hya := hy3 (by rw [h58.1]; decide)
        have hfv : ∀ x, next s y.fin = .tok x → 2 * (s.size - x.at_) + 1 ≤ m := fun x hx => by
         obtain ⟨⟨_, _, _⟩, _⟩ := Rd.ok_next hy2 hx
         omega
        have HSG := hid (sign_any6 y W5)
        rw [Rd.sign_yes (t := y) (c := 58) ⟨#[58]⟩ rfl h58] at HSG
        go_wp2_with fail
        refine HSG.out.mono ?_
        rintro ev ws6 ⟨rfl, hb6⟩
        clear HSG
        have HF6 := hid (HF5.out.onto hb6)
        have HG6 := hid (HG5.out.onto hb6)
        have HO6 := hid (HO5.out.onto hb6)
        have HW6 := hid (HW5.out.trans (hb6.mono HW5.out.size))
        have HB6 := hid hb6
        clear hb6 f0 f1 f2 f3 f4
        have HT6 := hid (show TV ws6 (fun b => w.heap.size + 2 ≤ b ∧ b ≠ F ∧ b < ws6.heap.size) V A c A' c' from (HT5.out.keep fun b hb => HB6.out.block b hb.2.2).wide fun b hb => ⟨hb.1, hb.2.1, Nat.lt_of_lt_of_le hb.2.2 HB6.out.size⟩)
        obtain ⟨f0, f1, f2, f3, f4⟩ := tokc HF6.out
        have HVC := hid (HI.out m (by omega) room inn dep y.fin ws6 HD.out hd2 hy2 hfv)
        clear h58
        cases hvr : Rd.valF s m room y.fin with
        | out => exact absurd hvr (Rd.val_out hy2 hfv)
        | err p c1 =>
         rw [hvr] at HVC
         have hvf := HRS.out.symm.trans (Rd.key_valerr HN1.out H58.out hvr)
         have hc := Rd.val_code hvr
         have uc : (c1 != 0) = true := by rw [bne_iff_ne]; exact hc
         have HVF := hid (show RES = .err p c1 from hvf)
         clear hvf hvr hc hfv
         go_wp2_with fail
         refine HVC.out.mono ?_
         rintro ev w7 ⟨rfl, hb7⟩
         clear HVC
         have hb7a := hb7.alloc hb7.size (.cells #[.int .i64 0, .bool false, .int .i64 0, .string ⟨#[]⟩, .slice none 0 0, .slice none 0 0, .int .i64 p, .int .i64 c1] 80)
         have HX := hid (Blk.new w7 80 #[.int .i64 0, .bool false, .int .i64 0, .string ⟨#[]⟩, .slice none 0 0, .slice none 0 0, .int .i64 p, .int .i64 c1])
         have HG7 := hid (HG6.out.onto hb7a)
         have HW7 := hid (HW6.out.trans (hb7a.mono HW6.out.size))
         clear hb7 hb7a f0 f1 f2 f3 f4
         go_upto_region 18 with fail
         change Code.wp _ _ _ _ (w7.alloc (.cells #[.int .i64 0, .bool false, .int .i64 0, .string ⟨#[]⟩, .slice none 0 0, .slice none 0 0, .int .i64 p, .int .i64 c1] 80))
         generalize (w7.alloc (.cells #[.int .i64 0, .bool false, .int .i64 0, .string ⟨#[]⟩, .slice none 0 0, .slice none 0 0, .int .i64 p, .int .i64 c1] 80)) = W7 at *
         generalize w7.heap.size = X at *
         have cx0 : W7.cell? ⟨X, 0, none⟩ = some (.int .i64 0) := HX.out.cell 0
         have cx1 : W7.cell? ⟨X, 1, none⟩ = some (.bool false) := HX.out.cell 1
         have cx2 : W7.cell? ⟨X, 2, none⟩ = some (.int .i64 0) := HX.out.cell 2
         have cx3 : W7.cell? ⟨X, 3, none⟩ = some (.string ⟨#[]⟩) := HX.out.cell 3
         have cx4 : W7.cell? ⟨X, 4, none⟩ = some (.slice none 0 0) := HX.out.cell 4
         have cx5 : W7.cell? ⟨X, 5, none⟩ = some (.slice none 0 0) := HX.out.cell 5
         have cx6 : W7.cell? ⟨X, 6, none⟩ = some (.int .i64 p) := HX.out.cell 6
         have cx7 : W7.cell? ⟨X, 7, none⟩ = some (.int .i64 c1) := HX.out.cell 7
         obtain ⟨⟨q0, q1, q2, q3, q4, q5, q6, q7⟩, x0, x1, x2, x3, x4, x5, x6, x7⟩ := box8 HG7.out
         go_wp2_with fail
         try simp only [Exit.inBlock, Exit.then]
         refine bodyPost_ret (v := .agg #[.int .i64 0, .bool false, .int .i64 0, .string ⟨#[]⟩, .slice none 0 0, .slice none 0 0, .int .i64 (p : Int), .int .i64 c1]) (by simp [results, Tryz.results47, go_sem, q0, q1, q2, q3, q4, q5, q6, q7]) rfl ?_
         rw [HVF.out]
         exact ⟨rfl, below_put8 HW7.out (Nat.le_refl _) _ _ _ _ _ _ _ _⟩
        | val v e =>
         obtain ⟨hke, hes⟩ := Rd.val_fine hy2 hfv hvr
         rw [hvr] at HVC
         have HVF := hid (show RES = Rd.afterV s m room e (acc ++ [(t.text, v)]) from HRS.out.symm.trans (Rd.key_val HN1.out H58.out hvr))
         clear hvr hfv
         go_wp2_with fail
         refine HVC.out.mono ?_
         rintro ev w7 ⟨B, f, B', f', rfl, hT7, hb7⟩
         clear HVC
         have hb7a := hb7.alloc hb7.size (.cells #[.int .i64 v.kind, .bool v.tr, .int .i64 v.num, .string v.str, .slice B v.items.length f, .slice B' v.keys.length f', .int .i64 e, .int .i64 0] 80)
         have HX7 := hid (Blk.new w7 80 #[.int .i64 v.kind, .bool v.tr, .int .i64 v.num, .string v.str, .slice B v.items.length f, .slice B' v.keys.length f', .int .i64 e, .int .i64 0])
         have HG7 := hid (HG6.out.onto hb7a)
         have HO7 := hid (HO6.out.onto hb7a)
         have HF7 := hid (HF6.out.onto hb7a)
         have HW7 := hid (HW6.out.trans (hb7a.mono HW6.out.size))
         have hF6 := HF6.out.lt
         have hX7 : F < w7.heap.size := by have := hb7.size; omega
         have HS7 := hid HW6.out.size
         have HT7 := hid (show TV (w7.alloc (.cells #[.int .i64 v.kind, .bool v.tr, .int .i64 v.num, .string v.str, .slice B v.items.length f, .slice B' v.keys.length f', .int .i64 e, .int .i64 0] 80)) (fun b => w.heap.size + 2 ≤ b ∧ b ≠ F ∧ b < (w7.alloc (.cells #[.int .i64 v.kind, .bool v.tr, .int .i64 v.num, .string v.str, .slice B v.items.length f, .slice B' v.keys.length f', .int .i64 e, .int .i64 0] 80)).heap.size) V A c A' c' from (HT6.out.keep fun b hb => hb7a.block b hb.2.2).wide fun b hb => ⟨hb.1, hb.2.1, Nat.lt_of_lt_of_le hb.2.2 hb7a.size⟩)
         have HU7 := hid (show TV (w7.alloc (.cells #[.int .i64 v.kind, .bool v.tr, .int .i64 v.num, .string v.str, .slice B v.items.length f, .slice B' v.keys.length f', .int .i64 e, .int .i64 0] 80)) (fun b => w.heap.size + 2 ≤ b ∧ b ≠ F ∧ b < (w7.alloc (.cells #[.int .i64 v.kind, .bool v.tr, .int .i64 v.num, .string v.str, .slice B v.items.length f, .slice B' v.keys.length f', .int .i64 e, .int .i64 0] 80)).heap.size) v B f B' f' from (hT7.keep fun b hb => Below.heap_alloc _ _ _ hb.2).wide fun b hb => ⟨by have := hb.1; omega, by have := hb.1; omega, by have := hb.2; rw [World.size_alloc]; omega⟩)
         clear hb7 hb7a hT7 f0 f1 f2 f3 f4
         go_upto_region 18 with fail
         change Code.wp _ _ _ _ (w7.alloc (.cells #[.int .i64 v.kind, .bool v.tr, .int .i64 v.num, .string v.str, .slice B v.items.length f, .slice B' v.keys.length f', .int .i64 e, .int .i64 0] 80))
         generalize (w7.alloc (.cells #[.int .i64 v.kind, .bool v.tr, .int .i64 v.num, .string v.str, .slice B v.items.length f, .slice B' v.keys.length f', .int .i64 e, .int .i64 0] 80)) = W7 at *
         have hxW := HX7.out.lt
         generalize w7.heap.size = X at *
         have c0 : W7.cell? ⟨X, 0, none⟩ = some (.int .i64 v.kind) := HX7.out.cell 0
         have c1 : W7.cell? ⟨X, 1, none⟩ = some (.bool v.tr) := HX7.out.cell 1
         have c2 : W7.cell? ⟨X, 2, none⟩ = some (.int .i64 v.num) := HX7.out.cell 2
         have c3 : W7.cell? ⟨X, 3, none⟩ = some (.string v.str) := HX7.out.cell 3
         have c4 : W7.cell? ⟨X, 4, none⟩ = some (.slice B v.items.length f) := HX7.out.cell 4
         have c5 : W7.cell? ⟨X, 5, none⟩ = some (.slice B' v.keys.length f') := HX7.out.cell 5
         have c6 : W7.cell? ⟨X, 6, none⟩ = some (.int .i64 e) := HX7.out.cell 6
         have c7 : W7.cell? ⟨X, 7, none⟩ = some (.int .i64 0) := HX7.out.cell 7
         have o0 : W7.cell? ⟨w.heap.size + 1, 0, none⟩ = some (.int .i64 V.kind) := HO7.out.cell 0
         have o1 : W7.cell? ⟨w.heap.size + 1, 1, none⟩ = some (.bool V.tr) := HO7.out.cell 1
         have o2 : W7.cell? ⟨w.heap.size + 1, 2, none⟩ = some (.int .i64 V.num) := HO7.out.cell 2
         have o3 : W7.cell? ⟨w.heap.size + 1, 3, none⟩ = some (.string V.str) := HO7.out.cell 3
         have o4 : W7.cell? ⟨w.heap.size + 1, 4, none⟩ = some (.slice A V.items.length c) := HO7.out.cell 4
         have o5 : W7.cell? ⟨w.heap.size + 1, 5, none⟩ = some (.slice A' V.keys.length c') := HO7.out.cell 5
         have hOl := HO7.out.lt
         have HPC := hid (put_c (fun b => w.heap.size + 2 ≤ b ∧ b ≠ F ∧ b < W7.heap.size) V v A c A' c' B f B' f' t.text W7 hkl HVI.out (fun b hb => hb.2.2) HT7.out HU7.out HNM.out)
         have HPT := hid (show putT V t.text v = Rd.Ob (acc ++ [(t.text, v)]) from by rw [HVE.out]; exact Rd.Ob_put (by have := HNQ.out; rwa [List.map_append] at this))
         have HND2 := hid (show ((acc ++ [(t.text, v)]).map Prod.fst).Nodup from by have := HNQ.out; rw [List.map_append] at this ⊢; exact this)
         unfold PutPost at HPC
         generalize putT V t.text v = V2 at *
         have HPV := hid (show V2 = V2 from rfl)
         go_wp2_with fail
         refine HPC.out.mono ?_
         rintro ev w8 ⟨A5, d5, A6, d6, rfl, hT8, hb8⟩
         clear HPC
         have HF8 := hid (HF7.out.onto hb8)
         have HG8 := hid (HG7.out.onto hb8)
         have HO8 := hid (HO7.out.onto hb8)
         have HX8 := hid (HX7.out.onto hb8)
         have HW8 := hid (HW7.out.trans (hb8.mono HW7.out.size))
         have hw1 : w.heap.size ≤ w.heap.size + 1 := Nat.le_succ _
         have HT9 := hid (show TV ((((((w8.setCell ⟨w.heap.size + 1, 0, none⟩ (.int .i64 V2.kind)).setCell ⟨w.heap.size + 1, 1, none⟩ (.bool V2.tr)).setCell ⟨w.heap.size + 1, 2, none⟩ (.int .i64 V2.num)).setCell ⟨w.heap.size + 1, 3, none⟩ (.string V2.str)).setCell ⟨w.heap.size + 1, 4, none⟩ (.slice A5 V2.items.length d5)).setCell ⟨w.heap.size + 1, 5, none⟩ (.slice A6 V2.keys.length d6)) (fun b => w.heap.size + 2 ≤ b ∧ b ≠ F ∧ b < (((((((w8.setCell ⟨w.heap.size + 1, 0, none⟩ (.int .i64 V2.kind)).setCell ⟨w.heap.size + 1, 1, none⟩ (.bool V2.tr)).setCell ⟨w.heap.size + 1, 2, none⟩ (.int .i64 V2.num)).setCell ⟨w.heap.size + 1, 3, none⟩ (.string V2.str)).setCell ⟨w.heap.size + 1, 4, none⟩ (.slice A5 V2.items.length d5)).setCell ⟨w.heap.size + 1, 5, none⟩ (.slice A6 V2.keys.length d6))).heap.size) V2 A5 d5 A6 d6 from (hT8.keep fun b hb => putv_heap (by rcases hb with hb | hb <;> omega)).wide fun b hb => ⟨by rcases hb with hb | hb <;> omega, by rcases hb with hb | hb <;> omega, by rw [putv_size]; have := hb8.size; rcases hb with hb | hb <;> omega⟩)
         have HO9 := hid (show Blk ((((((w8.setCell ⟨w.heap.size + 1, 0, none⟩ (.int .i64 V2.kind)).setCell ⟨w.heap.size + 1, 1, none⟩ (.bool V2.tr)).setCell ⟨w.heap.size + 1, 2, none⟩ (.int .i64 V2.num)).setCell ⟨w.heap.size + 1, 3, none⟩ (.string V2.str)).setCell ⟨w.heap.size + 1, 4, none⟩ (.slice A5 V2.items.length d5)).setCell ⟨w.heap.size + 1, 5, none⟩ (.slice A6 V2.keys.length d6)) (w.heap.size + 1) 50 (#[.int .i64 V2.kind, .bool V2.tr, .int .i64 V2.num, .string V2.str, .slice A5 V2.items.length d5, .slice A6 V2.keys.length d6]) from res_put HO8.out rfl V2 A5 d5 A6 d6)
         have HF9 := hid (show Blk ((((((w8.setCell ⟨w.heap.size + 1, 0, none⟩ (.int .i64 V2.kind)).setCell ⟨w.heap.size + 1, 1, none⟩ (.bool V2.tr)).setCell ⟨w.heap.size + 1, 2, none⟩ (.int .i64 V2.num)).setCell ⟨w.heap.size + 1, 3, none⟩ (.string V2.str)).setCell ⟨w.heap.size + 1, 4, none⟩ (.slice A5 V2.items.length d5)).setCell ⟨w.heap.size + 1, 5, none⟩ (.slice A6 V2.keys.length d6)) F _ _ from (putv_heap (by omega)).trans HF8.out)
         have HG9 := hid (show Blk ((((((w8.setCell ⟨w.heap.size + 1, 0, none⟩ (.int .i64 V2.kind)).setCell ⟨w.heap.size + 1, 1, none⟩ (.bool V2.tr)).setCell ⟨w.heap.size + 1, 2, none⟩ (.int .i64 V2.num)).setCell ⟨w.heap.size + 1, 3, none⟩ (.string V2.str)).setCell ⟨w.heap.size + 1, 4, none⟩ (.slice A5 V2.items.length d5)).setCell ⟨w.heap.size + 1, 5, none⟩ (.slice A6 V2.keys.length d6)) w.heap.size _ _ from (putv_heap (by omega)).trans HG8.out)
         have HX9 := hid (show Blk ((((((w8.setCell ⟨w.heap.size + 1, 0, none⟩ (.int .i64 V2.kind)).setCell ⟨w.heap.size + 1, 1, none⟩ (.bool V2.tr)).setCell ⟨w.heap.size + 1, 2, none⟩ (.int .i64 V2.num)).setCell ⟨w.heap.size + 1, 3, none⟩ (.string V2.str)).setCell ⟨w.heap.size + 1, 4, none⟩ (.slice A5 V2.items.length d5)).setCell ⟨w.heap.size + 1, 5, none⟩ (.slice A6 V2.keys.length d6)) X _ _ from (putv_heap (by omega)).trans HX8.out)
         have HW9 := hid (((((((HW8.out.setCell (p := ⟨w.heap.size + 1, 0, none⟩) hw1 (.int .i64 V2.kind)).setCell (p := ⟨w.heap.size + 1, 1, none⟩) hw1 (.bool V2.tr)).setCell (p := ⟨w.heap.size + 1, 2, none⟩) hw1 (.int .i64 V2.num)).setCell (p := ⟨w.heap.size + 1, 3, none⟩) hw1 (.string V2.str)).setCell (p := ⟨w.heap.size + 1, 4, none⟩) hw1 (.slice A5 V2.items.length d5)).setCell (p := ⟨w.heap.size + 1, 5, none⟩) hw1 (.slice A6 V2.keys.length d6)))
         clear hb8 hT8 c0 c1 c2 c3 c4 c5 c6 c7 o0 o1 o2 o3 o4 o5 HT7 HU7
         have y0 := HO8.out.free 0
         have y1 := HO8.out.free 1
         have y2 := HO8.out.free 2
         have y3 := HO8.out.free 3
         have y4 := HO8.out.free 4
         have y5 := HO8.out.free 5
         have yy0 : w8.cell? ⟨w.heap.size + 1, 0, none⟩ = some (.int .i64 V.kind) := HO8.out.cell 0
         have yy1 : w8.cell? ⟨w.heap.size + 1, 1, none⟩ = some (.bool V.tr) := HO8.out.cell 1
         have yy2 : w8.cell? ⟨w.heap.size + 1, 2, none⟩ = some (.int .i64 V.num) := HO8.out.cell 2
         have yy3 : w8.cell? ⟨w.heap.size + 1, 3, none⟩ = some (.string V.str) := HO8.out.cell 3
         have yy4 : w8.cell? ⟨w.heap.size + 1, 4, none⟩ = some (.slice A V.items.length c) := HO8.out.cell 4
         have yy5 : w8.cell? ⟨w.heap.size + 1, 5, none⟩ = some (.slice A' V.keys.length c') := HO8.out.cell 5
         unfold T.agg
         go_upto_region 21 with fail
         change Code.wp _ _ _ _ ((((((w8.setCell ⟨w.heap.size + 1, 0, none⟩ (.int .i64 V2.kind)).setCell ⟨w.heap.size + 1, 1, none⟩ (.bool V2.tr)).setCell ⟨w.heap.size + 1, 2, none⟩ (.int .i64 V2.num)).setCell ⟨w.heap.size + 1, 3, none⟩ (.string V2.str)).setCell ⟨w.heap.size + 1, 4, none⟩ (.slice A5 V2.items.length d5)).setCell ⟨w.heap.size + 1, 5, none⟩ (.slice A6 V2.keys.length d6))
         generalize ((((((w8.setCell ⟨w.heap.size + 1, 0, none⟩ (.int .i64 V2.kind)).setCell ⟨w.heap.size + 1, 1, none⟩ (.bool V2.tr)).setCell ⟨w.heap.size + 1, 2, none⟩ (.int .i64 V2.num)).setCell ⟨w.heap.size + 1, 3, none⟩ (.string V2.str)).setCell ⟨w.heap.size + 1, 4, none⟩ (.slice A5 V2.items.length d5)).setCell ⟨w.heap.size + 1, 5, none⟩ (.slice A6 V2.keys.length d6)) = W9 at *
         clear y0 y1 y2 y3 y4 y5 yy0 yy1 yy2 yy3 yy4 yy5 HF8 HG8 HO8 HX8 HW8
         have c6 : W9.cell? ⟨X, 6, none⟩ = some (.int .i64 e) := HX9.out.cell 6
         have hXF : X ≠ F := by omega
         have hXG : X ≠ w.heap.size := by omega
         cases hn2 : next s e with
         | err p c1 =>
          have hc := next_code hn2
          have uc : (c1 != 0) = true := by rw [bne_iff_ne]; exact hc
          have HVG := hid (show RES = .err p c1 from HVF.out.trans (Rd.after_err hn2))
          clear hc HVF
          have HNX := hid (rnext_far s e W9 (by omega) (by omega) (by omega))
          rw [hn2] at HNX
          go_wp2_with fail
          refine HNX.out.mono ?_
          rintro ev wn10 ⟨rfl, hb10⟩
          clear HNX
          have HF10a := hid (HF9.out.onto hb10)
          have HG10a := hid (HG9.out.onto hb10)
          have HO10a := hid (HO9.out.onto hb10)
          have HX10a := hid (HX9.out.onto hb10)
          have HW10a := hid (HW9.out.trans (hb10.mono HW9.out.size))
          obtain ⟨⟨yy0, yy1, yy2, yy3, yy4⟩, y0, y1, y2, y3, y4⟩ := tokf HF10a.out
          clear hb10
          unfold Tk.Ans.val
          go_upto_region 22 with fail
          have HF10 := hid (blk_tokZ HF10a.out)
          have HG10 := hid (far_tokZ HG10a.out (F := F) (by omega))
          have HO10 := hid (far_tokZ HO10a.out (F := F) (by omega))
          have HX10 := hid (far_tokZ HX10a.out (F := F) (by omega))
          have HW10 := hid (below_tokZ HW10a.out hwF)
          change Code.wp _ _ _ _ (tokZ wn10 F)
          generalize tokZ wn10 F = W10 at *
          clear y0 y1 y2 y3 y4 yy0 yy1 yy2 yy3 yy4
          go_wp2_with fail
          refine (wrong_any6 p c1 W10).mono ?_
          rintro ev wz11 ⟨rfl, hb11⟩
          have HG11 := hid (HG10.out.onto hb11)
          have HW11 := hid (HW10.out.trans (hb11.mono HW10.out.size))
          clear hb11
          obtain ⟨⟨q0, q1, q2, q3, q4, q5, q6, q7⟩, x0, x1, x2, x3, x4, x5, x6, x7⟩ := box8 HG11.out
          go_wp2_with fail
          try simp only [Exit.inBlock, Exit.then]
          refine bodyPost_ret (v := .agg #[.int .i64 0, .bool false, .int .i64 0, .string ⟨#[]⟩, .slice none 0 0, .slice none 0 0, .int .i64 (p : Int), .int .i64 c1]) (by simp [results, Tryz.results47, go_sem, q0, q1, q2, q3, q4, q5, q6, q7]) rfl ?_
          rw [HVG.out]
          exact ⟨rfl, below_put8 HW11.out (Nat.le_refl _) _ _ _ _ _ _ _ _⟩
         | tok z =>
          obtain ⟨⟨hz1, hz2, hz3⟩, hz4⟩ := Rd.ok_next hes hn2
          have HNX := hid (rnext_far s e W9 (by omega) (by omega) (by omega))
          rw [hn2] at HNX
          go_wp2_with fail
          refine HNX.out.mono ?_
          rintro ev wn10 ⟨rfl, hb10⟩
          clear HNX
          have HF10a := hid (HF9.out.onto hb10)
          have HG10a := hid (HG9.out.onto hb10)
          have HO10a := hid (HO9.out.onto hb10)
          have HX10a := hid (HX9.out.onto hb10)
          have HW10a := hid (HW9.out.trans (hb10.mono HW9.out.size))
          have HT10a := hid (show TV wn10 (fun b => w.heap.size + 2 ≤ b ∧ b ≠ F ∧ b < wn10.heap.size) V2 A5 d5 A6 d6 from (HT9.out.keep fun b hb => hb10.block b hb.2.2).wide fun b hb => ⟨hb.1, hb.2.1, Nat.lt_of_lt_of_le hb.2.2 hb10.size⟩)
          obtain ⟨⟨yy0, yy1, yy2, yy3, yy4⟩, y0, y1, y2, y3, y4⟩ := tokf HF10a.out
          clear hb10
          unfold Tk.Ans.val
          go_upto_region 22 with fail
          have HT10 := hid (tv_tokP HT10a.out z)
          have HF10 := hid (blk_tokP HF10a.out z)
          have HG10 := hid (far_tokP HG10a.out (F := F) (by omega) z)
          have HO10 := hid (far_tokP HO10a.out (F := F) (by omega) z)
          have HX10 := hid (far_tokP HX10a.out (F := F) (by omega) z)
          have HW10 := hid (below_tokP HW10a.out hwF z)
          change Code.wp _ _ _ _ (tokP wn10 F z)
          generalize tokP wn10 F z = W10 at *
          clear y0 y1 y2 y3 y4 yy0 yy1 yy2 yy3 yy4
          obtain ⟨f0, f1, f2, f3, f4⟩ := tokc HF10.out
          by_cases h125 : Rd.isM z 125
          ·
           have HVG := hid (show RES = .val V2 z.fin from by rw [HPT.out]; exact HVF.out.trans (Rd.after_end hn2 h125))
           have HSG := hid (sign_any6 z W10)
           rw [Rd.sign_yes (t := z) (c := 125) ⟨#[125]⟩ rfl h125] at HSG
           go_wp2_with fail
           refine HSG.out.mono ?_
           rintro ev ws11 ⟨rfl, hb11⟩
           clear HSG
           have HF11 := hid (HF10.out.onto hb11)
           have HG11 := hid (HG10.out.onto hb11)
           have HO11 := hid (HO10.out.onto hb11)
           have HX11 := hid (HX10.out.onto hb11)
           have HW11 := hid (HW10.out.trans (hb11.mono HW10.out.size))
           have HB11 := hid hb11
           clear hb11 f0 f1 f2 f3 f4
           obtain ⟨f0, f1, f2, f3, f4⟩ := tokc HF11.out
           have o0 : ws11.cell? ⟨w.heap.size + 1, 0, none⟩ = some (.int .i64 V2.kind) := HO11.out.cell 0
           have o1 : ws11.cell? ⟨w.heap.size + 1, 1, none⟩ = some (.bool V2.tr) := HO11.out.cell 1
           have o2 : ws11.cell? ⟨w.heap.size + 1, 2, none⟩ = some (.int .i64 V2.num) := HO11.out.cell 2
           have o3 : ws11.cell? ⟨w.heap.size + 1, 3, none⟩ = some (.string V2.str) := HO11.out.cell 3
           have o4 : ws11.cell? ⟨w.heap.size + 1, 4, none⟩ = some (.slice A5 V2.items.length d5) := HO11.out.cell 4
           have o5 : ws11.cell? ⟨w.heap.size + 1, 5, none⟩ = some (.slice A6 V2.keys.length d6) := HO11.out.cell 5
           have HTV := hid (show TV ws11 (fun q => w.heap.size ≤ q ∧ q < ws11.heap.size ∧ q ≠ w.heap.size) V2 A5 d5 A6 d6 from (HT10.out.keep fun b hb => HB11.out.block b hb.2.2).wide fun b hb => ⟨by omega, Nat.lt_of_lt_of_le hb.2.2 HB11.out.size, by omega⟩)
           obtain ⟨⟨q0, q1, q2, q3, q4, q5, q6, q7⟩, x0, x1, x2, x3, x4, x5, x6, x7⟩ := box8 HG11.out
           go_wp2_with fail
           try simp only [Exit.inBlock, Exit.then]
           refine bodyPost_ret (v := .agg #[.int .i64 V2.kind, .bool V2.tr, .int .i64 V2.num, .string V2.str, .slice A5 V2.items.length d5, .slice A6 V2.keys.length d6, .int .i64 (z.fin : Int), .int .i64 0]) (by simp [results, Tryz.results47, go_sem, q0, q1, q2, q3, q4, q5, q6, q7]) rfl ?_
           rw [HVG.out]
           exact ⟨A5, d5, A6, d6, rfl, box_put8 HTV.out _ _ _ _ _ _ _ _, below_put8 HW11.out (Nat.le_refl _) _ _ _ _ _ _ _ _⟩
          ·
           by_cases h44 : Rd.isM z 44
           ·
            have n1 := Rd.sign_no (t := z) (c := 125) ⟨#[125]⟩ rfl (by unfold Tk.nix; decide) h125
            have n1' : ((Rd.signT z).toList == [125]) = false := by have h := n1; rw [ByteArray.toList_eq ⟨#[125]⟩] at h; exact h
            have HSG := hid (sign_any6 z W10)
            go_wp2_with fail
            refine HSG.out.mono ?_
            rintro ev ws11 ⟨rfl, hb11⟩
            clear HSG
            have HF11 := hid (HF10.out.onto hb11)
            have HG11 := hid (HG10.out.onto hb11)
            have HO11 := hid (HO10.out.onto hb11)
            have HX11 := hid (HX10.out.onto hb11)
            have HW11 := hid (HW10.out.trans (hb11.mono HW10.out.size))
            have HB11 := hid hb11
            clear hb11 f0 f1 f2 f3 f4
            obtain ⟨f0, f1, f2, f3, f4⟩ := tokc HF11.out
            have HSG := hid (sign_any6 z ws11)
            rw [Rd.sign_yes (t := z) (c := 44) ⟨#[44]⟩ rfl h44] at HSG
            go_wp2_with fail
            refine HSG.out.mono ?_
            rintro ev ws12 ⟨rfl, hb12⟩
            clear HSG
            have HF12 := hid (HF11.out.onto hb12)
            have HG12 := hid (HG11.out.onto hb12)
            have HO12 := hid (HO11.out.onto hb12)
            have HX12 := hid (HX11.out.onto hb12)
            have HW12 := hid (HW11.out.trans (hb12.mono HW11.out.size))
            have HB12 := hid hb12
            clear hb12 f0 f1 f2 f3 f4
            obtain ⟨f0, f1, f2, f3, f4⟩ := tokc HF12.out
            have hzf := hz3 (by rw [h44.1]; decide)
            have HT12 := hid (show TV ws12 (fun b => w.heap.size + 2 ≤ b ∧ b ≠ F ∧ b < ws12.heap.size) V2 A5 d5 A6 d6 from (HT10.out.keep fun b hb => (HB12.out.block b (Nat.lt_of_lt_of_le hb.2.2 HB11.out.size)).trans (HB11.out.block b hb.2.2)).wide fun b hb => ⟨hb.1, hb.2.1, Nat.lt_of_lt_of_le hb.2.2 (Nat.le_trans HB11.out.size HB12.out.size)⟩)
            have H44 := hid h44
            have H125 := hid h125
            have HN2 := hid hn2
            clear h44 h125 hn2
            cases hn3 : next s z.fin with
            | err p c1 =>
             have hc := next_code hn3
             have uc : (c1 != 0) = true := by rw [bne_iff_ne]; exact hc
             have HVG := hid (show RES = .err p c1 from HVF.out.trans (Rd.after_nerr HN2.out H125.out H44.out hn3))
             clear hc
             have HNX := hid (rnext_far s z.fin ws12 (by omega) (by omega) (by omega))
             rw [hn3] at HNX
             go_wp2_with fail
             refine HNX.out.mono ?_
             rintro ev wn13 ⟨rfl, hb13⟩
             clear HNX
             have HF13a := hid (HF12.out.onto hb13)
             have HG13a := hid (HG12.out.onto hb13)
             have HO13a := hid (HO12.out.onto hb13)
             have HX13a := hid (HX12.out.onto hb13)
             have HW13a := hid (HW12.out.trans (hb13.mono HW12.out.size))
             obtain ⟨⟨yy0, yy1, yy2, yy3, yy4⟩, y0, y1, y2, y3, y4⟩ := tokf HF13a.out
             clear hb13
             unfold Tk.Ans.val
             go_upto_region 29 with fail
             have HF13 := hid (blk_tokZ HF13a.out)
             have HG13 := hid (far_tokZ HG13a.out (F := F) (by omega))
             have HO13 := hid (far_tokZ HO13a.out (F := F) (by omega))
             have HX13 := hid (far_tokZ HX13a.out (F := F) (by omega))
             have HW13 := hid (below_tokZ HW13a.out hwF)
             change Code.wp _ _ _ _ (tokZ wn13 F)
             generalize tokZ wn13 F = W13 at *
             clear y0 y1 y2 y3 y4 yy0 yy1 yy2 yy3 yy4
             go_wp2_with fail
             refine (wrong_any6 p c1 W13).mono ?_
             rintro ev wz14 ⟨rfl, hb14⟩
             have HG14 := hid (HG13.out.onto hb14)
             have HW14 := hid (HW13.out.trans (hb14.mono HW13.out.size))
             clear hb14
             obtain ⟨⟨q0, q1, q2, q3, q4, q5, q6, q7⟩, x0, x1, x2, x3, x4, x5, x6, x7⟩ := box8 HG14.out
             go_wp2_with fail
             try simp only [Exit.inBlock, Exit.then]
             refine bodyPost_ret (v := .agg #[.int .i64 0, .bool false, .int .i64 0, .string ⟨#[]⟩, .slice none 0 0, .slice none 0 0, .int .i64 (p : Int), .int .i64 c1]) (by simp [results, Tryz.results47, go_sem, q0, q1, q2, q3, q4, q5, q6, q7]) rfl ?_
             rw [HVG.out]
             exact ⟨rfl, below_put8 HW14.out (Nat.le_refl _) _ _ _ _ _ _ _ _⟩
            | tok x =>
             obtain ⟨⟨hx1, hx2, hx3⟩, hx4⟩ := Rd.ok_next hz2 hn3
             have HVG := hid (show Rd.membsF Rd.Ob s m room x (acc ++ [(t.text, v)]) = RES from (HVF.out.trans (Rd.after_next HN2.out H125.out H44.out hn3)).symm)
             have HNX := hid (rnext_far s z.fin ws12 (by omega) (by omega) (by omega))
             rw [hn3] at HNX
             go_wp2_with fail
             refine HNX.out.mono ?_
             rintro ev wn13 ⟨rfl, hb13⟩
             clear HNX
             have HF13a := hid (HF12.out.onto hb13)
             have HG13a := hid (HG12.out.onto hb13)
             have HO13a := hid (HO12.out.onto hb13)
             have HX13a := hid (HX12.out.onto hb13)
             have HW13a := hid (HW12.out.trans (hb13.mono HW12.out.size))
             have HT13a := hid (show TV wn13 (fun b => w.heap.size + 2 ≤ b ∧ b ≠ F ∧ b < wn13.heap.size) V2 A5 d5 A6 d6 from (HT12.out.keep fun b hb => hb13.block b hb.2.2).wide fun b hb => ⟨hb.1, hb.2.1, Nat.lt_of_lt_of_le hb.2.2 hb13.size⟩)
             obtain ⟨⟨yy0, yy1, yy2, yy3, yy4⟩, y0, y1, y2, y3, y4⟩ := tokf HF13a.out
             clear hb13
             unfold Tk.Ans.val
             go_upto_region 29 with fail
             have HT13 := hid (tv_tokP HT13a.out x)
             have HF13 := hid (blk_tokP HF13a.out x)
             have HG13 := hid (far_tokP HG13a.out (F := F) (by omega) x)
             have HO13 := hid (far_tokP HO13a.out (F := F) (by omega) x)
             have HX13 := hid (far_tokP HX13a.out (F := F) (by omega) x)
             have HW13 := hid (below_tokP HW13a.out hwF x)
             change Code.wp _ _ _ _ (tokP wn13 F x)
             generalize tokP wn13 F x = W13 at *
             clear y0 y1 y2 y3 y4 yy0 yy1 yy2 yy3 yy4
             have hal : (acc ++ [(t.text, v)]).length = acc.length + 1 := by simp
             clear hn3
             go_wp2_with fail
             go_roundg m
             case measure => omega
             case rel => exact ⟨acc ++ [(t.text, v)], V2, A5, d5, A6, d6, x, _, _, rfl, rfl, by omega, HVG.out, ⟨hx1, hx2, hx3⟩, by omega, by rw [hal]; omega, HPT.out, HND2.out, HF13.out, HO13.out, HT13.out, HG13.out, HW13.out⟩
           ·
            have HVG := hid (show RES = .err z.at_ 1 from HVF.out.trans (Rd.after_bad hn2 h125 h44))
            have n1 := Rd.sign_no (t := z) (c := 125) ⟨#[125]⟩ rfl (by unfold Tk.nix; decide) h125
            have n1' : ((Rd.signT z).toList == [125]) = false := by have h := n1; rw [ByteArray.toList_eq ⟨#[125]⟩] at h; exact h
            have n2 := Rd.sign_no (t := z) (c := 44) ⟨#[44]⟩ rfl (by unfold Tk.nix; decide) h44
            have n2' : ((Rd.signT z).toList == [44]) = false := by have h := n2; rw [ByteArray.toList_eq ⟨#[44]⟩] at h; exact h
            have HSG := hid (sign_any6 z W10)
            go_wp2_with fail
            refine HSG.out.mono ?_
            rintro ev ws11 ⟨rfl, hb11⟩
            clear HSG
            have HF11 := hid (HF10.out.onto hb11)
            have HG11 := hid (HG10.out.onto hb11)
            have HO11 := hid (HO10.out.onto hb11)
            have HX11 := hid (HX10.out.onto hb11)
            have HW11 := hid (HW10.out.trans (hb11.mono HW10.out.size))
            clear hb11 f0 f1 f2 f3 f4
            obtain ⟨f0, f1, f2, f3, f4⟩ := tokc HF11.out
            have HSG := hid (sign_any6 z ws11)
            go_wp2_with fail
            refine HSG.out.mono ?_
            rintro ev ws12 ⟨rfl, hb12⟩
            clear HSG
            have HF12 := hid (HF11.out.onto hb12)
            have HG12 := hid (HG11.out.onto hb12)
            have HO12 := hid (HO11.out.onto hb12)
            have HX12 := hid (HX11.out.onto hb12)
            have HW12 := hid (HW11.out.trans (hb12.mono HW11.out.size))
            clear hb12 f0 f1 f2 f3 f4
            obtain ⟨f0, f1, f2, f3, f4⟩ := tokc HF12.out
            go_wp2_with fail
            refine (wrong_any6 z.at_ 1 ws12).mono ?_
            rintro ev wz13 ⟨rfl, hb13⟩
            have HG13 := hid (HG12.out.onto hb13)
            have HW13 := hid (HW12.out.trans (hb13.mono HW12.out.size))
            clear hb13
            obtain ⟨⟨q0, q1, q2, q3, q4, q5, q6, q7⟩, x0, x1, x2, x3, x4, x5, x6, x7⟩ := box8 HG13.out
            go_wp2_with fail
            try simp only [Exit.inBlock, Exit.then]
            refine bodyPost_ret (v := .agg #[.int .i64 0, .bool false, .int .i64 0, .string ⟨#[]⟩, .slice none 0 0, .slice none 0 0, .int .i64 (z.at_ : Int), .int .i64 1]) (by simp [results, Tryz.results47, go_sem, q0, q1, q2, q3, q4, q5, q6, q7]) rfl ?_
            rw [HVG.out]
            exact ⟨rfl, below_put8 HW13.out (Nat.le_refl _) _ _ _ _ _ _ _ _⟩
       ·
        have HVG := hid (show RES = .err y.at_ 1 from hres.symm.trans (Rd.key_bad HN1.out h58))
        clear hres
        have n1 := Rd.sign_no (t := y) (c := 58) ⟨#[58]⟩ rfl (by unfold Tk.nix; decide) h58
        have n1' : ((Rd.signT y).toList == [58]) = false := by have h := n1; rw [ByteArray.toList_eq ⟨#[58]⟩] at h; exact h
        have HSG := hid (sign_any6 y W5)
        go_wp2_with fail
        refine HSG.out.mono ?_
        rintro ev ws6 ⟨rfl, hb6⟩
        clear HSG
        have HF6 := hid (HF5.out.onto hb6)
        have HG6 := hid (HG5.out.onto hb6)
        have HO6 := hid (HO5.out.onto hb6)
        have HW6 := hid (HW5.out.trans (hb6.mono HW5.out.size))
        clear hb6 f0 f1 f2 f3 f4
        obtain ⟨f0, f1, f2, f3, f4⟩ := tokc HF6.out
        go_wp2_with fail
        refine (wrong_any6 y.at_ 1 ws6).mono ?_
        rintro ev wz7 ⟨rfl, hb7⟩
        have HG7 := hid (HG6.out.onto hb7)
        have HW7 := hid (HW6.out.trans (hb7.mono HW6.out.size))
        clear hb7
        obtain ⟨⟨q0, q1, q2, q3, q4, q5, q6, q7⟩, x0, x1, x2, x3, x4, x5, x6, x7⟩ := box8 HG7.out
        go_wp2_with fail
        try simp only [Exit.inBlock, Exit.then]
        refine bodyPost_ret (v := .agg #[.int .i64 0, .bool false, .int .i64 0, .string ⟨#[]⟩, .slice none 0 0, .slice none 0 0, .int .i64 (y.at_ : Int), .int .i64 1]) (by simp [results, Tryz.results47, go_sem, q0, q1, q2, q3, q4, q5, q6, q7]) rfl ?_
        rw [HVG.out]
        exact ⟨rfl, below_put8 HW7.out (Nat.le_refl _) _ _ _ _ _ _ _ _⟩
    ·
     have u1 : (t.kind != 2) = true := by rw [bne_iff_ne]; exact hk
     have HVG := hid (show RES = .err t.at_ 1 from by rw [← hres, if_pos hk])
     clear hres hk
     go_wp2_with fail
     refine (wrong_any6 t.at_ 1 wr).mono ?_
     rintro ev wz4 ⟨rfl, hb4⟩
     have HG4 := hid (HG3.out.onto hb4)
     have HW4 := hid (HW3.out.trans (hb4.mono HW3.out.size))
     clear hb4
     obtain ⟨⟨q0, q1, q2, q3, q4, q5, q6, q7⟩, x0, x1, x2, x3, x4, x5, x6, x7⟩ := box8 HG4.out
     go_wp2_with fail
     try simp only [Exit.inBlock, Exit.then]
     refine bodyPost_ret (v := .agg #[.int .i64 0, .bool false, .int .i64 0, .string ⟨#[]⟩, .slice none 0 0, .slice none 0 0, .int .i64 (t.at_ : Int), .int .i64 1]) (by simp [results, Tryz.results47, go_sem, q0, q1, q2, q3, q4, q5, q6, q7]) rfl ?_
     rw [HVG.out]
     exact ⟨rfl, below_put8 HW4.out (Nat.le_refl _) _ _ _ _ _ _ _ _⟩
end Go.Proofs.YtgblenoaeanogaaGreatDoor
