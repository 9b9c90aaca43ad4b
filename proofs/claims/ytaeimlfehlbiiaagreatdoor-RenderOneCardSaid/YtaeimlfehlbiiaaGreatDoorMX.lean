/- The law's own way to write an object: its walk. The law's own way to write a value: whatever value. -/
import Derived.Test.YtaeimlfehlbiiaaGreatDoorMW
import Derived.Deep.RegionHeld3
import Derived.Deep.RegionLaw
import Derived.Outline
import Derived.Deep.DeepCutAuto
namespace Go.Proofs.YtaeimlfehlbiiaaGreatDoor
open Go.RowKit
open Tk
open Pl
set_option linter.unusedVariables false
theorem u8w9 (x : Int) (h0 : 0 ≤ x) (h1 : x ≤ 255) : IntKind.u8.wrap x = x := by
 first
  | exact IntWalk.u8_in _ (by omega)
  | (simp [IntKind.wrap, IntKind.min, IntKind.max]; omega)
  | (unfold IntKind.wrap; simp; omega)
theorem gap_ex (x n : Int) (w : World) (hx : x = n) (h0 : 0 ≤ n) (h1 : n ≤ 255) : Calls Tryz.prog 30 #[.int .u8 x] w fun e w' => ∃ B : ByteArray, e = .returned (.string B) ∧ Rd.Bls B.data.toList ∧ B.size ≤ 3 ∧ Below w.heap.size w w' := by
 subst hx
 refine (l6blanks_any x w h0 h1).mono ?_
 rintro e w' ⟨B, rfl, hB, hs, rfl⟩
 exact ⟨B, rfl, hB, hs, Below.refl _ _⟩
set_option maxRecDepth 100000 in
set_option maxHeartbeats 8000000 in
theorem write_obj (t : T) (A : Option Addr) (c : Nat) (A' : Option Addr) (c' : Nat) (B : Option Addr) (m mc : Nat) (at_ : Int) (w : World) (hn : t.Nice) (hk : t.kind = 5)
 (ih : ∀ x : T, x.size < t.size → x.Nice → WSays x)
 (hv : TV w (· < w.heap.size) t A c A' c') (hW : Bytes8 w (· < w.heap.size) B m) (hm : m ≤ 60) (h0 : 0 ≤ at_) (h1 : at_ + 50 * t.size ≤ 5000) :
 Calls Tryz.prog 15 #[.agg #[.int .i64 t.kind, .bool t.tr, .int .i64 t.num, .string t.str, .slice A t.items.length c, .slice A' t.keys.length c'], .slice B m mc, .int .i64 at_] w (WtGives t w) := by
 have HV := Lib.hid hv
 have HN := Lib.hid hn
 have IH := Lib.hid ih
 have hsz := hn.size
 have hls := t.len_size
 have hse := t.size_eq
 have hlc := hv.lens.1
 have HK := Lib.hid hk
 have n0 : (t.kind == 0) = false := by rw [hk]; rfl
 have n1 : (t.kind == 1) = false := by rw [hk]; rfl
 have n2 : (t.kind == 2) = false := by rw [hk]; rfl
 have n3 : (t.kind == 3) = false := by rw [hk]; rfl
 have n4 : (t.kind == 4) = false := by rw [hk]; rfl
 have hlk : t.keys.length = t.items.length := hn.good.here.lens hk
 have HKT := Lib.hid (show ∀ q ∈ t.keys, okText q ∧ q.size ≤ 60 from fun q hq => ⟨hn.good.here.ktxt q hq, hn.fit.here.keys q hq⟩)
 have HLK := Lib.hid hlk
 clear hv hn ih hk hlk
 have hba : Below w.heap.size w (w.alloc (.cells #[.int .i64 t.kind, .bool t.tr, .int .i64 t.num, .string t.str, .slice A t.items.length c, .slice A' t.keys.length c'] 27)) := (Below.refl _ _).alloc (Nat.le_refl _) _
 have HX := Lib.hid (Blk.new w 27 #[.int .i64 t.kind, .bool t.tr, .int .i64 t.num, .string t.str, .slice A t.items.length c, .slice A' t.keys.length c'])
 have HB := Lib.hid hba
 have HW0 := Lib.hid hW
 have HW := Lib.hid (show Bytes8 (w.alloc (.cells #[.int .i64 t.kind, .bool t.tr, .int .i64 t.num, .string t.str, .slice A t.items.length c, .slice A' t.keys.length c'] 27)) (· < w.heap.size) B m from hW.keep fun i hi => hba.block i hi)
 have hwl : w.heap.size < (w.alloc (.cells #[.int .i64 t.kind, .bool t.tr, .int .i64 t.num, .string t.str, .slice A t.items.length c, .slice A' t.keys.length c'] 27)).heap.size := by simp
 clear hba hW
 go_enter Tryz.func15, Tryz.ntmps15
 go_upto_region 1 with fail
 change Code.wp _ _ _ _ (w.alloc (.cells #[.int .i64 t.kind, .bool t.tr, .int .i64 t.num, .string t.str, .slice A t.items.length c, .slice A' t.keys.length c'] 27))
 generalize (w.alloc (.cells #[.int .i64 t.kind, .bool t.tr, .int .i64 t.num, .string t.str, .slice A t.items.length c, .slice A' t.keys.length c'] 27)) = W at *
 generalize hG : w.heap.size = P at *
 go_upto_if 19 with fail
 go_cut [7] (fun s7 wy => ∃ d : Int, 0 ≤ d ∧ d ≤ 255 ∧ s7 = .int .u8 d ∧ wy = W)
 case first =>
  by_cases hlt : at_ < (m : Int)
  ·
   have u1 : decide (at_ < (m : Int)) = true := decide_eq_true hlt
   obtain ⟨k, rfl⟩ : ∃ k : Nat, at_ = (k : Int) := ⟨at_.toNat, by omega⟩
   have u2 : decide (k < m) = true := decide_eq_true (by omega)
   obtain ⟨b, o, d, rfl, hb, hd0, hd1, hc⟩ := HW.out k (by omega)
   go_wp2_with fail
   go_meet
   exact ⟨d, hd0, by omega, rfl, rfl⟩
  ·
   have u1 : decide (at_ < (m : Int)) = false := decide_eq_false hlt
   go_wp2_with fail
   go_meet
   exact ⟨_, by omega, by omega, rfl, rfl⟩
 case rest =>
  obtain ⟨d, hd0, hd1, rfl, rfl⟩ := hcut
  have q0 : wc.cell? ⟨P, 0, none⟩ = some (.int .i64 t.kind) := HX.out.cell 0
  have q4 : wc.cell? ⟨P, 4, none⟩ = some (.slice A t.items.length c) := HX.out.cell 4
  go_wp2_with fail
  refine (l6blanks_any d wc hd0 hd1).mono ?_
  rintro e w2 ⟨G, rfl, hGb, hGs, rfl⟩
  have HGB := Lib.hid hGb
  clear hGb
  have ed : (d.tdiv 3) = d / 3 := Int.tdiv_eq_ediv_of_nonneg hd0
  have ed0 : 0 ≤ d / 3 := by omega
  have ed1 : d / 3 ≤ 255 := by omega
  go_wp2_with fail
  obtain ⟨dn, hdn⟩ : ∃ dn : Nat, d = (dn : Int) := ⟨d.toNat, by omega⟩
  have HDN := Lib.hid hdn
  have hdn5 : dn ≤ 255 := by omega
  have ef : d.tdiv 8 = d / 8 := Int.tdiv_eq_ediv_of_nonneg hd0
  have ef0 : 0 ≤ d / 8 := by omega
  have eg : IntKind.u8.wrap (d / 8) = d / 8 := u8w9 _ (by omega) (by omega)
  have ef1 : d / 8 ≤ 255 := by omega
  clear hdn
  go_loopw [9, 31] (fun s i wr => ∃ (k : Nat) (O : ByteArray), k ≤ t.items.length ∧ i = .int .i64 k ∧ s = .string O ∧ Wo9 t dn k O ∧ Below P w wr ∧ Blk wr P 27 #[.int .i64 t.kind, .bool t.tr, .int .i64 t.num, .string t.str, .slice A t.items.length c, .slice A' t.keys.length c']) (fun _ i _ => t.items.length - (intOf i).toNat)
  case atStart => exact ⟨0, ⟨#[]⟩, Nat.zero_le _, rfl, rfl, Wo9.start t dn, HB.out, HX.out⟩
  case round =>
   obtain ⟨k, O, hk, rfl, rfl, hO, hbel, hbx⟩ := hrel
   have HO := Lib.hid hO
   have Hbel := Lib.hid hbel
   have Hbx := Lib.hid hbx
   have hOs : O.size ≤ 64000 := by have := hO.small HLK.out; omega
   have hPl := hbx.lt
   have z4 : wr.cell? ⟨P, 4, none⟩ = some (.slice A t.items.length c) := hbx.cell 4
   clear hO hbel hbx
   by_cases hlt : k < t.items.length
   ·
    have u1 : decide (k < t.items.length) = true := decide_eq_true hlt
    have u1' : decide ((k : Int) < (t.items.length : Int)) = true := decide_eq_true (by omega)
    obtain ⟨j, hj⟩ : ∃ j : Nat, j = (k + dn) % t.items.length := ⟨_, rfl⟩
    have hjl : j < t.items.length := by rw [hj]; exact Nat.mod_lt _ (by omega)
    have ej : ((k : Int) + d) % (t.items.length : Int) = (j : Int) := by rw [HDN.out, hj]; push_cast; rfl
    have ej' : ((k : Int) + d).tmod (t.items.length : Int) = (j : Int) := by rw [Int.tmod_eq_emod_of_nonneg (by omega)]; exact ej
    have HJ := Lib.hid hj
    clear hj
    have el0 : ((t.items.length : Int) == 0) = false := by rw [beq_eq_false_iff_ne]; omega
    have el1 : (t.items.length == 0) = false := by rw [beq_eq_false_iff_ne]; omega
    have eki : IntKind.i64.wrap ((k : Int) + d) = (k : Int) + d := IntWalk.i64_in _ (by omega)
    have eki' : wrap64 ((k : Int) + d) = (k : Int) + d := IntWalk.wrap64_in _ (by omega)
    have w1 : IntKind.i64.wrap (at_ + (k : Int)) = at_ + (k : Int) := IntWalk.i64_in _ (by omega)
    have w1' : wrap64 (at_ + (k : Int)) = at_ + (k : Int) := IntWalk.wrap64_in _ (by omega)
    have w2 : IntKind.i64.wrap (at_ + (k : Int) + 1) = at_ + (k : Int) + 1 := IntWalk.i64_in _ (by omega)
    have w2' : wrap64 (at_ + (k : Int) + 1) = at_ + (k : Int) + 1 := IntWalk.wrap64_in _ (by omega)
    obtain ⟨b, o, x, D, g, D', g', rfl, hb, hx, h6, hX⟩ := HV.out.at_ hjl
    obtain ⟨bk, ok, rfl, hbk, hkc⟩ := HV.out.keys (by intro h; have := HLK.out; rw [h] at this; simp at this; omega)
    obtain ⟨q, hq⟩ : ∃ q, t.keys[j]? = some q := ⟨_, List.getElem?_eq_getElem (by have := HLK.out; omega)⟩
    have hqc := hkc j q hq
    have HQ := Lib.hid hq
    have HQT := Lib.hid (HKT.out q (List.mem_of_getElem? hq))
    have hxs := T.at_size hx
    have HXE := Lib.hid hx
    have HXN := Lib.hid (HN.out.at_ hx)
    have HXV := Lib.hid hX
    have HKL : t.keys.length = t.items.length := HLK.out
    have hjk : j < t.keys.length := by omega
    clear HKL
    have HPW := Hbel.out.size
    have HSS := Lib.hid (fun (w' : World) (hw' : Below wr.heap.size wr w') => show w'.cell? ⟨P, 4, none⟩ = some (.slice (some ⟨b, o, none⟩) t.items.length c) ∧ w'.cell? ⟨P, 5, none⟩ = some (.slice (some ⟨bk, ok, none⟩) t.keys.length c') ∧ w'.cell? ⟨bk, ok + j, none⟩ = some (.string q) ∧ (w'.cell? ⟨b, o + j * 6, none⟩ = some (.int .i64 x.kind) ∧ w'.cell? ⟨b, o + j * 6 + 1, none⟩ = some (.bool x.tr) ∧ w'.cell? ⟨b, o + j * 6 + 2, none⟩ = some (.int .i64 x.num) ∧ w'.cell? ⟨b, o + j * 6 + 3, none⟩ = some (.string x.str) ∧ w'.cell? ⟨b, o + j * 6 + 4, none⟩ = some (.slice D x.items.length g) ∧ w'.cell? ⟨b, o + j * 6 + 5, none⟩ = some (.slice D' x.keys.length g')) from by
     have hB := Hbel.out.trans (hw'.mono (by omega))
     have hY := Hbx.out.onto hw'
     exact ⟨hY.cell 4, hY.cell 5, (hB.cell (p := ⟨bk, ok + j, none⟩) (by have : bk < P := hbk; omega)).trans hqc, h6.keep hb (.of_below hB)⟩)
    have HIW := Lib.hid (fun (wq : World) (hw' : Below wr.heap.size wr wq) => by
     have hB := Hbel.out.trans (hw'.mono (by omega))
     refine IH.out x (by omega) HXN.out D g D' g' B m mc (at_ + (k : Int) + 1) wq ?_ ?_ hm (by omega) (by omega)
     · exact (HXV.out.keep fun i hi => hB.block i hi).wide fun i hi => by have := hB.size; have : i < P := hi; show i < _; omega
     ·
      intro jj hjj
      obtain ⟨b1, o1, d1, e1, hs1, h01, h11, hc1⟩ := HW0.out jj hjj
      exact ⟨b1, o1, d1, e1, by have := hB.size; have : b1 < P := hs1; omega, h01, h11, (hB.cell (p := ⟨b1, o1 + jj, none⟩) (by have : b1 < P := hs1; omega)).trans hc1⟩)
    clear hX h6 hx hq hqc hkc
    go_upto_if 43 with fail
    go_cut [9] (fun s9 wy => ∃ S : ByteArray, s9 = .string (O ++ S) ∧ S.data.toList = (if k = 0 then [] else G.data.toList ++ [44]) ∧ S.size ≤ 4 ∧ wy = wr)
    case first =>
     by_cases hk0 : k = 0
     ·
      have v0 : decide ((k : Int) > 0) = false := decide_eq_false (by omega)
      have v1 : decide ((0 : Int) < (k : Int)) = false := decide_eq_false (by omega)
      have v2 : decide (0 < k) = false := decide_eq_false (by omega)
      go_wp2_with fail
      go_meet
      exact ⟨⟨#[]⟩, congrArg Value.string (app_nil7 O), by rw [if_pos hk0], Nat.zero_le _, rfl⟩
     ·
      have v0 : decide ((k : Int) > 0) = true := decide_eq_true (by omega)
      have v1 : decide ((0 : Int) < (k : Int)) = true := decide_eq_true (by omega)
      have v2 : decide (0 < k) = true := decide_eq_true (by omega)
      go_wp2_with fail
      go_meet
      exact ⟨G ++ ⟨#[44]⟩, rfl, by rw [if_neg hk0, ByteArray.data_append, Array.toList_append], by rw [ByteArray.size_append]; show _ + 1 ≤ 4; omega, rfl⟩
    case rest =>
     obtain ⟨S, rfl, hS, hSs, rfl⟩ := hcut
     have HS := Lib.hid hS
     clear hS
     have HBc := Lib.hid (Below.refl wc.heap.size wc)
     obtain ⟨a4, b4, f4, x0, x1, x2, x3, x4, x5⟩ := HSS.out _ HBc.out
     have HWW := Lib.hid (Hbel.out.size)
     have hgi : (G.size : Int) ≤ 3 := by omega
     clear a4 b4 f4 x0 x1 x2 x3 x4 x5 z4 h0
     obtain ⟨a4, b4, f4, x0, x1, x2, x3, x4, x5⟩ := HSS.out _ HBc.out
     go_wp2_with fail
     go_region_held3 (fun w' => w'.cell? ⟨P, 4, none⟩ = some (.slice (some ⟨b, o, none⟩) t.items.length c) ∧ w'.cell? ⟨P, 5, none⟩ = some (.slice (some ⟨bk, ok, none⟩) t.keys.length c') ∧ w'.cell? ⟨bk, ok + j, none⟩ = some (.string q) ∧ (w'.cell? ⟨b, o + j * 6, none⟩ = some (.int .i64 x.kind) ∧ w'.cell? ⟨b, o + j * 6 + 1, none⟩ = some (.bool x.tr) ∧ w'.cell? ⟨b, o + j * 6 + 2, none⟩ = some (.int .i64 x.num) ∧ w'.cell? ⟨b, o + j * 6 + 3, none⟩ = some (.string x.str) ∧ w'.cell? ⟨b, o + j * 6 + 4, none⟩ = some (.slice D x.items.length g) ∧ w'.cell? ⟨b, o + j * 6 + 5, none⟩ = some (.slice D' x.keys.length g')))
      (first
       | with_reducible exact HSS.out _ HBc.out
       | with_reducible exact HSS.out _ (below_drewN HBc.out _)
       | exact HSS.out _ HBc.out.drew
       | go_keep)
      (first
       | (
        go_at_call 30
        refine (gap_ex _ (d / 8) _ (by first | exact eg | exact ef | rfl) ef0 ef1).mono ?_
        rintro e w8 ⟨B8, rfl, hB8, hBs8, hb8⟩
        have HBc := Lib.hid (show Below wc.heap.size wc w8 from by first | with_reducible exact HBc.out.trans (hb8.mono HBc.out.size) | with_reducible exact (below_drewN HBc.out _).trans (hb8.mono HBc.out.size) | exact HBc.out.drew.trans (hb8.mono HBc.out.size))
        clear hb8
        have HB8 := Lib.hid hB8
        clear hB8)
       | (
        go_at_call 33
        refine (l6text_any q d _ HQT.out.1 HQT.out.2 hd0 hd1).mono ?_
        rintro e w8 ⟨K8, rfl, hK8, hKs8, hb8⟩
        have HK8 := Lib.hid hK8
        have hKs9 : K8.size ≤ 722 := by have := HQT.out.2; omega
        have c1a : ¬ ((9223372036854775807 : Int) < (B8.size : Int) + (K8.size : Int)) := by omega
        have c1b : ¬ (9223372036854775807 < B8.size + K8.size) := by omega
        have c1c : B8.size + K8.size ≤ 9223372036854775807 := by omega
        have c1d : (B8.size : Int) + (K8.size : Int) ≤ (9223372036854775807 : Int) := by omega
        have c2a : ¬ ((9223372036854775807 : Int) < (B8.size : Int) + (K8.size : Int) + (G.size : Int)) := by omega
        have c2b : ¬ (9223372036854775807 < B8.size + K8.size + G.size) := by omega
        have c2c : B8.size + K8.size + G.size ≤ 9223372036854775807 := by omega
        have c2d : (B8.size : Int) + (K8.size : Int) + (G.size : Int) ≤ (9223372036854775807 : Int) := by omega
        have c3a : ¬ ((9223372036854775807 : Int) < (B8.size : Int) + (K8.size : Int) + (G.size : Int) + 1) := by omega
        have c3b : ¬ (9223372036854775807 < B8.size + K8.size + G.size + 1) := by omega
        have c3c : B8.size + K8.size + G.size + 1 ≤ 9223372036854775807 := by omega
        have c3d : (B8.size : Int) + (K8.size : Int) + (G.size : Int) + 1 ≤ (9223372036854775807 : Int) := by omega
        have HBc := Lib.hid (show Below wc.heap.size wc w8 from by first | with_reducible exact HBc.out.trans (hb8.mono HBc.out.size) | with_reducible exact (below_drewN HBc.out _).trans (hb8.mono HBc.out.size) | exact HBc.out.drew.trans (hb8.mono HBc.out.size))
        clear hb8 hK8 hKs8)
       | (
        go_at_call 15
        refine (HIW.out _ ?_).mono ?_
        · exact (by first | with_reducible exact HBc.out | with_reducible exact below_drewN HBc.out _ | exact HBc.out.drew)
        rintro e w8 ⟨r8, rfl, hr8, hrs8, hb8⟩
        have HR8 := Lib.hid hr8
        have hrs9 : r8.size ≤ 64000 := by omega
        have c6a : ¬ ((9223372036854775807 : Int) < (B8.size : Int) + (K8.size : Int) + (G.size : Int) + 1 + (r8.size : Int)) := by omega
        have c6b : ¬ (9223372036854775807 < B8.size + K8.size + G.size + 1 + r8.size) := by omega
        have c6c : B8.size + K8.size + G.size + 1 + r8.size ≤ 9223372036854775807 := by omega
        have c6d : (B8.size : Int) + (K8.size : Int) + (G.size : Int) + 1 + (r8.size : Int) ≤ (9223372036854775807 : Int) := by omega
        have c7a : ¬ ((9223372036854775807 : Int) < (O.size : Int) + (S.size : Int) + ((B8.size : Int) + (K8.size : Int) + (G.size : Int) + 1 + (r8.size : Int))) := by omega
        have c7b : ¬ (9223372036854775807 < O.size + S.size + (B8.size + K8.size + G.size + 1 + r8.size)) := by omega
        have c7c : O.size + S.size + (B8.size + K8.size + G.size + 1 + r8.size) ≤ 9223372036854775807 := by omega
        have c7d : (O.size : Int) + (S.size : Int) + ((B8.size : Int) + (K8.size : Int) + (G.size : Int) + 1 + (r8.size : Int)) ≤ (9223372036854775807 : Int) := by omega
        have HBc := Lib.hid (show Below wc.heap.size wc w8 from by first | with_reducible exact HBc.out.trans (hb8.mono HBc.out.size) | with_reducible exact (below_drewN HBc.out _).trans (hb8.mono HBc.out.size) | exact HBc.out.drew.trans (hb8.mono HBc.out.size))
        clear hb8 hr8))
     all_goals
      go_wp2_with fail
      go_roundw
      case rel => exact ⟨k + 1, _, hlt, by go_num, rfl, HO.out.step HLK.out hlt HJ.out HQ.out HXE.out HS.out HB8.out hBs8 HGB.out hGs HK8.out hKs9 HR8.out hrs8, Hbel.out.trans (HBc.out.mono (by omega)), Hbx.out.onto HBc.out⟩
      case measure => simp [intOf]; omega
   ·
    obtain rfl : k = t.items.length := by omega
    have u1 : decide (t.items.length < t.items.length) = false := decide_eq_false (by omega)
    have u1' : decide ((t.items.length : Int) < (t.items.length : Int)) = false := decide_eq_false (by omega)
    go_wp2_with fail
    refine (l6blanks_any (d / 3) wr ed0 ed1).mono ?_
    rintro e w2 ⟨C, rfl, hCb, hCs, rfl⟩
    have HCB := Lib.hid hCb
    clear hCb
    go_wp2_with fail
    go_ret
    exact HO.out.done HN.out HK.out HGB.out HCB.out hGs hCs (hG ▸ Hbel.out)
end Go.Proofs.YtaeimlfehlbiiaaGreatDoor
namespace Go.Proofs.YtaeimlfehlbiiaaGreatDoor
open Go.RowKit
open Tk
open Pl
set_option linter.unusedVariables false
theorem write_at6 (n : Nat) : ∀ t : T, t.size ≤ n → t.Nice → WSays t := by
 induction n with
 | zero => intro t h; have := t.size_pos; omega
 | succ n ih =>
  intro t ht hn A c A' c' B m mc at_ w hv hW hm h0 h1
  have IH : ∀ x : T, x.size < t.size → x.Nice → WSays x := fun x hx hnx => ih x (by omega) hnx
  have k0 := hn.good.here.k0
  have k5 := hn.good.here.k5
  have hsz := hn.size
  rcases Int.lt_or_le t.kind 4 with h | h
  · exact write_leaf t A c A' c' B m mc at_ w hn h k0 hv hW hm h0 (by omega)
  ·
   by_cases h4 : t.kind = 4
   · exact write_arr t A c A' c' B m mc at_ w hn h4 IH hv hW hm h0 h1
   · exact write_obj t A c A' c' B m mc at_ w hn (by omega) IH hv hW hm h0 h1
theorem write_any6 (t : T) (A : Option Addr) (c : Nat) (A' : Option Addr) (c' : Nat) (B : Option Addr) (m mc : Nat) (w : World) (hn : t.Nice)
 (hv : TV w (· < w.heap.size) t A c A' c') (hW : Bytes8 w (· < w.heap.size) B m) (hm : m ≤ 60) :
 Calls Tryz.prog 15 #[.agg #[.int .i64 t.kind, .bool t.tr, .int .i64 t.num, .string t.str, .slice A t.items.length c, .slice A' t.keys.length c'], .slice B m mc, .int .i64 0] w (WtGives t w) :=
 write_at6 t.size t (Nat.le_refl _) hn A c A' c' B m mc 0 w hv hW hm (Int.le_refl _) (by have := hn.size; omega)
end Go.Proofs.YtaeimlfehlbiiaaGreatDoor
