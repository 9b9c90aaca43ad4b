/- All, and what it gives when it is gone through: contracts. -/
import Derived.Test.YthkpeomdklcnmaaDoorHandD
import Derived.Outline
namespace Go.Proofs.YthkpeomdklcnmaaDoor
open Go.RowKit
set_option linter.unusedVariables false

theorem preads_wide {w : World} {S S' : Nat → Prop} {A : Option Addr} {n : Nat} {L : List (List ByteArray × T)} (h : PReads w S A n L) (hs : ∀ b, S b → S' b) : PReads w S' A n L := by
  obtain ⟨rfl, xs, hc, h1⟩ := h
  refine ⟨rfl, xs, hc.wide hs, fun hn => ?_⟩
  obtain ⟨b, o, e, hS, hcell⟩ := h1 hn
  exact ⟨b, o, e, hs b hS, hcell⟩
/-- the sequence that keeps t -/
def AllsPost (t : T) (w : World) (e : Ending) (w' : World) : Prop :=
  ∃ g B d B' d', e = .returned (.func (.func 35) #[] #[.pointer (some ⟨g, 0, none⟩)]) ∧ w.heap.size ≤ g ∧ Blk w' g 32 #[.int .i64 t.kind, .bool t.tr, .int .i64 t.num, .string t.str, .slice B t.items.length d, .slice B' t.keys.length d'] ∧ TV w' (fun b => w.heap.size ≤ b ∧ b < w'.heap.size) t B d B' d' ∧ Below w.heap.size w w'
set_option maxRecDepth 100000 in
set_option maxHeartbeats 8000000 in
theorem alls_any (t : T) (A : Option Addr) (c : Nat) (A' : Option Addr) (c' : Nat) (w : World) (hn : t.Fine) (hv : TV w (· < w.heap.size) t A c A' c') :
    Calls Tryd.prog 18 #[.agg #[.int .i64 t.kind, .bool t.tr, .int .i64 t.num, .string t.str, .slice A t.items.length c, .slice A' t.keys.length c']] w (AllsPost t w) := by
  have HN := Lib.hid hn
  have HV := Lib.hid hv
  clear hn hv
  go_enter Tryd.func18, Tryd.ntmps18
  go_upto_region 1 with fail
  have hW : Below w.heap.size w (w.alloc (.cells #[.int .i64 t.kind, .bool t.tr, .int .i64 t.num, .string t.str, .slice A t.items.length c, .slice A' t.keys.length c'] 32)) := (Below.refl _ _).alloc (Nat.le_refl _) _
  have hB0 : Blk (w.alloc (.cells #[.int .i64 t.kind, .bool t.tr, .int .i64 t.num, .string t.str, .slice A t.items.length c, .slice A' t.keys.length c'] 32)) w.heap.size 32 #[.int .i64 t.kind, .bool t.tr, .int .i64 t.num, .string t.str, .slice A t.items.length c, .slice A' t.keys.length c'] := Blk.new w _ _
  change Code.wp _ _ _ _ (w.alloc (.cells #[.int .i64 t.kind, .bool t.tr, .int .i64 t.num, .string t.str, .slice A t.items.length c, .slice A' t.keys.length c'] 32))
  generalize (w.alloc (.cells #[.int .i64 t.kind, .bool t.tr, .int .i64 t.num, .string t.str, .slice A t.items.length c, .slice A' t.keys.length c'] 32)) = W at *
  have HW := Lib.hid hW
  obtain ⟨a0, a1, a2, a3, a4, a5⟩ : W.cell? ⟨w.heap.size, 0, none⟩ = some (.int .i64 t.kind) ∧ W.cell? ⟨w.heap.size, 1, none⟩ = some (.bool t.tr) ∧ W.cell? ⟨w.heap.size, 2, none⟩ = some (.int .i64 t.num) ∧ W.cell? ⟨w.heap.size, 3, none⟩ = some (.string t.str) ∧ W.cell? ⟨w.heap.size, 4, none⟩ = some (.slice A t.items.length c) ∧ W.cell? ⟨w.heap.size, 5, none⟩ = some (.slice A' t.keys.length c') := ⟨hB0.cell 0, hB0.cell 1, hB0.cell 2, hB0.cell 3, hB0.cell 4, hB0.cell 5⟩
  clear hW hB0
  go_wp2_with fail
  refine (copy_cells t A c A' c' W HN.out.le HN.out.small (HV.out.on HW.out)).mono ?_
  rintro e w2 ⟨B, d, B', d', rfl, hO, hb2⟩
  unfold T.agg
  have HT := Lib.hid (show TV w2 (fun b => w.heap.size ≤ b ∧ b < w2.heap.size) t B d B' d' from hO.tv.wide fun b hb => ⟨by have := HW.out.size; omega, hb.2⟩)
  have H2 := Lib.hid (HW.out.trans (hb2.mono HW.out.size))
  clear hO hb2 a0 a1 a2 a3 a4 a5
  go_wp2_with fail
  go_ret
  have hs := H2.out.size
  exact ⟨w2.heap.size, B, d, B', d', rfl, hs, Blk.new w2 _ _, (HT.out.keep fun b hb => Below.heap_alloc w2 _ b hb.2).wide fun b hb => ⟨hb.1, by have := hb.2; simp; omega⟩, H2.out.alloc hs _⟩
set_option maxRecDepth 100000 in
set_option maxHeartbeats 8000000 in
theorem all1_any (b8 b7 b6 b3 : Nat) (L : List (List ByteArray × T)) (m : Nat) (S : Nat → Prop) (A6 : Option Addr) (c6 : Nat) (hL : L.length ≤ 100) (hm : m ≤ 255) (V : Nat → Prop) (t : T) (A : Option Addr) (c : Nat) (A' : Option Addr) (c' g : Nat) (w : World) (hn : t.Fine)
    (hg : Blk w g 32 #[.int .i64 t.kind, .bool t.tr, .int .i64 t.num, .string t.str, .slice A t.items.length c, .slice A' t.keys.length c']) (hv : TV w V t A c A' c') (hVS : ∀ b, V b ∨ S b → b < w.heap.size ∧ ¬ Vars b8 b7 b) (ht : Told w b8 b7 b6 b3 L m 0 S A6 c6) (hseg : t.parts [] = L) :
    Calls Tryd.prog 35 #[.func (.func 19) #[] #[.pointer (some ⟨b8, 0, none⟩), .pointer (some ⟨b7, 0, none⟩), .pointer (some ⟨b6, 0, none⟩), .pointer (some ⟨b3, 0, none⟩)], .pointer (some ⟨g, 0, none⟩)] w
      fun e w' => (∃ v, e = .returned v) ∧ Told w' b8 b7 b6 b3 L m (min t.size (max m 1)) S A6 c6 ∧ But (Vars b8 b7) w w' := by
  have HC := Lib.hid (walk_at b8 b7 b6 b3 L m S A6 c6 hL hm 80 V t [] none 0 A c A' c' 0 w.heap.size w hn.size (Nat.le_refl _) hn (by simp) (Nat.le_refl _) (World.ownsRow_nil _ _ _ _) hv (fun b hb => ⟨(hVS b hb).1, by
    rintro (h | h)
    · exact (hVS b hb).2 h
    · cases h⟩) ht (.inl rfl) (fun i qx h => by rw [Nat.zero_add, ← hseg]; exact h))
  obtain ⟨a0, a1, a2, a3, a4, a5⟩ : w.cell? ⟨g, 0, none⟩ = some (.int .i64 t.kind) ∧ w.cell? ⟨g, 1, none⟩ = some (.bool t.tr) ∧ w.cell? ⟨g, 2, none⟩ = some (.int .i64 t.num) ∧ w.cell? ⟨g, 3, none⟩ = some (.string t.str) ∧ w.cell? ⟨g, 4, none⟩ = some (.slice A t.items.length c) ∧ w.cell? ⟨g, 5, none⟩ = some (.slice A' t.keys.length c') := ⟨hg.cell 0, hg.cell 1, hg.cell 2, hg.cell 3, hg.cell 4, hg.cell 5⟩
  clear hg hv hVS ht hseg hn
  go_enter Tryd.func35, Tryd.ntmps35
  go_wp2_with fail
  refine HC.out.mono ?_
  rintro e w2 ⟨k', hk, rfl, hT, hb, _⟩
  rw [Nat.zero_add] at hk
  subst hk
  have HT := Lib.hid hT
  have HB := Lib.hid (show But (Vars b8 b7) w w2 from hb.wide fun k h => by
    rcases h with h | h
    · exact .inl h
    · cases h)
  clear hT hb
  go_wp2_with fail
  exact bodyPost_end (v := .tuple #[]) (by first | rfl | simp [results, Tryd.results35]) rfl ⟨⟨_, rfl⟩, HT.out, HB.out⟩
end Go.Proofs.YthkpeomdklcnmaaDoor
