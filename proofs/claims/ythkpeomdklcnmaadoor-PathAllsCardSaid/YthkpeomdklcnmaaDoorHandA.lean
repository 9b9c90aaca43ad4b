/- Frames with blocks left out; how many steps lead from a value, and which: contracts. -/
import Derived.Test.YthkpeomdklcnmaaDoorSets
import Derived.Test.YthkpeomdklcnmaaDoorParts
import Derived.Test.YthkpeomdklcnmaaDoorRget
import Derived.Outline
namespace Go.Proofs.YthkpeomdklcnmaaDoor
open Go.RowKit
set_option linter.unusedVariables false

/-- all blocks but those of D are kept -/
structure But (D : Nat → Prop) (w w' : World) : Prop where
  os : w'.os = w.os
  tape : w'.tape = w.tape
  output : w'.output = w.output
  size : w.heap.size ≤ w'.heap.size
  block : ∀ k, k < w.heap.size → ¬ D k → w'.heap[k]? = w.heap[k]?
theorem But.of {D : Nat → Prop} {w w' : World} (h : Below w.heap.size w w') : But D w w' := ⟨h.os, h.tape, h.output, h.size, fun k hk _ => h.block k hk⟩
theorem But.trans {D : Nat → Prop} {a b c : World} (h : But D a b) (k : But D b c) : But D a c :=
  ⟨k.os.trans h.os, k.tape.trans h.tape, k.output.trans h.output, Nat.le_trans h.size k.size, fun i hi hd => (k.block i (Nat.lt_of_lt_of_le hi h.size) hd).trans (h.block i hi hd)⟩
theorem But.wide {D E : Nat → Prop} {a b : World} (h : But D a b) (hd : ∀ k, D k → E k ∨ a.heap.size ≤ k) : But E a b :=
  ⟨h.os, h.tape, h.output, h.size, fun i hi he => h.block i hi fun hD => by rcases hd i hD with h1 | h1; exact he h1; omega⟩
/-- behind a step whose left out blocks are new, or left out too -/
theorem But.step {D E : Nat → Prop} {a b c : World} (h : But D a b) (k : But E b c) (hd : ∀ k, E k → D k ∨ a.heap.size ≤ k) : But D a c :=
  ⟨k.os.trans h.os, k.tape.trans h.tape, k.output.trans h.output, Nat.le_trans h.size k.size, fun i hi hD => (k.block i (Nat.lt_of_lt_of_le hi h.size) fun he => by rcases hd i he with h1 | h1; exact hD h1; omega).trans (h.block i hi hD)⟩
theorem But.below {D : Nat → Prop} {B : Nat} {w w' : World} (h : But D w w') (hd : ∀ k, D k → B ≤ k) (hB : B ≤ w.heap.size) : Below B w w' :=
  ⟨h.os, h.tape, h.output, h.size, fun k hk => h.block k (by omega) fun hD => by have := hd k hD; omega⟩
theorem But.keeps {D S : Nat → Prop} {w w' : World} (h : But D w w') (hs : ∀ b, S b → b < w.heap.size ∧ ¬ D b) : Keeps S w w' := fun b hb => h.block b (hs b hb).1 (hs b hb).2
theorem But.grown {D : Nat → Prop} {w w' : World} {row : Option Nat} (hg : w.grownBy w' row) (hd : ∀ k, some k = row → D k) : But D w w' :=
  ⟨hg.os, hg.tape, hg.output, hg.size, fun k hk hD => hg.block k hk fun e => hD (hd k e)⟩
theorem But.set {D : Nat → Prop} {w w' : World} (h : But D w w') {b o : Nat} (hb : D b ∨ w.heap.size ≤ b) (v : Value) : But D w (w'.setCell ⟨b, o, none⟩ v) :=
  ⟨h.os, h.tape, h.output, by simpa [World.setCell] using h.size, fun k hk hD => (Below.heap_setCell w' ⟨b, o, none⟩ v k (fun (e : k = b) => by rcases hb with hb | hb; exact hD (e ▸ hb); omega)).trans (h.block k hk hD)⟩
theorem But.blk {D : Nat → Prop} {w w' : World} (h : But D w w') {g : Nat} {t : TypeId} {cs : Array Value} (hb : Blk w g t cs) (hD : ¬ D g) : Blk w' g t cs := (h.block g hb.lt hD).trans hb

set_option maxRecDepth 100000 in
set_option maxHeartbeats 4000000 in
theorem items_any (t : T) (A : Option Addr) (c : Nat) (A' : Option Addr) (c' : Nat) (w : World) (hn : t.Fine) :
    Calls Tryd.prog 46 #[.agg #[.int .i64 t.kind, .bool t.tr, .int .i64 t.num, .string t.str, .slice A t.items.length c, .slice A' t.keys.length c']] w fun e w' => e = .returned (.int .i64 t.items.length) ∧ Below w.heap.size w w' := by
  have hi := hn.items80
  have hk := hn.keys_le
  have g := hn.good.here
  have hb : Below w.heap.size w (w.alloc (.cells #[.int .i64 t.kind, .bool t.tr, .int .i64 t.num, .string t.str, .slice A t.items.length c, .slice A' t.keys.length c'] 32)) := (Below.refl _ _).alloc (Nat.le_refl _) _
  have HB := Lib.hid hb
  clear hn hb
  by_cases h4 : t.kind = 4
  · have g4 : (t.kind == 4) = true := by rw [beq_iff_eq]; exact h4
    clear h4 g
    go_enter Tryd.func46, Tryd.ntmps46
    go_wp2_with fail
    go_ret
    exact ⟨rfl, HB.out⟩
  · have g4 : (t.kind == 4) = false := by rw [beq_eq_false_iff_ne]; exact h4
    by_cases h5 : t.kind = 5
    · have g5 : (t.kind == 5) = true := by rw [beq_iff_eq]; exact h5
      have HL := Lib.hid (g.lens h5)
      clear h4 h5 g
      go_enter Tryd.func46, Tryd.ntmps46
      go_wp2_with fail
      go_ret
      refine ⟨?_, HB.out⟩
      have hl := HL.out
      first | (simp [hl]; done) | (congr 2; omega)
    · have g5 : (t.kind == 5) = false := by rw [beq_eq_false_iff_ne]; exact h5
      have HZ := Lib.hid (g.items h4 h5)
      clear h4 h5 g
      go_enter Tryd.func46, Tryd.ntmps46
      go_wp2_with fail
      go_ret
      refine ⟨?_, HB.out⟩
      rw [HZ.out]; rfl
set_option maxRecDepth 100000 in
set_option maxHeartbeats 4000000 in
theorem stepTo_any (t : T) (A : Option Addr) (c : Nat) (A' : Option Addr) (c' : Nat) (j : Nat) (w : World) (hn : t.Fine) (hj : j < t.items.length) (hv : TV w (· < w.heap.size) t A c A' c') :
    Calls Tryd.prog 47 #[.agg #[.int .i64 t.kind, .bool t.tr, .int .i64 t.num, .string t.str, .slice A t.items.length c, .slice A' t.keys.length c'], .int .i64 j] w fun e w' => e = .returned (.string (stepOf t.kind t.keys j)) ∧ Below w.heap.size w w' := by
  have hi := hn.items80
  have g := hn.good.here
  have hb : Below w.heap.size w (w.alloc (.cells #[.int .i64 t.kind, .bool t.tr, .int .i64 t.num, .string t.str, .slice A t.items.length c, .slice A' t.keys.length c'] 32)) := (Below.refl _ _).alloc (Nat.le_refl _) _
  have HB := Lib.hid hb
  by_cases h5 : t.kind = 5
  · have g5 : (t.kind == 5) = true := by rw [beq_iff_eq]; exact h5
    have hl := g.lens h5
    have hkj : t.keys[j]? = some (stepOf t.kind t.keys j) := by
      have hkl : j < t.keys.length := by rw [hl]; exact hj
      unfold stepOf
      rw [if_pos h5, List.getD_eq_getElem?_getD, List.getElem?_eq_getElem hkl]; rfl
    obtain ⟨b, o, rfl, hbs, hc⟩ := hv.keys (by intro hz; rw [hz] at hkj; simp at hkj)
    have ek : (w.alloc (.cells #[.int .i64 t.kind, .bool t.tr, .int .i64 t.num, .string t.str, .slice A t.items.length c, .slice (some ⟨b, o, none⟩) t.keys.length c'] 32)).cell? ⟨b, o + j, none⟩ = some (.string (stepOf t.kind t.keys j)) := (hb.cell (p := ⟨b, o + j, none⟩) hbs).trans (hc j _ hkj)
    have i1 : (j : Int) < (t.keys.length : Int) := by omega
    have i2 : (0 : Int) ≤ (j : Int) := by omega
    clear hn h5 g hl hkj hc hv hb
    go_enter Tryd.func47, Tryd.ntmps47
    go_wp2_with fail
    go_ret
    exact ⟨rfl, HB.out⟩
  · have g5 : (t.kind == 5) = false := by rw [beq_eq_false_iff_ne]; exact h5
    have hs : stepOf t.kind t.keys j = decB j := by unfold stepOf; rw [if_neg h5]
    rw [hs]
    clear hn h5 g hs hv hb
    go_enter Tryd.func47, Tryd.ntmps47
    go_wp2_with fail
    refine (Tryd.strconv_Itoa_small j (by omega) _).mono ?_
    rintro e w3 ⟨rfl, rfl⟩
    go_wp2_with fail
    go_ret
    exact ⟨rfl, HB.out⟩
end Go.Proofs.YthkpeomdklcnmaaDoor
