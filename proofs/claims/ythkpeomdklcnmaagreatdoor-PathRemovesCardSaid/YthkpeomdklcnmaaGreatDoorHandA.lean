/- Frames with blocks left out; how many steps lead from a value, and which: contracts. -/
import Derived.Test.YthkpeomdklcnmaaGreatDoorSets
import Derived.Test.YthkpeomdklcnmaaGreatDoorParts
import Derived.Test.YthkpeomdklcnmaaGreatDoorRget
import Derived.Outline
namespace Go.Proofs.YthkpeomdklcnmaaGreatDoor
open Go.RowKit
set_option linter.unusedVariables false

/-- all blocks but those of D are kept -/
structure But (D : Nat → Prop) (w w' : World) : Prop where
  os : w'.os = w.os
  tape : w'.tape = w.tape
  output : w'.output = w.output
  size : w.heap.size ≤ w'.heap.size
  block : ∀ k, k < w.heap.size → ¬ D k → w'.heap[k]? = w.heap[k]?
theorem But.of {D : Nat → Prop} {w w' : World} (h : Below w.heap.size w w') : But D w w' := ⟨h.os, h.tape, h.output, h.size, fun k hk _ => h.block k hk⟩
theorem But.trans {D : Nat → Prop} {a b c : World} (h : But D a b) (k : But D b c) : But D a c :=
  ⟨k.os.trans h.os, k.tape.trans h.tape, k.output.trans h.output, Nat.le_trans h.size k.size, fun i hi hd => (k.block i (Nat.lt_of_lt_of_le hi h.size) hd).trans (h.block i hi hd)⟩
theorem But.wide {D E : Nat → Prop} {a b : World} (h : But D a b) (hd : ∀ k, D k → E k ∨ a.heap.size ≤ k) : But E a b :=
  ⟨h.os, h.tape, h.output, h.size, fun i hi he => h.block i hi fun hD => by rcases hd i hD with h1 | h1; exact he h1; omega⟩
/-- behind a step whose left out blocks are new, or left out too -/
theorem But.step {D E : Nat → Prop} {a b c : World} (h : But D a b) (k : But E b c) (hd : ∀ k, E k → D k ∨ a.heap.size ≤ k) : But D a c :=
  ⟨k.os.trans h.os, k.tape.trans h.tape, k.output.trans h.output, Nat.le_trans h.size k.size, fun i hi hD => (k.block i (Nat.lt_of_lt_of_le hi h.size) fun he => by rcases hd i he with h1 | h1; exact hD h1; omega).trans (h.block i hi hD)⟩
theorem But.below {D : Nat → Prop} {B : Nat} {w w' : World} (h : But D w w') (hd : ∀ k, D k → B ≤ k) (hB : B ≤ w.heap.size) : Below B w w' :=
  ⟨h.os, h.tape, h.output, h.size, fun k hk => h.block k (by omega) fun hD => by have := hd k hD; omega⟩
theorem But.keeps {D S : Nat → Prop} {w w' : World} (h : But D w w') (hs : ∀ b, S b → b < w.heap.size ∧ ¬ D b) : Keeps S w w' := fun b hb => h.block b (hs b hb).1 (hs b hb).2
theorem But.grown {D : Nat → Prop} {w w' : World} {row : Option Nat} (hg : w.grownBy w' row) (hd : ∀ k, some k = row → D k) : But D w w' :=
  ⟨hg.os, hg.tape, hg.output, hg.size, fun k hk hD => hg.block k hk fun e => hD (hd k e)⟩
theorem But.set {D : Nat → Prop} {w w' : World} (h : But D w w') {b o : Nat} (hb : D b ∨ w.heap.size ≤ b) (v : Value) : But D w (w'.setCell ⟨b, o, none⟩ v) :=
  ⟨h.os, h.tape, h.output, by simpa [World.setCell] using h.size, fun k hk hD => (Below.heap_setCell w' ⟨b, o, none⟩ v k (fun (e : k = b) => by rcases hb with hb | hb; exact hD (e ▸ hb); omega)).trans (h.block k hk hD)⟩
theorem But.blk {D : Nat → Prop} {w w' : World} (h : But D w w') {g : Nat} {t : TypeId} {cs : Array Value} (hb : Blk w g t cs) (hD : ¬ D g) : Blk w' g t cs := (h.block g hb.lt hD).trans hb

end Go.Proofs.YthkpeomdklcnmaaGreatDoor
