/- The law's Tree: contract. -/
import Derived.Test.YthfhlblpjjniiaaGreatDoorMM
import Derived.Test.YthfhlblpjjniiaaGreatDoorNJ
import Derived.Outline
import Derived.Deep.DeepCutAuto
import Derived.Deep.RegionLaw
import Derived.Deep.CutBlock
import Derived.Deep.LoopGhost
namespace Go.Proofs.YthfhlblpjjniiaaGreatDoor
open Go.RowKit
set_option linter.unusedVariables false
def Bytes8 (w : World) (S : Nat → Prop) (A : Option Addr) (m : Nat) : Prop := ∀ j, j < m → ∃ (b o : Nat) (d : Int), A = some ⟨b, o, none⟩ ∧ S b ∧ 0 ≤ d ∧ d < 256 ∧ w.cell? ⟨b, o + j, none⟩ = some (.int .u8 d)
def Strs (w : World) (S : Nat → Prop) (A : Option Addr) (m : Nat) : Prop := ∀ j, j < m → ∃ (b o : Nat) (s : ByteArray), A = some ⟨b, o, none⟩ ∧ S b ∧ w.cell? ⟨b, o + j, none⟩ = some (.string s)
def NodeAt (w : World) (S : Nat → Prop) (b o : Nat) : Prop := ∃ (k n : Int) (s : ByteArray) (I : Option Addr) (mi ci : Nat) (K : Option Addr) (mk ck : Nat),
 0 ≤ k ∧ k < 256 ∧ -9223372036854775808 ≤ n ∧ n ≤ 9223372036854775807 ∧ w.cell? ⟨b, o, none⟩ = some (.int .u8 k) ∧ w.cell? ⟨b, o + 1, none⟩ = some (.int .i64 n) ∧ w.cell? ⟨b, o + 2, none⟩ = some (.string s) ∧
 w.cell? ⟨b, o + 3, none⟩ = some (.slice I mi ci) ∧ w.cell? ⟨b, o + 4, none⟩ = some (.slice K mk ck) ∧ Bytes8 w S I mi ∧ Strs w S K mk
def Nodes (w : World) (S : Nat → Prop) (A : Option Addr) (n : Nat) : Prop := ∀ i, i < n → ∃ b o, A = some ⟨b, o, none⟩ ∧ S b ∧ NodeAt w S b (o + i * 5)
def Alls (lo V m lim : Nat) (w : World) : Prop := ∃ cs, Blk w V 32 cs ∧ cs.size = m * 6 ∧
 ∀ j, j < m → ∃ t B d B' d', Six w V (j * 6) t B d B' d' ∧ t.Nice ∧ TV w (fun b => lo ≤ b ∧ b < lim) t B d B' d'
def InBox (lo G : Nat) (w : World) : Prop := ∃ t A c A' c', Blk w G 32 (T.cs t A c A' c') ∧ t.Nice ∧ TV w (fun b => lo ≤ b ∧ b < w.heap.size ∧ b ≠ G) t A c A' c'
def Switched (w : World) (M lim : Nat) (wx : World) : Prop := InBox (w.heap.size + 2) (lim + 1) wx ∧ Alls (w.heap.size + 2) (w.heap.size + 1) M lim wx ∧ Blk wx w.heap.size 32 #[.int .i64 0, .bool false, .int .i64 0, .string ⟨#[]⟩, .slice none 0 0, .slice none 0 0] ∧ Below w.heap.size w wx ∧ lim + 2 ≤ wx.heap.size
def Appended (w : World) (lim : Nat) (l : List T) (x : T) (wc wy : World) : Prop := ∃ (A3 : Option Addr) (d3 : Nat) (xs3 : List Value), Coll 32 wy (lim + 2) (fun b => b < w.heap.size + 2 ∨ b = lim + 1) (l ++ [x]) (.slice A3 (l ++ [x]).length d3) xs3 ∧
 Blk wy (lim + 1) 32 #[.int .i64 4, .bool false, .int .i64 0, .string ⟨#[]⟩, .slice A3 (l ++ [x]).length d3, .slice none 0 0] ∧ (∀ b, b < lim + 1 → wy.heap[b]? = wc.heap[b]?) ∧ Below w.heap.size w wy ∧ lim + 2 ≤ wy.heap.size
def PutDone (w : World) (lim : Nat) (wc wy : World) : Prop := ∃ (l : List T) (ks : List ByteArray) (A2 : Option Addr) (d2 : Nat) (K2 : Option Addr) (e2 : Nat), TV wy (fun b => w.heap.size + 2 ≤ b ∧ b < wy.heap.size ∧ b ≠ lim + 1) (T.ofObj l ks) A2 d2 K2 e2 ∧ (T.ofObj l ks).Nice ∧
 Blk wy (lim + 1) 32 #[.int .i64 5, .bool false, .int .i64 0, .string ⟨#[]⟩, .slice A2 l.length d2, .slice K2 ks.length e2] ∧ (∀ b, b < lim + 1 → wy.heap[b]? = wc.heap[b]?) ∧ Below w.heap.size w wy ∧ lim + 2 ≤ wy.heap.size
end Go.Proofs.YthfhlblpjjniiaaGreatDoor
