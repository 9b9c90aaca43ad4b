/- A sequence as a value, its text, and what is read of it (plain). -/
import Derived.Test.YtgblenoaeanogaaGreatDoorDC
set_option linter.unusedVariables false
set_option maxRecDepth 100000
set_option maxHeartbeats 8000000
open Go.Lib (hid)
namespace Go.Proofs.YtgblenoaeanogaaGreatDoor
open Tk
def seqT (l : List Int) : T := Rd.arrT (l.map Rd.numT)
theorem seq_g {l : List Int} (h : ∀ x ∈ l, In64 x) : Rd.G (seqT l) := Rd.g_arr (fun x hx => by
 obtain ⟨n, hn, rfl⟩ := List.mem_map.1 hx
 exact Rd.g_num (h n hn))
theorem seq_depth (l : List Int) : (seqT l).depth ≤ 1 := by
 have h : T.depths (l.map Rd.numT) = 0 := by
  induction l with
  | nil => rfl
  | cons a l ih => rw [List.map_cons, T.depths, ih, T.depth_eq, if_neg (by show ¬ ((2 : Int) = 4 ∨ (2 : Int) = 5); decide)]; rfl
 rw [T.depth_eq]
 split
 ·
  show 1 + T.depths (l.map Rd.numT) ≤ 1
  rw [h]; decide
 · omega
theorem seq_txt (l : List Int) : (seqT l).txt = 91 :: (T.txts [] (l.map Rd.numT) 0 ++ [93]) := by
 rw [T.txt_eq, if_neg (by show ¬ (4 : Int) = 1; decide), if_neg (by show ¬ (4 : Int) = 2; decide), if_neg (by show ¬ (4 : Int) = 3; decide), if_pos (show (seqT l).kind = 4 from rfl)]
 rfl
theorem num_txt (n : Int) : (Rd.numT n).txt = Lib.itoa n := by
 rw [T.txt_eq, if_neg (by show ¬ (2 : Int) = 1; decide), if_pos (show (Rd.numT n).kind = 2 from rfl)]
 rfl
theorem seq_snoc (l : List Int) (n : Int) : T.txts [] ((l ++ [n]).map Rd.numT) 0 = T.txts [] (l.map Rd.numT) 0 ++ (comma l.length ++ Lib.itoa n) := by
 rw [List.map_append, txts_append, List.length_map, Nat.zero_add]
 show _ ++ T.txts [] [Rd.numT n] l.length = _
 rw [txts_cons, num_txt]
 show _ ++ (comma l.length ++ ([] ++ (Lib.itoa n ++ T.txts [] [] (l.length + 1)))) = _
 rw [List.nil_append, show T.txts [] [] (l.length + 1) = [] by rw [T.txts], List.append_nil]
theorem seq_ans (l : List Int) : ansV (seqT l) = if 4096 < l.length then ([], 0, 7) else if goodD l = true then (l, 0, 0) else ([], 0, 17) := by
 have h1 : numsL (seqT l).items = l := by
  show (l.map Rd.numT).map T.num = l
  rw [List.map_map]
  exact List.map_id' l
 have h2 : allInt (seqT l).items = true := by
  show (l.map Rd.numT).all (fun x => x.kind == 2) = true
  rw [List.all_eq_true]
  intro x hx
  obtain ⟨n, _, rfl⟩ := List.mem_map.1 hx
  rfl
 unfold ansV
 rw [if_pos ⟨rfl, h2⟩, h1]
theorem seq_read {s : ByteArray} {l : List Int} (h : ∀ x ∈ l, In64 x) (hs : s.data.toList = (seqT l).txt) (hz : s.size ≤ 16384) : ansD (Rd.parseR s 1) = if 4096 < l.length then ([], 0, 7) else if goodD l = true then (l, 0, 0) else ([], 0, 17) := by
 have hg := seq_g h
 have hw : Rd.whole Rd.Ob s 1 = .val (seqT l) 0 := (Rd.whole_txt Rd.Ob_good hg.1 hg.2 hs 1).1 (seq_depth l)
 have : Rd.parseR s 1 = .val (seqT l) 0 := by
  unfold Rd.parseR
  rw [if_neg (by decide), if_neg (by omega)]
  exact hw
 rw [this]
 exact seq_ans l
end Go.Proofs.YtgblenoaeanogaaGreatDoor
