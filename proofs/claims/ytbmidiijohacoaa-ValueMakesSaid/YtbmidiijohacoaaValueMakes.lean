/- ValueMakes: the values of a truth, an integer and a text, and the list of them and of nothing, are good, and are the document's. No conditions: any truth, int64 and string (the law itself asks nothing of strings of more than 200 bytes, nor of bytes that are no text). -/
import Derived.Test.YtbmidiijohacoaaRows
import Derived.Test.YtbmidiijohacoaaList
import Derived.Test.YtbmidiijohacoaaRefv
import Derived.Test.YtbmidiijohacoaaSameYes
import Derived.Test.YtbmidiijohacoaaGood
import Derived.WalkKit
import Derived.ProofKit
import Derived.OpenShut
import Derived.ShutString
namespace Go.Proofs.Ytbmidiijohacoaa.valueMakes
open Go.ChangeShapes Go.WideShapes Go.ChangeAt Go.RowKit
open Go.ChangeMaps (open_string shut_string)
set_option linter.unusedVariables false

theorem own : ownKnob Try.prog.godebug = none := by kernel_rfl

theorem good_list (b : Bool) (n : Int) (s : ByteArray) (hs : okText s) : (T.ofList [T.ofBool b, T.ofNum n, T.ofStr s, T.zero]).Good := by
  have hat : AllText [] := fun _ h => by cases h
  have hri : Rising [] := fun i a b h _ => by simp at h
  refine .mk _ ⟨(show (0 : Int) ≤ 4 by omega), (show (4 : Int) ≤ 5 by omega), fun _ => rfl, fun _ => rfl, fun _ => rfl, fun h _ => absurd rfl h, fun _ => rfl, fun h => absurd h (show (4 : Int) ≠ 5 by omega), okText_nil, hat, hri⟩ fun x hx => ?_
  change x ∈ [T.ofBool b, T.ofNum n, T.ofStr s, T.zero] at hx
  simp only [List.mem_cons, List.not_mem_nil, or_false] at hx
  rcases hx with rfl | rfl | rfl | rfl
  · exact T.leaf_all ⟨(show (0 : Int) ≤ 1 by omega), (show (1 : Int) ≤ 5 by omega), fun h => absurd rfl h, fun _ => rfl, fun _ => rfl, fun _ _ => rfl, fun _ => rfl, fun h => absurd h (show (1 : Int) ≠ 5 by omega), okText_nil, hat, hri⟩ rfl
  · exact T.leaf_all ⟨(show (0 : Int) ≤ 2 by omega), (show (2 : Int) ≤ 5 by omega), fun _ => rfl, fun h => absurd rfl h, fun _ => rfl, fun _ _ => rfl, fun _ => rfl, fun h => absurd h (show (2 : Int) ≠ 5 by omega), okText_nil, hat, hri⟩ rfl
  · exact T.leaf_all ⟨(show (0 : Int) ≤ 3 by omega), (show (3 : Int) ≤ 5 by omega), fun _ => rfl, fun _ => rfl, fun h => absurd rfl h, fun _ _ => rfl, fun _ => rfl, fun h => absurd h (show (3 : Int) ≠ 5 by omega), hs, hat, hri⟩ rfl
  · exact T.leaf_all ⟨(show (0 : Int) ≤ 0 by omega), (show (0 : Int) ≤ 5 by omega), fun _ => rfl, fun _ => rfl, fun _ => rfl, fun _ _ => rfl, fun _ => rfl, fun h => absurd h (show (0 : Int) ≠ 5 by omega), okText_nil, hat, hri⟩ rfl

set_option maxRecDepth 100000 in
set_option maxHeartbeats 400000 in
theorem same_list (a0 : Bool) (a1 : Int) (a2 : ByteArray) (B2 : Option Addr) (d2 : Nat) (B2' : Option Addr) (d2' : Nat) (g : Nat) (w : World)
    (hsz : (T.ofList [T.ofBool a0, T.ofNum a1, T.ofStr a2, T.zero]).size ≤ 100000) (hs : (T.ofList [T.ofBool a0, T.ofNum a1, T.ofStr a2, T.zero]).Small)
    (h1 : TV w (· < w.heap.size) (T.ofList [T.ofBool a0, T.ofNum a1, T.ofStr a2, T.zero]) B2 d2 B2' d2')
    (h2 : TV w (· < w.heap.size) (T.ofList [T.ofBool a0, T.ofNum a1, T.ofStr a2, T.zero]) (some ⟨g, 0, none⟩) 4 none 0) :
    Calls Try.prog 20 #[(T.ofList [T.ofBool a0, T.ofNum a1, T.ofStr a2, T.zero]).agg B2 d2 B2' d2', .agg #[.int .i64 4, .bool false, .int .i64 0, .string ⟨#[]⟩, .slice (some ⟨g, 0, none⟩) 4 4, .slice none 0 0]] w fun e w' => e = .returned (.bool true) ∧ Below w.heap.size w w' := by
  have h := rsame_yes (T.ofList [T.ofBool a0, T.ofNum a1, T.ofStr a2, T.zero]) B2 d2 B2' d2' (some ⟨g, 0, none⟩) 4 none 0 w hsz hs h1 h2
  rw [show (T.ofList [T.ofBool a0, T.ofNum a1, T.ofStr a2, T.zero]).agg (some ⟨g, 0, none⟩) 4 none 0 = .agg #[.int .i64 4, .bool false, .int .i64 0, .string ⟨#[]⟩, .slice (some ⟨g, 0, none⟩) 4 4, .slice none 0 0] from rfl] at h
  exact h
set_option maxRecDepth 100000 in
set_option maxHeartbeats 400000 in
theorem same_none (B2 : Option Addr) (d2 : Nat) (B2' : Option Addr) (d2' : Nat) (w : World)
    (h1 : TV w (· < w.heap.size) (T.ofList []) B2 d2 B2' d2') :
    Calls Try.prog 20 #[(T.ofList []).agg B2 d2 B2' d2', .agg #[.int .i64 4, .bool false, .int .i64 0, .string ⟨#[]⟩, .slice none 0 0, .slice none 0 0]] w fun e w' => e = .returned (.bool true) ∧ Below w.heap.size w w' := by
  have h := rsame_yes (T.ofList []) B2 d2 B2' d2' none 0 none 0 w (show 1 ≤ 100000 by omega) (T.leaf_all (Nat.zero_le _) rfl) h1 (TV.leaf _ _ rfl rfl)
  rw [show (T.ofList []).agg none 0 none 0 = .agg #[.int .i64 4, .bool false, .int .i64 0, .string ⟨#[]⟩, .slice none 0 0, .slice none 0 0] from rfl] at h
  exact h
set_option maxRecDepth 100000 in
set_option maxHeartbeats 8000000 in
theorem walk (a0 : Bool) (a1 : Int) (a2 : ByteArray) (w : World) :
    Calls Try.prog 4 #[.bool a0, .int .i64 a1, .string a2] w fun e w' => e = .returned (.bool true) ∧ Below w.heap.size w w' := by
  by_cases h2 : a2.size ≤ 200
  · have t0 : decide ((200 : Int) < (a2.size : Int)) = false := decide_eq_false (by omega)
    by_cases hok : okText a2
    · have Hok := Lib.hid hok
      clear hok
      go_enter Try.func4, Try.ntmps4
      go_wp2_with fail
      refine (awake_any _).mono ?_
      rintro e w1 ⟨rfl, hb1⟩
      have H1 := Lib.hid hb1
      clear hb1
      go_wp2_with fail
      refine (rval_yes a2 _ Hok.out (by omega)).mono ?_
      rintro e w2 ⟨rfl, hb2⟩
      have H2 := Lib.hid (H1.out.trans (hb2.mono H1.out.size))
      clear hb2 H1
      go_wp2_with fail
      refine (truth_any a0 _).mono ?_
      rintro e w3 ⟨rfl, hb3⟩
      have H3 := Lib.hid (H2.out.trans (hb3.mono H2.out.size))
      clear hb3 H2
      rw [show (T.ofBool a0).agg none 0 none 0 = .agg #[.int .i64 1, .bool a0, .int .i64 0, .string ⟨#[]⟩, .slice none 0 0, .slice none 0 0] from rfl]
      go_wp2_with fail
      refine (number_any a1 _).mono ?_
      rintro e w4 ⟨rfl, hb4⟩
      have H4 := Lib.hid (H3.out.trans (hb4.mono H3.out.size))
      clear hb4 H3
      rw [show (T.ofNum a1).agg none 0 none 0 = .agg #[.int .i64 2, .bool false, .int .i64 a1, .string ⟨#[]⟩, .slice none 0 0, .slice none 0 0] from rfl]
      go_wp2_with fail
      refine (text_any a2 _).mono ?_
      rintro e w5 ⟨rfl, hb5⟩
      have H5 := Lib.hid (H4.out.trans (hb5.mono H4.out.size))
      clear hb5 H4
      rw [show (T.ofStr a2).agg none 0 none 0 = .agg #[.int .i64 3, .bool false, .int .i64 0, .string a2, .slice none 0 0, .slice none 0 0] from rfl]
      go_wp2_with fail
      refine (list_any [T.ofBool a0, T.ofNum a1, T.ofStr a2, T.zero] (some ⟨w5.heap.size, 0, none⟩) 4 _ ?_ ?_ ?_).mono ?_
      · show T.sizes [T.ofBool a0, T.ofNum a1, T.ofStr a2, T.zero] ≤ 100000
        exact Nat.le_trans (Nat.le_of_eq (rfl : T.sizes [T.ofBool a0, T.ofNum a1, T.ofStr a2, T.zero] = 4)) (show 4 ≤ 100000 by omega)
      · intro x hx
        simp only [List.mem_cons, List.not_mem_nil, or_false] at hx
        rcases hx with rfl | rfl | rfl | rfl <;> exact T.leaf_all (Nat.zero_le _) rfl
      · intro _
        have kV := Blk.new w5 34 #[.int .i64 1, .bool a0, .int .i64 0, .string ⟨#[]⟩, .slice none 0 0, .slice none 0 0, .int .i64 2, .bool false, .int .i64 a1, .string ⟨#[]⟩, .slice none 0 0, .slice none 0 0, .int .i64 3, .bool false, .int .i64 0, .string a2, .slice none 0 0, .slice none 0 0, .int .i64 0, .bool false, .int .i64 0, .string ⟨#[]⟩, .slice none 0 0, .slice none 0 0]
        refine ⟨w5.heap.size, 0, rfl, kV.lt, fun i x hx => ?_⟩
        match i, hx with
        | 0, hx => injection hx with hx; subst hx; exact ⟨none, 0, none, 0, ⟨kV.cell 0, kV.cell 1, kV.cell 2, kV.cell 3, kV.cell 4, kV.cell 5⟩, TV.leaf _ _ rfl rfl⟩
        | 1, hx => injection hx with hx; subst hx; exact ⟨none, 0, none, 0, ⟨kV.cell 6, kV.cell 7, kV.cell 8, kV.cell 9, kV.cell 10, kV.cell 11⟩, TV.leaf _ _ rfl rfl⟩
        | 2, hx => injection hx with hx; subst hx; exact ⟨none, 0, none, 0, ⟨kV.cell 12, kV.cell 13, kV.cell 14, kV.cell 15, kV.cell 16, kV.cell 17⟩, TV.leaf _ _ rfl rfl⟩
        | 3, hx => injection hx with hx; subst hx; exact ⟨none, 0, none, 0, ⟨kV.cell 18, kV.cell 19, kV.cell 20, kV.cell 21, kV.cell 22, kV.cell 23⟩, TV.leaf _ _ rfl rfl⟩
      rintro e w6 ⟨⟨B, d, rfl, ht⟩, hb6⟩
      have H6 := Lib.hid ((H5.out.alloc H5.out.size _).trans (hb6.mono (H5.out.alloc H5.out.size _).size))
      have HT := Lib.hid ht
      clear hb6 ht H5
      rw [show (T.ofList [T.ofBool a0, T.ofNum a1, T.ofStr a2, T.zero]).agg B d none 0 = .agg #[.int .i64 4, .bool false, .int .i64 0, .string ⟨#[]⟩, .slice B 4 d, .slice none 0 0] from rfl]
      go_wp2_with fail
      have hHW : Below w.heap.size w (((w6.alloc (.cells #[.int .i64 4, .bool false, .int .i64 0, .string ⟨#[]⟩, .slice B 4 d, .slice none 0 0] 34)).alloc (.cells #[.int .i64 1, .bool a0, .int .i64 0, .string ⟨#[]⟩, .slice none 0 0, .slice none 0 0, .int .i64 2, .bool false, .int .i64 a1, .string ⟨#[]⟩, .slice none 0 0, .slice none 0 0, .int .i64 3, .bool false, .int .i64 0, .string a2, .slice none 0 0, .slice none 0 0, .int .i64 0, .bool false, .int .i64 0, .string ⟨#[]⟩, .slice none 0 0, .slice none 0 0] 30)).alloc (.cells #[.int .i64 4, .bool false, .int .i64 0, .string ⟨#[]⟩, .slice (some ⟨w6.heap.size + 1, 0, none⟩) 4 4, .slice none 0 0] 30)) :=
        ((H6.out.alloc H6.out.size _).alloc (by have := H6.out.size; simp; omega) _).alloc (by have := H6.out.size; simp; omega) _
      have hT6 : Below w6.heap.size w6 (((w6.alloc (.cells #[.int .i64 4, .bool false, .int .i64 0, .string ⟨#[]⟩, .slice B 4 d, .slice none 0 0] 34)).alloc (.cells #[.int .i64 1, .bool a0, .int .i64 0, .string ⟨#[]⟩, .slice none 0 0, .slice none 0 0, .int .i64 2, .bool false, .int .i64 a1, .string ⟨#[]⟩, .slice none 0 0, .slice none 0 0, .int .i64 3, .bool false, .int .i64 0, .string a2, .slice none 0 0, .slice none 0 0, .int .i64 0, .bool false, .int .i64 0, .string ⟨#[]⟩, .slice none 0 0, .slice none 0 0] 30)).alloc (.cells #[.int .i64 4, .bool false, .int .i64 0, .string ⟨#[]⟩, .slice (some ⟨w6.heap.size + 1, 0, none⟩) 4 4, .slice none 0 0] 30)) :=
        (((Below.refl _ _).alloc (Nat.le_refl _) _).alloc (by simp) _).alloc (by simp; omega) _
      have hB0 : Blk (((w6.alloc (.cells #[.int .i64 4, .bool false, .int .i64 0, .string ⟨#[]⟩, .slice B 4 d, .slice none 0 0] 34)).alloc (.cells #[.int .i64 1, .bool a0, .int .i64 0, .string ⟨#[]⟩, .slice none 0 0, .slice none 0 0, .int .i64 2, .bool false, .int .i64 a1, .string ⟨#[]⟩, .slice none 0 0, .slice none 0 0, .int .i64 3, .bool false, .int .i64 0, .string a2, .slice none 0 0, .slice none 0 0, .int .i64 0, .bool false, .int .i64 0, .string ⟨#[]⟩, .slice none 0 0, .slice none 0 0] 30)).alloc (.cells #[.int .i64 4, .bool false, .int .i64 0, .string ⟨#[]⟩, .slice (some ⟨w6.heap.size + 1, 0, none⟩) 4 4, .slice none 0 0] 30)) w6.heap.size 34 #[.int .i64 4, .bool false, .int .i64 0, .string ⟨#[]⟩, .slice B 4 d, .slice none 0 0] := ((Blk.new w6 _ _).alloc _).alloc _
      have hB1 : Blk (((w6.alloc (.cells #[.int .i64 4, .bool false, .int .i64 0, .string ⟨#[]⟩, .slice B 4 d, .slice none 0 0] 34)).alloc (.cells #[.int .i64 1, .bool a0, .int .i64 0, .string ⟨#[]⟩, .slice none 0 0, .slice none 0 0, .int .i64 2, .bool false, .int .i64 a1, .string ⟨#[]⟩, .slice none 0 0, .slice none 0 0, .int .i64 3, .bool false, .int .i64 0, .string a2, .slice none 0 0, .slice none 0 0, .int .i64 0, .bool false, .int .i64 0, .string ⟨#[]⟩, .slice none 0 0, .slice none 0 0] 30)).alloc (.cells #[.int .i64 4, .bool false, .int .i64 0, .string ⟨#[]⟩, .slice (some ⟨w6.heap.size + 1, 0, none⟩) 4 4, .slice none 0 0] 30)) (w6.heap.size + 1) 30 #[.int .i64 1, .bool a0, .int .i64 0, .string ⟨#[]⟩, .slice none 0 0, .slice none 0 0, .int .i64 2, .bool false, .int .i64 a1, .string ⟨#[]⟩, .slice none 0 0, .slice none 0 0, .int .i64 3, .bool false, .int .i64 0, .string a2, .slice none 0 0, .slice none 0 0, .int .i64 0, .bool false, .int .i64 0, .string ⟨#[]⟩, .slice none 0 0, .slice none 0 0] := by
        have := (Blk.new (w6.alloc (.cells #[.int .i64 4, .bool false, .int .i64 0, .string ⟨#[]⟩, .slice B 4 d, .slice none 0 0] 34)) 30 #[.int .i64 1, .bool a0, .int .i64 0, .string ⟨#[]⟩, .slice none 0 0, .slice none 0 0, .int .i64 2, .bool false, .int .i64 a1, .string ⟨#[]⟩, .slice none 0 0, .slice none 0 0, .int .i64 3, .bool false, .int .i64 0, .string a2, .slice none 0 0, .slice none 0 0, .int .i64 0, .bool false, .int .i64 0, .string ⟨#[]⟩, .slice none 0 0, .slice none 0 0]).alloc (.cells #[.int .i64 4, .bool false, .int .i64 0, .string ⟨#[]⟩, .slice (some ⟨w6.heap.size + 1, 0, none⟩) 4 4, .slice none 0 0] 30)
        rwa [show (w6.alloc (.cells #[.int .i64 4, .bool false, .int .i64 0, .string ⟨#[]⟩, .slice B 4 d, .slice none 0 0] 34)).heap.size = w6.heap.size + 1 by simp] at this
      have hB2 : Blk (((w6.alloc (.cells #[.int .i64 4, .bool false, .int .i64 0, .string ⟨#[]⟩, .slice B 4 d, .slice none 0 0] 34)).alloc (.cells #[.int .i64 1, .bool a0, .int .i64 0, .string ⟨#[]⟩, .slice none 0 0, .slice none 0 0, .int .i64 2, .bool false, .int .i64 a1, .string ⟨#[]⟩, .slice none 0 0, .slice none 0 0, .int .i64 3, .bool false, .int .i64 0, .string a2, .slice none 0 0, .slice none 0 0, .int .i64 0, .bool false, .int .i64 0, .string ⟨#[]⟩, .slice none 0 0, .slice none 0 0] 30)).alloc (.cells #[.int .i64 4, .bool false, .int .i64 0, .string ⟨#[]⟩, .slice (some ⟨w6.heap.size + 1, 0, none⟩) 4 4, .slice none 0 0] 30)) (w6.heap.size + 1 + 1) 30 #[.int .i64 4, .bool false, .int .i64 0, .string ⟨#[]⟩, .slice (some ⟨w6.heap.size + 1, 0, none⟩) 4 4, .slice none 0 0] := by
        have := Blk.new ((w6.alloc (.cells #[.int .i64 4, .bool false, .int .i64 0, .string ⟨#[]⟩, .slice B 4 d, .slice none 0 0] 34)).alloc (.cells #[.int .i64 1, .bool a0, .int .i64 0, .string ⟨#[]⟩, .slice none 0 0, .slice none 0 0, .int .i64 2, .bool false, .int .i64 a1, .string ⟨#[]⟩, .slice none 0 0, .slice none 0 0, .int .i64 3, .bool false, .int .i64 0, .string a2, .slice none 0 0, .slice none 0 0, .int .i64 0, .bool false, .int .i64 0, .string ⟨#[]⟩, .slice none 0 0, .slice none 0 0] 30)) 30 #[.int .i64 4, .bool false, .int .i64 0, .string ⟨#[]⟩, .slice (some ⟨w6.heap.size + 1, 0, none⟩) 4 4, .slice none 0 0]
        rwa [show ((w6.alloc (.cells #[.int .i64 4, .bool false, .int .i64 0, .string ⟨#[]⟩, .slice B 4 d, .slice none 0 0] 34)).alloc (.cells #[.int .i64 1, .bool a0, .int .i64 0, .string ⟨#[]⟩, .slice none 0 0, .slice none 0 0, .int .i64 2, .bool false, .int .i64 a1, .string ⟨#[]⟩, .slice none 0 0, .slice none 0 0, .int .i64 3, .bool false, .int .i64 0, .string a2, .slice none 0 0, .slice none 0 0, .int .i64 0, .bool false, .int .i64 0, .string ⟨#[]⟩, .slice none 0 0, .slice none 0 0] 30)).heap.size = w6.heap.size + 1 + 1 by simp] at this
      change Code.wp _ _ _ _ (((w6.alloc (.cells #[.int .i64 4, .bool false, .int .i64 0, .string ⟨#[]⟩, .slice B 4 d, .slice none 0 0] 34)).alloc (.cells #[.int .i64 1, .bool a0, .int .i64 0, .string ⟨#[]⟩, .slice none 0 0, .slice none 0 0, .int .i64 2, .bool false, .int .i64 a1, .string ⟨#[]⟩, .slice none 0 0, .slice none 0 0, .int .i64 3, .bool false, .int .i64 0, .string a2, .slice none 0 0, .slice none 0 0, .int .i64 0, .bool false, .int .i64 0, .string ⟨#[]⟩, .slice none 0 0, .slice none 0 0] 30)).alloc (.cells #[.int .i64 4, .bool false, .int .i64 0, .string ⟨#[]⟩, .slice (some ⟨w6.heap.size + 1, 0, none⟩) 4 4, .slice none 0 0] 30))
      generalize (((w6.alloc (.cells #[.int .i64 4, .bool false, .int .i64 0, .string ⟨#[]⟩, .slice B 4 d, .slice none 0 0] 34)).alloc (.cells #[.int .i64 1, .bool a0, .int .i64 0, .string ⟨#[]⟩, .slice none 0 0, .slice none 0 0, .int .i64 2, .bool false, .int .i64 a1, .string ⟨#[]⟩, .slice none 0 0, .slice none 0 0, .int .i64 3, .bool false, .int .i64 0, .string a2, .slice none 0 0, .slice none 0 0, .int .i64 0, .bool false, .int .i64 0, .string ⟨#[]⟩, .slice none 0 0, .slice none 0 0] 30)).alloc (.cells #[.int .i64 4, .bool false, .int .i64 0, .string ⟨#[]⟩, .slice (some ⟨w6.heap.size + 1, 0, none⟩) 4 4, .slice none 0 0] 30)) = W at *
      have HW := Lib.hid hHW
      have HTW := Lib.hid (HT.out.on hT6)
      have hwant : TV W (· < W.heap.size) (T.ofList [T.ofBool a0, T.ofNum a1, T.ofStr a2, T.zero]) (some ⟨w6.heap.size + 1, 0, none⟩) 4 none 0 := by
        refine TV.of (Nat.le_refl _) (Nat.le_refl _) (fun _ => ?_) (SReads.none_ _ _ _)
        refine ⟨w6.heap.size + 1, 0, rfl, hB1.lt, fun i x hx => ?_⟩
        match i, hx with
        | 0, hx => injection hx with hx; subst hx; exact ⟨none, 0, none, 0, ⟨hB1.cell 0, hB1.cell 1, hB1.cell 2, hB1.cell 3, hB1.cell 4, hB1.cell 5⟩, TV.leaf _ _ rfl rfl⟩
        | 1, hx => injection hx with hx; subst hx; exact ⟨none, 0, none, 0, ⟨hB1.cell 6, hB1.cell 7, hB1.cell 8, hB1.cell 9, hB1.cell 10, hB1.cell 11⟩, TV.leaf _ _ rfl rfl⟩
        | 2, hx => injection hx with hx; subst hx; exact ⟨none, 0, none, 0, ⟨hB1.cell 12, hB1.cell 13, hB1.cell 14, hB1.cell 15, hB1.cell 16, hB1.cell 17⟩, TV.leaf _ _ rfl rfl⟩
        | 3, hx => injection hx with hx; subst hx; exact ⟨none, 0, none, 0, ⟨hB1.cell 18, hB1.cell 19, hB1.cell 20, hB1.cell 21, hB1.cell 22, hB1.cell 23⟩, TV.leaf _ _ rfl rfl⟩
      have HWant := Lib.hid hwant
      have HBv := Lib.hid hB0
      have HBw := Lib.hid hB2
      have hv0 : W.cell? ⟨w6.heap.size, 0, none⟩ = some (.int .i64 4) := hB0.cell 0
      have hv1 : W.cell? ⟨w6.heap.size, 1, none⟩ = some (.bool false) := hB0.cell 1
      have hv2 : W.cell? ⟨w6.heap.size, 2, none⟩ = some (.int .i64 0) := hB0.cell 2
      have hv3 : W.cell? ⟨w6.heap.size, 3, none⟩ = some (.string ⟨#[]⟩) := hB0.cell 3
      have hv4 : W.cell? ⟨w6.heap.size, 4, none⟩ = some (.slice B 4 d) := hB0.cell 4
      have hv5 : W.cell? ⟨w6.heap.size, 5, none⟩ = some (.slice none 0 0) := hB0.cell 5
      have hw0 : W.cell? ⟨w6.heap.size + 1 + 1, 0, none⟩ = some (.int .i64 4) := hB2.cell 0
      have hw1 : W.cell? ⟨w6.heap.size + 1 + 1, 1, none⟩ = some (.bool false) := hB2.cell 1
      have hw2 : W.cell? ⟨w6.heap.size + 1 + 1, 2, none⟩ = some (.int .i64 0) := hB2.cell 2
      have hw3 : W.cell? ⟨w6.heap.size + 1 + 1, 3, none⟩ = some (.string ⟨#[]⟩) := hB2.cell 3
      have hw4 : W.cell? ⟨w6.heap.size + 1 + 1, 4, none⟩ = some (.slice (some ⟨w6.heap.size + 1, 0, none⟩) 4 4) := hB2.cell 4
      have hw5 : W.cell? ⟨w6.heap.size + 1 + 1, 5, none⟩ = some (.slice none 0 0) := hB2.cell 5
      have hl0 := hB0.lt
      have hl2 := hB2.lt
      have HSS := Lib.hid (show ∀ w', Below W.heap.size W w' → w'.cell? ⟨w6.heap.size, 0, none⟩ = some (.int .i64 4) ∧ w'.cell? ⟨w6.heap.size, 1, none⟩ = some (.bool false) ∧ w'.cell? ⟨w6.heap.size, 2, none⟩ = some (.int .i64 0) ∧ w'.cell? ⟨w6.heap.size, 3, none⟩ = some (.string ⟨#[]⟩) ∧ w'.cell? ⟨w6.heap.size, 4, none⟩ = some (.slice B 4 d) ∧ w'.cell? ⟨w6.heap.size, 5, none⟩ = some (.slice none 0 0) ∧ w'.cell? ⟨w6.heap.size + 1 + 1, 0, none⟩ = some (.int .i64 4) ∧ w'.cell? ⟨w6.heap.size + 1 + 1, 1, none⟩ = some (.bool false) ∧ w'.cell? ⟨w6.heap.size + 1 + 1, 2, none⟩ = some (.int .i64 0) ∧ w'.cell? ⟨w6.heap.size + 1 + 1, 3, none⟩ = some (.string ⟨#[]⟩) ∧ w'.cell? ⟨w6.heap.size + 1 + 1, 4, none⟩ = some (.slice (some ⟨w6.heap.size + 1, 0, none⟩) 4 4) ∧ w'.cell? ⟨w6.heap.size + 1 + 1, 5, none⟩ = some (.slice none 0 0) from fun w' hb => ⟨(hb.cell (p := ⟨w6.heap.size, 0, none⟩) hl0).trans hv0, (hb.cell (p := ⟨w6.heap.size, 1, none⟩) hl0).trans hv1, (hb.cell (p := ⟨w6.heap.size, 2, none⟩) hl0).trans hv2, (hb.cell (p := ⟨w6.heap.size, 3, none⟩) hl0).trans hv3, (hb.cell (p := ⟨w6.heap.size, 4, none⟩) hl0).trans hv4, (hb.cell (p := ⟨w6.heap.size, 5, none⟩) hl0).trans hv5, (hb.cell (p := ⟨w6.heap.size + 1 + 1, 0, none⟩) hl2).trans hw0, (hb.cell (p := ⟨w6.heap.size + 1 + 1, 1, none⟩) hl2).trans hw1, (hb.cell (p := ⟨w6.heap.size + 1 + 1, 2, none⟩) hl2).trans hw2, (hb.cell (p := ⟨w6.heap.size + 1 + 1, 3, none⟩) hl2).trans hw3, (hb.cell (p := ⟨w6.heap.size + 1 + 1, 4, none⟩) hl2).trans hw4, (hb.cell (p := ⟨w6.heap.size + 1 + 1, 5, none⟩) hl2).trans hw5⟩)
      have HGood := Lib.hid (good_list a0 a1 a2 Hok.out)
      have hsz : (T.ofList [T.ofBool a0, T.ofNum a1, T.ofStr a2, T.zero]).size ≤ 100000 := Nat.le_trans (Nat.le_of_eq (rfl : (T.ofList [T.ofBool a0, T.ofNum a1, T.ofStr a2, T.zero]).size = 5)) (show 5 ≤ 100000 by omega)
      clear hHW hT6 hB0 hB1 hB2 hwant
      go_wp2_with fail
      go_region_held3 (fun w' => w'.cell? ⟨w6.heap.size, 0, none⟩ = some (.int .i64 4) ∧ w'.cell? ⟨w6.heap.size, 1, none⟩ = some (.bool false) ∧ w'.cell? ⟨w6.heap.size, 2, none⟩ = some (.int .i64 0) ∧ w'.cell? ⟨w6.heap.size, 3, none⟩ = some (.string ⟨#[]⟩) ∧ w'.cell? ⟨w6.heap.size, 4, none⟩ = some (.slice B 4 d) ∧ w'.cell? ⟨w6.heap.size, 5, none⟩ = some (.slice none 0 0) ∧ w'.cell? ⟨w6.heap.size + 1 + 1, 0, none⟩ = some (.int .i64 4) ∧ w'.cell? ⟨w6.heap.size + 1 + 1, 1, none⟩ = some (.bool false) ∧ w'.cell? ⟨w6.heap.size + 1 + 1, 2, none⟩ = some (.int .i64 0) ∧ w'.cell? ⟨w6.heap.size + 1 + 1, 3, none⟩ = some (.string ⟨#[]⟩) ∧ w'.cell? ⟨w6.heap.size + 1 + 1, 4, none⟩ = some (.slice (some ⟨w6.heap.size + 1, 0, none⟩) 4 4) ∧ w'.cell? ⟨w6.heap.size + 1 + 1, 5, none⟩ = some (.slice none 0 0))
        (first
          | with_reducible exact HSS.out _ HB6.out
          | with_reducible exact HSS.out _ HB5.out
          | with_reducible exact HSS.out _ HB4.out
          | with_reducible exact HSS.out _ HB3.out
          | with_reducible exact HSS.out _ HB2.out
          | with_reducible exact HSS.out _ HB1.out
          | go_keep)
        (first
          | (go_at_call 13
             refine (vgood_yes (T.ofList [T.ofBool a0, T.ofNum a1, T.ofStr a2, T.zero]) B d none 0 _ hsz HGood.out (HTW.out.on (by first | with_reducible exact below_drewN (Below.refl _ _) _ | with_reducible exact Below.refl _ _ | exact (Below.refl _ _).drew))).mono ?_
             rintro e8 w8 ⟨rfl, hb8⟩
             have HB1 := Lib.hid (show Below W.heap.size W w8 from (by first | with_reducible exact (below_drewN (Below.refl _ _) _).trans hb8 | with_reducible exact (Below.refl _ _).trans hb8 | exact (Below.refl _ _).drew.trans hb8))
             clear hb8)
          | (go_at_call 21
             have hg := HB1.out
             refine (ref_any _ (T.ofList [T.ofBool a0, T.ofNum a1, T.ofStr a2, T.zero]) B d none 0 _ hsz (Nat.le_refl _) (HTW.out.on (by first | with_reducible exact HB1.out | with_reducible exact below_drewN HB1.out _ | exact HB1.out.drew))).mono ?_
             rintro e9 w9 ⟨B2, d2, B2', d2', rfl, ht9, hb9⟩
             have HB2 := Lib.hid (show Below W.heap.size W w9 from (by first | with_reducible exact HB1.out.trans (hb9.mono HB1.out.size) | with_reducible exact (below_drewN HB1.out _).trans (hb9.mono HB1.out.size) | exact HB1.out.drew.trans (hb9.mono HB1.out.size)))
             have HT2 := Lib.hid (show TV w9 (· < w9.heap.size) (T.ofList [T.ofBool a0, T.ofNum a1, T.ofStr a2, T.zero]) B2 d2 B2' d2' from ht9.wide fun b hb => by rcases hb with hb | hb <;> (have h1 := hb9.size; have h2 := hb; first | exact h2.2 | exact Nat.lt_of_lt_of_le h2 h1))
             clear hg HB1 hb9 ht9)
          | (go_at_call 20
             have hg := HB2.out
             refine (same_list a0 a1 a2 B2 d2 B2' d2' _ _ hsz (HGood.out.small hsz) (HT2.out.on (by first | with_reducible exact Below.refl _ _ | with_reducible exact below_drewN (Below.refl _ _) _ | exact (Below.refl _ _).drew)) (HWant.out.on (by first | with_reducible exact HB2.out | with_reducible exact below_drewN HB2.out _ | exact HB2.out.drew))).mono ?_
             rintro e10 w10 ⟨rfl, hb10⟩
             have HB3 := Lib.hid (show Below W.heap.size W w10 from (by first | with_reducible exact HB2.out.trans (hb10.mono HB2.out.size) | with_reducible exact (below_drewN HB2.out _).trans (hb10.mono HB2.out.size) | exact HB2.out.drew.trans (hb10.mono HB2.out.size)))
             clear hg HB2 hb10)
          | (go_at_call 16
             have hg := HB3.out
             refine (list_any [] none 0 _ (Nat.zero_le _) (fun x hx => by cases hx) (fun h => absurd rfl h)).mono ?_
             rintro e11 w11 ⟨⟨B3, d3, rfl, ht11⟩, hb11⟩
             have HB4 := Lib.hid (show Below W.heap.size W w11 from (by first | with_reducible exact HB3.out.trans (hb11.mono HB3.out.size) | with_reducible exact (below_drewN HB3.out _).trans (hb11.mono HB3.out.size) | exact HB3.out.drew.trans (hb11.mono HB3.out.size)))
             have HT4 := Lib.hid ht11
             clear hg HB3 hb11 ht11)
          | (go_at_call 21
             have hg := HB4.out
             refine (ref_any _ (T.ofList []) B3 d3 none 0 _ (show 1 ≤ 100000 by omega) (Nat.le_refl _) (HT4.out.on (by first | with_reducible exact Below.refl _ _ | with_reducible exact below_drewN (Below.refl _ _) _ | exact (Below.refl _ _).drew))).mono ?_
             rintro e12 w12 ⟨B5, d5, B5', d5', rfl, ht12, hb12⟩
             have HB5 := Lib.hid (show Below W.heap.size W w12 from (by first | with_reducible exact HB4.out.trans (hb12.mono HB4.out.size) | with_reducible exact (below_drewN HB4.out _).trans (hb12.mono HB4.out.size) | exact HB4.out.drew.trans (hb12.mono HB4.out.size)))
             have HT5 := Lib.hid (show TV w12 (· < w12.heap.size) (T.ofList []) B5 d5 B5' d5' from ht12.wide fun b hb => by rcases hb with hb | hb <;> (have h1 := hb12.size; have h2 := hb; first | exact h2.2 | exact Nat.lt_of_lt_of_le h2 h1))
             clear hg HB4 hb12 ht12)
          | (go_at_call 20
             have hg := HB5.out
             refine (same_none B5 d5 B5' d5' _ (HT5.out.on (by first | with_reducible exact Below.refl _ _ | with_reducible exact below_drewN (Below.refl _ _) _ | exact (Below.refl _ _).drew))).mono ?_
             rintro e13 w13 ⟨rfl, hb13⟩
             have HB6 := Lib.hid (show Below W.heap.size W w13 from (by first | with_reducible exact HB5.out.trans (hb13.mono HB5.out.size) | with_reducible exact (below_drewN HB5.out _).trans (hb13.mono HB5.out.size) | exact HB5.out.drew.trans (hb13.mono HB5.out.size)))
             clear hg HB5 hb13))
      go_wp2_with fail
      go_ret
      exact ⟨rfl, HW.out.trans (HB6.out.mono HW.out.size)⟩
    · have Hok := Lib.hid hok
      clear hok
      go_enter Try.func4, Try.ntmps4
      go_wp2_with fail
      refine (awake_any _).mono ?_
      rintro e w1 ⟨rfl, hb1⟩
      have H1 := Lib.hid hb1
      clear hb1
      go_wp2_with fail
      refine (rval_no a2 _ Hok.out (by omega)).mono ?_
      rintro e w2 ⟨rfl, hb2⟩
      have H2 := Lib.hid (H1.out.trans (hb2.mono H1.out.size))
      clear hb2 H1
      go_wp2_with fail
      refine (awake_any _).mono ?_
      rintro e w3 ⟨rfl, hb3⟩
      have H3 := Lib.hid (H2.out.trans (hb3.mono H2.out.size))
      clear hb3 H2
      go_wp2_with fail
      go_ret
      exact ⟨rfl, H3.out⟩
  · have t0 : decide ((200 : Int) < (a2.size : Int)) = true := decide_eq_true (by omega)
    go_enter Try.func4, Try.ntmps4
    go_wp2_with fail
    refine (awake_any _).mono ?_
    rintro e w1 ⟨rfl, hb1⟩
    have H1 := Lib.hid hb1
    clear hb1
    go_wp2_with fail
    refine (awake_any _).mono ?_
    rintro e w2 ⟨rfl, hb2⟩
    have H2 := Lib.hid (H1.out.trans (hb2.mono H1.out.size))
    clear hb2 H1
    go_wp2_with fail
    go_ret
    exact ⟨rfl, H2.out⟩

set_option maxRecDepth 100000 in
theorem lifted (os : Os) (started : os.Started) (H : Type) (enc : TypeId × Value → H) :
    ReturnsInHanded {} Try.checked os 4 .any (Rows.valueMakesSpec.pre6 enc Try.prog Try.f4 Rows.valueMakesRow.domain false) (Rows.valueMakesSpec.post enc Try.prog Try.f4 false true false false) := by
  refine returnsInHanded_of_change (C := Try.checked) own started (by kernel_rfl) Try.func4
    (ChangeSpec.witness6 (enc := enc) (C := Try.checked) false ⟨#[], #[.bool false, .int .i64 0, .string ByteArray.empty], []⟩ 8 (by kernel_rfl) (by kernel_rfl) (by kernel_rfl) (by kernel_rfl)) ?_
  intro W base args ds gs before hval0 hW hcnd _
  have hval : ∀ (j : Nat) t v, Try.f4.params[j]? = some t → args[j]? = some v → Value.okWide Try.prog W .any base t v := hval0
  have hW' := hW
  obtain ⟨p, q, hA0, hV, rfl, hfz, hnd⟩ := hW
  have hA : DataW.TrodAll enc Try.prog W 0 (fun _ => true) true Try.f4.params.toList args.toList ds p := hA0
  rw [Try.params4] at hA hval
  obtain ⟨v0, vs0, d0, ds0, p0, q0, hargs, rfl, rfl, h0, r0⟩ := trodAll_cons hA
  obtain ⟨v1, vs1, d1, ds1, p1, q1, rfl, rfl, rfl, h1, r1⟩ := trodAll_cons r0
  obtain ⟨v2, vs2, d2, ds2, p2, q2, rfl, rfl, rfl, h2, r2⟩ := trodAll_cons r1
  obtain ⟨rfl, rfl, rfl⟩ := trodAll_nil r2
  obtain rfl : args = #[v0, v1, v2] := by cases args; simp_all
  obtain ⟨rfl, rfl⟩ := trodVars_none hV
  obtain ⟨a0, rfl, rfl, rfl⟩ := open_bool Try.underlying4 (hval 0 4 v0 rfl rfl) h0
  obtain ⟨a1, rfl, rfl, rfl, w1⟩ := open_int Try.underlying2 (hval 1 2 v1 rfl rfl) h1
  obtain ⟨a2, rfl, rfl, rfl, w2⟩ := open_string Try.underlying9 (hval 2 9 v2 rfl rfl) h2
  clear hA0 hval0
  simp only [List.append_nil] at hW'
  refine (walk a0 a1 a2 W).mono fun e W' ⟨he, bel⟩ => ?_
  subst he
  exact ⟨_, rfl, _, _, _, [], _, [], hW', trodAll_mk1 (shut_bool Try.underlying4 _), (trodAll_cons_mk (shut_bool Try.underlying4 _) (trodAll_cons_mk (shut_int Try.underlying2 w1) (trodAll_cons_mk (shut_string Try.underlying9 w2) trodAll_mk0))), rfl, bel.frame _, fun h => by cases h⟩

theorem over : Rows.valueMakesRow.holds Try.pinned (OpenSpec.ofChange Rows.valueMakesSpec) :=
  OpenClaim.holds_of_wide 4 Try.f4 rfl rfl rfl rfl rfl rfl rfl ⟨rfl, rfl, rfl, rfl, rfl⟩ rfl rfl rfl rfl rfl (by kernel_rfl) Try.func4 (by kernel_rfl)
    (of_decide_eq_true (by kernel_rfl)) (by unfold Func.isWrapper; first | (rw [if_pos (by decide +kernel)]; kernel_rfl) | (rw [if_neg (by decide +kernel)]; exact ⟨rfl, rfl⟩))
    (fun os started H enc _ => lifted os started H enc)

/-- The statement. -/
theorem proved : Rows.ValueMakesSaid :=
  over
end Go.Proofs.Ytbmidiijohacoaa.valueMakes
