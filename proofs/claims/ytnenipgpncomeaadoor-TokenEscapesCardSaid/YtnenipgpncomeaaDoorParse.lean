/- Contracts of the program's Parse and Text. -/
import Derived.Test.YtnenipgpncomeaaDoorIsnum
import Derived.Lib.AtoiErrMem
import Derived.Lib.AppendIntMem
import Derived.Lib.LaidTab
namespace Go.Proofs.YtnenipgpncomeaaDoor.W2
open Go.RowKit
open De

theorem isnum_f {s : ByteArray} {w : World} (hs : s.size ≤ 100000) (b : Bool) (h : form s.data.toList = b) :
    Calls Tryd.prog 54 #[.string s] w fun e w' => e = .returned (.bool b) ∧ Below w.heap.size w w' := by
  have := isnum_any s w hs; rwa [h] at this

set_option maxRecDepth 100000 in
set_option maxHeartbeats 2000000 in
theorem parse_bad (s : ByteArray) (w : World) (hs : s.size ≤ 100000) (hf : form s.data.toList = false) :
    Calls Tryd.prog 42 #[.string s] w fun e w' => e = .returned (.tuple #[.int .i64 0, .int .i64 1]) ∧ Below w.heap.size w w' := by
  have Hf := Lib.hid hf
  clear hf
  go_enter Tryd.func42, Tryd.ntmps42
  go_wp2_with fail
  refine (isnum_f hs false Hf.out).mono ?_
  rintro e w2 ⟨rfl, hb2⟩
  have Hb2 := Lib.hid hb2
  clear hb2
  go_wp2_with fail
  go_ret2
  exact ⟨rfl, Hb2.out⟩
/-- a package-level variable reads on -/
theorem var_on {P : Program} {w w' : World} {n : String} {cs : Array Value} (h : w.var? P n = some cs) (hb : Below w.heap.size w w') : w'.var? P n = some cs := by
  unfold World.var? at h ⊢
  cases hg : P.globalNamed n with
  | none => rw [hg] at h; cases h
  | some g =>
    rw [hg] at h
    simp only [Option.bind_some] at h ⊢
    have hlt : g < w.heap.size := by
      rcases Nat.lt_or_ge g w.heap.size with hl | hl
      · exact hl
      · rw [Array.getElem?_eq_none hl] at h; cases h
    rw [hb.block g hlt]
    exact h

set_option maxRecDepth 100000 in
set_option maxHeartbeats 2000000 in
theorem parse_ok (s : ByteArray) (w : World) (hs : s.size ≤ 100000) (hf : form s.data.toList = true) (hi : In64 (numL s.data.toList)) :
    Calls Tryd.prog 42 #[.string s] w fun e w' => e = .returned (.tuple #[.int .i64 (numL s.data.toList), .int .i64 0]) ∧ Below w.heap.size w w' := by
  have hp : Lib.parseIntB 64 s.data.toList = Lib.NumEnd.ok (numL s.data.toList) := (parseI hf).trans (if_pos hi)
  have Hf := Lib.hid hf
  have Hp := Lib.hid hp
  clear hf hi hp
  generalize numL s.data.toList = z at *
  go_enter Tryd.func42, Tryd.ntmps42
  go_wp2_with fail
  refine (isnum_f hs true Hf.out).mono ?_
  rintro e w2 ⟨rfl, hb2⟩
  have Hb2 := Lib.hid hb2
  clear hb2
  go_wp2_with fail
  refine (Tryd.strconv_ParseInt_10_at64_ok s (by omega) z Hp.out w2).mono ?_
  rintro e w3 ⟨rfl, hw3⟩
  have hb3 : Below w2.heap.size w2 w3 := by
    rcases hw3 with rfl | ⟨t, rfl⟩
    · exact Below.refl _ _
    · exact Lib.bytesWorld_below _ _ _
  have Hb3 := Lib.hid (Hb2.out.trans (hb3.mono Hb2.out.size))
  clear hw3 hb3
  go_wp2_with fail
  go_ret2
  exact ⟨rfl, Hb3.out⟩

set_option maxRecDepth 100000 in
set_option maxHeartbeats 2000000 in
theorem parse_far (s : ByteArray) (tp : TypeId) (p : Value) (w : World) (hs : s.size ≤ 100000) (hf : form s.data.toList = true) (hi : ¬ In64 (numL s.data.toList)) (hv : w.var? Tryd.prog "strconv.ErrRange" = some #[.iface tp p]) :
    Calls Tryd.prog 42 #[.string s] w fun e w' => e = .returned (.tuple #[.int .i64 0, .int .i64 4]) ∧ Below w.heap.size w w' := by
  have hp : Lib.parseIntB 64 s.data.toList = Lib.NumEnd.range := (parseI hf).trans (if_neg hi)
  have Hf := Lib.hid hf
  have Hp := Lib.hid hp
  have Hv := Lib.hid hv
  clear hf hi hp hv
  go_enter Tryd.func42, Tryd.ntmps42
  go_wp2_with fail
  refine (isnum_f hs true Hf.out).mono ?_
  rintro e w2 ⟨rfl, hb2⟩
  have Hb2 := Lib.hid hb2
  have Hv2 := Lib.hid (show w2.var? Tryd.prog "strconv.ErrRange" = some #[.iface tp p] from var_on Hv.out hb2)
  clear hb2
  go_wp2_with fail
  refine (Tryd.strconv_ParseInt_10_at64_range_var s (by omega) Hp.out tp p w2 Hv2.out).mono ?_
  rintro e w3 ⟨M, rfl, hM, _, hb3⟩
  have Hb3 := Lib.hid (Hb2.out.trans (hb3.mono Hb2.out.size))
  clear hb3
  go_wp2_with fail
  go_ret2
  exact ⟨rfl, Hb3.out⟩

end Go.Proofs.YtnenipgpncomeaaDoor.W2
