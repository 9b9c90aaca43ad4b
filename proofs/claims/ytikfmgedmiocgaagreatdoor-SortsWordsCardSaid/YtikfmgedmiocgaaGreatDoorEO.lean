/- Prefix: contract of the program's function. How deep a tree is: contract of the program's Depth. -/
import Derived.Test.YtikfmgedmiocgaaGreatDoorEN
namespace Go.Proofs.YtikfmgedmiocgaaGreatDoor
open Go.RowKit
open Tk Ex
set_option linter.unusedVariables false

end Go.Proofs.YtikfmgedmiocgaaGreatDoor
namespace Go.Proofs.YtikfmgedmiocgaaGreatDoor
open Go.RowKit
open Tk Ex
set_option linter.unusedVariables false

theorem args_len (e : E) : e.args.length < e.size := by
  rw [E.size_eq]
  have : ∀ l : List E, l.length ≤ E.sizes l := by
    intro l
    induction l with
    | nil => simp
    | cons x r ih => have := x.size_pos; simp only [List.length_cons, E.sizes]; omega
  have := this e.args
  omega
theorem take_deps {l : List E} {k : Nat} {x : E} (h : l[k]? = some x) : E.depths (l.take (k + 1)) = max (E.depths (l.take k)) x.depth := by
  rw [List.take_add_one, h]
  show E.depths (l.take k ++ [x]) = _
  rw [E.depths_append]
  show max _ (max x.depth 0) = _
  omega
theorem deps_take (l : List E) (k : Nat) : E.depths (l.take k) ≤ E.depths l := by
  have h := E.depths_append (l.take k) (l.drop k)
  rw [List.take_append_drop] at h
  omega
theorem Nine.cells {w : World} {b o : Nat} {e : E} {h : Hd} (k : Nine w b o e h) : w.cell? ⟨b, o, none⟩ = some (.string e.op) ∧ w.cell? ⟨b, o + 1, none⟩ = some (.string e.name) ∧ w.cell? ⟨b, o + 2, none⟩ = some (.int .i64 e.lit.kind) ∧ w.cell? ⟨b, o + 3, none⟩ = some (.bool e.lit.tr) ∧ w.cell? ⟨b, o + 4, none⟩ = some (.int .i64 e.lit.num) ∧ w.cell? ⟨b, o + 5, none⟩ = some (.string e.lit.str) ∧ w.cell? ⟨b, o + 6, none⟩ = some (.slice h.L e.lit.items.length h.l) ∧ w.cell? ⟨b, o + 7, none⟩ = some (.slice h.L' e.lit.keys.length h.l') ∧ w.cell? ⟨b, o + 8, none⟩ = some (.slice h.A e.args.length h.c) := by
  obtain ⟨a0, a1, ⟨s0, s1, s2, s3, s4, s5⟩, a3⟩ := k
  exact ⟨a0, a1, s0, s1, s2, s3, s4, s5, a3⟩
set_option maxRecDepth 100000 in
set_option maxHeartbeats 4000000 in
theorem xdepth_any : ∀ e : E, e.size ≤ 100000 → ∀ (h : Hd) (w : World) (S : Nat → Prop), (∀ q, S q → q < w.heap.size) → EV w S e h → Calls Tryz.prog 9 #[.agg (ecs e h)] w fun en w' => en = .returned (.int .i64 (e.depth : Nat)) ∧ Below w.heap.size w w' := by
  refine E.ind ?_
  intro e ih hsz h w S hS hev
  have hal := args_len e
  have hde := E.depth_eq e
  have hds : e.depth ≤ 100000 := Nat.le_trans (size_depth e) hsz
  have HIH := Lib.hid ih
  have HE := Lib.hid hev
  have HS := Lib.hid hS
  have HDE := Lib.hid hde
  have HTK := Lib.hid (fun k => deps_take e.args k)
  have HSZ := Lib.hid (fun x (hx : x ∈ e.args) => (show x.size ≤ 100000 from by have := E.mem_size hx; have := E.size_eq e; omega))
  clear ih hev hS hde
  unfold ecs
  obtain ⟨hL, hl1, hL', hl2, hA1, hc1⟩ := h
  dsimp only
  have hB : Blk (w.alloc (.cells #[.string e.op, .string e.name, .int .i64 e.lit.kind, .bool e.lit.tr, .int .i64 e.lit.num, .string e.lit.str, .slice hL e.lit.items.length hl1, .slice hL' e.lit.keys.length hl2, .slice hA1 e.args.length hc1] 30)) w.heap.size 30 #[.string e.op, .string e.name, .int .i64 e.lit.kind, .bool e.lit.tr, .int .i64 e.lit.num, .string e.lit.str, .slice hL e.lit.items.length hl1, .slice hL' e.lit.keys.length hl2, .slice hA1 e.args.length hc1] := Blk.new w _ _
  have hW : Below w.heap.size w (w.alloc (.cells #[.string e.op, .string e.name, .int .i64 e.lit.kind, .bool e.lit.tr, .int .i64 e.lit.num, .string e.lit.str, .slice hL e.lit.items.length hl1, .slice hL' e.lit.keys.length hl2, .slice hA1 e.args.length hc1] 30)) := (Below.refl _ _).alloc (Nat.le_refl _) _
  go_enter Tryz.func9, Tryz.ntmps9
  have b8 := hB.cell 8
  have HW := Lib.hid hW
  clear hB hW
  go_wp2_with fail
  clear b8
  go_loopw [3, 9] (fun y x wr => ∃ k : Nat, k ≤ e.args.length ∧ x = .int .i64 k ∧ y = .int .i64 (E.depths (e.args.take k) : Nat) ∧ Below w.heap.size w wr) (fun _ x _ => e.args.length - (intOf x).toNat)
  case atStart => exact ⟨0, Nat.zero_le _, rfl, by simp [E.depths], HW.out⟩
  case round =>
    obtain ⟨k, hk, rfl, rfl, hbw⟩ := hrel
    have htk := HTK.out k
    have HBW := Lib.hid hbw
    have hbs := hbw.size
    have hd1 : E.depths (e.args.take k) ≤ 100000 := by have := HDE.out; omega
    by_cases hlt : k < e.args.length
    · have u1 : decide (k < e.args.length) = true := decide_eq_true hlt
      have u2 : decide ((k : Int) < (e.args.length : Int)) = true := decide_eq_true (by omega)
      have i1 : (k : Int) < (e.args.length : Int) := by omega
      have i2 : (0 : Int) ≤ (k : Int) := by omega
      have hev2 := HE.out.keep (w' := wr) (fun q hq => hbw.block q (HS.out q hq))
      obtain ⟨b, o, x, q, hAe, hSb, hx, h9, hex⟩ := hev2.at_ hlt
      dsimp only at hAe
      subst hAe
      obtain ⟨p0, p1, p2, p3, p4, p5, p6, p7, p8⟩ := h9.cells
      have HEX := Lib.hid hex
      have HX := Lib.hid hx
      clear hex hev2 h9 hbw
      go_upto_region 5 with fail
      change Code.wp _ _ _ _ (wr.alloc (.cells #[.string x.op, .string x.name, .int .i64 x.lit.kind, .bool x.lit.tr, .int .i64 x.lit.num, .string x.lit.str, .slice q.L x.lit.items.length q.l, .slice q.L' x.lit.keys.length q.l', .slice q.A x.args.length q.c] 30))
      have hB5 : Blk (wr.alloc (.cells #[.string x.op, .string x.name, .int .i64 x.lit.kind, .bool x.lit.tr, .int .i64 x.lit.num, .string x.lit.str, .slice q.L x.lit.items.length q.l, .slice q.L' x.lit.keys.length q.l', .slice q.A x.args.length q.c] 30)) wr.heap.size 30 #[.string x.op, .string x.name, .int .i64 x.lit.kind, .bool x.lit.tr, .int .i64 x.lit.num, .string x.lit.str, .slice q.L x.lit.items.length q.l, .slice q.L' x.lit.keys.length q.l', .slice q.A x.args.length q.c] := Blk.new wr _ _
      have hW5 : Below wr.heap.size wr (wr.alloc (.cells #[.string x.op, .string x.name, .int .i64 x.lit.kind, .bool x.lit.tr, .int .i64 x.lit.num, .string x.lit.str, .slice q.L x.lit.items.length q.l, .slice q.L' x.lit.keys.length q.l', .slice q.A x.args.length q.c] 30)) := (Below.refl _ _).alloc (Nat.le_refl _) _
      have HBW5 := Lib.hid (HBW.out.trans (hW5.mono hbs))
      have hws := hW5.size
      have HEX5 := Lib.hid (HEX.out.keep (w' := (wr.alloc (.cells #[.string x.op, .string x.name, .int .i64 x.lit.kind, .bool x.lit.tr, .int .i64 x.lit.num, .string x.lit.str, .slice q.L x.lit.items.length q.l, .slice q.L' x.lit.keys.length q.l', .slice q.A x.args.length q.c] 30))) (fun q2 hq => hW5.block q2 (by have := HS.out q2 hq; omega)))
      have b0 := hB5.cell 0
      have b1 := hB5.cell 1
      have b2 := hB5.cell 2
      have b3 := hB5.cell 3
      have b4 := hB5.cell 4
      have b5 := hB5.cell 5
      have b6 := hB5.cell 6
      have b7 := hB5.cell 7
      have b8 := hB5.cell 8
      have HXM := Lib.hid (List.mem_of_getElem? HX.out)
      have HTD := Lib.hid (take_deps HX.out)
      have hxd : x.depth ≤ 100000 := Nat.le_trans (size_depth x) (HSZ.out x HXM.out)
      have hxp := x.depth_pos
      generalize hWe : (wr.alloc (.cells #[.string x.op, .string x.name, .int .i64 x.lit.kind, .bool x.lit.tr, .int .i64 x.lit.num, .string x.lit.str, .slice q.L x.lit.items.length q.l, .slice q.L' x.lit.keys.length q.l', .slice q.A x.args.length q.c] 30)) = W5 at *
      have HI := Lib.hid (show Calls Tryz.prog 9 #[.agg #[.string x.op, .string x.name, .int .i64 x.lit.kind, .bool x.lit.tr, .int .i64 x.lit.num, .string x.lit.str, .slice q.L x.lit.items.length q.l, .slice q.L' x.lit.keys.length q.l', .slice q.A x.args.length q.c]] W5 (fun en w' => en = .returned (.int .i64 (x.depth : Nat)) ∧ Below W5.heap.size W5 w') from HIH.out x HXM.out (HSZ.out x HXM.out) q W5 S (fun q2 hq => by have := HS.out q2 hq; omega) HEX5.out)
      obtain ⟨d2, hd2⟩ : ∃ d2, E.depths (e.args.take (k + 1)) = d2 := ⟨_, rfl⟩
      have HD2 := Lib.hid hd2
      have hdd : d2 = max (E.depths (e.args.take k)) x.depth := by rw [← hd2]; exact HTD.out
      have HDD := Lib.hid hdd
      clear hB5 hW5 hWe p0 p1 p2 p3 p4 p5 p6 p7 p8 hd2
      generalize E.depths (e.args.take k) = d1 at *
      generalize x.depth = d at *
      have e1 : max (d1 : Int) (d : Int) = (d2 : Int) := by rw [HDD.out]; omega
      clear hdd
      go_wp2_with fail
      refine HI.out.mono ?_
      rintro en w6 ⟨rfl, hb6⟩
      have HB6 := Lib.hid (HBW5.out.trans (hb6.mono (by omega)))
      clear hb6 b0 b1 b2 b3 b4 b5 b6 b7 b8
      go_wp2_with fail
      go_roundw
      case rel => exact ⟨k + 1, hlt, by go_num, by rw [HD2.out] <;> (have := HDD.out; congr 1; split <;> omega), HB6.out⟩
      case measure => simp only [intOf, Int.toNat_natCast]; go_num
    · obtain rfl : k = e.args.length := by omega
      have u1 : decide (e.args.length < e.args.length) = false := decide_eq_false (by omega)
      have u2 : decide ((e.args.length : Int) < (e.args.length : Int)) = false := decide_eq_false (by omega)
      rw [List.take_length] at *
      have HDE2 := Lib.hid HDE.out
      generalize E.depths e.args = dd at *
      go_wp2_with fail
      go_ret
      exact ⟨by rw [HDE2.out] <;> rfl, HBW.out⟩
end Go.Proofs.YtikfmgedmiocgaaGreatDoor
