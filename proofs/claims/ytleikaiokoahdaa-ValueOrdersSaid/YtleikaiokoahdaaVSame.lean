/- value.Same: contract. -/
import Derived.Test.YtleikaiokoahdaaOrder3
namespace Go.Proofs.Ytleikaiokoahdaa
open Go.RowKit
set_option linter.unusedVariables false
set_option maxRecDepth 100000 in
set_option maxHeartbeats 4000000 in
theorem vsame_any (t u : T) (A : Option Addr) (c : Nat) (A' : Option Addr) (c' : Nat) (B : Option Addr) (d : Nat) (B' : Option Addr) (d' : Nat) (w : World) (ht : t.Nice) (hu : u.Nice) (hv : TV w (· < w.heap.size) t A c A' c') (hw : TV w (· < w.heap.size) u B d B' d') :
    Calls Try.prog 12 #[.agg #[.int .i64 t.kind, .bool t.tr, .int .i64 t.num, .string t.str, .slice A t.items.length c, .slice A' t.keys.length c'], .agg #[.int .i64 u.kind, .bool u.tr, .int .i64 u.num, .string u.str, .slice B u.items.length d, .slice B' u.keys.length d']] w fun e w' => e = .returned (.bool (ord t u == 0)) ∧ Below w.heap.size w w' := by
  have HT := Lib.hid ht
  have HU := Lib.hid hu
  have HV := Lib.hid hv
  have HX := Lib.hid hw
  have HW := Lib.hid (fun (o1 o2 : Obj) => (((Below.refl w.heap.size w).alloc (Nat.le_refl _) o1).alloc (by simp) o2 : Below w.heap.size w ((w.alloc o1).alloc o2)))
  have HO := Lib.hid (fun (wq : World) (hq : Below w.heap.size w wq) => order_at 100000 t u A c A' c' B d B' d' wq HT.out.le (Nat.le_refl _) HU.out.le HT.out.small HU.out.small HT.out.good HU.out.good (HV.out.on hq) (HX.out.on hq))
  clear ht hu hv hw
  go_enter Try.func12, Try.ntmps12
  go_wp2_with fail
  refine (HO.out _ (HW.out _ _)).mono ?_
  rintro e w5 ⟨rfl, hb5⟩
  have H5 := Lib.hid ((HW.out _ _).trans (hb5.mono (HW.out _ _).size))
  clear hb5
  go_wp2_with fail
  go_ret
  exact ⟨rfl, H5.out⟩
end Go.Proofs.Ytleikaiokoahdaa
