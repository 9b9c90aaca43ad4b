/- List: contract. -/
import Derived.Test.YtgiapdmoiaiofaaDoorAwake
namespace Go.Proofs.YtgiapdmoiaiofaaDoor
open Go.RowKit

def T.ofList (l : List T) : T := .mk 4 false 0 ⟨#[]⟩ l []
set_option maxRecDepth 100000 in
set_option maxHeartbeats 2000000 in
theorem list_any (l : List T) (A : Option Addr) (c : Nat) (w : World) (hl : T.sizes l ≤ 100000) (hs : ∀ x ∈ l, x.Small) (hv : VReads w (· < w.heap.size) A l) :
    Calls Tryd.prog 16 #[.slice A l.length c] w fun e w' => (∃ B d, e = .returned ((T.ofList l).agg B d none 0) ∧ TV w' (· < w'.heap.size) (T.ofList l) B d none 0) ∧ Below w.heap.size w w' := by
  have HV := Lib.hid hv
  have HS := Lib.hid hs
  clear hv hs
  go_enter Tryd.func16, Tryd.ntmps16
  go_wp2_with fail
  have h0 : Below w.heap.size w (w.alloc (.cells zeros 29)) := (Below.refl _ _).alloc (Nat.le_refl _) _
  refine (copies_any l A c _ hl HS.out (HV.out.on h0)).mono ?_
  rintro e w2 ⟨B, d, rfl, hd, ho, hb2⟩
  have hB2 : Blk w2 w.heap.size 29 zeros := (Blk.new w 29 zeros).onto hb2
  have ho2 : OwnRow w2 (w.heap.size + 1) w2.heap.size l B := by have := ho; simpa using this
  have Hb2 := Lib.hid (h0.trans (hb2.mono h0.size))
  have HO := Lib.hid ho2
  have r0 : w2.cell? ⟨w.heap.size, 0, none⟩ = some (.int .i64 0) := hB2.cell 0
  have r1 : w2.cell? ⟨w.heap.size, 1, none⟩ = some (.bool false) := hB2.cell 1
  have r2 : w2.cell? ⟨w.heap.size, 2, none⟩ = some (.int .i64 0) := hB2.cell 2
  have r3 : w2.cell? ⟨w.heap.size, 3, none⟩ = some (.string ⟨#[]⟩) := hB2.cell 3
  have r4 : w2.cell? ⟨w.heap.size, 4, none⟩ = some (.slice none 0 0) := hB2.cell 4
  have r5 : w2.cell? ⟨w.heap.size, 5, none⟩ = some (.slice none 0 0) := hB2.cell 5
  have x0 := hB2.free 0
  have x1 := hB2.free 1
  have x2 := hB2.free 2
  have x3 := hB2.free 3
  have x4 := hB2.free 4
  have x5 := hB2.free 5
  have HB2 := Lib.hid hB2
  clear hb2 hB2 h0 ho ho2
  go_wp2_with fail
  have hF := res_put HB2.out rfl (T.ofList l) B d none 0
  have hL : Below w.heap.size w (((((((w2.setCell ⟨w.heap.size, 0, none⟩ (.int .i64 4)).setCell ⟨w.heap.size, 1, none⟩ (.bool false)).setCell ⟨w.heap.size, 2, none⟩ (.int .i64 0)).setCell ⟨w.heap.size, 3, none⟩ (.string ⟨#[]⟩)).setCell ⟨w.heap.size, 4, none⟩ (.slice B l.length d)).setCell ⟨w.heap.size, 5, none⟩ (.slice none 0 0))) :=
    (((((Hb2.out.setCell (Nat.le_refl _) _).setCell (Nat.le_refl _) _).setCell (Nat.le_refl _) _).setCell (Nat.le_refl _) _).setCell (Nat.le_refl _) _).setCell (Nat.le_refl _) _
  have hK : Keeps (fun b => b ≠ w.heap.size) w2 (((((((w2.setCell ⟨w.heap.size, 0, none⟩ (.int .i64 4)).setCell ⟨w.heap.size, 1, none⟩ (.bool false)).setCell ⟨w.heap.size, 2, none⟩ (.int .i64 0)).setCell ⟨w.heap.size, 3, none⟩ (.string ⟨#[]⟩)).setCell ⟨w.heap.size, 4, none⟩ (.slice B l.length d)).setCell ⟨w.heap.size, 5, none⟩ (.slice none 0 0))) := by
    intro b hb
    rw [Below.heap_setCell _ _ _ _ hb, Below.heap_setCell _ _ _ _ hb, Below.heap_setCell _ _ _ _ hb, Below.heap_setCell _ _ _ _ hb, Below.heap_setCell _ _ _ _ hb, Below.heap_setCell _ _ _ _ hb]
  have hZ : (((((((w2.setCell ⟨w.heap.size, 0, none⟩ (.int .i64 4)).setCell ⟨w.heap.size, 1, none⟩ (.bool false)).setCell ⟨w.heap.size, 2, none⟩ (.int .i64 0)).setCell ⟨w.heap.size, 3, none⟩ (.string ⟨#[]⟩)).setCell ⟨w.heap.size, 4, none⟩ (.slice B l.length d)).setCell ⟨w.heap.size, 5, none⟩ (.slice none 0 0))).heap.size = w2.heap.size := by simp [World.setCell]
  change Blk (((((((w2.setCell ⟨w.heap.size, 0, none⟩ (.int .i64 4)).setCell ⟨w.heap.size, 1, none⟩ (.bool false)).setCell ⟨w.heap.size, 2, none⟩ (.int .i64 0)).setCell ⟨w.heap.size, 3, none⟩ (.string ⟨#[]⟩)).setCell ⟨w.heap.size, 4, none⟩ (.slice B l.length d)).setCell ⟨w.heap.size, 5, none⟩ (.slice none 0 0))) _ _ _ at hF
  generalize (((((((w2.setCell ⟨w.heap.size, 0, none⟩ (.int .i64 4)).setCell ⟨w.heap.size, 1, none⟩ (.bool false)).setCell ⟨w.heap.size, 2, none⟩ (.int .i64 0)).setCell ⟨w.heap.size, 3, none⟩ (.string ⟨#[]⟩)).setCell ⟨w.heap.size, 4, none⟩ (.slice B l.length d)).setCell ⟨w.heap.size, 5, none⟩ (.slice none 0 0))) = W at *
  have m0 : W.cell? ⟨w.heap.size, 0, none⟩ = some (.int .i64 4) := hF.cell 0
  have m1 : W.cell? ⟨w.heap.size, 1, none⟩ = some (.bool false) := hF.cell 1
  have m2 : W.cell? ⟨w.heap.size, 2, none⟩ = some (.int .i64 0) := hF.cell 2
  have m3 : W.cell? ⟨w.heap.size, 3, none⟩ = some (.string ⟨#[]⟩) := hF.cell 3
  have m4 : W.cell? ⟨w.heap.size, 4, none⟩ = some (.slice B l.length d) := hF.cell 4
  have m5 : W.cell? ⟨w.heap.size, 5, none⟩ = some (.slice none 0 0) := hF.cell 5
  refine bodyPost_ret (v := .agg #[.int .i64 4, .bool false, .int .i64 0, .string ⟨#[]⟩, .slice B l.length d, .slice none 0 0]) (by simp [results, Tryd.results16, go_sem, m0, m1, m2, m3, m4, m5]) rfl ⟨⟨B, d, rfl, ?_⟩, hL⟩
  refine TV.of hd (Nat.le_refl _) (fun hn => ?_) (SReads.none_ _ _ _)
  exact ((HO.out.vreads.keep (hK.mono fun b hb => by have := hb.1; show b ≠ w.heap.size; omega)).wide fun b hb => by have := hb.2; show b < W.heap.size; omega) hn
end Go.Proofs.YtgiapdmoiaiofaaDoor
