/- path.Set: contract. -/
import Derived.Test.YthkpeomdklcnmaaDoorReachS
import Derived.Outline
namespace Go.Proofs.YthkpeomdklcnmaaDoor
open Go.RowKit
set_option linter.unusedVariables false

/-- what Set answers -/
def SetAns (t : T) (p : List ByteArray) (x : T) (w : World) (e : Ending) (w' : World) : Prop :=
  (∃ y r, Leads t p y ∧ Sets t p x r ∧ ∃ D d D' d', e = .returned (.tuple #[.agg #[.int .i64 r.kind, .bool r.tr, .int .i64 r.num, .string r.str, .slice D r.items.length d, .slice D' r.keys.length d'], .int .i64 0]) ∧ TV w' (fun b => w.heap.size ≤ b ∧ b < w'.heap.size) r D d D' d' ∧ Below w.heap.size w w') ∨
  ((∀ y, ¬ Leads t p y) ∧ e = .returned (.tuple #[.agg #[.int .i64 0, .bool false, .int .i64 0, .string ⟨#[]⟩, .slice none 0 0, .slice none 0 0], .int .i64 12]) ∧ Below w.heap.size w w')
set_option maxRecDepth 100000 in
set_option maxHeartbeats 8000000 in
theorem set_any (t x : T) (p : List ByteArray) (P : Option Addr) (cp : Nat) (A : Option Addr) (c : Nat) (A' : Option Addr) (c' : Nat) (C : Option Addr) (f : Nat) (C' : Option Addr) (f' : Nat) (w : World) (hn : t.Nice) (hx : x.Nice) (he : Errs w) (hp60 : ∀ q ∈ p, q.size ≤ 1000) (hpl : p.length ≤ 1000) (hp : SReads w (· < w.heap.size) P p) (hv : TV w (· < w.heap.size) t A c A' c') (hvx : TV w (· < w.heap.size) x C f C' f') :
    Calls Tryd.prog 15 #[.agg #[.int .i64 t.kind, .bool t.tr, .int .i64 t.num, .string t.str, .slice A t.items.length c, .slice A' t.keys.length c'], .slice P p.length cp, .agg #[.int .i64 x.kind, .bool x.tr, .int .i64 x.num, .string x.str, .slice C x.items.length f, .slice C' x.keys.length f']] w (SetAns t p x w) := by
  have HN := Lib.hid hn
  have HX := Lib.hid hx
  have HE := Lib.hid he
  have HP60 := Lib.hid hp60
  have HP := Lib.hid hp
  have HV := Lib.hid hv
  have HVX := Lib.hid hvx
  clear hn hx he hp60 hp hv hvx
  go_enter Tryd.func15, Tryd.ntmps15
  go_upto_region 1 with fail
  have hW : Below w.heap.size w (((w.alloc (.cells #[.int .i64 t.kind, .bool t.tr, .int .i64 t.num, .string t.str, .slice A t.items.length c, .slice A' t.keys.length c'] 32)).alloc (.cells #[.int .i64 x.kind, .bool x.tr, .int .i64 x.num, .string x.str, .slice C x.items.length f, .slice C' x.keys.length f'] 32)).alloc (.cells #[.int .i64 0, .bool false, .int .i64 0, .string ⟨#[]⟩, .slice none 0 0, .slice none 0 0] 32)) := (((Below.refl _ _).alloc (Nat.le_refl _) _).alloc (by simp) _).alloc (by simp; omega) _
  have hB0 : Blk (((w.alloc (.cells #[.int .i64 t.kind, .bool t.tr, .int .i64 t.num, .string t.str, .slice A t.items.length c, .slice A' t.keys.length c'] 32)).alloc (.cells #[.int .i64 x.kind, .bool x.tr, .int .i64 x.num, .string x.str, .slice C x.items.length f, .slice C' x.keys.length f'] 32)).alloc (.cells #[.int .i64 0, .bool false, .int .i64 0, .string ⟨#[]⟩, .slice none 0 0, .slice none 0 0] 32)) w.heap.size 32 #[.int .i64 t.kind, .bool t.tr, .int .i64 t.num, .string t.str, .slice A t.items.length c, .slice A' t.keys.length c'] := ((Blk.new w _ _).alloc _).alloc _
  have hB1 : Blk (((w.alloc (.cells #[.int .i64 t.kind, .bool t.tr, .int .i64 t.num, .string t.str, .slice A t.items.length c, .slice A' t.keys.length c'] 32)).alloc (.cells #[.int .i64 x.kind, .bool x.tr, .int .i64 x.num, .string x.str, .slice C x.items.length f, .slice C' x.keys.length f'] 32)).alloc (.cells #[.int .i64 0, .bool false, .int .i64 0, .string ⟨#[]⟩, .slice none 0 0, .slice none 0 0] 32)) (w.heap.size + 1) 32 #[.int .i64 x.kind, .bool x.tr, .int .i64 x.num, .string x.str, .slice C x.items.length f, .slice C' x.keys.length f'] := by
    have := (Blk.new (w.alloc (.cells #[.int .i64 t.kind, .bool t.tr, .int .i64 t.num, .string t.str, .slice A t.items.length c, .slice A' t.keys.length c'] 32)) 32 #[.int .i64 x.kind, .bool x.tr, .int .i64 x.num, .string x.str, .slice C x.items.length f, .slice C' x.keys.length f']).alloc (.cells #[.int .i64 0, .bool false, .int .i64 0, .string ⟨#[]⟩, .slice none 0 0, .slice none 0 0] 32)
    simpa using this
  have hB2 : Blk (((w.alloc (.cells #[.int .i64 t.kind, .bool t.tr, .int .i64 t.num, .string t.str, .slice A t.items.length c, .slice A' t.keys.length c'] 32)).alloc (.cells #[.int .i64 x.kind, .bool x.tr, .int .i64 x.num, .string x.str, .slice C x.items.length f, .slice C' x.keys.length f'] 32)).alloc (.cells #[.int .i64 0, .bool false, .int .i64 0, .string ⟨#[]⟩, .slice none 0 0, .slice none 0 0] 32)) (w.heap.size + 2) 32 #[.int .i64 0, .bool false, .int .i64 0, .string ⟨#[]⟩, .slice none 0 0, .slice none 0 0] := by
    have := Blk.new ((w.alloc (.cells #[.int .i64 t.kind, .bool t.tr, .int .i64 t.num, .string t.str, .slice A t.items.length c, .slice A' t.keys.length c'] 32)).alloc (.cells #[.int .i64 x.kind, .bool x.tr, .int .i64 x.num, .string x.str, .slice C x.items.length f, .slice C' x.keys.length f'] 32)) 32 #[.int .i64 0, .bool false, .int .i64 0, .string ⟨#[]⟩, .slice none 0 0, .slice none 0 0]
    simpa using this
  change Code.wp _ _ _ _ (((w.alloc (.cells #[.int .i64 t.kind, .bool t.tr, .int .i64 t.num, .string t.str, .slice A t.items.length c, .slice A' t.keys.length c'] 32)).alloc (.cells #[.int .i64 x.kind, .bool x.tr, .int .i64 x.num, .string x.str, .slice C x.items.length f, .slice C' x.keys.length f'] 32)).alloc (.cells #[.int .i64 0, .bool false, .int .i64 0, .string ⟨#[]⟩, .slice none 0 0, .slice none 0 0] 32))
  generalize (((w.alloc (.cells #[.int .i64 t.kind, .bool t.tr, .int .i64 t.num, .string t.str, .slice A t.items.length c, .slice A' t.keys.length c'] 32)).alloc (.cells #[.int .i64 x.kind, .bool x.tr, .int .i64 x.num, .string x.str, .slice C x.items.length f, .slice C' x.keys.length f'] 32)).alloc (.cells #[.int .i64 0, .bool false, .int .i64 0, .string ⟨#[]⟩, .slice none 0 0, .slice none 0 0] 32)) = W at *
  have HW := Lib.hid hW
  have HB1 := Lib.hid hB1
  have HB2 := Lib.hid hB2
  have hl2 := hB2.lt
  obtain ⟨a0, a1, a2, a3, a4, a5⟩ : W.cell? ⟨w.heap.size, 0, none⟩ = some (.int .i64 t.kind) ∧ W.cell? ⟨w.heap.size, 1, none⟩ = some (.bool t.tr) ∧ W.cell? ⟨w.heap.size, 2, none⟩ = some (.int .i64 t.num) ∧ W.cell? ⟨w.heap.size, 3, none⟩ = some (.string t.str) ∧ W.cell? ⟨w.heap.size, 4, none⟩ = some (.slice A t.items.length c) ∧ W.cell? ⟨w.heap.size, 5, none⟩ = some (.slice A' t.keys.length c') := ⟨hB0.cell 0, hB0.cell 1, hB0.cell 2, hB0.cell 3, hB0.cell 4, hB0.cell 5⟩
  clear hW hB0 hB1 hB2
  go_wp2_with fail
  refine (copy_cells t A c A' c' W HN.out.le HN.out.small (HV.out.on HW.out)).mono ?_
  rintro e w2 ⟨B, d, B', d', rfl, hO, hb2⟩
  unfold T.agg
  have hs2 := hb2.size
  have hB3 : Blk (w2.alloc (.cells #[.int .i64 t.kind, .bool t.tr, .int .i64 t.num, .string t.str, .slice B t.items.length d, .slice B' t.keys.length d'] 32)) w2.heap.size 32 #[.int .i64 t.kind, .bool t.tr, .int .i64 t.num, .string t.str, .slice B t.items.length d, .slice B' t.keys.length d'] := Blk.new w2 _ _
  have hW3 : Below w2.heap.size w2 (w2.alloc (.cells #[.int .i64 t.kind, .bool t.tr, .int .i64 t.num, .string t.str, .slice B t.items.length d, .slice B' t.keys.length d'] 32)) := (Below.refl _ _).alloc (Nat.le_refl _) _
  have HO := Lib.hid hO
  have H2 := Lib.hid hb2
  have HB3 := Lib.hid hB3
  have HW3 := Lib.hid hW3
  clear hO hb2 hB3 hW3 a0 a1 a2 a3 a4 a5
  go_wp2_with fail
  change Calls _ _ _ (w2.alloc (.cells #[.int .i64 t.kind, .bool t.tr, .int .i64 t.num, .string t.str, .slice B t.items.length d, .slice B' t.keys.length d'] 32)) _
  generalize (w2.alloc (.cells #[.int .i64 t.kind, .bool t.tr, .int .i64 t.num, .string t.str, .slice B t.items.length d, .slice B' t.keys.length d'] 32)) = W3 at *
  have hw3 : Below W.heap.size W W3 := H2.out.trans (HW3.out.mono hs2)
  have hs3 := hw3.size
  have hsz3 := HW3.out.size
  have hww : Below w.heap.size w W3 := HW.out.trans (hw3.mono HW.out.size)
  refine (reachS_any t x p P cp B d B' d' C f C' f' w2.heap.size W.heap.size w2.heap.size (w.heap.size + 1) W3 HN.out.fine HX.out (HE.out.on hww) HP60.out hpl (HP.out.on hww) HB3.out (.inr (Nat.le_refl _)) hs2 hs2 (HO.out.keep fun k hk => HW3.out.block k hk.2) hsz3 (HB1.out.onto hw3) ((HVX.out.on hww))).mono ?_
  have HW3' := Lib.hid hw3
  have HWW := Lib.hid hww
  generalize w2.heap.size = G at *
  clear hw3 hww HB3 HW3 HO H2
  rintro e w4 (⟨y, r, D, dd, D', dd', hy, hs, rfl, h6, hT, hb4⟩ | ⟨hno, rfl, hb4⟩)
  · have HY := Lib.hid hy
    have HS := Lib.hid hs
    have h1 := (HB2.out.onto HW3'.out).on hb4 hl2
    obtain ⟨x0, x1, x2, x3, x4, x5⟩ : w4.cell? ⟨G, 0, none⟩ = some (.int .i64 r.kind) ∧ w4.cell? ⟨G, 1, none⟩ = some (.bool r.tr) ∧ w4.cell? ⟨G, 2, none⟩ = some (.int .i64 r.num) ∧ w4.cell? ⟨G, 3, none⟩ = some (.string r.str) ∧ w4.cell? ⟨G, 4, none⟩ = some (.slice D r.items.length dd) ∧ w4.cell? ⟨G, 5, none⟩ = some (.slice D' r.keys.length dd') := h6
    have q0 : w4.cell? ⟨w.heap.size + 1 + 1, 0, none⟩ = some (.int .i64 0) := h1.cell 0
    have q1 : w4.cell? ⟨w.heap.size + 1 + 1, 1, none⟩ = some (.bool false) := h1.cell 1
    have q2 : w4.cell? ⟨w.heap.size + 1 + 1, 2, none⟩ = some (.int .i64 0) := h1.cell 2
    have q3 : w4.cell? ⟨w.heap.size + 1 + 1, 3, none⟩ = some (.string ⟨#[]⟩) := h1.cell 3
    have q4 : w4.cell? ⟨w.heap.size + 1 + 1, 4, none⟩ = some (.slice none 0 0) := h1.cell 4
    have q5 : w4.cell? ⟨w.heap.size + 1 + 1, 5, none⟩ = some (.slice none 0 0) := h1.cell 5
    have f0 := h1.free 0
    have f1 := h1.free 1
    have f2 := h1.free 2
    have f3 := h1.free 3
    have f4 := h1.free 4
    have f5 := h1.free 5
    have hF := res_put h1 rfl r D dd D' dd'
    have hw4 : Below w.heap.size w w4 := HWW.out.trans (hb4.mono (by omega))
    have hE : Below w.heap.size w ((((((w4.setCell ⟨w.heap.size + 1 + 1, 0, none⟩ (.int .i64 r.kind)).setCell ⟨w.heap.size + 1 + 1, 1, none⟩ (.bool r.tr)).setCell ⟨w.heap.size + 1 + 1, 2, none⟩ (.int .i64 r.num)).setCell ⟨w.heap.size + 1 + 1, 3, none⟩ (.string r.str)).setCell ⟨w.heap.size + 1 + 1, 4, none⟩ (.slice D r.items.length dd)).setCell ⟨w.heap.size + 1 + 1, 5, none⟩ (.slice D' r.keys.length dd')) := put6_below hw4 (by omega)
    have hz : (((((((w4.setCell ⟨w.heap.size + 1 + 1, 0, none⟩ (.int .i64 r.kind)).setCell ⟨w.heap.size + 1 + 1, 1, none⟩ (.bool r.tr)).setCell ⟨w.heap.size + 1 + 1, 2, none⟩ (.int .i64 r.num)).setCell ⟨w.heap.size + 1 + 1, 3, none⟩ (.string r.str)).setCell ⟨w.heap.size + 1 + 1, 4, none⟩ (.slice D r.items.length dd)).setCell ⟨w.heap.size + 1 + 1, 5, none⟩ (.slice D' r.keys.length dd'))).heap.size = w4.heap.size := put6_size
    have hTT : TV ((((((w4.setCell ⟨w.heap.size + 1 + 1, 0, none⟩ (.int .i64 r.kind)).setCell ⟨w.heap.size + 1 + 1, 1, none⟩ (.bool r.tr)).setCell ⟨w.heap.size + 1 + 1, 2, none⟩ (.int .i64 r.num)).setCell ⟨w.heap.size + 1 + 1, 3, none⟩ (.string r.str)).setCell ⟨w.heap.size + 1 + 1, 4, none⟩ (.slice D r.items.length dd)).setCell ⟨w.heap.size + 1 + 1, 5, none⟩ (.slice D' r.keys.length dd')) (fun b => w.heap.size ≤ b ∧ b < (((((((w4.setCell ⟨w.heap.size + 1 + 1, 0, none⟩ (.int .i64 r.kind)).setCell ⟨w.heap.size + 1 + 1, 1, none⟩ (.bool r.tr)).setCell ⟨w.heap.size + 1 + 1, 2, none⟩ (.int .i64 r.num)).setCell ⟨w.heap.size + 1 + 1, 3, none⟩ (.string r.str)).setCell ⟨w.heap.size + 1 + 1, 4, none⟩ (.slice D r.items.length dd)).setCell ⟨w.heap.size + 1 + 1, 5, none⟩ (.slice D' r.keys.length dd'))).heap.size) r D dd D' dd' := by
      refine (hT.keep fun b hb => put6_heap (by have := hb.1; omega)).wide fun b hb => ⟨by have := hb.1; omega, by rw [hz]; exact hb.2⟩
    have HF := Lib.hid hF
    have HE2 := Lib.hid hE
    have HTT := Lib.hid hTT
    clear h1 hT hy hs hF hE hz hTT hw4 hb4
    go_wp2_with fail
    generalize ((((((w4.setCell ⟨w.heap.size + 1 + 1, 0, none⟩ (.int .i64 r.kind)).setCell ⟨w.heap.size + 1 + 1, 1, none⟩ (.bool r.tr)).setCell ⟨w.heap.size + 1 + 1, 2, none⟩ (.int .i64 r.num)).setCell ⟨w.heap.size + 1 + 1, 3, none⟩ (.string r.str)).setCell ⟨w.heap.size + 1 + 1, 4, none⟩ (.slice D r.items.length dd)).setCell ⟨w.heap.size + 1 + 1, 5, none⟩ (.slice D' r.keys.length dd')) = Wf at *
    have m0 : Wf.cell? ⟨w.heap.size + 1 + 1, 0, none⟩ = some (.int .i64 r.kind) := HF.out.cell 0
    have m1 : Wf.cell? ⟨w.heap.size + 1 + 1, 1, none⟩ = some (.bool r.tr) := HF.out.cell 1
    have m2 : Wf.cell? ⟨w.heap.size + 1 + 1, 2, none⟩ = some (.int .i64 r.num) := HF.out.cell 2
    have m3 : Wf.cell? ⟨w.heap.size + 1 + 1, 3, none⟩ = some (.string r.str) := HF.out.cell 3
    have m4 : Wf.cell? ⟨w.heap.size + 1 + 1, 4, none⟩ = some (.slice D r.items.length dd) := HF.out.cell 4
    have m5 : Wf.cell? ⟨w.heap.size + 1 + 1, 5, none⟩ = some (.slice D' r.keys.length dd') := HF.out.cell 5
    exact bodyPost_ret (v := .tuple #[.agg #[.int .i64 r.kind, .bool r.tr, .int .i64 r.num, .string r.str, .slice D r.items.length dd, .slice D' r.keys.length dd'], .int .i64 0]) (by simp [results, Tryd.results15, go_sem, m0, m1, m2, m3, m4, m5]) rfl (.inl ⟨y, r, HY.out, HS.out, D, dd, D', dd', rfl, HTT.out, HE2.out⟩)
  · have HNO := Lib.hid hno
    have h1 := (HB2.out.onto HW3'.out).onto hb4
    have q0 : w4.cell? ⟨w.heap.size + 1 + 1, 0, none⟩ = some (.int .i64 0) := h1.cell 0
    have q1 : w4.cell? ⟨w.heap.size + 1 + 1, 1, none⟩ = some (.bool false) := h1.cell 1
    have q2 : w4.cell? ⟨w.heap.size + 1 + 1, 2, none⟩ = some (.int .i64 0) := h1.cell 2
    have q3 : w4.cell? ⟨w.heap.size + 1 + 1, 3, none⟩ = some (.string ⟨#[]⟩) := h1.cell 3
    have q4 : w4.cell? ⟨w.heap.size + 1 + 1, 4, none⟩ = some (.slice none 0 0) := h1.cell 4
    have q5 : w4.cell? ⟨w.heap.size + 1 + 1, 5, none⟩ = some (.slice none 0 0) := h1.cell 5
    have f0 := h1.free 0
    have f1 := h1.free 1
    have f2 := h1.free 2
    have f3 := h1.free 3
    have f4 := h1.free 4
    have f5 := h1.free 5
    have hF := res_put h1 rfl T.zero none 0 none 0
    have hw4 : Below w.heap.size w w4 := HWW.out.trans (hb4.mono (by have := HWW.out.size; omega))
    have hE : Below w.heap.size w ((((((w4.setCell ⟨w.heap.size + 1 + 1, 0, none⟩ (.int .i64 T.zero.kind)).setCell ⟨w.heap.size + 1 + 1, 1, none⟩ (.bool T.zero.tr)).setCell ⟨w.heap.size + 1 + 1, 2, none⟩ (.int .i64 T.zero.num)).setCell ⟨w.heap.size + 1 + 1, 3, none⟩ (.string T.zero.str)).setCell ⟨w.heap.size + 1 + 1, 4, none⟩ (.slice none T.zero.items.length 0)).setCell ⟨w.heap.size + 1 + 1, 5, none⟩ (.slice none T.zero.keys.length 0)) := put6_below hw4 (by omega)
    have HF := Lib.hid hF
    have HE2 := Lib.hid hE
    clear h1 hb4 hno hF hE hw4
    go_wp2_with fail
    change bodyPost _ _ _ _ _ ((((((w4.setCell ⟨w.heap.size + 1 + 1, 0, none⟩ (.int .i64 T.zero.kind)).setCell ⟨w.heap.size + 1 + 1, 1, none⟩ (.bool T.zero.tr)).setCell ⟨w.heap.size + 1 + 1, 2, none⟩ (.int .i64 T.zero.num)).setCell ⟨w.heap.size + 1 + 1, 3, none⟩ (.string T.zero.str)).setCell ⟨w.heap.size + 1 + 1, 4, none⟩ (.slice none T.zero.items.length 0)).setCell ⟨w.heap.size + 1 + 1, 5, none⟩ (.slice none T.zero.keys.length 0))
    generalize ((((((w4.setCell ⟨w.heap.size + 1 + 1, 0, none⟩ (.int .i64 T.zero.kind)).setCell ⟨w.heap.size + 1 + 1, 1, none⟩ (.bool T.zero.tr)).setCell ⟨w.heap.size + 1 + 1, 2, none⟩ (.int .i64 T.zero.num)).setCell ⟨w.heap.size + 1 + 1, 3, none⟩ (.string T.zero.str)).setCell ⟨w.heap.size + 1 + 1, 4, none⟩ (.slice none T.zero.items.length 0)).setCell ⟨w.heap.size + 1 + 1, 5, none⟩ (.slice none T.zero.keys.length 0)) = Wf at *
    have m0 : Wf.cell? ⟨w.heap.size + 1 + 1, 0, none⟩ = some (.int .i64 0) := HF.out.cell 0
    have m1 : Wf.cell? ⟨w.heap.size + 1 + 1, 1, none⟩ = some (.bool false) := HF.out.cell 1
    have m2 : Wf.cell? ⟨w.heap.size + 1 + 1, 2, none⟩ = some (.int .i64 0) := HF.out.cell 2
    have m3 : Wf.cell? ⟨w.heap.size + 1 + 1, 3, none⟩ = some (.string ⟨#[]⟩) := HF.out.cell 3
    have m4 : Wf.cell? ⟨w.heap.size + 1 + 1, 4, none⟩ = some (.slice none 0 0) := HF.out.cell 4
    have m5 : Wf.cell? ⟨w.heap.size + 1 + 1, 5, none⟩ = some (.slice none 0 0) := HF.out.cell 5
    exact bodyPost_ret (v := .tuple #[.agg #[.int .i64 0, .bool false, .int .i64 0, .string ⟨#[]⟩, .slice none 0 0, .slice none 0 0], .int .i64 12]) (by simp [results, Tryd.results15, go_sem, m0, m1, m2, m3, m4, m5]) rfl (.inr ⟨HNO.out, rfl, HE2.out⟩)
end Go.Proofs.YthkpeomdklcnmaaDoor
