/- Real: the document's value as the program's. -/
import Derived.Test.YtgiapdmoiaiofaaDoorColl
import Derived.Deep.DeepCutAuto
import Derived.Deep.RegionLaw
namespace Go.Proofs.YtgiapdmoiaiofaaDoor
open Go.RowKit

/-- how a call ends that gives the value t, in new memory -/
def GivesT (t : T) (w : World) (e : Ending) (w' : World) : Prop := ∃ B d B' d', e = .returned (t.agg B d B' d') ∧ TV w' (fun b => w.heap.size ≤ b ∧ b < w'.heap.size) t B d B' d' ∧ Below w.heap.size w w'
/-- what the head's statement of Real leaves: a box for the value, its items none yet, its keys copied -/
def Headed (t : T) (lo : Nat) (B : Nat) (W : World) (s : Value) (wx : World) : Prop :=
  ∃ q K kd, s = .pointer (some ⟨q, 0, none⟩) ∧ lo ≤ q ∧ Blk wx q 29 #[.int .i64 t.kind, .bool t.tr, .int .i64 t.num, .string t.str, .slice none 0 0, .slice K t.keys.length kd] ∧ t.keys.length ≤ kd ∧
    OwnKeys wx lo wx.heap.size t.keys K ∧ Below B W wx
theorem headed_new {t : T} {lo B : Nat} {W w1 : World} {K : Option Addr} {kd : Nat} (ho : w1.ownsRow lo 9 1 (.slice K t.keys.length kd) t.keys.length (t.keys.map Value.string)) (hlo : lo ≤ w1.heap.size) (hB : B ≤ w1.heap.size) (hb : Below B W w1) :
    Headed t lo B W (.pointer (some ⟨w1.heap.size, 0, none⟩)) (w1.alloc (.cells #[.int .i64 t.kind, .bool t.tr, .int .i64 t.num, .string t.str, .slice none 0 0, .slice K t.keys.length kd] 29)) := by
  obtain ⟨K', d, e, hd, hk⟩ := own_keys ho
  injection e with e1 _ e2
  subst e1 e2
  exact ⟨_, K, kd, rfl, hlo, Blk.new _ _ _, hd, hk.onto ((Below.refl _ _).alloc (Nat.le_refl _) _), hb.alloc hB _⟩
theorem headed_old {t : T} {lo B q : Nat} {W w1 : World} {K : Option Addr} {kd : Nat} {cs : Array Value} (ho : w1.ownsRow lo 9 1 (.slice K t.keys.length kd) t.keys.length (t.keys.map Value.string)) (hq : Blk w1 q 29 cs) (hc : cs.size = 6) (hlo : lo ≤ q) (hB : B ≤ q) (hb : Below B W w1) :
    Headed t lo B W (.pointer (some ⟨q, 0, none⟩)) ((((((w1.setCell ⟨q, 0, none⟩ (.int .i64 t.kind)).setCell ⟨q, 1, none⟩ (.bool t.tr)).setCell ⟨q, 2, none⟩ (.int .i64 t.num)).setCell ⟨q, 3, none⟩ (.string t.str)).setCell ⟨q, 4, none⟩ (.slice none 0 0)).setCell ⟨q, 5, none⟩ (.slice K t.keys.length kd)) := by
  obtain ⟨K', d, e, hd, hk⟩ := own_keys ho
  injection e with e1 _ e2
  subst e1 e2
  have hb6 := (((((hq.set_ 0 (.int .i64 t.kind)).set_ 1 (.bool t.tr)).set_ 2 (.int .i64 t.num)).set_ 3 (.string t.str)).set_ 4 (.slice none 0 0)).set_ 5 (.slice K t.keys.length kd)
  rw [set_six hc] at hb6
  have h1 := hk.set (p := ⟨q, 0, none⟩) hq (by decide) (.int .i64 t.kind)
  have h2 := h1.set (p := ⟨q, 1, none⟩) (hq.set_ 0 _) (by decide) (.bool t.tr)
  have h3 := h2.set (p := ⟨q, 2, none⟩) ((hq.set_ 0 _).set_ 1 _) (by decide) (.int .i64 t.num)
  have h4 := h3.set (p := ⟨q, 3, none⟩) (((hq.set_ 0 _).set_ 1 _).set_ 2 _) (by decide) (.string t.str)
  have h5 := h4.set (p := ⟨q, 4, none⟩) ((((hq.set_ 0 _).set_ 1 _).set_ 2 _).set_ 3 _) (by decide) (.slice none 0 0)
  have h6 := h5.set (p := ⟨q, 5, none⟩) (((((hq.set_ 0 _).set_ 1 _).set_ 2 _).set_ 3 _).set_ 4 _) (by decide) (.slice K t.keys.length kd)
  exact ⟨_, K, kd, rfl, hlo, hb6, hd, h6, (((((hb.setCell hB _).setCell hB _).setCell hB _).setCell hB _).setCell hB _).setCell hB _⟩
def zeros' : Array Value := #[.int .i64 0, .bool false, .int .i64 0, .string ⟨#[]⟩, .slice none 0 0, .slice none 0 0]
def RealAt (n : Nat) : Prop := ∀ (t : T) (A : Option Addr) (c : Nat) (A' : Option Addr) (c' : Nat) (w : World), t.size ≤ n → n ≤ 100000 → t.Small → TV w (· < w.heap.size) t A c A' c' →
    Calls Tryd.prog 13 #[t.agg A c A' c'] w (GivesT t w)
set_option maxRecDepth 100000 in
set_option maxHeartbeats 4000000 in
theorem real_at (n : Nat) : RealAt n := by
  induction n with
  | zero => intro t _ _ _ _ _ h; have := t.size_pos; omega
  | succ n ih =>
    intro t A c A' c' w ht hn hs hv
    have hl := hv.lens.1
    have hls := t.len_size
    have hkl := hs.here
    obtain ⟨i0, hi0, hz0, hz1, hz2⟩ := info_parts infoStr
    obtain ⟨i1, hi1, hy0, hy1, hy2⟩ := info_parts infoVal
    have IH := Lib.hid ih
    have HV := Lib.hid hv
    have HS := Lib.hid hs
    have hsrc := Lib.hid hv.keys.src
    clear ih hv hs
    unfold T.agg
    go_enter Tryd.func13, Tryd.ntmps13
    go_upto_region 1 with fail
    have hW : Below w.heap.size w ((w.alloc (Obj.cells (t.cs A c A' c') 35)).alloc (Obj.cells #[.int .i64 0, .bool false, .int .i64 0, .string ⟨#[]⟩, .slice none 0 0, .slice none 0 0] 29)) := ((Below.refl _ _).alloc (Nat.le_refl _) _).alloc (by simp) _
    have hB : Blk ((w.alloc (Obj.cells (t.cs A c A' c') 35)).alloc (Obj.cells #[.int .i64 0, .bool false, .int .i64 0, .string ⟨#[]⟩, .slice none 0 0, .slice none 0 0] 29)) w.heap.size 35 (t.cs A c A' c') := (Blk.new w _ _).alloc _
    have hR : Blk ((w.alloc (Obj.cells (t.cs A c A' c') 35)).alloc (Obj.cells #[.int .i64 0, .bool false, .int .i64 0, .string ⟨#[]⟩, .slice none 0 0, .slice none 0 0] 29)) (w.heap.size + 1) 29 #[.int .i64 0, .bool false, .int .i64 0, .string ⟨#[]⟩, .slice none 0 0, .slice none 0 0] := by
      have := Blk.new (w.alloc (Obj.cells (t.cs A c A' c') 35)) 29 #[.int .i64 0, .bool false, .int .i64 0, .string ⟨#[]⟩, .slice none 0 0, .slice none 0 0]
      simpa using this
    have hZ : ((w.alloc (Obj.cells (t.cs A c A' c') 35)).alloc (Obj.cells #[.int .i64 0, .bool false, .int .i64 0, .string ⟨#[]⟩, .slice none 0 0, .slice none 0 0] 29)).heap.size = w.heap.size + 2 := by simp
    change Code.wp _ _ _ _ ((w.alloc (Obj.cells (t.cs A c A' c') 35)).alloc (Obj.cells #[.int .i64 0, .bool false, .int .i64 0, .string ⟨#[]⟩, .slice none 0 0, .slice none 0 0] 29))
    generalize ((w.alloc (Obj.cells (t.cs A c A' c') 35)).alloc (Obj.cells #[.int .i64 0, .bool false, .int .i64 0, .string ⟨#[]⟩, .slice none 0 0, .slice none 0 0] 29)) = W at *
    have HW := Lib.hid hW
    have HB := Lib.hid hB
    have HR := Lib.hid hR
    have HZ := Lib.hid hZ
    have d0 : W.cell? ⟨w.heap.size, 0, none⟩ = some (.int .i64 t.kind) := hB.cell 0
    have d1 : W.cell? ⟨w.heap.size, 1, none⟩ = some (.bool t.tr) := hB.cell 1
    have d2 : W.cell? ⟨w.heap.size, 2, none⟩ = some (.int .i64 t.num) := hB.cell 2
    have d3 : W.cell? ⟨w.heap.size, 3, none⟩ = some (.string t.str) := hB.cell 3
    have d5 : W.cell? ⟨w.heap.size, 5, none⟩ = some (.slice A' t.keys.length c') := hB.cell 5
    have hlt : w.heap.size < W.heap.size := hB.lt
    clear hW hB hR hZ
    have oneKeys := Lib.hid (show ∀ u ∈ t.keys.map Value.string, u.oneCell' = true by intro u hu; obtain ⟨s, _, rfl⟩ := List.mem_map.1 hu; rfl)
    have rowA := Lib.hid (World.ownsRow_lit (base := w.heap.size + 2) (size := 1) (e := 9) W #[] 0 (Nat.le_of_eq HZ.out.symm) (Nat.zero_le _) rfl)
    have rowB := Lib.hid ((World.ownsRow_lit (base := w.heap.size + 2) (size := 1) (e := 9) W #[] 0 (Nat.le_of_eq HZ.out.symm) (Nat.zero_le _) rfl).alloc (.cells #[.int .i64 0, .bool false, .int .i64 0, .string ⟨#[]⟩, .slice none 0 0, .slice none 0 0] 29))
    have rowC := Lib.hid (show ((W.alloc (.cells #[.int .i64 0, .bool false, .int .i64 0, .string ⟨#[]⟩, .slice none 0 0, .slice none 0 0] 29)).alloc (.cells #[] 9)).ownsRow (w.heap.size + 2) 9 1 (.slice (some ⟨W.heap.size + 1, 0, none⟩) 0 0) 0 [] from by have := World.ownsRow_lit (base := w.heap.size + 2) (size := 1) (e := 9) (W.alloc (.cells #[.int .i64 0, .bool false, .int .i64 0, .string ⟨#[]⟩, .slice none 0 0, .slice none 0 0] 29)) #[] 0 (by simp; have := HZ.out; omega) (Nat.zero_le _) rfl; simpa using this)
    go_cut [3] (fun s3 wx => Headed t (w.heap.size + 2) W.heap.size W s3 wx)
    case first =>
      go_region_held3 (fun w' => w'.cell? ⟨w.heap.size, 0, none⟩ = some (.int .i64 t.kind) ∧ w'.cell? ⟨w.heap.size, 1, none⟩ = some (.bool t.tr) ∧ w'.cell? ⟨w.heap.size, 2, none⟩ = some (.int .i64 t.num) ∧ w'.cell? ⟨w.heap.size, 3, none⟩ = some (.string t.str) ∧ w'.cell? ⟨w.heap.size, 5, none⟩ = some (.slice A' t.keys.length c'))
        (first
          | (go_split_ands
             refine ⟨?_, ?_, ?_, ?_, ?_⟩ <;> (with_reducible refine (fary ?_).trans ?_ <;> first | assumption | (simp; omega)))
          | (go_split_ands
             refine ⟨?_, ?_, ?_, ?_, ?_⟩ <;> (rw [hg1.cell_far _ (by simp; omega) (by simp [Value.ownBlock]; omega)]; assumption))
          | (go_split_ands
             refine ⟨?_, ?_, ?_, ?_, ?_⟩ <;> (with_reducible refine (fary ?_).trans ((fary (ob := .cells #[.int .i64 0, .bool false, .int .i64 0, .string ⟨#[]⟩, .slice none 0 0, .slice none 0 0] 29) ?_).symm.trans ?_) <;> first | assumption | (simp; omega)))
          | (go_split_ands
             refine ⟨?_, ?_, ?_, ?_, ?_⟩ <;> (with_reducible refine (far6 ?_).trans ?_ <;> first | assumption | omega))
          | go_keep)
        (first
        | (refine app_step ?_ (.tmp 14) (.tmp 16) 27 ?_ (w.heap.size + 2) 9 i0 (.string ⟨#[]⟩) 1 16 Tryd.underlying27 hi0 hz0 hz1 hz2 ?_ ?_ (.slice (some ⟨W.heap.size, 0, none⟩) 0 0) 0 [] ?_ ?_ A' t.keys.length c' (t.keys.map Value.string) ?_ ?_ oneKeys.out ?_ ?_ ?_ t.keys.length ?_ ?_
           · rfl
           · rfl
           · rfl
           · decide
           · rfl
           · with_reducible exact rowA.out.drew
           · rfl
           · exact (HV.out.keys.below ((HW.out.alloc HW.out.size _).drew)).src
           · unfold maxLen; omega
           · omega
           · simp; have := HZ.out; omega
           · omega
           intro K1 kd w1 ho1 hg1 hat1
           have hlt1 : w.heap.size < w1.heap.size := by have := hg1.size; simp at this; omega
           rw [List.nil_append] at ho1
           have HO1 := Lib.hid ho1
           have HBW := Lib.hid ((((Below.refl W.heap.size W).alloc (Nat.le_refl _) _).drew).grown hg1 (by first | (simp; done) | (simp; omega)) (fun k hk => by simp [Value.ownBlock] at hk; omega))
           have HG1 := Lib.hid hg1
           clear ho1)
        | (refine app_step ?_ (.tmp 14) (.tmp 16) 27 ?_ (w.heap.size + 2) 9 i0 (.string ⟨#[]⟩) 1 16 Tryd.underlying27 hi0 hz0 hz1 hz2 ?_ ?_ (.slice (some ⟨W.heap.size, 0, none⟩) 0 0) 0 [] ?_ ?_ A' t.keys.length c' (t.keys.map Value.string) ?_ ?_ oneKeys.out ?_ ?_ ?_ t.keys.length ?_ ?_
           · rfl
           · rfl
           · rfl
           · decide
           · rfl
           · with_reducible exact rowB.out.drew
           · rfl
           · exact (HV.out.keys.below (((HW.out.alloc HW.out.size _).alloc (HW.out.alloc HW.out.size _).size _).drew)).src
           · unfold maxLen; omega
           · omega
           · simp; have := HZ.out; omega
           · omega
           intro K1 kd w1 ho1 hg1 hat1
           have hlt1 : w.heap.size < w1.heap.size := by have := hg1.size; simp at this; omega
           have hq : Blk w1 (W.heap.size + 1) 29 #[.int .i64 0, .bool false, .int .i64 0, .string ⟨#[]⟩, .slice none 0 0, .slice none 0 0] := (hg1.block (W.heap.size + 1) (by simp) (by simp [Value.ownBlock])).trans (show Blk ((W.alloc (.cells #[] 9)).alloc (.cells #[.int .i64 0, .bool false, .int .i64 0, .string ⟨#[]⟩, .slice none 0 0, .slice none 0 0] 29)) (W.heap.size + 1) 29 #[.int .i64 0, .bool false, .int .i64 0, .string ⟨#[]⟩, .slice none 0 0, .slice none 0 0] from by have := Blk.new (W.alloc (.cells #[] 9)) 29 #[.int .i64 0, .bool false, .int .i64 0, .string ⟨#[]⟩, .slice none 0 0, .slice none 0 0]; simpa using this)
           have q0 : w1.cell? ⟨W.heap.size + 1, 0, none⟩ = some (.int .i64 0) := hq.cell 0
           have q1 : w1.cell? ⟨W.heap.size + 1, 1, none⟩ = some (.bool false) := hq.cell 1
           have q2 : w1.cell? ⟨W.heap.size + 1, 2, none⟩ = some (.int .i64 0) := hq.cell 2
           have q3 : w1.cell? ⟨W.heap.size + 1, 3, none⟩ = some (.string ⟨#[]⟩) := hq.cell 3
           have q4 : w1.cell? ⟨W.heap.size + 1, 4, none⟩ = some (.slice none 0 0) := hq.cell 4
           have q5 : w1.cell? ⟨W.heap.size + 1, 5, none⟩ = some (.slice none 0 0) := hq.cell 5
           have p0 := hq.free 0
           have p1 := hq.free 1
           have p2 := hq.free 2
           have p3 := hq.free 3
           have p4 := hq.free 4
           have p5 := hq.free 5
           have HQ := Lib.hid hq
           clear hq
           rw [List.nil_append] at ho1
           have HO1 := Lib.hid ho1
           have HBW := Lib.hid (((((Below.refl W.heap.size W).alloc (Nat.le_refl _) _).alloc (by simp) _).drew).grown hg1 (by first | (simp; done) | (simp; omega)) (fun k hk => by simp [Value.ownBlock] at hk; omega))
           have HG1 := Lib.hid hg1
           clear ho1)
        | (refine app_step ?_ (.tmp 14) (.tmp 16) 27 ?_ (w.heap.size + 2) 9 i0 (.string ⟨#[]⟩) 1 16 Tryd.underlying27 hi0 hz0 hz1 hz2 ?_ ?_ (.slice (some ⟨W.heap.size + 1, 0, none⟩) 0 0) 0 [] ?_ ?_ A' t.keys.length c' (t.keys.map Value.string) ?_ ?_ oneKeys.out ?_ ?_ ?_ t.keys.length ?_ ?_
           · rfl
           · rfl
           · rfl
           · decide
           · rfl
           · with_reducible exact rowC.out.drew
           · rfl
           · exact (HV.out.keys.below (((HW.out.alloc HW.out.size _).alloc (HW.out.alloc HW.out.size _).size _).drew)).src
           · unfold maxLen; omega
           · omega
           · simp; have := HZ.out; omega
           · omega
           intro K1 kd w1 ho1 hg1 hat1
           have hlt1 : w.heap.size < w1.heap.size := by have := hg1.size; simp at this; omega
           have hq : Blk w1 W.heap.size 29 #[.int .i64 0, .bool false, .int .i64 0, .string ⟨#[]⟩, .slice none 0 0, .slice none 0 0] := (hg1.block W.heap.size (by simp; omega) (by simp [Value.ownBlock])).trans (show Blk ((W.alloc (.cells #[.int .i64 0, .bool false, .int .i64 0, .string ⟨#[]⟩, .slice none 0 0, .slice none 0 0] 29)).alloc (.cells #[] 9)) W.heap.size 29 #[.int .i64 0, .bool false, .int .i64 0, .string ⟨#[]⟩, .slice none 0 0, .slice none 0 0] from (Blk.new W 29 #[.int .i64 0, .bool false, .int .i64 0, .string ⟨#[]⟩, .slice none 0 0, .slice none 0 0]).alloc _)
           have q0 : w1.cell? ⟨W.heap.size, 0, none⟩ = some (.int .i64 0) := hq.cell 0
           have q1 : w1.cell? ⟨W.heap.size, 1, none⟩ = some (.bool false) := hq.cell 1
           have q2 : w1.cell? ⟨W.heap.size, 2, none⟩ = some (.int .i64 0) := hq.cell 2
           have q3 : w1.cell? ⟨W.heap.size, 3, none⟩ = some (.string ⟨#[]⟩) := hq.cell 3
           have q4 : w1.cell? ⟨W.heap.size, 4, none⟩ = some (.slice none 0 0) := hq.cell 4
           have q5 : w1.cell? ⟨W.heap.size, 5, none⟩ = some (.slice none 0 0) := hq.cell 5
           have p0 := hq.free 0
           have p1 := hq.free 1
           have p2 := hq.free 2
           have p3 := hq.free 3
           have p4 := hq.free 4
           have p5 := hq.free 5
           have HQ := Lib.hid hq
           clear hq
           rw [List.nil_append] at ho1
           have HO1 := Lib.hid ho1
           have HBW := Lib.hid (((((Below.refl W.heap.size W).alloc (Nat.le_refl _) _).alloc (by simp) _).drew).grown hg1 (by first | (simp; done) | (simp; omega)) (fun k hk => by simp [Value.ownBlock] at hk; omega))
           have HG1 := Lib.hid hg1
           clear ho1))
      all_goals
        go_wp2_with fail
        go_meet
        first
          | (with_reducible refine headed_old HO1.out HQ.out ?_ ?_ ?_ HBW.out
             · rfl
             · have := HZ.out; omega
             · omega)
          | (with_reducible refine headed_new HO1.out ?_ HBW.out.size HBW.out
             have := HBW.out.size; have := HZ.out; omega)
    case rest =>
      obtain ⟨q, K, kd, rfl, hq, hbq, hkd, hkr, hbw⟩ := hcut
      have hB2 := HB.out.on hbw hlt
      have hR2 := HR.out.on hbw (show w.heap.size + 1 < W.heap.size by have := HZ.out; omega)
      have hb2 := HW.out.trans (hbw.mono HW.out.size)
      have a4 : wc.cell? ⟨w.heap.size, 4, none⟩ = some (.slice A t.items.length c) := hB2.cell 4
      have HR2 := Lib.hid hR2
      have HB2 := Lib.hid hb2
      have HQ := Lib.hid hbq
      have HKR := Lib.hid hkr
      clear hB2 hR2 hb2 hbq hkr hbw
      go_wp2_with fail
      go_loopw [22] (fun i wr => ∃ (k : Nat) (A2 : Option Addr) (d2 : Nat) (xs : List Value), k ≤ t.items.length ∧ i = .int .i64 k ∧ Coll 29 wr (w.heap.size + 2) (fun b => b < w.heap.size + 2 ∨ b = q) (t.items.take k) (.slice A2 k d2) xs ∧
        Blk wr q 29 #[.int .i64 t.kind, .bool t.tr, .int .i64 t.num, .string t.str, .slice A2 k d2, .slice K t.keys.length kd] ∧ Blk wr (w.heap.size + 1) 29 zeros' ∧ OwnKeys wr (w.heap.size + 2) wr.heap.size t.keys K ∧ Below w.heap.size w wr) (fun i _ => t.items.length - (intOf i).toNat)
      case atStart => exact ⟨0, none, 0, [], Nat.zero_le _, rfl, Coll.nil _ _ _ _, HQ.out, HR2.out, HKR.out, HB2.out⟩
      case round =>
        obtain ⟨k, A2, d2, xs, hk, rfl, hcoll, hbq, hbr, hkr, hbel⟩ := hrel
        have Hcoll := Lib.hid hcoll
        have Hbq := Lib.hid hbq
        have Hbr := Lib.hid hbr
        have Hkr := Lib.hid hkr
        have Hbel := Lib.hid hbel
        have hqlt := hbq.lt
        have q4 : wr.cell? ⟨q, 4, none⟩ = some (.slice A2 k d2) := hbq.cell 4
        have fq4 := hbq.free 4
        clear hcoll hbq hbr hkr hbel
        by_cases hlt2 : k < t.items.length
        · have u1 : decide (k < t.items.length) = true := decide_eq_true hlt2
          obtain ⟨b, o, x, B, d, B', d', rfl, hb, hx, h6, hX⟩ := HV.out.at_ hlt2
          have hxs := T.at_size hx
          have HXs := Lib.hid (HS.out.at_ hx)
          have HX := Lib.hid hX
          have Hx := Lib.hid hx
          obtain ⟨e0, e1, e2, e3, e4, e5⟩ := h6.keep hb (.of_below Hbel.out)
          clear hX h6 hx
          go_wp2_with fail
          go_region_law (first
            | (refine app_step ?_ (.tmp 27) (.tmp 30) 26 ?_ (w.heap.size + 2) 29 i1 (.agg #[.int .i64 0, .bool false, .int .i64 0, .string ⟨#[]⟩, .slice none 0 0, .slice none 0 0]) 6 88 Tryd.underlying26 hi1 hy0 hy1 hy2 ?_ ?_ (.slice A2 k d2) k xs ?_ ?_ (some ⟨w2.heap.size, 0, none⟩) 1 1 (x.cs C f C' f').toList ?_ ?_ cs_one ?_ ?_ ?_ (k + 1) ?_ ?_
               · rfl
               · rfl
               · rfl
               · decide
               · rfl
               · first
                   | exact Hown2.out.alloc _
                   | exact (Hown2.out.alloc _).drew
               · rfl
               · exact src_of_cs (Blk.new w2 29 _)
               · unfold maxLen; omega
               · omega
               · simp; have := Hb2.out.size; omega
               · rfl
               intro A3 d3 w3 ho3 hg3 hat3
               have hbq3 := Hcoll2.out.blk hg3 Hbq2.out (.inr rfl)
               have hbr3 := Hcoll2.out.blk hg3 Hbr2.out (.inl (by omega))
               have hkr3 := (Hkr2.out.onto ((Below.refl _ _).alloc (Nat.le_refl _) (.cells (x.cs C f C' f') 29))).grown (Hown2.out.alloc _) (by decide) hg3
               have hcoll3 := Hcoll2.out.app_new HT2.out (by omega) (by rw [Hl2.out]) ho3 hg3 hat3
               have hb3 := (Hb2.out.alloc Hb2.out.size (.cells (x.cs C f C' f') 29)).grown hg3 (by have := Hb2.out.size; simp; omega) (fun b hb => by have := (Hown2.out.lt b hb).1; omega)
               rw [← T.take_snoc Hx.out] at hcoll3
               have s4 : w3.cell? ⟨q, 4, none⟩ = some (.slice A2 k d2) := hbq3.cell 4
               have fs4 := hbq3.free 4
               have Hbq3 := Lib.hid hbq3
               have Hbr3 := Lib.hid hbr3
               have Hkr3 := Lib.hid hkr3
               have Hcoll3 := Lib.hid hcoll3
               have Hb3 := Lib.hid hb3
               clear hbq3 hbr3 hkr3 hcoll3 hb3 ho3 hg3 hat3)
            | (go_simp
               go_at_call 13
               refine (IH.out x B d B' d' _ (by omega) (by omega) HXs.out (HX.out.on ((Hbel.out.alloc Hbel.out.size _).drew))).mono ?_
               rintro e w2 ⟨C, f, C', f', rfl, hT, hb2⟩
               unfold T.agg
               have hbw : Below wr.heap.size wr w2 := (((Below.refl _ wr).alloc (Nat.le_refl _) _).drew).trans (hb2.mono (by simp))
               have hcoll2 := Hcoll.out.onto hbw
               have hbq2 := Hbq.out.onto hbw
               have hl2 : (t.items.take k).length = k := by rw [List.length_take]; omega
               have hown2 := hcoll2.2.1
               rw [hl2] at hown2
               have hT2 : TV w2 (fun b => b < w2.heap.size ∧ ¬ (b < w.heap.size + 2 ∨ b = q) ∧ some b ≠ (Value.slice A2 k d2).ownBlock) x C f C' f' := hT.wide fun b hb => ⟨hb.2, by
                 have h1 : wr.heap.size + 1 ≤ b := by simpa using hb.1
                 omega, fun e1 => by
                 have h1 : wr.heap.size + 1 ≤ b := by simpa using hb.1
                 have := Hcoll.out.2.1.lt b e1.symm
                 omega⟩
               have Hcoll2 := Lib.hid hcoll2
               have Hbq2 := Lib.hid hbq2
               have Hbr2 := Lib.hid (Hbr.out.onto hbw)
               have Hkr2 := Lib.hid (Hkr.out.onto hbw)
               have Hown2 := Lib.hid hown2
               have HT2 := Lib.hid hT2
               have Hl2 := Lib.hid hl2
               have Hb2 := Lib.hid (Hbel.out.trans (hbw.mono Hbel.out.size))
               have g4 : w2.cell? ⟨q, 4, none⟩ = some (.slice A2 k d2) := hbq2.cell 4
               have hq2 : q < w2.heap.size := hbq2.lt
               have g4' : ∀ o : Obj, (w2.alloc o).cell? ⟨q, 4, none⟩ = some (.slice A2 k d2) := fun o => (fary hq2).trans g4
               have hsz2 : wr.heap.size < w2.heap.size := by have := hb2.size; simp at this; omega
               clear hbw hcoll2 hbq2 hl2 hown2 hT hT2 hb2))
          all_goals
            go_wp2_with fail
            go_roundw
            case rel =>
              exact ⟨k + 1, A3, d3, _, hlt2, by go_num, Hcoll3.out.set (.inr rfl) _, Hbq3.out.set_ 4 _, Hbr3.out.far (by show w.heap.size + 1 ≠ q; omega) _, Hkr3.out.set Hbq3.out (by decide) _, Hb3.out.setCell (by show w.heap.size ≤ q; omega) _⟩
            case measure => simp [intOf]; omega
        · obtain rfl : t.items.length = k := by omega
          rw [List.take_length] at Hcoll
          have c0 : wr.cell? ⟨q, 0, none⟩ = some (.int .i64 t.kind) := Hbq.out.cell 0
          have c1 : wr.cell? ⟨q, 1, none⟩ = some (.bool t.tr) := Hbq.out.cell 1
          have c2 : wr.cell? ⟨q, 2, none⟩ = some (.int .i64 t.num) := Hbq.out.cell 2
          have c3 : wr.cell? ⟨q, 3, none⟩ = some (.string t.str) := Hbq.out.cell 3
          have c5 : wr.cell? ⟨q, 5, none⟩ = some (.slice K t.keys.length kd) := Hbq.out.cell 5
          have r0 : wr.cell? ⟨w.heap.size + 1, 0, none⟩ = some (.int .i64 0) := Hbr.out.cell 0
          have r1 : wr.cell? ⟨w.heap.size + 1, 1, none⟩ = some (.bool false) := Hbr.out.cell 1
          have r2 : wr.cell? ⟨w.heap.size + 1, 2, none⟩ = some (.int .i64 0) := Hbr.out.cell 2
          have r3 : wr.cell? ⟨w.heap.size + 1, 3, none⟩ = some (.string ⟨#[]⟩) := Hbr.out.cell 3
          have r4 : wr.cell? ⟨w.heap.size + 1, 4, none⟩ = some (.slice none 0 0) := Hbr.out.cell 4
          have r5 : wr.cell? ⟨w.heap.size + 1, 5, none⟩ = some (.slice none 0 0) := Hbr.out.cell 5
          have x0 := Hbr.out.free 0
          have x1 := Hbr.out.free 1
          have x2 := Hbr.out.free 2
          have x3 := Hbr.out.free 3
          have x4 := Hbr.out.free 4
          have x5 := Hbr.out.free 5
          go_wp2_with fail
          have hF := res_put Hbr.out rfl t A2 d2 K kd
          have hK : Keeps (fun b => b ≠ w.heap.size + 1) wr (((((((wr.setCell ⟨w.heap.size + 1, 0, none⟩ (.int .i64 t.kind)).setCell ⟨w.heap.size + 1, 1, none⟩ (.bool t.tr)).setCell ⟨w.heap.size + 1, 2, none⟩ (.int .i64 t.num)).setCell ⟨w.heap.size + 1, 3, none⟩ (.string t.str)).setCell ⟨w.heap.size + 1, 4, none⟩ (.slice A2 t.items.length d2)).setCell ⟨w.heap.size + 1, 5, none⟩ (.slice K t.keys.length kd))) := by
            intro b hb
            rw [Below.heap_setCell _ _ _ _ hb, Below.heap_setCell _ _ _ _ hb, Below.heap_setCell _ _ _ _ hb, Below.heap_setCell _ _ _ _ hb, Below.heap_setCell _ _ _ _ hb, Below.heap_setCell _ _ _ _ hb]
          have hZ : (((((((wr.setCell ⟨w.heap.size + 1, 0, none⟩ (.int .i64 t.kind)).setCell ⟨w.heap.size + 1, 1, none⟩ (.bool t.tr)).setCell ⟨w.heap.size + 1, 2, none⟩ (.int .i64 t.num)).setCell ⟨w.heap.size + 1, 3, none⟩ (.string t.str)).setCell ⟨w.heap.size + 1, 4, none⟩ (.slice A2 t.items.length d2)).setCell ⟨w.heap.size + 1, 5, none⟩ (.slice K t.keys.length kd))).heap.size = wr.heap.size := by simp [World.setCell]
          have hE : Below w.heap.size w (((((((wr.setCell ⟨w.heap.size + 1, 0, none⟩ (.int .i64 t.kind)).setCell ⟨w.heap.size + 1, 1, none⟩ (.bool t.tr)).setCell ⟨w.heap.size + 1, 2, none⟩ (.int .i64 t.num)).setCell ⟨w.heap.size + 1, 3, none⟩ (.string t.str)).setCell ⟨w.heap.size + 1, 4, none⟩ (.slice A2 t.items.length d2)).setCell ⟨w.heap.size + 1, 5, none⟩ (.slice K t.keys.length kd))) := (((((Hbel.out.setCell (Nat.le_succ _) _).setCell (Nat.le_succ _) _).setCell (Nat.le_succ _) _).setCell (Nat.le_succ _) _).setCell (Nat.le_succ _) _).setCell (Nat.le_succ _) _
          generalize (((((((wr.setCell ⟨w.heap.size + 1, 0, none⟩ (.int .i64 t.kind)).setCell ⟨w.heap.size + 1, 1, none⟩ (.bool t.tr)).setCell ⟨w.heap.size + 1, 2, none⟩ (.int .i64 t.num)).setCell ⟨w.heap.size + 1, 3, none⟩ (.string t.str)).setCell ⟨w.heap.size + 1, 4, none⟩ (.slice A2 t.items.length d2)).setCell ⟨w.heap.size + 1, 5, none⟩ (.slice K t.keys.length kd))) = Wf at *
          have m0 : Wf.cell? ⟨w.heap.size + 1, 0, none⟩ = some (.int .i64 t.kind) := hF.cell 0
          have m1 : Wf.cell? ⟨w.heap.size + 1, 1, none⟩ = some (.bool t.tr) := hF.cell 1
          have m2 : Wf.cell? ⟨w.heap.size + 1, 2, none⟩ = some (.int .i64 t.num) := hF.cell 2
          have m3 : Wf.cell? ⟨w.heap.size + 1, 3, none⟩ = some (.string t.str) := hF.cell 3
          have m4 : Wf.cell? ⟨w.heap.size + 1, 4, none⟩ = some (.slice A2 t.items.length d2) := hF.cell 4
          have m5 : Wf.cell? ⟨w.heap.size + 1, 5, none⟩ = some (.slice K t.keys.length kd) := hF.cell 5
          obtain ⟨_, hd2, hvr⟩ := Hcoll.out.vreads
          refine bodyPost_ret (v := .agg #[.int .i64 t.kind, .bool t.tr, .int .i64 t.num, .string t.str, .slice A2 t.items.length d2, .slice K t.keys.length kd]) (by simp [results, Tryd.results13, go_sem, m0, m1, m2, m3, m4, m5]) rfl ⟨A2, d2, K, kd, rfl, ?_, hE⟩
          refine TV.of hd2 hkd (fun hn => ?_) ?_
          · exact ((hvr.keep (hK.mono fun b hb => by have := hb.2; omega)).wide fun b hb => ⟨by have := hb.2; omega, by have := hb.1; omega⟩) hn
          · exact ((Hkr.out.sreads.keep (hK.mono fun b hb => by have := hb.1; omega)).wide fun b hb => ⟨by have := hb.1; omega, by have := hb.2; omega⟩)
theorem real_any (t : T) (A : Option Addr) (c : Nat) (A' : Option Addr) (c' : Nat) (w : World) (ht : t.size ≤ 100000) (hs : t.Small) (hv : TV w (· < w.heap.size) t A c A' c') :
    Calls Tryd.prog 13 #[t.agg A c A' c'] w (GivesT t w) := real_at 100000 t A c A' c' w ht (Nat.le_refl _) hs hv
end Go.Proofs.YtgiapdmoiaiofaaDoor
