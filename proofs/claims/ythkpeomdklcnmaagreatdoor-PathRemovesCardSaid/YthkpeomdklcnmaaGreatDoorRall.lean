/- The reference's All: contract. -/
import Derived.Test.YthkpeomdklcnmaaGreatDoorParts
import Derived.Test.YthkpeomdklcnmaaGreatDoorWay
import Derived.Outline
namespace Go.Proofs.YthkpeomdklcnmaaGreatDoor
open Go.RowKit
set_option linter.unusedVariables false

theorem infoPart : (Tryz.prog.info? 58).map (fun i => (i.zero, i.size, i.bytes)) = some (some (.agg #[.slice none 0 0, .int .i64 0, .bool false, .int .i64 0, .string ⟨#[]⟩, .slice none 0 0, .slice none 0 0]), 7, 112) := by kernel_rfl
def AllPost (S0 : Nat → Prop) (t : T) (p : List ByteArray) (w : World) (e : Ending) (w' : World) : Prop := ∃ A2 c2, e = .returned (.slice A2 t.size c2) ∧ t.size ≤ c2 ∧ PReads w' (fun b => S0 b ∨ (w.heap.size ≤ b ∧ b < w'.heap.size)) A2 t.size (t.parts p) ∧ Below w.heap.size w w'
def RAllAt (n : Nat) : Prop := ∀ (S0 : Nat → Prop) (t : T) (p : List ByteArray) (P : Option Addr) (cp : Nat) (A : Option Addr) (c : Nat) (A' : Option Addr) (c' : Nat) (w : World), t.size ≤ n → n ≤ 80 → t.Fine → p.length ≤ cp → p.length + n ≤ 1000 → (∀ b, S0 b → b < w.heap.size) → SReads w S0 P p → TV w S0 t A c A' c' →
    Calls Tryz.prog 23 #[.agg #[.int .i64 t.kind, .bool t.tr, .int .i64 t.num, .string t.str, .slice A t.items.length c, .slice A' t.keys.length c'], .slice P p.length cp] w (AllPost S0 t p w)
/-- where the parts' rows lie while they are gathered -/
def Gath (W : World) (S0 : Nat → Prop) (v : Value) (wr : World) : Nat → Prop := fun b => (S0 b ∨ (W.heap.size ≤ b ∧ b < wr.heap.size)) ∧ some b ≠ v.ownBlock
theorem gath_old {W wr w12 w13 : World} {S0 : Nat → Prop} {v v' : Value} {b : Nat} (h : Gath W S0 v wr b) (hW : ∀ b, S0 b → b < W.heap.size) (h1 : wr.heap.size ≤ w12.heap.size) (h0 : W.heap.size ≤ wr.heap.size) (h2 : w12.heap.size ≤ w13.heap.size) (hat : v'.ownBlock = v.ownBlock ∨ v'.ownBlock = some w12.heap.size) : Gath W S0 v' w13 b := by
  obtain ⟨h3, h4⟩ := h
  have hlt : b < wr.heap.size := by rcases h3 with h | h; have := hW b h; omega; exact h.2
  refine ⟨by rcases h3 with h | h; exact .inl h; exact .inr ⟨h.1, by omega⟩, ?_⟩
  rcases hat with hat | hat
  · rw [hat]; exact h4
  · rw [hat]; intro e; injection e with e; omega
theorem gath_in {W wr w11 : World} {S0 : Nat → Prop} {n m sz : Nat} {B : Option Addr} {d : Nat} {ty : TypeId} {xs : List Value} {b : Nat} (ho : wr.ownsRow W.heap.size ty sz (.slice B m d) n xs) (h1 : wr.heap.size ≤ w11.heap.size) (hb : (S0 b ∧ b < W.heap.size) ∨ (wr.heap.size ≤ b ∧ b < w11.heap.size)) (h0 : W.heap.size ≤ wr.heap.size) : Gath W S0 (.slice B m d) w11 b := by
  refine ⟨by rcases hb with h | h; exact .inl h.1; exact .inr ⟨by omega, h.2⟩, fun e => ?_⟩
  have := ho.lt b e.symm
  omega
theorem srcOne {w : World} {g : Nat} {ty : TypeId} {v : Value} (h : Blk w g ty #[v]) : Src w (some ⟨g, 0, none⟩) 1 1 [v] :=
  ⟨rfl, fun _ => ⟨_, rfl, fun j u hu => by
    match j, hu with
    | 0, hu => simp at hu; subst hu; rw [add_lit]; exact h.cell 0⟩⟩
theorem step_key {t : T} {j : Nat} (hg : t.Good) (h5 : t.kind = 5) (hj : j < t.items.length) : t.keys[j]? = some (stepOf t.kind t.keys j) := by
  have hkl : j < t.keys.length := by rw [hg.here.lens h5]; exact hj
  unfold stepOf
  rw [if_pos h5, List.getD_eq_getElem?_getD, List.getElem?_eq_getElem hkl]; rfl
theorem step_num {t : T} {j : Nat} (h5 : t.kind ≠ 5) : stepOf t.kind t.keys j = decB j := by unfold stepOf; rw [if_neg h5]
set_option maxRecDepth 100000 in
set_option maxHeartbeats 16000000 in
theorem rall_at (n : Nat) : RAllAt n := by
  induction n with
  | zero => intro S0 t p P cp A c A' c' w h; have := t.size_pos; omega
  | succ n ih =>
    intro S0 t p P cp A c A' c' w ht hn80 hn hpc hpl hS0 hp hv
    obtain ⟨i0, hi, hz0, hz1, hz2⟩ := info_parts infoStr
    obtain ⟨iP, hi1, hy0, hy1, hy2⟩ := info_parts infoPart
    have hil := T.len_size t
    have HN := Lib.hid hn
    have HP := Lib.hid hp
    have HV := Lib.hid hv
    have HS0 := Lib.hid hS0
    have IH := Lib.hid ih
    have HIT := Lib.hid (show ∀ i : Nat, Lib.itoa (i : Int) = (decB i).toList from fun i => by rw [decB_toList, itoa_nat])
    obtain ⟨psrc, hps1, hps2⟩ : ∃ psrc, psrc = p.map Value.string ∧ ∀ W2, Below w.heap.size w W2 → Src W2 P p.length 1 psrc := ⟨_, rfl, fun W2 hb => ((hp.wide hS0).below hb).src⟩
    have HPS := Lib.hid hps2
    have HPE := Lib.hid hps1
    have HPO := Lib.hid (show ∀ u ∈ psrc, u.oneCell' = true from by rw [hps1]; intro u hu; obtain ⟨q, _, rfl⟩ := List.mem_map.1 hu; rfl)
    clear hn hp hv hS0 ih hps1 hps2
    go_enter Tryz.func23, Tryz.ntmps23
    go_upto_region 1 with fail
    have hW : Below w.heap.size w (w.alloc (.cells #[.int .i64 t.kind, .bool t.tr, .int .i64 t.num, .string t.str, .slice A t.items.length c, .slice A' t.keys.length c'] 29)) := (Below.refl _ _).alloc (Nat.le_refl _) _
    have hB0 : Blk (w.alloc (.cells #[.int .i64 t.kind, .bool t.tr, .int .i64 t.num, .string t.str, .slice A t.items.length c, .slice A' t.keys.length c'] 29)) w.heap.size 29 #[.int .i64 t.kind, .bool t.tr, .int .i64 t.num, .string t.str, .slice A t.items.length c, .slice A' t.keys.length c'] := Blk.new w _ _
    change Code.wp _ _ _ _ (w.alloc (.cells #[.int .i64 t.kind, .bool t.tr, .int .i64 t.num, .string t.str, .slice A t.items.length c, .slice A' t.keys.length c'] 29))
    generalize (w.alloc (.cells #[.int .i64 t.kind, .bool t.tr, .int .i64 t.num, .string t.str, .slice A t.items.length c, .slice A' t.keys.length c'] 29)) = W at *
    have HW := Lib.hid hW
    have HB0 := Lib.hid hB0
    have hGW := hB0.lt
    generalize hG : w.heap.size = G at *
    obtain ⟨a0, a1, a2, a3, a4, a5⟩ : W.cell? ⟨G, 0, none⟩ = some (.int .i64 t.kind) ∧ W.cell? ⟨G, 1, none⟩ = some (.bool t.tr) ∧ W.cell? ⟨G, 2, none⟩ = some (.int .i64 t.num) ∧ W.cell? ⟨G, 3, none⟩ = some (.string t.str) ∧ W.cell? ⟨G, 4, none⟩ = some (.slice A t.items.length c) ∧ W.cell? ⟨G, 5, none⟩ = some (.slice A' t.keys.length c') := ⟨hB0.cell 0, hB0.cell 1, hB0.cell 2, hB0.cell 3, hB0.cell 4, hB0.cell 5⟩
    clear hW hB0
    go_upto_region 2 with fail
    have hb1 : Below W.heap.size W (W.alloc (.cells #[.slice P p.length cp, .int .i64 t.kind, .bool t.tr, .int .i64 t.num, .string t.str, .slice A t.items.length c, .slice A' t.keys.length c'] 58)) := (Below.refl _ _).alloc (Nat.le_refl _) _
    have ho1 := World.ownsRow_lit (base := W.heap.size) (e := 58) (size := 7) W #[.slice P p.length cp, .int .i64 t.kind, .bool t.tr, .int .i64 t.num, .string t.str, .slice A t.items.length c, .slice A' t.keys.length c'] 1 (Nat.le_refl _) (by unfold maxLen; omega) rfl
    change Code.wp _ _ _ _ (W.alloc (.cells #[.slice P p.length cp, .int .i64 t.kind, .bool t.tr, .int .i64 t.num, .string t.str, .slice A t.items.length c, .slice A' t.keys.length c'] 58))
    generalize (W.alloc (.cells #[.slice P p.length cp, .int .i64 t.kind, .bool t.tr, .int .i64 t.num, .string t.str, .slice A t.items.length c, .slice A' t.keys.length c'] 58)) = W1 at *
    have HB1 := Lib.hid hb1
    have HO1 := Lib.hid ho1
    have h4 : W1.cell? ⟨G, 4, none⟩ = some (.slice A t.items.length c) := (hb1.cell (p := ⟨G, 4, none⟩) hGW).trans a4
    clear hb1 ho1 a0 a1 a2 a3 a4 a5
    go_wp2_with fail
    go_loopw [5, 15] (fun v x wr => ∃ (j : Nat) (B : Option Addr) (d : Nat) (xs : List Value), j ≤ t.items.length ∧ x = .int .i64 j ∧ v = .slice B (1 + T.sizes (t.items.take j)) d ∧ wr.ownsRow W.heap.size 58 7 (.slice B (1 + T.sizes (t.items.take j)) d) (1 + T.sizes (t.items.take j)) xs ∧
      PCells wr (Gath W S0 (.slice B (1 + T.sizes (t.items.take j)) d) wr) ((p, t) :: T.partsL t.kind t.keys p (t.items.take j) 0) xs ∧ Below W.heap.size W wr) (fun _ x _ => t.items.length - (intOf x).toNat)
    case atStart =>
      have hS0' : ∀ b, S0 b → Gath W S0 (.slice (some ⟨W.heap.size, 0, none⟩) 1 1) W1 b := fun b hb => ⟨.inl hb, fun e => by
        have h1 : b = W.heap.size := by injection e
        have h2 := HS0.out b hb
        omega⟩
      have hws : Below G w W1 := HW.out.trans (HB1.out.mono (by omega))
      have hk : Keeps S0 w W1 := fun b hb => hws.block b (by have := HS0.out b hb; omega)
      exact ⟨0, _, 1, _, Nat.zero_le _, rfl, rfl, HO1.out, PCells.one hpc ((HP.out.keep hk).wide hS0') ((HV.out.keep hk).wide hS0'), HB1.out⟩
    case round =>
      obtain ⟨j, B, d, xs, hj, rfl, rfl, hown, hpcs, hbel⟩ := hrel
      have Hown := Lib.hid hown
      have Hpcs := Lib.hid hpcs
      have Hbel := Lib.hid hbel
      have hsr := hbel.size
      have h4 : wr.cell? ⟨G, 4, none⟩ = some (.slice A t.items.length c) := ((hbel.cell (p := ⟨G, 4, none⟩) hGW).trans (HB0.out.cell 4))
      have h0 : wr.cell? ⟨G, 0, none⟩ = some (.int .i64 t.kind) := ((hbel.cell (p := ⟨G, 0, none⟩) hGW).trans (HB0.out.cell 0))
      clear hown hpcs hbel
      by_cases hlt : j < t.items.length
      · have u1 : decide (j < t.items.length) = true := decide_eq_true hlt
        have u2 : decide ((j : Int) < (t.items.length : Int)) = true := decide_eq_true (by omega)
        obtain ⟨bA, oA, y, D, g, D', g', rfl, hbA, hy, h6y, hY⟩ := HV.out.at_ hlt
        have HY := Lib.hid hY
        have HY6 := Lib.hid h6y
        have Hy := Lib.hid hy
        clear hY h6y hy
        go_wp2_with fail
        refine (rtext_nat j _ (by omega)).mono ?_
        rintro e w2 ⟨v, rfl, hnz, hb2⟩
        have H2 := Lib.hid (Hbel.out.trans (hb2.mono hsr))
        have HR2 := Lib.hid hb2
        have HNZ := Lib.hid hnz
        clear hb2 hnz
        go_wp2_with fail
        refine (W2.rtext_any v j _ HNZ.out (by unfold W2.Sm; have : (10000 : Nat) ^ 1 ≤ 10000 ^ 100 := Nat.pow_le_pow_right (by decide) (by decide); simp at *; omega)).mono ?_
        rintro e w3 ⟨rfl, hb3⟩
        have hdec : (⟨(Lib.itoa (j : Int)).toArray⟩ : ByteArray) = decB j := by
          apply ba_ext
          rw [HIT.out, ByteArray.toList_eq]
        rw [hdec]
        have H3 := Lib.hid (H2.out.trans (hb3.mono H2.out.size))
        have HR3 := Lib.hid (HR2.out.trans (hb3.mono HR2.out.size))
        have k0 : w3.cell? ⟨G, 0, none⟩ = some (.int .i64 t.kind) := ((H3.out.cell (p := ⟨G, 0, none⟩) hGW).trans (HB0.out.cell 0))
        have k5 : w3.cell? ⟨G, 5, none⟩ = some (.slice A' t.keys.length c') := ((H3.out.cell (p := ⟨G, 5, none⟩) hGW).trans (HB0.out.cell 5))
        clear hb3 HNZ h4 h0 H2
        have hdis : (t.kind = 5 ∧ ∃ bk ok, A' = some ⟨bk, ok, none⟩ ∧ w3.cell? ⟨bk, ok + j, none⟩ = some (.string (stepOf t.kind t.keys j)) ∧ j < t.keys.length) ∨ (t.kind ≠ 5 ∧ decB j = stepOf t.kind t.keys j) := by
          by_cases h5 : t.kind = 5
          · left
            have hk := step_key HN.out.good h5 hlt
            obtain ⟨bk, ok, e1, e2, e3⟩ := HV.out.keys (by intro hz; rw [hz] at hk; simp at hk)
            have hww : Below G w w3 := HW.out.trans (H3.out.mono (by omega))
            exact ⟨h5, bk, ok, e1, (hww.cell (p := ⟨bk, ok + j, none⟩) (by have := HS0.out bk e2; show bk < G; omega)).trans (e3 j _ hk), lt_of_get hk⟩
          · right; exact ⟨h5, (step_num h5).symm⟩
        generalize hst : stepOf t.kind t.keys j = st at *
        rcases hdis with ⟨h5, bk, ok, rfl, hkc, hkl⟩ | ⟨h5, hdj⟩
        case' inl =>
          have t5 : (t.kind == 5) = true := beq_iff_eq.2 h5
          have i1 : (j : Int) < (t.keys.length : Int) := by omega
          have i2 : (0 : Int) ≤ (j : Int) := by omega
          clear h5
          go_wp2_with fail
        case' inr =>
          have t5 : (t.kind == 5) = false := beq_eq_false_iff_ne.2 h5
          rw [hdj]
          clear h5
          go_wp2_with fail
        all_goals
          have HSS := Lib.hid (show ∀ w', Below W.heap.size W w' → w'.cell? ⟨G, 4, none⟩ = some (.slice (some ⟨bA, oA, none⟩) t.items.length c) ∧ (w'.cell? ⟨bA, oA + j * 6, none⟩ = some (.int .i64 y.kind) ∧ w'.cell? ⟨bA, oA + j * 6 + 1, none⟩ = some (.bool y.tr) ∧ w'.cell? ⟨bA, oA + j * 6 + 2, none⟩ = some (.int .i64 y.num) ∧ w'.cell? ⟨bA, oA + j * 6 + 3, none⟩ = some (.string y.str) ∧ w'.cell? ⟨bA, oA + j * 6 + 4, none⟩ = some (.slice D y.items.length g) ∧ w'.cell? ⟨bA, oA + j * 6 + 5, none⟩ = some (.slice D' y.keys.length g')) from fun w' h => by
            have hw : Below G w w' := HW.out.trans (h.mono (by omega))
            exact ⟨(h.cell (p := ⟨G, 4, none⟩) hGW).trans (HB0.out.cell 4), HY6.out.on_blk (hw.block bA (by have := HS0.out bA hbA; omega))⟩)
          have i3 : (j : Int) < (t.items.length : Int) := by omega
          have i4 : (0 : Int) ≤ (j : Int) := by omega
          refine wp_region_held_drew (S := fun w' => w'.cell? ⟨G, 4, none⟩ = some (.slice (some ⟨bA, oA, none⟩) t.items.length c) ∧ (w'.cell? ⟨bA, oA + j * 6, none⟩ = some (.int .i64 y.kind) ∧ w'.cell? ⟨bA, oA + j * 6 + 1, none⟩ = some (.bool y.tr) ∧ w'.cell? ⟨bA, oA + j * 6 + 2, none⟩ = some (.int .i64 y.num) ∧ w'.cell? ⟨bA, oA + j * 6 + 3, none⟩ = some (.string y.str) ∧ w'.cell? ⟨bA, oA + j * 6 + 4, none⟩ = some (.slice D y.items.length g) ∧ w'.cell? ⟨bA, oA + j * 6 + 5, none⟩ = some (.slice D' y.keys.length g'))) (by kernel_rfl) ?_ (fun hHeld => ?_)
          · exact HSS.out _ H3.out.drew
          refine wpAnyH_take (i := 0) (v := ?_) rfl (by kernel_rfl) (by kernel_rfl) (by kernel_rfl) (fun _ _ _ h => h) (Or.inl ⟨by rfl, ?_⟩) (by assumption) ?_
          rotate_left
          · intro wq hSw
            try dsimp only at hSw
            go_simp
            try (with_reducible rfl)
          try simp only [Act.put, List.getElem_toArray, List.getElem_cons_zero, List.setIfInBounds_toArray, List.set_cons_zero, List.set_cons_succ]
          refine wpAnyH_take (i := 1) (v := ?_) rfl (by kernel_rfl) (by kernel_rfl) (by kernel_rfl) (fun _ _ _ h => h) (Or.inl ⟨by rfl, ?_⟩) (by assumption) ?_
          rotate_left
          · intro wq hSw
            try dsimp only at hSw
            go_simp
            try (with_reducible rfl)
          try simp only [Act.put, List.getElem_toArray, List.getElem_cons_succ, List.getElem_cons_zero, List.setIfInBounds_toArray, List.set_cons_zero, List.set_cons_succ]
          refine wpAnyH_take (i := 2) (v := ?_) rfl (by kernel_rfl) (by kernel_rfl) (by kernel_rfl) (fun _ _ _ h => h) (Or.inl ⟨by rfl, ?_⟩) (by assumption) ?_
          rotate_left
          · intro wq hSw
            try dsimp only at hSw
            go_simp
            try (with_reducible rfl)
          try simp only [Act.put, List.getElem_toArray, List.getElem_cons_succ, List.getElem_cons_zero, List.setIfInBounds_toArray, List.set_cons_zero, List.set_cons_succ]
          refine wpAnyH_take (i := 3) (v := ?_) rfl (by kernel_rfl) (by kernel_rfl) (by kernel_rfl) (fun _ _ _ h => h) (Or.inl ⟨by rfl, ?_⟩) (by assumption) ?_
          rotate_left
          · intro wq hSw
            try dsimp only at hSw
            go_simp
            try (with_reducible rfl)
          try simp only [Act.put, List.getElem_toArray, List.getElem_cons_succ, List.getElem_cons_zero, List.setIfInBounds_toArray, List.set_cons_zero, List.set_cons_succ]
          refine wpAnyH_take (i := 4) (v := ?_) rfl (by kernel_rfl) (by kernel_rfl) (by kernel_rfl) (fun _ _ _ h => h) (Or.inl ⟨by rfl, ?_⟩) (by assumption) ?_
          rotate_left
          · intro wq hSw
            try dsimp only at hSw
            go_simp
            try (with_reducible rfl)
          try simp only [Act.put, List.getElem_toArray, List.getElem_cons_succ, List.getElem_cons_zero, List.setIfInBounds_toArray, List.set_cons_zero, List.set_cons_succ]
          refine wpAnyH_take (i := 5) (v := ?_) rfl (by kernel_rfl) (by kernel_rfl) (by kernel_rfl) (fun _ _ _ h => h) (Or.inl ⟨by rfl, ?_⟩) (by assumption) ?_
          rotate_left
          · intro wq hSw
            try dsimp only at hSw
            go_simp
            try (with_reducible rfl)
          try simp only [Act.put, List.getElem_toArray, List.getElem_cons_succ, List.getElem_cons_zero, List.setIfInBounds_toArray, List.set_cons_zero, List.set_cons_succ]
          refine wpAnyH_take (i := 7) (v := ?_) rfl (by kernel_rfl) (by kernel_rfl) (by kernel_rfl) (fun _ _ _ h => h) (Or.inl ⟨by rfl, ?_⟩) (by assumption) ?_
          rotate_left
          · intro wq hSw
            try dsimp only at hSw
            go_simp
            try (with_reducible rfl)
          try simp only [Act.put, List.getElem_toArray, List.getElem_cons_succ, List.getElem_cons_zero, List.setIfInBounds_toArray, List.set_cons_zero, List.set_cons_succ]
          refine wpAnyH_take (i := 9) (v := ?_) rfl (by kernel_rfl) (by kernel_rfl) (by kernel_rfl) (fun _ _ _ h => h) (Or.inl ⟨by rfl, ?_⟩) (by assumption) ?_
          rotate_left
          · intro wq hSw
            try dsimp only at hSw
            go_simp
            try (with_reducible rfl)
          try simp only [Act.put, List.getElem_toArray, List.getElem_cons_succ, List.getElem_cons_zero, List.setIfInBounds_toArray, List.set_cons_zero, List.set_cons_succ]
          have R3s : wr.heap.size ≤ w3.heap.size := HR3.out.size
          refine wpAnyH_ready (rs := [6, 10]) (by kernel_rfl) (by simp) ?_
          refine AllReadyH.cons rfl (fun K0 hK => ?_) (AllReadyH.cons rfl (fun K0 hK => ?_) AllReadyH.nil)
          go_simp
          have R6 := Lib.hid (show Below wr.heap.size wr (w3.alloc (.cells #[] 9)).drew from (HR3.out.alloc HR3.out.size _).drew)
          have O6 := Lib.hid (show (w3.alloc (.cells #[] 9)).drew.ownsRow w3.heap.size 9 1 (.slice (some ⟨w3.heap.size, 0, none⟩) 0 0) 0 [] from (World.ownsRow_lit (base := w3.heap.size) (e := 9) (size := 1) w3 #[] 0 (Nat.le_refl _) (by unfold maxLen; omega) rfl).drew)
          have L6 := Lib.hid (show (w3.alloc (.cells #[] 9)).drew.heap.size = w3.heap.size + 1 from by show (w3.alloc _).heap.size = _; simp)
          refine hK.out _ _ ?_ (fun hHeld => ?_)
          · exact HSS.out _ (Hbel.out.trans (R6.out.mono hsr))
          clear hK K0
          try simp only [Act.put, List.getElem_toArray, List.getElem_cons_succ, List.getElem_cons_zero, List.setIfInBounds_toArray, List.set_cons_zero, List.set_cons_succ]
          generalize (w3.alloc (.cells #[] 9)).drew = w6 at *
          generalize hb6 : w3.heap.size = b6 at *
          refine wpAnyH_ready (rs := [8, 10]) (by kernel_rfl) (by simp) ?_
          refine AllReadyH.cons rfl (fun K0 hK => ?_) (AllReadyH.cons rfl (fun K0 hK => ?_) AllReadyH.nil)
          refine app_step rfl (.tmp 35) (.tmp 36) 24 rfl b6 9 i0 (.string ⟨#[]⟩) 1 16 Tryz.underlying24 hi hz0 hz1 hz2 rfl (by decide) (.slice (some ⟨b6, 0, none⟩) 0 0) 0 [] rfl O6.out P p.length cp psrc rfl (HPS.out _ (HW.out.trans ((Hbel.out.trans (R6.out.mono hsr)).mono (by omega)))) HPO.out (by unfold maxLen; omega) (by omega) (by first | omega | (have := L6.out; omega) | (have := L6.out; have := L10.out; omega)) p.length (by omega) ?_
          intro B8 d8 w8 ho8 hg8 hat8
          rw [List.nil_append] at ho8
          have O8 := Lib.hid ho8
          have L8 := hg8.size
          have R8 := Lib.hid (R6.out.grown hg8 R6.out.size (fun k hk => by have := (O6.out.lt k hk).1; have := R3s; first | omega | (have := L6.out; omega) | (have := L10.out; omega) | (have := L6.out; have := L10.out; omega)))
          refine hK.out _ _ ?_ (fun hHeld => ?_)
          · exact HSS.out _ (Hbel.out.trans (R8.out.mono hsr))
          clear hK K0
          try simp only [Act.put, List.getElem_toArray, List.getElem_cons_succ, List.getElem_cons_zero, List.setIfInBounds_toArray, List.set_cons_zero, List.set_cons_succ]
          refine wpAnyH_ready (rs := [10]) (by kernel_rfl) (by simp) ?_
          refine AllReadyH.cons rfl (fun K0 hK => ?_) AllReadyH.nil
          go_simp
          have R10 := Lib.hid (show Below wr.heap.size wr (w8.alloc (.cells #[.string st] 9)) from (R8.out.alloc R8.out.size _))
          have K10 := Lib.hid (show Blk (w8.alloc (.cells #[.string st] 9)) w8.heap.size 9 #[.string st] from Blk.new w8 _ _)
          have L10 := Lib.hid (show (w8.alloc (.cells #[.string st] 9)).heap.size = w8.heap.size + 1 from by show (w8.alloc _).heap.size = _; simp)
          have O10 := Lib.hid (O8.out.alloc (.cells #[.string st] 9))
          refine hK.out _ _ ?_ (fun hHeld => ?_)
          · exact HSS.out _ (Hbel.out.trans (R10.out.mono hsr))
          clear hK K0
          try simp only [Act.put, List.getElem_toArray, List.getElem_cons_succ, List.getElem_cons_zero, List.setIfInBounds_toArray, List.set_cons_zero, List.set_cons_succ]
          generalize (w8.alloc (.cells #[.string st] 9)) = w10 at *
          generalize hg10 : w8.heap.size = g10 at *
          refine wpAnyH_ready (rs := [11]) (by kernel_rfl) (by simp) ?_
          refine AllReadyH.cons rfl (fun K0 hK => ?_) AllReadyH.nil
          refine app_step rfl (.tmp 37) (.tmp 39) 24 rfl b6 9 i0 (.string ⟨#[]⟩) 1 16 Tryz.underlying24 hi hz0 hz1 hz2 rfl (by decide) (.slice B8 p.length d8) p.length psrc rfl O10.out (some ⟨g10, 0, none⟩) 1 1 [.string st] rfl (srcOne K10.out) (by intro u hu; simp at hu; subst hu; rfl) (by unfold maxLen; omega) (by omega) (by first | omega | (have := L6.out; omega) | (have := L6.out; have := L10.out; omega)) (p.length + 1) rfl ?_
          intro Q cq w11 ho11 hg11 hat11
          have L11 := hg11.size
          have R11 := Lib.hid (R10.out.grown hg11 R10.out.size (fun k hk => by have := (O10.out.lt k hk).1; have := R3s; first | omega | (have := L6.out; omega) | (have := L10.out; omega) | (have := L6.out; have := L10.out; omega)))
          have Q11 := Lib.hid (show p.length + 1 ≤ cq ∧ SReads w11 (fun b => wr.heap.size ≤ b ∧ b < w11.heap.size) Q (p ++ [st]) from by
            have h := own_strs2 (n := p.length + 1) (l := p ++ [st]) (by simp) (by rw [List.map_append, ← HPE.out]; exact ho11)
            exact ⟨h.1, h.2.wide fun b hb => ⟨by have := R3s; first | omega | (have := L6.out; omega) | (have := L10.out; omega) | (have := L6.out; have := L10.out; omega), hb.2⟩⟩)
          refine hK.out _ _ ?_ (fun hHeld => ?_)
          · exact HSS.out _ (Hbel.out.trans (R11.out.mono hsr))
          clear hK K0
          try simp only [Act.put, List.getElem_toArray, List.getElem_cons_succ, List.getElem_cons_zero, List.setIfInBounds_toArray, List.set_cons_zero, List.set_cons_succ]
          rotate_left
          go_simp
          have R10 := Lib.hid (show Below wr.heap.size wr (w6.alloc (.cells #[.string st] 9)) from (R6.out.alloc R6.out.size _))
          have K10 := Lib.hid (show Blk (w6.alloc (.cells #[.string st] 9)) w6.heap.size 9 #[.string st] from Blk.new w6 _ _)
          have L10 := Lib.hid (show (w6.alloc (.cells #[.string st] 9)).heap.size = w6.heap.size + 1 from by show (w6.alloc _).heap.size = _; simp)
          have O10 := Lib.hid (O6.out.alloc (.cells #[.string st] 9))
          refine hK.out _ _ ?_ (fun hHeld => ?_)
          · exact HSS.out _ (Hbel.out.trans (R10.out.mono hsr))
          clear hK K0
          try simp only [Act.put, List.getElem_toArray, List.getElem_cons_succ, List.getElem_cons_zero, List.setIfInBounds_toArray, List.set_cons_zero, List.set_cons_succ]
          generalize (w6.alloc (.cells #[.string st] 9)) = w10 at *
          generalize hg10 : w6.heap.size = g10 at *
          refine wpAnyH_ready (rs := [8]) (by kernel_rfl) (by simp) ?_
          refine AllReadyH.cons rfl (fun K0 hK => ?_) AllReadyH.nil
          refine app_step rfl (.tmp 35) (.tmp 36) 24 rfl b6 9 i0 (.string ⟨#[]⟩) 1 16 Tryz.underlying24 hi hz0 hz1 hz2 rfl (by decide) (.slice (some ⟨b6, 0, none⟩) 0 0) 0 [] rfl O10.out P p.length cp psrc rfl (HPS.out _ (HW.out.trans ((Hbel.out.trans (R10.out.mono hsr)).mono (by omega)))) HPO.out (by unfold maxLen; omega) (by omega) (by first | omega | (have := L6.out; omega) | (have := L6.out; have := L10.out; omega)) p.length (by omega) ?_
          intro B8 d8 w8 ho8 hg8 hat8
          rw [List.nil_append] at ho8
          have O8 := Lib.hid ho8
          have L8 := hg8.size
          have R8 := Lib.hid (R10.out.grown hg8 R10.out.size (fun k hk => by have := (O10.out.lt k hk).1; have := R3s; first | omega | (have := L6.out; omega) | (have := L10.out; omega) | (have := L6.out; have := L10.out; omega)))
          have K8 := Lib.hid (show Blk w8 g10 9 #[.string st] from (hg8.block g10 (by first | omega | (have := L6.out; omega) | (have := L6.out; have := L10.out; omega)) (fun e => (show g10 ≠ b6 from by first | omega | (have := L6.out; omega) | (have := L6.out; have := L10.out; omega)) (Option.some.inj e))).trans K10.out)
          refine hK.out _ _ ?_ (fun hHeld => ?_)
          · exact HSS.out _ (Hbel.out.trans (R8.out.mono hsr))
          clear hK K0
          try simp only [Act.put, List.getElem_toArray, List.getElem_cons_succ, List.getElem_cons_zero, List.setIfInBounds_toArray, List.set_cons_zero, List.set_cons_succ]
          refine wpAnyH_ready (rs := [11]) (by kernel_rfl) (by simp) ?_
          refine AllReadyH.cons rfl (fun K0 hK => ?_) AllReadyH.nil
          refine app_step rfl (.tmp 37) (.tmp 39) 24 rfl b6 9 i0 (.string ⟨#[]⟩) 1 16 Tryz.underlying24 hi hz0 hz1 hz2 rfl (by decide) (.slice B8 p.length d8) p.length psrc rfl O8.out (some ⟨g10, 0, none⟩) 1 1 [.string st] rfl (srcOne K8.out) (by intro u hu; simp at hu; subst hu; rfl) (by unfold maxLen; omega) (by omega) (by first | omega | (have := L6.out; omega) | (have := L6.out; have := L10.out; omega)) (p.length + 1) rfl ?_
          intro Q cq w11 ho11 hg11 hat11
          have L11 := hg11.size
          have R11 := Lib.hid (R8.out.grown hg11 R8.out.size (fun k hk => by have := (O8.out.lt k hk).1; have := R3s; first | omega | (have := L6.out; omega) | (have := L10.out; omega) | (have := L6.out; have := L10.out; omega)))
          have Q11 := Lib.hid (show p.length + 1 ≤ cq ∧ SReads w11 (fun b => wr.heap.size ≤ b ∧ b < w11.heap.size) Q (p ++ [st]) from by
            have h := own_strs2 (n := p.length + 1) (l := p ++ [st]) (by simp) (by rw [List.map_append, ← HPE.out]; exact ho11)
            exact ⟨h.1, h.2.wide fun b hb => ⟨by have := R3s; first | omega | (have := L6.out; omega) | (have := L10.out; omega) | (have := L6.out; have := L10.out; omega), hb.2⟩⟩)
          refine hK.out _ _ ?_ (fun hHeld => ?_)
          · exact HSS.out _ (Hbel.out.trans (R11.out.mono hsr))
          clear hK K0
          try simp only [Act.put, List.getElem_toArray, List.getElem_cons_succ, List.getElem_cons_zero, List.setIfInBounds_toArray, List.set_cons_zero, List.set_cons_succ]
          rotate_left
          go_simp
          have R10 := Lib.hid (show Below wr.heap.size wr (w3.alloc (.cells #[.string st] 9)).drew from (HR3.out.alloc HR3.out.size _).drew)
          have K10 := Lib.hid (show Blk (w3.alloc (.cells #[.string st] 9)).drew w3.heap.size 9 #[.string st] from Blk.new w3 _ _)
          have L10 := Lib.hid (show (w3.alloc (.cells #[.string st] 9)).drew.heap.size = w3.heap.size + 1 from by show (w3.alloc _).heap.size = _; simp)
          refine hK.out _ _ ?_ (fun hHeld => ?_)
          · exact HSS.out _ (Hbel.out.trans (R10.out.mono hsr))
          clear hK K0
          try simp only [Act.put, List.getElem_toArray, List.getElem_cons_succ, List.getElem_cons_zero, List.setIfInBounds_toArray, List.set_cons_zero, List.set_cons_succ]
          generalize (w3.alloc (.cells #[.string st] 9)).drew = w10 at *
          generalize hg10 : w3.heap.size = g10 at *
          refine wpAnyH_ready (rs := [6]) (by kernel_rfl) (by simp) ?_
          refine AllReadyH.cons rfl (fun K0 hK => ?_) AllReadyH.nil
          go_simp
          have R6 := Lib.hid (show Below wr.heap.size wr (w10.alloc (.cells #[] 9)) from (R10.out.alloc R10.out.size _))
          have O6 := Lib.hid (show (w10.alloc (.cells #[] 9)).ownsRow w10.heap.size 9 1 (.slice (some ⟨w10.heap.size, 0, none⟩) 0 0) 0 [] from (World.ownsRow_lit (base := w10.heap.size) (e := 9) (size := 1) w10 #[] 0 (Nat.le_refl _) (by unfold maxLen; omega) rfl))
          have L6 := Lib.hid (show (w10.alloc (.cells #[] 9)).heap.size = w10.heap.size + 1 from by show (w10.alloc _).heap.size = _; simp)
          have K6 := Lib.hid (show Blk (w10.alloc (.cells #[] 9)) g10 9 #[.string st] from K10.out.alloc _)
          refine hK.out _ _ ?_ (fun hHeld => ?_)
          · exact HSS.out _ (Hbel.out.trans (R6.out.mono hsr))
          clear hK K0
          try simp only [Act.put, List.getElem_toArray, List.getElem_cons_succ, List.getElem_cons_zero, List.setIfInBounds_toArray, List.set_cons_zero, List.set_cons_succ]
          generalize (w10.alloc (.cells #[] 9)) = w6 at *
          generalize hb6 : w10.heap.size = b6 at *
          refine wpAnyH_ready (rs := [8]) (by kernel_rfl) (by simp) ?_
          refine AllReadyH.cons rfl (fun K0 hK => ?_) AllReadyH.nil
          refine app_step rfl (.tmp 35) (.tmp 36) 24 rfl b6 9 i0 (.string ⟨#[]⟩) 1 16 Tryz.underlying24 hi hz0 hz1 hz2 rfl (by decide) (.slice (some ⟨b6, 0, none⟩) 0 0) 0 [] rfl O6.out P p.length cp psrc rfl (HPS.out _ (HW.out.trans ((Hbel.out.trans (R6.out.mono hsr)).mono (by omega)))) HPO.out (by unfold maxLen; omega) (by omega) (by first | omega | (have := L6.out; omega) | (have := L6.out; have := L10.out; omega)) p.length (by omega) ?_
          intro B8 d8 w8 ho8 hg8 hat8
          rw [List.nil_append] at ho8
          have O8 := Lib.hid ho8
          have L8 := hg8.size
          have R8 := Lib.hid (R6.out.grown hg8 R6.out.size (fun k hk => by have := (O6.out.lt k hk).1; have := R3s; first | omega | (have := L6.out; omega) | (have := L10.out; omega) | (have := L6.out; have := L10.out; omega)))
          have K8 := Lib.hid (show Blk w8 g10 9 #[.string st] from (hg8.block g10 (by first | omega | (have := L6.out; omega) | (have := L6.out; have := L10.out; omega)) (fun e => (show g10 ≠ b6 from by first | omega | (have := L6.out; omega) | (have := L6.out; have := L10.out; omega)) (Option.some.inj e))).trans K6.out)
          refine hK.out _ _ ?_ (fun hHeld => ?_)
          · exact HSS.out _ (Hbel.out.trans (R8.out.mono hsr))
          clear hK K0
          try simp only [Act.put, List.getElem_toArray, List.getElem_cons_succ, List.getElem_cons_zero, List.setIfInBounds_toArray, List.set_cons_zero, List.set_cons_succ]
          refine wpAnyH_ready (rs := [11]) (by kernel_rfl) (by simp) ?_
          refine AllReadyH.cons rfl (fun K0 hK => ?_) AllReadyH.nil
          refine app_step rfl (.tmp 37) (.tmp 39) 24 rfl b6 9 i0 (.string ⟨#[]⟩) 1 16 Tryz.underlying24 hi hz0 hz1 hz2 rfl (by decide) (.slice B8 p.length d8) p.length psrc rfl O8.out (some ⟨g10, 0, none⟩) 1 1 [.string st] rfl (srcOne K8.out) (by intro u hu; simp at hu; subst hu; rfl) (by unfold maxLen; omega) (by omega) (by first | omega | (have := L6.out; omega) | (have := L6.out; have := L10.out; omega)) (p.length + 1) rfl ?_
          intro Q cq w11 ho11 hg11 hat11
          have L11 := hg11.size
          have R11 := Lib.hid (R8.out.grown hg11 R8.out.size (fun k hk => by have := (O8.out.lt k hk).1; have := R3s; first | omega | (have := L6.out; omega) | (have := L10.out; omega) | (have := L6.out; have := L10.out; omega)))
          have Q11 := Lib.hid (show p.length + 1 ≤ cq ∧ SReads w11 (fun b => wr.heap.size ≤ b ∧ b < w11.heap.size) Q (p ++ [st]) from by
            have h := own_strs2 (n := p.length + 1) (l := p ++ [st]) (by simp) (by rw [List.map_append, ← HPE.out]; exact ho11)
            exact ⟨h.1, h.2.wide fun b hb => ⟨by have := R3s; first | omega | (have := L6.out; omega) | (have := L10.out; omega) | (have := L6.out; have := L10.out; omega), hb.2⟩⟩)
          refine hK.out _ _ ?_ (fun hHeld => ?_)
          · exact HSS.out _ (Hbel.out.trans (R11.out.mono hsr))
          clear hK K0
          try simp only [Act.put, List.getElem_toArray, List.getElem_cons_succ, List.getElem_cons_zero, List.setIfInBounds_toArray, List.set_cons_zero, List.set_cons_succ]
          all_goals
            skip
            have L11 : wr.heap.size ≤ w11.heap.size := R11.out.size
            have hlq : (p ++ [st]).length = p.length + 1 := by simp
            have hys := T.at_size Hy.out
            have hS11 : ∀ b, Gath W S0 (.slice B (1 + T.sizes (t.items.take j)) d) w11 b → b < w11.heap.size := fun b hb => by
              rcases hb.1 with h | h
              · have := HS0.out b h; omega
              · exact h.2
            have hwG : Below G w w11 := HW.out.trans ((Hbel.out.trans (R11.out.mono hsr)).mono (by omega))
            have hYG : TV w11 (Gath W S0 (.slice B (1 + T.sizes (t.items.take j)) d) w11) y D g D' g' := (HY.out.keep fun b hb => hwG.block b (by have := HS0.out b hb; omega)).wide fun b hb => gath_in Hown.out L11 (.inl ⟨hb, by have := HS0.out b hb; omega⟩) hsr
            have call := IH.out (Gath W S0 (.slice B (1 + T.sizes (t.items.take j)) d) w11) y (p ++ [st]) Q cq D g D' g' w11 (by omega) (by omega) (HN.out.at_ Hy.out) (by rw [hlq]; exact Q11.out.1) (by rw [hlq]; omega) hS11 (Q11.out.2.wide fun b hb => gath_in Hown.out L11 (.inr hb) hsr) hYG
            rw [hlq] at call
            have HCall := Lib.hid call
            clear call hYG hwG hS11
            refine wpAnyH_ready (rs := [12]) (by kernel_rfl) (by simp) ?_
            refine AllReadyH.cons rfl (fun K0 hK => ?_) AllReadyH.nil
            go_simp
            refine HCall.out.mono ?_
            rintro e12 w12 ⟨A2, c2, rfl, hc2, hpr, hb12⟩
            have R12 := Lib.hid (R11.out.trans (hb12.mono L11))
            have HPR := Lib.hid hpr
            have HB12 := Lib.hid hb12
            clear hb12 hpr
            go_wp2_with fail
            refine hK.out _ _ ?_ (fun hHeld => ?_)
            · exact HSS.out _ (Hbel.out.trans (R12.out.mono hsr))
            clear hK K0
            try simp only [Act.put, List.getElem_toArray, List.getElem_cons_succ, List.getElem_cons_zero, List.setIfInBounds_toArray, List.set_cons_zero, List.set_cons_succ]
            obtain ⟨ys, hyc, hysrc⟩ := HPR.out.src (B := w12.heap.size) (fun b hb => by
              have := HB12.out.size
              rcases hb with hb | hb
              · rcases hb.1 with h | h
                · have := HS0.out b h; omega
                · omega
              · exact hb.2)
            have HYC := Lib.hid hyc
            have HYS := Lib.hid (hysrc w12 (Below.refl _ _))
            have HOwn12 := Lib.hid (own_keptS Hown.out R12.out)
            have hsn := T.sizes_snoc Hy.out
            have hs12 := R12.out.size
            have hszt := T.size_eq t
            have hst2 := T.sizes_take t.items (j + 1)
            clear hyc hysrc
            refine wpAnyH_ready (rs := [13]) (by kernel_rfl) (by simp) ?_
            refine AllReadyH.cons rfl (fun K0 hK => ?_) AllReadyH.nil
            refine app_step rfl (.tmp 29) (.tmp 41) 55 rfl W.heap.size 58 iP (.agg #[.slice none 0 0, .int .i64 0, .bool false, .int .i64 0, .string ⟨#[]⟩, .slice none 0 0, .slice none 0 0]) 7 112 Tryz.underlying55 hi1 hy0 hy1 hy2 rfl (by decide) (.slice B (1 + T.sizes (t.items.take j)) d) (1 + T.sizes (t.items.take j)) xs rfl HOwn12.out A2 y.size c2 ys rfl HYS.out HYC.out.2.1 (by unfold maxLen; omega) (by omega) (by omega) (1 + T.sizes (t.items.take (j + 1))) (by omega) ?_
            intro B3 d3 w13 ho13 hg13 hat13
            have L13 := hg13.size
            have hk13 : ∀ b, b < w12.heap.size → some b ≠ (Value.slice B (1 + T.sizes (t.items.take j)) d).ownBlock → w13.heap[b]? = w12.heap[b]? := fun b h1 h2 => hg13.block b h1 h2
            have HB13 := Lib.hid ((Hbel.out.trans (R12.out.mono hsr)).grown hg13 (by omega) (fun k hk => (HOwn12.out.lt k hk).1))
            have HO13 := Lib.hid ho13
            have HP13 := Lib.hid (show PCells w13 (Gath W S0 (.slice B3 (1 + T.sizes (t.items.take (j + 1))) d3) w13) ((p, t) :: T.partsL t.kind t.keys p (t.items.take (j + 1)) 0) (xs ++ ys) from by
              rw [partsL_take Hy.out, ← List.cons_append, Nat.zero_add, hst]
              refine PCells.append ((Hpcs.out.keep fun b hb => ?_).wide fun b hb => gath_old hb (fun b h => by have := HS0.out b h; omega) hs12 hsr L13 hat13) ((HYC.out.keep fun b hb => ?_).wide fun b hb => ?_)
              · have hlt : b < wr.heap.size := by
                  rcases hb.1 with h | h
                  · have := HS0.out b h; omega
                  · exact h.2
                exact (hk13 b (by omega) hb.2).trans (R12.out.block b hlt)
              · have h1 := HB12.out.size
                rcases hb with hb | hb
                · refine hk13 b ?_ hb.2
                  rcases hb.1 with h | h
                  · have := HS0.out b h; omega
                  · omega
                · exact hk13 b hb.2 (fun e => by have := (Hown.out.lt b e.symm).2; omega)
              · have h1 := HB12.out.size
                rcases hb with hb | hb
                · exact gath_old (wr := w11) (w12 := w12) hb (fun b h => by have := HS0.out b h; omega) h1 (by omega) L13 hat13
                · refine ⟨.inr ⟨by omega, by omega⟩, fun e => ?_⟩
                  rcases hat13 with h | h
                  · rw [h] at e
                    have := (Hown.out.lt b e.symm).2
                    omega
                  · rw [h] at e
                    injection e with e
                    omega)
            clear ho13 hg13 hat13 hk13
            refine hK.out _ _ ?_ (fun hHeld => ?_)
            · exact HSS.out _ HB13.out
            clear hK K0
            try simp only [Act.put, List.getElem_toArray, List.getElem_cons_succ, List.getElem_cons_zero, List.setIfInBounds_toArray, List.set_cons_zero, List.set_cons_succ]
            refine wpAnyH_take (i := 14) (v := ?_) rfl (by kernel_rfl) (by kernel_rfl) (by kernel_rfl) (fun _ _ _ h => h) (Or.inl ⟨by rfl, ?_⟩) (by assumption) ?_
            rotate_left
            · intro wq hSw
              try dsimp only at hSw
              go_simp
              try (with_reducible rfl)
            try simp only [Act.put, List.getElem_toArray, List.getElem_cons_succ, List.getElem_cons_zero, List.setIfInBounds_toArray, List.set_cons_zero, List.set_cons_succ]
            refine wpAnyH_done (by kernel_rfl) ?_ _
            go_wp2_with fail
            go_roundw
            case rel => exact ⟨j + 1, B3, d3, _, hlt, by go_num, by rw [hsn], HO13.out, HP13.out, HB13.out⟩
            case measure => simp [intOf]; omega
      · obtain rfl : j = t.items.length := by omega
        have u1 : decide (t.items.length < t.items.length) = false := decide_eq_false hlt
        have u2 : decide ((t.items.length : Int) < (t.items.length : Int)) = false := decide_eq_false (by omega)
        rw [List.take_length] at Hown Hpcs ⊢
        have hse := T.size_eq t
        have hpc2 : PCells wr (fun b => S0 b ∨ (w.heap.size ≤ b ∧ b < wr.heap.size)) (t.parts p) xs := by
          rw [parts_eq]
          refine Hpcs.out.wide fun b hb => ?_
          rcases hb.1 with h | h
          · exact .inl h
          · exact .inr ⟨by omega, h.2⟩
        have hfin := PReads.of_own (S := fun b => S0 b ∨ (w.heap.size ≤ b ∧ b < wr.heap.size)) (L := t.parts p) (by rw [parts_len, hse]) Hown.out (fun b h1 h2 => .inr ⟨by omega, h2⟩) hpc2
        rw [← hse] at hfin ⊢
        have HF := Lib.hid hfin
        clear hfin h4 h0
        go_wp2_with fail
        go_ret
        exact ⟨_, _, rfl, HF.out.1, HF.out.2, by rw [hG]; exact HW.out.trans (Hbel.out.mono (by omega))⟩
end Go.Proofs.YthkpeomdklcnmaaGreatDoor
