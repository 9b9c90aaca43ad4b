/- The reference's Good: contract. -/
import Derived.Test.YtleikaiokoahdaaCells
import Derived.Test.YtleikaiokoahdaaOnlyNo
import Derived.Test.YtleikaiokoahdaaGoodNo
import Derived.Outline
import Derived.Deep.DeepCutAuto
namespace Go.Proofs.Ytleikaiokoahdaa
open Go.RowKit
set_option linter.unusedVariables false
set_option linter.unusedSimpArgs false

theorem emp_list : (⟨#[]⟩ : ByteArray).toList = [] := by rw [ByteArray.toList_eq]
/-- what the head's test asks -/
structure HeadOk (t : T) : Prop where
  k0 : 0 ≤ t.kind
  k5 : t.kind ≤ 5
  tr : t.kind ≠ 1 → t.tr = false
  num : t.kind ≠ 2 → t.num = 0
  str : t.kind ≠ 3 → t.str = ⟨#[]⟩
  items : t.kind < 4 → t.items.length = 0
  keys : t.kind ≠ 5 → t.keys.length = 0
def LensCut (t : T) (s : Value) : Prop := ∃ g : Bool, s = .bool g ∧ (g = true → ¬ t.Good) ∧ (g = false → okText t.str ∧ (t.kind = 5 → t.keys.length = t.items.length))
def HeadCut (t : T) (s : Value) : Prop := ∃ g : Bool, s = .bool g ∧ (g = true → ¬ HeadOk t) ∧ (g = false → HeadOk t)
/-- of it and its parts: texts that the reference's Valid is asked of -/
structure Mild (t : T) : Prop where
  str : t.str.size ≤ 100000
  keys : ∀ s ∈ t.keys, s.size ≤ 100000
/-- how a call ends that tells whether t is good -/
def TellsGood (t : T) (w : World) (e : Ending) (w' : World) : Prop := ∃ g : Bool, e = .returned (.bool g) ∧ (g = true ↔ t.Good) ∧ Below w.heap.size w w'
def RgoodAt (n : Nat) : Prop := ∀ (t : T) (A : Option Addr) (c : Nat) (A' : Option Addr) (c' : Nat) (w : World), t.size ≤ n → n ≤ 100000 → t.Small → T.All Mild t → TV w (· < w.heap.size) t A c A' c' →
    Calls Try.prog 9 #[t.agg A c A' c'] w (TellsGood t w)
theorem tells_no {t : T} {w w' : World} (h : ¬ t.Good) (hb : Below w.heap.size w w') : TellsGood t w (.returned (.bool false)) w' := ⟨false, rfl, ⟨fun h => (by cases h), fun k => absurd k h⟩, hb⟩
theorem head_of {t : T} (h : t.Good) : HeadOk t := by
  have g := h.here
  exact ⟨g.k0, g.k5, g.tr, g.num, g.str, fun h => by rw [g.items (by omega) (by omega)]; rfl, fun h => by rw [g.keys h]; rfl⟩
set_option maxRecDepth 100000 in
set_option maxHeartbeats 16000000 in
theorem rgood_at (n : Nat) : RgoodAt n := by
  induction n with
  | zero => intro t _ _ _ _ _ h; have := t.size_pos; omega
  | succ n ih =>
  intro t A c A' c' w ht hn hsm hmi hv
  have IH := Lib.hid ih
  have HSM := Lib.hid hsm
  have HMI := Lib.hid hmi
  have HV := Lib.hid hv
  have hkl := hsm.here
  have hls := t.len_size
  have hsz := hmi.here.str
  clear ih hsm hmi hv
  unfold T.agg
  go_enter Try.func9, Try.ntmps9
  go_upto_region 1 with fail
  have hW : Below w.heap.size w (w.alloc (.cells #[.int .i64 t.kind, .bool t.tr, .int .i64 t.num, .string t.str, .slice A t.items.length c, .slice A' t.keys.length c'] 30)) := (Below.refl w.heap.size w).alloc (Nat.le_refl _) _
  have hB : Blk (w.alloc (.cells #[.int .i64 t.kind, .bool t.tr, .int .i64 t.num, .string t.str, .slice A t.items.length c, .slice A' t.keys.length c'] 30)) w.heap.size 30 #[.int .i64 t.kind, .bool t.tr, .int .i64 t.num, .string t.str, .slice A t.items.length c, .slice A' t.keys.length c'] := Blk.new w _ _
  have hV : TV (w.alloc (.cells #[.int .i64 t.kind, .bool t.tr, .int .i64 t.num, .string t.str, .slice A t.items.length c, .slice A' t.keys.length c'] 30)) (· < w.heap.size) t A c A' c' := HV.out.under hW
  change Code.wp _ _ _ _ (w.alloc (.cells #[.int .i64 t.kind, .bool t.tr, .int .i64 t.num, .string t.str, .slice A t.items.length c, .slice A' t.keys.length c'] 30))
  generalize (w.alloc (.cells #[.int .i64 t.kind, .bool t.tr, .int .i64 t.num, .string t.str, .slice A t.items.length c, .slice A' t.keys.length c'] 30)) = W at *
  have HW := Lib.hid hW
  have HB := Lib.hid hB
  have HVW := Lib.hid hV
  have a0 : W.cell? ⟨w.heap.size, 0, none⟩ = some (.int .i64 t.kind) := hB.cell 0
  have a1 : W.cell? ⟨w.heap.size, 1, none⟩ = some (.bool t.tr) := hB.cell 1
  have a2 : W.cell? ⟨w.heap.size, 2, none⟩ = some (.int .i64 t.num) := hB.cell 2
  have a3 : W.cell? ⟨w.heap.size, 3, none⟩ = some (.string t.str) := hB.cell 3
  have a4 : W.cell? ⟨w.heap.size, 4, none⟩ = some (.slice A t.items.length c) := hB.cell 4
  have a5 : W.cell? ⟨w.heap.size, 5, none⟩ = some (.slice A' t.keys.length c') := hB.cell 5
  have hltW := hB.lt
  clear hW hB hV HV
  go_cut [63] (fun s63 wx => HeadCut t s63 ∧ wx = W)
  case first =>
    rcases (by omega : t.kind < 0 ∨ 5 < t.kind ∨ t.kind = 0 ∨ t.kind = 1 ∨ t.kind = 2 ∨ t.kind = 3 ∨ t.kind = 4 ∨ t.kind = 5) with hk | hk | hk | hk | hk | hk | hk | hk
    · have k0 : decide (t.kind < 0) = true := decide_eq_true hk
      have HK := Lib.hid hk
      go_wp2_with fail
      go_meet
      exact ⟨⟨true, rfl, fun _ h => (by have := HK.out; have := h.k0; omega), fun h => (by cases h)⟩, rfl⟩
    · have k0 : decide (t.kind < 0) = false := decide_eq_false (by omega)
      have k1 : decide (5 < t.kind) = true := decide_eq_true hk
      have HK := Lib.hid hk
      go_wp2_with fail
      go_meet
      exact ⟨⟨true, rfl, fun _ h => (by have := HK.out; have := h.k5; omega), fun h => (by cases h)⟩, rfl⟩
    · have HK := Lib.hid hk
      by_cases qtr : t.tr = true
      · have Qtr := Lib.hid qtr
        clear qtr
        have Ftr : t.tr = true := Qtr.out
        go_wp2_with fail
        go_meet
        exact ⟨⟨true, rfl, fun _ h => (by have h1 := h.tr (by have := HK.out; omega); rw [Qtr.out] at h1; cases h1), fun h => (by cases h)⟩, rfl⟩
      · have Qtr := Lib.hid (show t.tr = false from (by simpa using qtr))
        clear qtr
        have Ftr : t.tr = false := Qtr.out
        by_cases qnum : t.num ≠ 0
        · have Qnum := Lib.hid qnum
          clear qnum
          have Fnum : (t.num != 0) = true := by have := Qnum.out; simpa using this
          go_wp2_with fail
          go_meet
          exact ⟨⟨true, rfl, fun _ h => (Qnum.out (h.num (by have := HK.out; omega))), fun h => (by cases h)⟩, rfl⟩
        · have Qnum := Lib.hid (show t.num = 0 from (by omega))
          clear qnum
          have Fnum : (t.num != 0) = false := by have := Qnum.out; rw [this]; rfl
          by_cases qstr : t.str.toList ≠ []
          · have Qstr := Lib.hid qstr
            clear qstr
            have Fstr : t.str.toList.isEmpty = false := by have := Qstr.out; cases h9 : t.str.toList with | nil => exact absurd h9 this | cons _ _ => rfl
            go_wp2_with fail
            go_meet
            exact ⟨⟨true, rfl, fun _ h => (Qstr.out (by rw [h.str (by have := HK.out; omega)]; exact emp_list)), fun h => (by cases h)⟩, rfl⟩
          · have Qstr := Lib.hid (show t.str.toList = [] from (Classical.not_not.1 qstr))
            clear qstr
            have Fstr : t.str.toList.isEmpty = true := by have := Qstr.out; rw [this]; rfl
            by_cases qitems : 0 < t.items.length
            · have Qitems := Lib.hid qitems
              clear qitems
              have Fitems : decide ((0 : Int) < (t.items.length : Int)) = true := decide_eq_true (by have := Qitems.out; omega)
              have Gitems : decide (0 < t.items.length) = true := decide_eq_true (by have := Qitems.out; omega)
              go_wp2_with fail
              go_meet
              exact ⟨⟨true, rfl, fun _ h => (by have h1 := h.items (by have := HK.out; omega); have := Qitems.out; omega), fun h => (by cases h)⟩, rfl⟩
            · have Qitems := Lib.hid (show t.items.length = 0 from (by omega))
              clear qitems
              have Fitems : decide ((0 : Int) < (t.items.length : Int)) = false := decide_eq_false (by have := Qitems.out; omega)
              have Gitems : decide (0 < t.items.length) = false := decide_eq_false (by have := Qitems.out; omega)
              by_cases qkeys : 0 < t.keys.length
              · have Qkeys := Lib.hid qkeys
                clear qkeys
                have Fkeys : decide ((0 : Int) < (t.keys.length : Int)) = true := decide_eq_true (by have := Qkeys.out; omega)
                have Gkeys : decide (0 < t.keys.length) = true := decide_eq_true (by have := Qkeys.out; omega)
                go_wp2_with fail
                go_meet
                exact ⟨⟨true, rfl, fun _ h => (by have h1 := h.keys (by have := HK.out; omega); have := Qkeys.out; omega), fun h => (by cases h)⟩, rfl⟩
              · have Qkeys := Lib.hid (show t.keys.length = 0 from (by omega))
                clear qkeys
                have Fkeys : decide ((0 : Int) < (t.keys.length : Int)) = false := decide_eq_false (by have := Qkeys.out; omega)
                have Gkeys : decide (0 < t.keys.length) = false := decide_eq_false (by have := Qkeys.out; omega)
                go_wp2_with fail
                go_meet
                exact ⟨⟨false, rfl, fun h => (by cases h), fun _ => ⟨(by have := HK.out; omega), (by have := HK.out; omega), fun _ => Qtr.out, fun _ => Qnum.out, fun _ => nil_of Qstr.out, fun _ => Qitems.out, fun _ => Qkeys.out⟩⟩, rfl⟩
    · have HK := Lib.hid hk
      by_cases qnum : t.num ≠ 0
      · have Qnum := Lib.hid qnum
        clear qnum
        have Fnum : (t.num != 0) = true := by have := Qnum.out; simpa using this
        go_wp2_with fail
        go_meet
        exact ⟨⟨true, rfl, fun _ h => (Qnum.out (h.num (by have := HK.out; omega))), fun h => (by cases h)⟩, rfl⟩
      · have Qnum := Lib.hid (show t.num = 0 from (by omega))
        clear qnum
        have Fnum : (t.num != 0) = false := by have := Qnum.out; rw [this]; rfl
        by_cases qstr : t.str.toList ≠ []
        · have Qstr := Lib.hid qstr
          clear qstr
          have Fstr : t.str.toList.isEmpty = false := by have := Qstr.out; cases h9 : t.str.toList with | nil => exact absurd h9 this | cons _ _ => rfl
          go_wp2_with fail
          go_meet
          exact ⟨⟨true, rfl, fun _ h => (Qstr.out (by rw [h.str (by have := HK.out; omega)]; exact emp_list)), fun h => (by cases h)⟩, rfl⟩
        · have Qstr := Lib.hid (show t.str.toList = [] from (Classical.not_not.1 qstr))
          clear qstr
          have Fstr : t.str.toList.isEmpty = true := by have := Qstr.out; rw [this]; rfl
          by_cases qitems : 0 < t.items.length
          · have Qitems := Lib.hid qitems
            clear qitems
            have Fitems : decide ((0 : Int) < (t.items.length : Int)) = true := decide_eq_true (by have := Qitems.out; omega)
            have Gitems : decide (0 < t.items.length) = true := decide_eq_true (by have := Qitems.out; omega)
            go_wp2_with fail
            go_meet
            exact ⟨⟨true, rfl, fun _ h => (by have h1 := h.items (by have := HK.out; omega); have := Qitems.out; omega), fun h => (by cases h)⟩, rfl⟩
          · have Qitems := Lib.hid (show t.items.length = 0 from (by omega))
            clear qitems
            have Fitems : decide ((0 : Int) < (t.items.length : Int)) = false := decide_eq_false (by have := Qitems.out; omega)
            have Gitems : decide (0 < t.items.length) = false := decide_eq_false (by have := Qitems.out; omega)
            by_cases qkeys : 0 < t.keys.length
            · have Qkeys := Lib.hid qkeys
              clear qkeys
              have Fkeys : decide ((0 : Int) < (t.keys.length : Int)) = true := decide_eq_true (by have := Qkeys.out; omega)
              have Gkeys : decide (0 < t.keys.length) = true := decide_eq_true (by have := Qkeys.out; omega)
              go_wp2_with fail
              go_meet
              exact ⟨⟨true, rfl, fun _ h => (by have h1 := h.keys (by have := HK.out; omega); have := Qkeys.out; omega), fun h => (by cases h)⟩, rfl⟩
            · have Qkeys := Lib.hid (show t.keys.length = 0 from (by omega))
              clear qkeys
              have Fkeys : decide ((0 : Int) < (t.keys.length : Int)) = false := decide_eq_false (by have := Qkeys.out; omega)
              have Gkeys : decide (0 < t.keys.length) = false := decide_eq_false (by have := Qkeys.out; omega)
              go_wp2_with fail
              go_meet
              exact ⟨⟨false, rfl, fun h => (by cases h), fun _ => ⟨(by have := HK.out; omega), (by have := HK.out; omega), (fun h => absurd HK.out h), fun _ => Qnum.out, fun _ => nil_of Qstr.out, fun _ => Qitems.out, fun _ => Qkeys.out⟩⟩, rfl⟩
    · have HK := Lib.hid hk
      by_cases qtr : t.tr = true
      · have Qtr := Lib.hid qtr
        clear qtr
        have Ftr : t.tr = true := Qtr.out
        go_wp2_with fail
        go_meet
        exact ⟨⟨true, rfl, fun _ h => (by have h1 := h.tr (by have := HK.out; omega); rw [Qtr.out] at h1; cases h1), fun h => (by cases h)⟩, rfl⟩
      · have Qtr := Lib.hid (show t.tr = false from (by simpa using qtr))
        clear qtr
        have Ftr : t.tr = false := Qtr.out
        by_cases qstr : t.str.toList ≠ []
        · have Qstr := Lib.hid qstr
          clear qstr
          have Fstr : t.str.toList.isEmpty = false := by have := Qstr.out; cases h9 : t.str.toList with | nil => exact absurd h9 this | cons _ _ => rfl
          go_wp2_with fail
          go_meet
          exact ⟨⟨true, rfl, fun _ h => (Qstr.out (by rw [h.str (by have := HK.out; omega)]; exact emp_list)), fun h => (by cases h)⟩, rfl⟩
        · have Qstr := Lib.hid (show t.str.toList = [] from (Classical.not_not.1 qstr))
          clear qstr
          have Fstr : t.str.toList.isEmpty = true := by have := Qstr.out; rw [this]; rfl
          by_cases qitems : 0 < t.items.length
          · have Qitems := Lib.hid qitems
            clear qitems
            have Fitems : decide ((0 : Int) < (t.items.length : Int)) = true := decide_eq_true (by have := Qitems.out; omega)
            have Gitems : decide (0 < t.items.length) = true := decide_eq_true (by have := Qitems.out; omega)
            go_wp2_with fail
            go_meet
            exact ⟨⟨true, rfl, fun _ h => (by have h1 := h.items (by have := HK.out; omega); have := Qitems.out; omega), fun h => (by cases h)⟩, rfl⟩
          · have Qitems := Lib.hid (show t.items.length = 0 from (by omega))
            clear qitems
            have Fitems : decide ((0 : Int) < (t.items.length : Int)) = false := decide_eq_false (by have := Qitems.out; omega)
            have Gitems : decide (0 < t.items.length) = false := decide_eq_false (by have := Qitems.out; omega)
            by_cases qkeys : 0 < t.keys.length
            · have Qkeys := Lib.hid qkeys
              clear qkeys
              have Fkeys : decide ((0 : Int) < (t.keys.length : Int)) = true := decide_eq_true (by have := Qkeys.out; omega)
              have Gkeys : decide (0 < t.keys.length) = true := decide_eq_true (by have := Qkeys.out; omega)
              go_wp2_with fail
              go_meet
              exact ⟨⟨true, rfl, fun _ h => (by have h1 := h.keys (by have := HK.out; omega); have := Qkeys.out; omega), fun h => (by cases h)⟩, rfl⟩
            · have Qkeys := Lib.hid (show t.keys.length = 0 from (by omega))
              clear qkeys
              have Fkeys : decide ((0 : Int) < (t.keys.length : Int)) = false := decide_eq_false (by have := Qkeys.out; omega)
              have Gkeys : decide (0 < t.keys.length) = false := decide_eq_false (by have := Qkeys.out; omega)
              go_wp2_with fail
              go_meet
              exact ⟨⟨false, rfl, fun h => (by cases h), fun _ => ⟨(by have := HK.out; omega), (by have := HK.out; omega), fun _ => Qtr.out, (fun h => absurd HK.out h), fun _ => nil_of Qstr.out, fun _ => Qitems.out, fun _ => Qkeys.out⟩⟩, rfl⟩
    · have HK := Lib.hid hk
      by_cases qtr : t.tr = true
      · have Qtr := Lib.hid qtr
        clear qtr
        have Ftr : t.tr = true := Qtr.out
        go_wp2_with fail
        go_meet
        exact ⟨⟨true, rfl, fun _ h => (by have h1 := h.tr (by have := HK.out; omega); rw [Qtr.out] at h1; cases h1), fun h => (by cases h)⟩, rfl⟩
      · have Qtr := Lib.hid (show t.tr = false from (by simpa using qtr))
        clear qtr
        have Ftr : t.tr = false := Qtr.out
        by_cases qnum : t.num ≠ 0
        · have Qnum := Lib.hid qnum
          clear qnum
          have Fnum : (t.num != 0) = true := by have := Qnum.out; simpa using this
          go_wp2_with fail
          go_meet
          exact ⟨⟨true, rfl, fun _ h => (Qnum.out (h.num (by have := HK.out; omega))), fun h => (by cases h)⟩, rfl⟩
        · have Qnum := Lib.hid (show t.num = 0 from (by omega))
          clear qnum
          have Fnum : (t.num != 0) = false := by have := Qnum.out; rw [this]; rfl
          by_cases qitems : 0 < t.items.length
          · have Qitems := Lib.hid qitems
            clear qitems
            have Fitems : decide ((0 : Int) < (t.items.length : Int)) = true := decide_eq_true (by have := Qitems.out; omega)
            have Gitems : decide (0 < t.items.length) = true := decide_eq_true (by have := Qitems.out; omega)
            go_wp2_with fail
            go_meet
            exact ⟨⟨true, rfl, fun _ h => (by have h1 := h.items (by have := HK.out; omega); have := Qitems.out; omega), fun h => (by cases h)⟩, rfl⟩
          · have Qitems := Lib.hid (show t.items.length = 0 from (by omega))
            clear qitems
            have Fitems : decide ((0 : Int) < (t.items.length : Int)) = false := decide_eq_false (by have := Qitems.out; omega)
            have Gitems : decide (0 < t.items.length) = false := decide_eq_false (by have := Qitems.out; omega)
            by_cases qkeys : 0 < t.keys.length
            · have Qkeys := Lib.hid qkeys
              clear qkeys
              have Fkeys : decide ((0 : Int) < (t.keys.length : Int)) = true := decide_eq_true (by have := Qkeys.out; omega)
              have Gkeys : decide (0 < t.keys.length) = true := decide_eq_true (by have := Qkeys.out; omega)
              go_wp2_with fail
              go_meet
              exact ⟨⟨true, rfl, fun _ h => (by have h1 := h.keys (by have := HK.out; omega); have := Qkeys.out; omega), fun h => (by cases h)⟩, rfl⟩
            · have Qkeys := Lib.hid (show t.keys.length = 0 from (by omega))
              clear qkeys
              have Fkeys : decide ((0 : Int) < (t.keys.length : Int)) = false := decide_eq_false (by have := Qkeys.out; omega)
              have Gkeys : decide (0 < t.keys.length) = false := decide_eq_false (by have := Qkeys.out; omega)
              go_wp2_with fail
              go_meet
              exact ⟨⟨false, rfl, fun h => (by cases h), fun _ => ⟨(by have := HK.out; omega), (by have := HK.out; omega), fun _ => Qtr.out, fun _ => Qnum.out, (fun h => absurd HK.out h), fun _ => Qitems.out, fun _ => Qkeys.out⟩⟩, rfl⟩
    · have HK := Lib.hid hk
      by_cases qtr : t.tr = true
      · have Qtr := Lib.hid qtr
        clear qtr
        have Ftr : t.tr = true := Qtr.out
        go_wp2_with fail
        go_meet
        exact ⟨⟨true, rfl, fun _ h => (by have h1 := h.tr (by have := HK.out; omega); rw [Qtr.out] at h1; cases h1), fun h => (by cases h)⟩, rfl⟩
      · have Qtr := Lib.hid (show t.tr = false from (by simpa using qtr))
        clear qtr
        have Ftr : t.tr = false := Qtr.out
        by_cases qnum : t.num ≠ 0
        · have Qnum := Lib.hid qnum
          clear qnum
          have Fnum : (t.num != 0) = true := by have := Qnum.out; simpa using this
          go_wp2_with fail
          go_meet
          exact ⟨⟨true, rfl, fun _ h => (Qnum.out (h.num (by have := HK.out; omega))), fun h => (by cases h)⟩, rfl⟩
        · have Qnum := Lib.hid (show t.num = 0 from (by omega))
          clear qnum
          have Fnum : (t.num != 0) = false := by have := Qnum.out; rw [this]; rfl
          by_cases qstr : t.str.toList ≠ []
          · have Qstr := Lib.hid qstr
            clear qstr
            have Fstr : t.str.toList.isEmpty = false := by have := Qstr.out; cases h9 : t.str.toList with | nil => exact absurd h9 this | cons _ _ => rfl
            go_wp2_with fail
            go_meet
            exact ⟨⟨true, rfl, fun _ h => (Qstr.out (by rw [h.str (by have := HK.out; omega)]; exact emp_list)), fun h => (by cases h)⟩, rfl⟩
          · have Qstr := Lib.hid (show t.str.toList = [] from (Classical.not_not.1 qstr))
            clear qstr
            have Fstr : t.str.toList.isEmpty = true := by have := Qstr.out; rw [this]; rfl
            by_cases qkeys : 0 < t.keys.length
            · have Qkeys := Lib.hid qkeys
              clear qkeys
              have Fkeys : decide ((0 : Int) < (t.keys.length : Int)) = true := decide_eq_true (by have := Qkeys.out; omega)
              have Gkeys : decide (0 < t.keys.length) = true := decide_eq_true (by have := Qkeys.out; omega)
              go_wp2_with fail
              go_meet
              exact ⟨⟨true, rfl, fun _ h => (by have h1 := h.keys (by have := HK.out; omega); have := Qkeys.out; omega), fun h => (by cases h)⟩, rfl⟩
            · have Qkeys := Lib.hid (show t.keys.length = 0 from (by omega))
              clear qkeys
              have Fkeys : decide ((0 : Int) < (t.keys.length : Int)) = false := decide_eq_false (by have := Qkeys.out; omega)
              have Gkeys : decide (0 < t.keys.length) = false := decide_eq_false (by have := Qkeys.out; omega)
              go_wp2_with fail
              go_meet
              exact ⟨⟨false, rfl, fun h => (by cases h), fun _ => ⟨(by have := HK.out; omega), (by have := HK.out; omega), fun _ => Qtr.out, fun _ => Qnum.out, fun _ => nil_of Qstr.out, fun h => (by have := HK.out; omega), fun _ => Qkeys.out⟩⟩, rfl⟩
    · have HK := Lib.hid hk
      by_cases qtr : t.tr = true
      · have Qtr := Lib.hid qtr
        clear qtr
        have Ftr : t.tr = true := Qtr.out
        go_wp2_with fail
        go_meet
        exact ⟨⟨true, rfl, fun _ h => (by have h1 := h.tr (by have := HK.out; omega); rw [Qtr.out] at h1; cases h1), fun h => (by cases h)⟩, rfl⟩
      · have Qtr := Lib.hid (show t.tr = false from (by simpa using qtr))
        clear qtr
        have Ftr : t.tr = false := Qtr.out
        by_cases qnum : t.num ≠ 0
        · have Qnum := Lib.hid qnum
          clear qnum
          have Fnum : (t.num != 0) = true := by have := Qnum.out; simpa using this
          go_wp2_with fail
          go_meet
          exact ⟨⟨true, rfl, fun _ h => (Qnum.out (h.num (by have := HK.out; omega))), fun h => (by cases h)⟩, rfl⟩
        · have Qnum := Lib.hid (show t.num = 0 from (by omega))
          clear qnum
          have Fnum : (t.num != 0) = false := by have := Qnum.out; rw [this]; rfl
          by_cases qstr : t.str.toList ≠ []
          · have Qstr := Lib.hid qstr
            clear qstr
            have Fstr : t.str.toList.isEmpty = false := by have := Qstr.out; cases h9 : t.str.toList with | nil => exact absurd h9 this | cons _ _ => rfl
            go_wp2_with fail
            go_meet
            exact ⟨⟨true, rfl, fun _ h => (Qstr.out (by rw [h.str (by have := HK.out; omega)]; exact emp_list)), fun h => (by cases h)⟩, rfl⟩
          · have Qstr := Lib.hid (show t.str.toList = [] from (Classical.not_not.1 qstr))
            clear qstr
            have Fstr : t.str.toList.isEmpty = true := by have := Qstr.out; rw [this]; rfl
            go_wp2_with fail
            go_meet
            exact ⟨⟨false, rfl, fun h => (by cases h), fun _ => ⟨(by have := HK.out; omega), (by have := HK.out; omega), fun _ => Qtr.out, fun _ => Qnum.out, fun _ => nil_of Qstr.out, fun h => (by have := HK.out; omega), fun h => (by have := HK.out; omega)⟩⟩, rfl⟩
  case rest =>
    obtain ⟨⟨g, rfl, hg0, hg1⟩, rfl⟩ := hcut
    cases g with
    | true =>
      have HH := Lib.hid (hg0 rfl)
      clear hg0 hg1
      go_wp2_with fail
      go_ret
      exact tells_no (fun h => HH.out (head_of h)) HW.out
    | false =>
    have HH := Lib.hid (hg1 rfl)
    clear hg0 hg1
    go_upto_region 3 with fail
    obtain ⟨W, rfl⟩ : ∃ W : World, W = wc := ⟨_, rfl⟩
    go_cut [81] (fun s81 wx => LensCut t s81 ∧ Below W.heap.size W wx)
    case first =>
      by_cases hok : okText t.str
      · have Hok := Lib.hid hok
        clear hok
        by_cases h5 : t.kind = 5
        · have q5 : (t.kind == 5) = true := by rw [h5]; rfl
          have H5 := Lib.hid h5
          by_cases hl : t.keys.length = t.items.length
          · have q6 : ((t.keys.length : Int) != (t.items.length : Int)) = false := by simp; omega
            have HL := Lib.hid hl
            clear h5 hl
            go_wp2_with fail
            refine (rval_yes t.str _ Hok.out hsz).mono ?_
            rintro e w2 ⟨rfl, hb2⟩
            have hB2 := HB.out.onto hb2
            have b0 : w2.cell? ⟨w.heap.size, 0, none⟩ = some (.int .i64 t.kind) := hB2.cell 0
            have b4 : w2.cell? ⟨w.heap.size, 4, none⟩ = some (.slice A t.items.length c) := hB2.cell 4
            have b5 : w2.cell? ⟨w.heap.size, 5, none⟩ = some (.slice A' t.keys.length c') := hB2.cell 5
            have H2 := Lib.hid hb2
            clear hb2 hB2
            go_wp2_with fail
            go_meet
            exact ⟨⟨false, rfl, fun h => (by cases h), fun _ => ⟨Hok.out, fun _ => HL.out⟩⟩, H2.out⟩
          · have q6 : ((t.keys.length : Int) != (t.items.length : Int)) = true := by simp; omega
            have HL := Lib.hid hl
            clear h5 hl
            go_wp2_with fail
            refine (rval_yes t.str _ Hok.out hsz).mono ?_
            rintro e w2 ⟨rfl, hb2⟩
            have hB2 := HB.out.onto hb2
            have b0 : w2.cell? ⟨w.heap.size, 0, none⟩ = some (.int .i64 t.kind) := hB2.cell 0
            have b4 : w2.cell? ⟨w.heap.size, 4, none⟩ = some (.slice A t.items.length c) := hB2.cell 4
            have b5 : w2.cell? ⟨w.heap.size, 5, none⟩ = some (.slice A' t.keys.length c') := hB2.cell 5
            have H2 := Lib.hid hb2
            clear hb2 hB2
            go_wp2_with fail
            go_meet
            exact ⟨⟨true, rfl, fun _ h => (HL.out (h.here.lens H5.out)), fun h => (by cases h)⟩, H2.out⟩
        · have q5 : (t.kind == 5) = false := by rw [beq_eq_false_iff_ne]; exact h5
          have H5 := Lib.hid h5
          clear h5
          go_wp2_with fail
          refine (rval_yes t.str _ Hok.out hsz).mono ?_
          rintro e w2 ⟨rfl, hb2⟩
          have hB2 := HB.out.onto hb2
          have b0 : w2.cell? ⟨w.heap.size, 0, none⟩ = some (.int .i64 t.kind) := hB2.cell 0
          have H2 := Lib.hid hb2
          clear hb2 hB2
          go_wp2_with fail
          go_meet
          exact ⟨⟨false, rfl, fun h => (by cases h), fun _ => ⟨Hok.out, fun h => absurd h H5.out⟩⟩, H2.out⟩
      · have Hok := Lib.hid hok
        clear hok
        go_wp2_with fail
        refine (rval_no t.str _ Hok.out hsz).mono ?_
        rintro e w2 ⟨rfl, hb2⟩
        have H2 := Lib.hid hb2
        clear hb2
        go_wp2_with fail
        go_meet
        exact ⟨⟨true, rfl, fun _ h => (Hok.out h.here.txt), fun h => (by cases h)⟩, H2.out⟩
    case rest =>
        obtain ⟨⟨g, rfl, hg0, hg1⟩, hb2⟩ := hcut
        have H2 := Lib.hid (HW.out.trans (hb2.mono HW.out.size))
        have hB2 := HB.out.onto hb2
        have HB2 := Lib.hid hB2
        have HV2 := Lib.hid (HVW.out.keep fun b hb => hb2.block b (by have h1 : b < w.heap.size := hb; omega))
        have b5 : wc.cell? ⟨w.heap.size, 5, none⟩ = some (.slice A' t.keys.length c') := hB2.cell 5
        have hlt2 := hB2.lt
        clear hb2 hB2 a0 a1 a2 a3 a4 a5 HVW HB HW
        cases g with
        | true =>
          have HG0 := Lib.hid (hg0 rfl)
          clear hg0 hg1
          go_wp2_with fail
          go_ret
          exact tells_no (fun h => HG0.out h) H2.out
        | false =>
        have HG1 := Lib.hid (hg1 rfl)
        have Hok := Lib.hid HG1.out.1
        have HLE := Lib.hid HG1.out.2
        clear hg0 hg1 HG1
        obtain ⟨wb, rfl⟩ : ∃ wb : World, wb = wc := ⟨_, rfl⟩
        go_wp2_with fail
        go_loopw [85] (fun i wr => ∃ k : Nat, k ≤ t.keys.length ∧ i = .int .i64 k ∧ Hid (∀ (j : Nat) (s : ByteArray), j < k → t.keys[j]? = some s → okText s ∧ ∀ (i : Nat) (r : ByteArray), i + 1 = j → t.keys[i]? = some r → sl r s = true) ∧ Below wb.heap.size wb wr) (fun i _ => t.keys.length - (intOf i).toNat)
        case atStart => exact ⟨0, Nat.zero_le _, rfl, Lib.hid (fun j s hj => absurd hj (by omega)), Below.refl _ _⟩
        case round =>
          obtain ⟨k, hk, rfl, HJ, hbel⟩ := hrel
          have Hbel := Lib.hid hbel
          have hBr := HB2.out.onto hbel
          have c5 : wr.cell? ⟨w.heap.size, 5, none⟩ = some (.slice A' t.keys.length c') := hBr.cell 5
          have HVr := Lib.hid (HV2.out.keep fun b hb => hbel.block b (by have h1 : b < w.heap.size := hb; omega))
          have HBr := Lib.hid hBr
          have HWr := Lib.hid (H2.out.trans (hbel.mono H2.out.size))
          have hltr := hBr.lt
          clear hbel hBr b5
          by_cases hlt : k < t.keys.length
          · have v1 : decide (k < t.keys.length) = true := decide_eq_true hlt
            obtain ⟨b, o, s, rfl, hb, hx, hc⟩ := HVr.out.keys.at_ hlt
            have hs5 := HMI.out.here.keys s (List.mem_of_getElem? hx)
            have HS := Lib.hid hx
            have n0 : (0 : Int) ≤ (k : Int) := by omega
            have n1 : (k : Int) < (t.keys.length : Int) := by omega
            clear hx
            by_cases hokk : okText s
            · have HO := Lib.hid hokk
              clear hokk
              by_cases hk0 : k = 0
              · have v3 : decide ((0 : Int) < (k : Int)) = false := decide_eq_false (by omega)
                have v4 : decide (0 < k) = false := decide_eq_false (by omega)
                have HK0 := Lib.hid hk0
                clear hk0
                go_upto_region 8 with fail
                have HSS := Lib.hid (show ∀ w', Below wr.heap.size wr w' → (fun w' : World => w'.cell? ⟨w.heap.size, 5, none⟩ = some (.slice (some ⟨b, o, none⟩) t.keys.length c') ∧ w'.cell? ⟨b, o + k, none⟩ = some (.string s)) w' from fun w' hb' => ⟨(HBr.out.onto hb').cell 5, ((Keeps.of_below hb').cell (show b < wr.heap.size by have h1 : b < w.heap.size := hb; omega) _).trans hc⟩)
                refine wp_region_held_drew (S := fun w' => w'.cell? ⟨w.heap.size, 5, none⟩ = some (.slice (some ⟨b, o, none⟩) t.keys.length c') ∧ w'.cell? ⟨b, o + k, none⟩ = some (.string s)) (by kernel_rfl) ?_ (fun hHeld => ?_)
                · exact HSS.out _ (Below.refl _ _).drew
                refine wpAnyH_take (i := 0) (v := ?_) rfl (by kernel_rfl) (by kernel_rfl) (by kernel_rfl) (fun _ _ _ h => h) (Or.inl ⟨by rfl, ?_⟩) (by assumption) ?_
                rotate_left
                · intro wq hSw
                  try dsimp only at hSw
                  go_simp
                  try (with_reducible rfl)
                try simp only [Act.put, List.getElem_toArray, List.getElem_cons_succ, List.getElem_cons_zero, List.setIfInBounds_toArray, List.set_cons_zero, List.set_cons_succ]
                refine wpAnyH_take (i := 1) (v := ?_) rfl (by kernel_rfl) (by kernel_rfl) (by kernel_rfl) (fun _ _ _ h => h) (Or.inl ⟨by rfl, ?_⟩) (by assumption) ?_
                rotate_left
                · intro wq hSw
                  try dsimp only at hSw
                  go_simp
                  try (with_reducible rfl)
                try simp only [Act.put, List.getElem_toArray, List.getElem_cons_succ, List.getElem_cons_zero, List.setIfInBounds_toArray, List.set_cons_zero, List.set_cons_succ]
                refine wpAnyH_take (i := 2) (v := ?_) rfl (by kernel_rfl) (by kernel_rfl) (by kernel_rfl) (fun _ _ _ h => h) (Or.inl ⟨by rfl, ?_⟩) (by assumption) ?_
                rotate_left
                · intro wq hSw
                  try dsimp only at hSw
                  go_simp
                  try (with_reducible rfl)
                try simp only [Act.put, List.getElem_toArray, List.getElem_cons_succ, List.getElem_cons_zero, List.setIfInBounds_toArray, List.set_cons_zero, List.set_cons_succ]
                refine wpAnyH_take (i := 3) (v := ?_) rfl (by kernel_rfl) (by kernel_rfl) (by kernel_rfl) (fun _ _ _ h => h) (Or.inl ⟨by rfl, ?_⟩) (by assumption) ?_
                rotate_left
                · intro wq hSw
                  try dsimp only at hSw
                  go_simp
                  try (with_reducible rfl)
                try simp only [Act.put, List.getElem_toArray, List.getElem_cons_succ, List.getElem_cons_zero, List.setIfInBounds_toArray, List.set_cons_zero, List.set_cons_succ]
                refine wpAnyH_take (i := 4) (v := ?_) rfl (by kernel_rfl) (by kernel_rfl) (by kernel_rfl) (fun _ _ _ h => h) (Or.inl ⟨by rfl, ?_⟩) (by assumption) ?_
                rotate_left
                · intro wq hSw
                  try dsimp only at hSw
                  go_simp
                  try (with_reducible rfl)
                try simp only [Act.put, List.getElem_toArray, List.getElem_cons_succ, List.getElem_cons_zero, List.setIfInBounds_toArray, List.set_cons_zero, List.set_cons_succ]
                refine wpAnyH_ready (rs := [5]) (by kernel_rfl) (by simp) ?_
                refine AllReadyH.cons rfl (fun K hK => ?_) ?_
                rotate_left
                · exact AllReadyH.nil
                go_simp
                refine (rval_yes s _ HO.out hs5).mono ?_
                rintro e6 w6 ⟨rfl, hb6⟩
                have HBc := Lib.hid (show Below wr.heap.size wr w6 from (Below.refl wr.heap.size wr).drew.trans hb6)
                clear hb6
                go_wp2_with fail
                refine hK.out _ _ ?_ (fun hHeld => ?_)
                · exact HSS.out _ HBc.out
                clear hK K
                try simp only [Act.put, List.getElem_toArray, List.getElem_cons_succ, List.getElem_cons_zero, List.setIfInBounds_toArray, List.set_cons_zero, List.set_cons_succ]
                refine wpAnyH_take (i := 6) (v := ?_) rfl (by kernel_rfl) (by kernel_rfl) (by kernel_rfl) (fun _ _ _ h => h) (Or.inl ⟨by rfl, ?_⟩) (by assumption) ?_
                rotate_left
                · intro wq hSw
                  try dsimp only at hSw
                  go_simp
                  try (with_reducible rfl)
                try simp only [Act.put, List.getElem_toArray, List.getElem_cons_succ, List.getElem_cons_zero, List.setIfInBounds_toArray, List.set_cons_zero, List.set_cons_succ]
                refine wpAnyH_take (i := 7) (v := ?_) rfl (by kernel_rfl) (by kernel_rfl) (by kernel_rfl) (fun _ _ _ h => h) (Or.inl ⟨by rfl, ?_⟩) (by assumption) ?_
                rotate_left
                · intro wq hSw
                  try dsimp only at hSw
                  go_simp
                  try (with_reducible rfl)
                try simp only [Act.put, List.getElem_toArray, List.getElem_cons_succ, List.getElem_cons_zero, List.setIfInBounds_toArray, List.set_cons_zero, List.set_cons_succ]
                refine wpAnyH_take (i := 8) (v := ?_) rfl (by kernel_rfl) (by kernel_rfl) (by kernel_rfl) (fun _ _ _ h => h) (Or.inl ⟨by rfl, ?_⟩) (by assumption) ?_
                rotate_left
                · intro wq hSw
                  try dsimp only at hSw
                  go_simp
                  try (with_reducible rfl)
                try simp only [Act.put, List.getElem_toArray, List.getElem_cons_succ, List.getElem_cons_zero, List.setIfInBounds_toArray, List.set_cons_zero, List.set_cons_succ]
                refine wpAnyH_take (i := 9) (v := ?_) rfl (by kernel_rfl) (by kernel_rfl) (by kernel_rfl) (fun _ _ _ h => h) (Or.inl ⟨by rfl, ?_⟩) (by assumption) ?_
                rotate_left
                · intro wq hSw
                  try dsimp only at hSw
                  go_simp
                  try (with_reducible rfl)
                try simp only [Act.put, List.getElem_toArray, List.getElem_cons_succ, List.getElem_cons_zero, List.setIfInBounds_toArray, List.set_cons_zero, List.set_cons_succ]
                refine wpAnyH_take (i := 10) (v := ?_) rfl (by kernel_rfl) (by kernel_rfl) (by kernel_rfl) (fun _ _ _ h => h) (Or.inl ⟨by rfl, ?_⟩) (by assumption) ?_
                rotate_left
                · intro wq hSw
                  try dsimp only at hSw
                  go_simp
                  try (with_reducible rfl)
                try simp only [Act.put, List.getElem_toArray, List.getElem_cons_succ, List.getElem_cons_zero, List.setIfInBounds_toArray, List.set_cons_zero, List.set_cons_succ]
                refine wpAnyH_take (i := 11) rfl (by kernel_rfl) (by kernel_rfl) (by kernel_rfl) (fun _ _ _ h => h) (Or.inr ⟨by rfl, rfl⟩) (by assumption) ?_
                try simp only [Act.put, List.getElem_toArray, List.getElem_cons_succ, List.getElem_cons_zero, List.setIfInBounds_toArray, List.set_cons_zero, List.set_cons_succ]
                refine wpAnyH_take (i := 12) rfl (by kernel_rfl) (by kernel_rfl) (by kernel_rfl) (fun _ _ _ h => h) (Or.inr ⟨by rfl, rfl⟩) (by assumption) ?_
                try simp only [Act.put, List.getElem_toArray, List.getElem_cons_succ, List.getElem_cons_zero, List.setIfInBounds_toArray, List.set_cons_zero, List.set_cons_succ]
                refine wpAnyH_take (i := 13) rfl (by kernel_rfl) (by kernel_rfl) (by kernel_rfl) (fun _ _ _ h => h) (Or.inr ⟨by rfl, rfl⟩) (by assumption) ?_
                try simp only [Act.put, List.getElem_toArray, List.getElem_cons_succ, List.getElem_cons_zero, List.setIfInBounds_toArray, List.set_cons_zero, List.set_cons_succ]
                refine wpAnyH_take (i := 14) rfl (by kernel_rfl) (by kernel_rfl) (by kernel_rfl) (fun _ _ _ h => h) (Or.inr ⟨by rfl, rfl⟩) (by assumption) ?_
                try simp only [Act.put, List.getElem_toArray, List.getElem_cons_succ, List.getElem_cons_zero, List.setIfInBounds_toArray, List.set_cons_zero, List.set_cons_succ]
                refine wpAnyH_take (i := 15) rfl (by kernel_rfl) (by kernel_rfl) (by kernel_rfl) (fun _ _ _ h => h) (Or.inr ⟨by rfl, rfl⟩) (by assumption) ?_
                try simp only [Act.put, List.getElem_toArray, List.getElem_cons_succ, List.getElem_cons_zero, List.setIfInBounds_toArray, List.set_cons_zero, List.set_cons_succ]
                refine wpAnyH_take (i := 16) rfl (by kernel_rfl) (by kernel_rfl) (by kernel_rfl) (fun _ _ _ h => h) (Or.inr ⟨by rfl, rfl⟩) (by assumption) ?_
                try simp only [Act.put, List.getElem_toArray, List.getElem_cons_succ, List.getElem_cons_zero, List.setIfInBounds_toArray, List.set_cons_zero, List.set_cons_succ]
                refine wpAnyH_take (i := 17) rfl (by kernel_rfl) (by kernel_rfl) (by kernel_rfl) (fun _ _ _ h => h) (Or.inr ⟨by rfl, rfl⟩) (by assumption) ?_
                try simp only [Act.put, List.getElem_toArray, List.getElem_cons_succ, List.getElem_cons_zero, List.setIfInBounds_toArray, List.set_cons_zero, List.set_cons_succ]
                refine wpAnyH_take (i := 18) rfl (by kernel_rfl) (by kernel_rfl) (by kernel_rfl) (fun _ _ _ h => h) (Or.inr ⟨by rfl, rfl⟩) (by assumption) ?_
                try simp only [Act.put, List.getElem_toArray, List.getElem_cons_succ, List.getElem_cons_zero, List.setIfInBounds_toArray, List.set_cons_zero, List.set_cons_succ]
                refine wpAnyH_take (i := 19) rfl (by kernel_rfl) (by kernel_rfl) (by kernel_rfl) (fun _ _ _ h => h) (Or.inr ⟨by rfl, rfl⟩) (by assumption) ?_
                try simp only [Act.put, List.getElem_toArray, List.getElem_cons_succ, List.getElem_cons_zero, List.setIfInBounds_toArray, List.set_cons_zero, List.set_cons_succ]
                refine wpAnyH_take (i := 20) rfl (by kernel_rfl) (by kernel_rfl) (by kernel_rfl) (fun _ _ _ h => h) (Or.inr ⟨by rfl, rfl⟩) (by assumption) ?_
                try simp only [Act.put, List.getElem_toArray, List.getElem_cons_succ, List.getElem_cons_zero, List.setIfInBounds_toArray, List.set_cons_zero, List.set_cons_succ]
                refine wpAnyH_take (i := 21) rfl (by kernel_rfl) (by kernel_rfl) (by kernel_rfl) (fun _ _ _ h => h) (Or.inr ⟨by rfl, rfl⟩) (by assumption) ?_
                try simp only [Act.put, List.getElem_toArray, List.getElem_cons_succ, List.getElem_cons_zero, List.setIfInBounds_toArray, List.set_cons_zero, List.set_cons_succ]
                refine wpAnyH_take (i := 22) rfl (by kernel_rfl) (by kernel_rfl) (by kernel_rfl) (fun _ _ _ h => h) (Or.inr ⟨by rfl, rfl⟩) (by assumption) ?_
                try simp only [Act.put, List.getElem_toArray, List.getElem_cons_succ, List.getElem_cons_zero, List.setIfInBounds_toArray, List.set_cons_zero, List.set_cons_succ]
                refine wpAnyH_take (i := 23) (v := ?_) rfl (by kernel_rfl) (by kernel_rfl) (by kernel_rfl) (fun _ _ _ h => h) (Or.inl ⟨by rfl, ?_⟩) (by assumption) ?_
                rotate_left
                · intro wq hSw
                  try dsimp only at hSw
                  go_simp
                  try (with_reducible rfl)
                try simp only [Act.put, List.getElem_toArray, List.getElem_cons_succ, List.getElem_cons_zero, List.setIfInBounds_toArray, List.set_cons_zero, List.set_cons_succ]
                refine wpAnyH_take (i := 24) (v := ?_) rfl (by kernel_rfl) (by kernel_rfl) (by kernel_rfl) (fun _ _ _ h => h) (Or.inl ⟨by rfl, ?_⟩) (by assumption) ?_
                rotate_left
                · intro wq hSw
                  try dsimp only at hSw
                  go_simp
                  try (with_reducible rfl)
                try simp only [Act.put, List.getElem_toArray, List.getElem_cons_succ, List.getElem_cons_zero, List.setIfInBounds_toArray, List.set_cons_zero, List.set_cons_succ]
                refine wpAnyH_done (by kernel_rfl) ?_ _
                go_wp2_with fail
                go_roundw
                case rel =>
                  refine ⟨k + 1, hlt, by go_num, Lib.hid (fun j1 q hj hq => ?_), Hbel.out.trans (HBc.out.mono Hbel.out.size)⟩
                  rcases Nat.lt_or_ge j1 k with h1 | h1
                  · exact HJ.out j1 q h1 hq
                  · obtain rfl : j1 = k := by omega
                    rw [HS.out] at hq; injection hq with hq; subst hq
                    exact ⟨HO.out, fun i1 r h2 _ => (by have := HK0.out; omega)⟩
                case measure => simp [intOf]; omega
              · obtain ⟨j, rfl⟩ : ∃ j, k = j + 1 := ⟨k - 1, by omega⟩
                clear hk0
                obtain ⟨_, _, r, e', _, hx', hc'⟩ := HVr.out.keys.at_ (show j < t.keys.length by omega)
                injection e' with e'; injection e' with e1 e2 _; subst e1 e2
                have HR' := Lib.hid hx'
                have v3 : decide ((0 : Int) < ((j + 1 : Nat) : Int)) = true := decide_eq_true (by omega)
                have v3' : decide ((0 : Int) < (j : Int) + 1) = true := decide_eq_true (by omega)
                have v4 : decide (0 < j + 1) = true := decide_eq_true (by omega)
                have w1 : IntKind.i64.wrap (j : Int) = j := IntWalk.i64_in _ (by omega)
                have w2 : IntKind.i64.wrap ((j : Int) + 1 - 1) = j := by rw [show (j : Int) + 1 - 1 = j by omega]; exact w1
                have i1 : (j : Int) < t.keys.length := by omega
                have i2 : (0 : Int) ≤ j := by omega
                have i3 : (j : Int) + 1 < t.keys.length := by omega
                have i4 : (0 : Int) ≤ (j : Int) + 1 := by omega
                have i5 : ((j : Int) + 1).toNat = j + 1 := by omega
                clear hx'
                by_cases hsl : sl r s = true
                · have HSL := Lib.hid hsl
                  unfold sl at hsl
                  go_upto_region 8 with fail
                  have HSS := Lib.hid (show ∀ w', Below wr.heap.size wr w' → (fun w' : World => w'.cell? ⟨w.heap.size, 5, none⟩ = some (.slice (some ⟨b, o, none⟩) t.keys.length c') ∧ w'.cell? ⟨b, o + (j + 1), none⟩ = some (.string s) ∧ w'.cell? ⟨b, o + j, none⟩ = some (.string r)) w' from fun w' hb' => ⟨(HBr.out.onto hb').cell 5, ((Keeps.of_below hb').cell (show b < wr.heap.size by have h1 : b < w.heap.size := hb; omega) _).trans hc, ((Keeps.of_below hb').cell (show b < wr.heap.size by have h1 : b < w.heap.size := hb; omega) _).trans hc'⟩)
                  refine wp_region_held_drew (S := fun w' => w'.cell? ⟨w.heap.size, 5, none⟩ = some (.slice (some ⟨b, o, none⟩) t.keys.length c') ∧ w'.cell? ⟨b, o + (j + 1), none⟩ = some (.string s) ∧ w'.cell? ⟨b, o + j, none⟩ = some (.string r)) (by kernel_rfl) ?_ (fun hHeld => ?_)
                  · exact HSS.out _ (Below.refl _ _).drew
                  refine wpAnyH_take (i := 0) (v := ?_) rfl (by kernel_rfl) (by kernel_rfl) (by kernel_rfl) (fun _ _ _ h => h) (Or.inl ⟨by rfl, ?_⟩) (by assumption) ?_
                  rotate_left
                  · intro wq hSw
                    try dsimp only at hSw
                    go_simp
                    try (with_reducible rfl)
                  try simp only [Act.put, List.getElem_toArray, List.getElem_cons_succ, List.getElem_cons_zero, List.setIfInBounds_toArray, List.set_cons_zero, List.set_cons_succ]
                  refine wpAnyH_take (i := 1) (v := ?_) rfl (by kernel_rfl) (by kernel_rfl) (by kernel_rfl) (fun _ _ _ h => h) (Or.inl ⟨by rfl, ?_⟩) (by assumption) ?_
                  rotate_left
                  · intro wq hSw
                    try dsimp only at hSw
                    go_simp
                    try (with_reducible rfl)
                  try simp only [Act.put, List.getElem_toArray, List.getElem_cons_succ, List.getElem_cons_zero, List.setIfInBounds_toArray, List.set_cons_zero, List.set_cons_succ]
                  refine wpAnyH_take (i := 2) (v := ?_) rfl (by kernel_rfl) (by kernel_rfl) (by kernel_rfl) (fun _ _ _ h => h) (Or.inl ⟨by rfl, ?_⟩) (by assumption) ?_
                  rotate_left
                  · intro wq hSw
                    try dsimp only at hSw
                    go_simp
                    try (with_reducible rfl)
                  try simp only [Act.put, List.getElem_toArray, List.getElem_cons_succ, List.getElem_cons_zero, List.setIfInBounds_toArray, List.set_cons_zero, List.set_cons_succ]
                  refine wpAnyH_take (i := 3) (v := ?_) rfl (by kernel_rfl) (by kernel_rfl) (by kernel_rfl) (fun _ _ _ h => h) (Or.inl ⟨by rfl, ?_⟩) (by assumption) ?_
                  rotate_left
                  · intro wq hSw
                    try dsimp only at hSw
                    go_simp
                    try (with_reducible rfl)
                  try simp only [Act.put, List.getElem_toArray, List.getElem_cons_succ, List.getElem_cons_zero, List.setIfInBounds_toArray, List.set_cons_zero, List.set_cons_succ]
                  refine wpAnyH_take (i := 4) (v := ?_) rfl (by kernel_rfl) (by kernel_rfl) (by kernel_rfl) (fun _ _ _ h => h) (Or.inl ⟨by rfl, ?_⟩) (by assumption) ?_
                  rotate_left
                  · intro wq hSw
                    try dsimp only at hSw
                    go_simp
                    try (with_reducible rfl)
                  try simp only [Act.put, List.getElem_toArray, List.getElem_cons_succ, List.getElem_cons_zero, List.setIfInBounds_toArray, List.set_cons_zero, List.set_cons_succ]
                  refine wpAnyH_ready (rs := [5]) (by kernel_rfl) (by simp) ?_
                  refine AllReadyH.cons rfl (fun K hK => ?_) ?_
                  rotate_left
                  · exact AllReadyH.nil
                  go_simp
                  refine (rval_yes s _ HO.out hs5).mono ?_
                  rintro e6 w6 ⟨rfl, hb6⟩
                  have HBc := Lib.hid (show Below wr.heap.size wr w6 from (Below.refl wr.heap.size wr).drew.trans hb6)
                  clear hb6
                  go_wp2_with fail
                  refine hK.out _ _ ?_ (fun hHeld => ?_)
                  · exact HSS.out _ HBc.out
                  clear hK K
                  try simp only [Act.put, List.getElem_toArray, List.getElem_cons_succ, List.getElem_cons_zero, List.setIfInBounds_toArray, List.set_cons_zero, List.set_cons_succ]
                  refine wpAnyH_take (i := 6) (v := ?_) rfl (by kernel_rfl) (by kernel_rfl) (by kernel_rfl) (fun _ _ _ h => h) (Or.inl ⟨by rfl, ?_⟩) (by assumption) ?_
                  rotate_left
                  · intro wq hSw
                    try dsimp only at hSw
                    go_simp
                    try (with_reducible rfl)
                  try simp only [Act.put, List.getElem_toArray, List.getElem_cons_succ, List.getElem_cons_zero, List.setIfInBounds_toArray, List.set_cons_zero, List.set_cons_succ]
                  refine wpAnyH_take (i := 7) (v := ?_) rfl (by kernel_rfl) (by kernel_rfl) (by kernel_rfl) (fun _ _ _ h => h) (Or.inl ⟨by rfl, ?_⟩) (by assumption) ?_
                  rotate_left
                  · intro wq hSw
                    try dsimp only at hSw
                    go_simp
                    try (with_reducible rfl)
                  try simp only [Act.put, List.getElem_toArray, List.getElem_cons_succ, List.getElem_cons_zero, List.setIfInBounds_toArray, List.set_cons_zero, List.set_cons_succ]
                  refine wpAnyH_take (i := 8) (v := ?_) rfl (by kernel_rfl) (by kernel_rfl) (by kernel_rfl) (fun _ _ _ h => h) (Or.inl ⟨by rfl, ?_⟩) (by assumption) ?_
                  rotate_left
                  · intro wq hSw
                    try dsimp only at hSw
                    go_simp
                    try (with_reducible rfl)
                  try simp only [Act.put, List.getElem_toArray, List.getElem_cons_succ, List.getElem_cons_zero, List.setIfInBounds_toArray, List.set_cons_zero, List.set_cons_succ]
                  refine wpAnyH_take (i := 9) (v := ?_) rfl (by kernel_rfl) (by kernel_rfl) (by kernel_rfl) (fun _ _ _ h => h) (Or.inl ⟨by rfl, ?_⟩) (by assumption) ?_
                  rotate_left
                  · intro wq hSw
                    try dsimp only at hSw
                    go_simp
                    try (with_reducible rfl)
                  try simp only [Act.put, List.getElem_toArray, List.getElem_cons_succ, List.getElem_cons_zero, List.setIfInBounds_toArray, List.set_cons_zero, List.set_cons_succ]
                  refine wpAnyH_take (i := 10) (v := ?_) rfl (by kernel_rfl) (by kernel_rfl) (by kernel_rfl) (fun _ _ _ h => h) (Or.inl ⟨by rfl, ?_⟩) (by assumption) ?_
                  rotate_left
                  · intro wq hSw
                    try dsimp only at hSw
                    go_simp
                    try (with_reducible rfl)
                  try simp only [Act.put, List.getElem_toArray, List.getElem_cons_succ, List.getElem_cons_zero, List.setIfInBounds_toArray, List.set_cons_zero, List.set_cons_succ]
                  refine wpAnyH_take (i := 11) (v := ?_) rfl (by kernel_rfl) (by kernel_rfl) (by kernel_rfl) (fun _ _ _ h => h) (Or.inl ⟨by rfl, ?_⟩) (by assumption) ?_
                  rotate_left
                  · intro wq hSw
                    try dsimp only at hSw
                    go_simp
                    try (with_reducible rfl)
                  try simp only [Act.put, List.getElem_toArray, List.getElem_cons_succ, List.getElem_cons_zero, List.setIfInBounds_toArray, List.set_cons_zero, List.set_cons_succ]
                  refine wpAnyH_take (i := 12) (v := ?_) rfl (by kernel_rfl) (by kernel_rfl) (by kernel_rfl) (fun _ _ _ h => h) (Or.inl ⟨by rfl, ?_⟩) (by assumption) ?_
                  rotate_left
                  · intro wq hSw
                    try dsimp only at hSw
                    go_simp
                    try (with_reducible rfl)
                  try simp only [Act.put, List.getElem_toArray, List.getElem_cons_succ, List.getElem_cons_zero, List.setIfInBounds_toArray, List.set_cons_zero, List.set_cons_succ]
                  refine wpAnyH_take (i := 13) (v := ?_) rfl (by kernel_rfl) (by kernel_rfl) (by kernel_rfl) (fun _ _ _ h => h) (Or.inl ⟨by rfl, ?_⟩) (by assumption) ?_
                  rotate_left
                  · intro wq hSw
                    try dsimp only at hSw
                    go_simp
                    try (with_reducible rfl)
                  try simp only [Act.put, List.getElem_toArray, List.getElem_cons_succ, List.getElem_cons_zero, List.setIfInBounds_toArray, List.set_cons_zero, List.set_cons_succ]
                  refine wpAnyH_take (i := 14) (v := ?_) rfl (by kernel_rfl) (by kernel_rfl) (by kernel_rfl) (fun _ _ _ h => h) (Or.inl ⟨by rfl, ?_⟩) (by assumption) ?_
                  rotate_left
                  · intro wq hSw
                    try dsimp only at hSw
                    go_simp
                    try (with_reducible rfl)
                  try simp only [Act.put, List.getElem_toArray, List.getElem_cons_succ, List.getElem_cons_zero, List.setIfInBounds_toArray, List.set_cons_zero, List.set_cons_succ]
                  refine wpAnyH_take (i := 15) (v := ?_) rfl (by kernel_rfl) (by kernel_rfl) (by kernel_rfl) (fun _ _ _ h => h) (Or.inl ⟨by rfl, ?_⟩) (by assumption) ?_
                  rotate_left
                  · intro wq hSw
                    try dsimp only at hSw
                    go_simp
                    try (with_reducible rfl)
                  try simp only [Act.put, List.getElem_toArray, List.getElem_cons_succ, List.getElem_cons_zero, List.setIfInBounds_toArray, List.set_cons_zero, List.set_cons_succ]
                  refine wpAnyH_take (i := 16) (v := ?_) rfl (by kernel_rfl) (by kernel_rfl) (by kernel_rfl) (fun _ _ _ h => h) (Or.inl ⟨by rfl, ?_⟩) (by assumption) ?_
                  rotate_left
                  · intro wq hSw
                    try dsimp only at hSw
                    go_simp
                    try (with_reducible rfl)
                  try simp only [Act.put, List.getElem_toArray, List.getElem_cons_succ, List.getElem_cons_zero, List.setIfInBounds_toArray, List.set_cons_zero, List.set_cons_succ]
                  refine wpAnyH_take (i := 17) (v := ?_) rfl (by kernel_rfl) (by kernel_rfl) (by kernel_rfl) (fun _ _ _ h => h) (Or.inl ⟨by rfl, ?_⟩) (by assumption) ?_
                  rotate_left
                  · intro wq hSw
                    try dsimp only at hSw
                    go_simp
                    try (with_reducible rfl)
                  try simp only [Act.put, List.getElem_toArray, List.getElem_cons_succ, List.getElem_cons_zero, List.setIfInBounds_toArray, List.set_cons_zero, List.set_cons_succ]
                  refine wpAnyH_take (i := 18) (v := ?_) rfl (by kernel_rfl) (by kernel_rfl) (by kernel_rfl) (fun _ _ _ h => h) (Or.inl ⟨by rfl, ?_⟩) (by assumption) ?_
                  rotate_left
                  · intro wq hSw
                    try dsimp only at hSw
                    go_simp
                    try (with_reducible rfl)
                  try simp only [Act.put, List.getElem_toArray, List.getElem_cons_succ, List.getElem_cons_zero, List.setIfInBounds_toArray, List.set_cons_zero, List.set_cons_succ]
                  refine wpAnyH_take (i := 19) (v := ?_) rfl (by kernel_rfl) (by kernel_rfl) (by kernel_rfl) (fun _ _ _ h => h) (Or.inl ⟨by rfl, ?_⟩) (by assumption) ?_
                  rotate_left
                  · intro wq hSw
                    try dsimp only at hSw
                    go_simp
                    try (with_reducible rfl)
                  try simp only [Act.put, List.getElem_toArray, List.getElem_cons_succ, List.getElem_cons_zero, List.setIfInBounds_toArray, List.set_cons_zero, List.set_cons_succ]
                  refine wpAnyH_take (i := 20) (v := ?_) rfl (by kernel_rfl) (by kernel_rfl) (by kernel_rfl) (fun _ _ _ h => h) (Or.inl ⟨by rfl, ?_⟩) (by assumption) ?_
                  rotate_left
                  · intro wq hSw
                    try dsimp only at hSw
                    go_simp
                    try (with_reducible rfl)
                  try simp only [Act.put, List.getElem_toArray, List.getElem_cons_succ, List.getElem_cons_zero, List.setIfInBounds_toArray, List.set_cons_zero, List.set_cons_succ]
                  refine wpAnyH_take (i := 21) (v := ?_) rfl (by kernel_rfl) (by kernel_rfl) (by kernel_rfl) (fun _ _ _ h => h) (Or.inl ⟨by rfl, ?_⟩) (by assumption) ?_
                  rotate_left
                  · intro wq hSw
                    try dsimp only at hSw
                    go_simp
                    try (with_reducible rfl)
                  try simp only [Act.put, List.getElem_toArray, List.getElem_cons_succ, List.getElem_cons_zero, List.setIfInBounds_toArray, List.set_cons_zero, List.set_cons_succ]
                  refine wpAnyH_take (i := 22) (v := ?_) rfl (by kernel_rfl) (by kernel_rfl) (by kernel_rfl) (fun _ _ _ h => h) (Or.inl ⟨by rfl, ?_⟩) (by assumption) ?_
                  rotate_left
                  · intro wq hSw
                    try dsimp only at hSw
                    go_simp
                    try (with_reducible rfl)
                  try simp only [Act.put, List.getElem_toArray, List.getElem_cons_succ, List.getElem_cons_zero, List.setIfInBounds_toArray, List.set_cons_zero, List.set_cons_succ]
                  refine wpAnyH_take (i := 23) (v := ?_) rfl (by kernel_rfl) (by kernel_rfl) (by kernel_rfl) (fun _ _ _ h => h) (Or.inl ⟨by rfl, ?_⟩) (by assumption) ?_
                  rotate_left
                  · intro wq hSw
                    try dsimp only at hSw
                    go_simp
                    try (with_reducible rfl)
                  try simp only [Act.put, List.getElem_toArray, List.getElem_cons_succ, List.getElem_cons_zero, List.setIfInBounds_toArray, List.set_cons_zero, List.set_cons_succ]
                  refine wpAnyH_take (i := 24) (v := ?_) rfl (by kernel_rfl) (by kernel_rfl) (by kernel_rfl) (fun _ _ _ h => h) (Or.inl ⟨by rfl, ?_⟩) (by assumption) ?_
                  rotate_left
                  · intro wq hSw
                    try dsimp only at hSw
                    go_simp
                    try (with_reducible rfl)
                  try simp only [Act.put, List.getElem_toArray, List.getElem_cons_succ, List.getElem_cons_zero, List.setIfInBounds_toArray, List.set_cons_zero, List.set_cons_succ]
                  refine wpAnyH_done (by kernel_rfl) ?_ _
                  go_wp2_with fail
                  go_roundw
                  case rel =>
                    refine ⟨(j + 1) + 1, hlt, by go_num, Lib.hid (fun j1 q hj hq => ?_), Hbel.out.trans (HBc.out.mono Hbel.out.size)⟩
                    rcases Nat.lt_or_ge j1 (j + 1) with h1 | h1
                    · exact HJ.out j1 q h1 hq
                    · obtain rfl : j1 = (j + 1) := by omega
                      rw [HS.out] at hq; injection hq with hq; subst hq
                      exact ⟨HO.out, fun i1 r1 h2 h3 => (by have h9 : i1 = j := (by omega); subst h9; rw [HR'.out] at h3; injection h3 with h3; exact h3 ▸ HSL.out)⟩
                  case measure => simp [intOf]; omega
                · have hsl' : sl r s = false := by simpa using hsl
                  have HSL := Lib.hid hsl'
                  clear hsl
                  unfold sl at hsl'
                  go_upto_region 8 with fail
                  have HSS := Lib.hid (show ∀ w', Below wr.heap.size wr w' → (fun w' : World => w'.cell? ⟨w.heap.size, 5, none⟩ = some (.slice (some ⟨b, o, none⟩) t.keys.length c') ∧ w'.cell? ⟨b, o + (j + 1), none⟩ = some (.string s) ∧ w'.cell? ⟨b, o + j, none⟩ = some (.string r)) w' from fun w' hb' => ⟨(HBr.out.onto hb').cell 5, ((Keeps.of_below hb').cell (show b < wr.heap.size by have h1 : b < w.heap.size := hb; omega) _).trans hc, ((Keeps.of_below hb').cell (show b < wr.heap.size by have h1 : b < w.heap.size := hb; omega) _).trans hc'⟩)
                  refine wp_region_held_drew (S := fun w' => w'.cell? ⟨w.heap.size, 5, none⟩ = some (.slice (some ⟨b, o, none⟩) t.keys.length c') ∧ w'.cell? ⟨b, o + (j + 1), none⟩ = some (.string s) ∧ w'.cell? ⟨b, o + j, none⟩ = some (.string r)) (by kernel_rfl) ?_ (fun hHeld => ?_)
                  · exact HSS.out _ (Below.refl _ _).drew
                  refine wpAnyH_take (i := 0) (v := ?_) rfl (by kernel_rfl) (by kernel_rfl) (by kernel_rfl) (fun _ _ _ h => h) (Or.inl ⟨by rfl, ?_⟩) (by assumption) ?_
                  rotate_left
                  · intro wq hSw
                    try dsimp only at hSw
                    go_simp
                    try (with_reducible rfl)
                  try simp only [Act.put, List.getElem_toArray, List.getElem_cons_succ, List.getElem_cons_zero, List.setIfInBounds_toArray, List.set_cons_zero, List.set_cons_succ]
                  refine wpAnyH_take (i := 1) (v := ?_) rfl (by kernel_rfl) (by kernel_rfl) (by kernel_rfl) (fun _ _ _ h => h) (Or.inl ⟨by rfl, ?_⟩) (by assumption) ?_
                  rotate_left
                  · intro wq hSw
                    try dsimp only at hSw
                    go_simp
                    try (with_reducible rfl)
                  try simp only [Act.put, List.getElem_toArray, List.getElem_cons_succ, List.getElem_cons_zero, List.setIfInBounds_toArray, List.set_cons_zero, List.set_cons_succ]
                  refine wpAnyH_take (i := 2) (v := ?_) rfl (by kernel_rfl) (by kernel_rfl) (by kernel_rfl) (fun _ _ _ h => h) (Or.inl ⟨by rfl, ?_⟩) (by assumption) ?_
                  rotate_left
                  · intro wq hSw
                    try dsimp only at hSw
                    go_simp
                    try (with_reducible rfl)
                  try simp only [Act.put, List.getElem_toArray, List.getElem_cons_succ, List.getElem_cons_zero, List.setIfInBounds_toArray, List.set_cons_zero, List.set_cons_succ]
                  refine wpAnyH_take (i := 3) (v := ?_) rfl (by kernel_rfl) (by kernel_rfl) (by kernel_rfl) (fun _ _ _ h => h) (Or.inl ⟨by rfl, ?_⟩) (by assumption) ?_
                  rotate_left
                  · intro wq hSw
                    try dsimp only at hSw
                    go_simp
                    try (with_reducible rfl)
                  try simp only [Act.put, List.getElem_toArray, List.getElem_cons_succ, List.getElem_cons_zero, List.setIfInBounds_toArray, List.set_cons_zero, List.set_cons_succ]
                  refine wpAnyH_take (i := 4) (v := ?_) rfl (by kernel_rfl) (by kernel_rfl) (by kernel_rfl) (fun _ _ _ h => h) (Or.inl ⟨by rfl, ?_⟩) (by assumption) ?_
                  rotate_left
                  · intro wq hSw
                    try dsimp only at hSw
                    go_simp
                    try (with_reducible rfl)
                  try simp only [Act.put, List.getElem_toArray, List.getElem_cons_succ, List.getElem_cons_zero, List.setIfInBounds_toArray, List.set_cons_zero, List.set_cons_succ]
                  refine wpAnyH_ready (rs := [5]) (by kernel_rfl) (by simp) ?_
                  refine AllReadyH.cons rfl (fun K hK => ?_) ?_
                  rotate_left
                  · exact AllReadyH.nil
                  go_simp
                  refine (rval_yes s _ HO.out hs5).mono ?_
                  rintro e6 w6 ⟨rfl, hb6⟩
                  have HBc := Lib.hid (show Below wr.heap.size wr w6 from (Below.refl wr.heap.size wr).drew.trans hb6)
                  clear hb6
                  go_wp2_with fail
                  refine hK.out _ _ ?_ (fun hHeld => ?_)
                  · exact HSS.out _ HBc.out
                  clear hK K
                  try simp only [Act.put, List.getElem_toArray, List.getElem_cons_succ, List.getElem_cons_zero, List.setIfInBounds_toArray, List.set_cons_zero, List.set_cons_succ]
                  refine wpAnyH_take (i := 6) (v := ?_) rfl (by kernel_rfl) (by kernel_rfl) (by kernel_rfl) (fun _ _ _ h => h) (Or.inl ⟨by rfl, ?_⟩) (by assumption) ?_
                  rotate_left
                  · intro wq hSw
                    try dsimp only at hSw
                    go_simp
                    try (with_reducible rfl)
                  try simp only [Act.put, List.getElem_toArray, List.getElem_cons_succ, List.getElem_cons_zero, List.setIfInBounds_toArray, List.set_cons_zero, List.set_cons_succ]
                  refine wpAnyH_take (i := 7) (v := ?_) rfl (by kernel_rfl) (by kernel_rfl) (by kernel_rfl) (fun _ _ _ h => h) (Or.inl ⟨by rfl, ?_⟩) (by assumption) ?_
                  rotate_left
                  · intro wq hSw
                    try dsimp only at hSw
                    go_simp
                    try (with_reducible rfl)
                  try simp only [Act.put, List.getElem_toArray, List.getElem_cons_succ, List.getElem_cons_zero, List.setIfInBounds_toArray, List.set_cons_zero, List.set_cons_succ]
                  refine wpAnyH_take (i := 8) (v := ?_) rfl (by kernel_rfl) (by kernel_rfl) (by kernel_rfl) (fun _ _ _ h => h) (Or.inl ⟨by rfl, ?_⟩) (by assumption) ?_
                  rotate_left
                  · intro wq hSw
                    try dsimp only at hSw
                    go_simp
                    try (with_reducible rfl)
                  try simp only [Act.put, List.getElem_toArray, List.getElem_cons_succ, List.getElem_cons_zero, List.setIfInBounds_toArray, List.set_cons_zero, List.set_cons_succ]
                  refine wpAnyH_take (i := 9) (v := ?_) rfl (by kernel_rfl) (by kernel_rfl) (by kernel_rfl) (fun _ _ _ h => h) (Or.inl ⟨by rfl, ?_⟩) (by assumption) ?_
                  rotate_left
                  · intro wq hSw
                    try dsimp only at hSw
                    go_simp
                    try (with_reducible rfl)
                  try simp only [Act.put, List.getElem_toArray, List.getElem_cons_succ, List.getElem_cons_zero, List.setIfInBounds_toArray, List.set_cons_zero, List.set_cons_succ]
                  refine wpAnyH_take (i := 10) (v := ?_) rfl (by kernel_rfl) (by kernel_rfl) (by kernel_rfl) (fun _ _ _ h => h) (Or.inl ⟨by rfl, ?_⟩) (by assumption) ?_
                  rotate_left
                  · intro wq hSw
                    try dsimp only at hSw
                    go_simp
                    try (with_reducible rfl)
                  try simp only [Act.put, List.getElem_toArray, List.getElem_cons_succ, List.getElem_cons_zero, List.setIfInBounds_toArray, List.set_cons_zero, List.set_cons_succ]
                  refine wpAnyH_take (i := 11) (v := ?_) rfl (by kernel_rfl) (by kernel_rfl) (by kernel_rfl) (fun _ _ _ h => h) (Or.inl ⟨by rfl, ?_⟩) (by assumption) ?_
                  rotate_left
                  · intro wq hSw
                    try dsimp only at hSw
                    go_simp
                    try (with_reducible rfl)
                  try simp only [Act.put, List.getElem_toArray, List.getElem_cons_succ, List.getElem_cons_zero, List.setIfInBounds_toArray, List.set_cons_zero, List.set_cons_succ]
                  refine wpAnyH_take (i := 12) (v := ?_) rfl (by kernel_rfl) (by kernel_rfl) (by kernel_rfl) (fun _ _ _ h => h) (Or.inl ⟨by rfl, ?_⟩) (by assumption) ?_
                  rotate_left
                  · intro wq hSw
                    try dsimp only at hSw
                    go_simp
                    try (with_reducible rfl)
                  try simp only [Act.put, List.getElem_toArray, List.getElem_cons_succ, List.getElem_cons_zero, List.setIfInBounds_toArray, List.set_cons_zero, List.set_cons_succ]
                  refine wpAnyH_take (i := 13) (v := ?_) rfl (by kernel_rfl) (by kernel_rfl) (by kernel_rfl) (fun _ _ _ h => h) (Or.inl ⟨by rfl, ?_⟩) (by assumption) ?_
                  rotate_left
                  · intro wq hSw
                    try dsimp only at hSw
                    go_simp
                    try (with_reducible rfl)
                  try simp only [Act.put, List.getElem_toArray, List.getElem_cons_succ, List.getElem_cons_zero, List.setIfInBounds_toArray, List.set_cons_zero, List.set_cons_succ]
                  refine wpAnyH_take (i := 14) (v := ?_) rfl (by kernel_rfl) (by kernel_rfl) (by kernel_rfl) (fun _ _ _ h => h) (Or.inl ⟨by rfl, ?_⟩) (by assumption) ?_
                  rotate_left
                  · intro wq hSw
                    try dsimp only at hSw
                    go_simp
                    try (with_reducible rfl)
                  try simp only [Act.put, List.getElem_toArray, List.getElem_cons_succ, List.getElem_cons_zero, List.setIfInBounds_toArray, List.set_cons_zero, List.set_cons_succ]
                  refine wpAnyH_take (i := 15) (v := ?_) rfl (by kernel_rfl) (by kernel_rfl) (by kernel_rfl) (fun _ _ _ h => h) (Or.inl ⟨by rfl, ?_⟩) (by assumption) ?_
                  rotate_left
                  · intro wq hSw
                    try dsimp only at hSw
                    go_simp
                    try (with_reducible rfl)
                  try simp only [Act.put, List.getElem_toArray, List.getElem_cons_succ, List.getElem_cons_zero, List.setIfInBounds_toArray, List.set_cons_zero, List.set_cons_succ]
                  refine wpAnyH_take (i := 16) (v := ?_) rfl (by kernel_rfl) (by kernel_rfl) (by kernel_rfl) (fun _ _ _ h => h) (Or.inl ⟨by rfl, ?_⟩) (by assumption) ?_
                  rotate_left
                  · intro wq hSw
                    try dsimp only at hSw
                    go_simp
                    try (with_reducible rfl)
                  try simp only [Act.put, List.getElem_toArray, List.getElem_cons_succ, List.getElem_cons_zero, List.setIfInBounds_toArray, List.set_cons_zero, List.set_cons_succ]
                  refine wpAnyH_take (i := 17) (v := ?_) rfl (by kernel_rfl) (by kernel_rfl) (by kernel_rfl) (fun _ _ _ h => h) (Or.inl ⟨by rfl, ?_⟩) (by assumption) ?_
                  rotate_left
                  · intro wq hSw
                    try dsimp only at hSw
                    go_simp
                    try (with_reducible rfl)
                  try simp only [Act.put, List.getElem_toArray, List.getElem_cons_succ, List.getElem_cons_zero, List.setIfInBounds_toArray, List.set_cons_zero, List.set_cons_succ]
                  refine wpAnyH_take (i := 18) (v := ?_) rfl (by kernel_rfl) (by kernel_rfl) (by kernel_rfl) (fun _ _ _ h => h) (Or.inl ⟨by rfl, ?_⟩) (by assumption) ?_
                  rotate_left
                  · intro wq hSw
                    try dsimp only at hSw
                    go_simp
                    try (with_reducible rfl)
                  try simp only [Act.put, List.getElem_toArray, List.getElem_cons_succ, List.getElem_cons_zero, List.setIfInBounds_toArray, List.set_cons_zero, List.set_cons_succ]
                  refine wpAnyH_take (i := 19) (v := ?_) rfl (by kernel_rfl) (by kernel_rfl) (by kernel_rfl) (fun _ _ _ h => h) (Or.inl ⟨by rfl, ?_⟩) (by assumption) ?_
                  rotate_left
                  · intro wq hSw
                    try dsimp only at hSw
                    go_simp
                    try (with_reducible rfl)
                  try simp only [Act.put, List.getElem_toArray, List.getElem_cons_succ, List.getElem_cons_zero, List.setIfInBounds_toArray, List.set_cons_zero, List.set_cons_succ]
                  refine wpAnyH_take (i := 20) (v := ?_) rfl (by kernel_rfl) (by kernel_rfl) (by kernel_rfl) (fun _ _ _ h => h) (Or.inl ⟨by rfl, ?_⟩) (by assumption) ?_
                  rotate_left
                  · intro wq hSw
                    try dsimp only at hSw
                    go_simp
                    try (with_reducible rfl)
                  try simp only [Act.put, List.getElem_toArray, List.getElem_cons_succ, List.getElem_cons_zero, List.setIfInBounds_toArray, List.set_cons_zero, List.set_cons_succ]
                  refine wpAnyH_take (i := 21) (v := ?_) rfl (by kernel_rfl) (by kernel_rfl) (by kernel_rfl) (fun _ _ _ h => h) (Or.inl ⟨by rfl, ?_⟩) (by assumption) ?_
                  rotate_left
                  · intro wq hSw
                    try dsimp only at hSw
                    go_simp
                    try (with_reducible rfl)
                  try simp only [Act.put, List.getElem_toArray, List.getElem_cons_succ, List.getElem_cons_zero, List.setIfInBounds_toArray, List.set_cons_zero, List.set_cons_succ]
                  refine wpAnyH_take (i := 22) (v := ?_) rfl (by kernel_rfl) (by kernel_rfl) (by kernel_rfl) (fun _ _ _ h => h) (Or.inl ⟨by rfl, ?_⟩) (by assumption) ?_
                  rotate_left
                  · intro wq hSw
                    try dsimp only at hSw
                    go_simp
                    try (with_reducible rfl)
                  try simp only [Act.put, List.getElem_toArray, List.getElem_cons_succ, List.getElem_cons_zero, List.setIfInBounds_toArray, List.set_cons_zero, List.set_cons_succ]
                  refine wpAnyH_take (i := 23) (v := ?_) rfl (by kernel_rfl) (by kernel_rfl) (by kernel_rfl) (fun _ _ _ h => h) (Or.inl ⟨by rfl, ?_⟩) (by assumption) ?_
                  rotate_left
                  · intro wq hSw
                    try dsimp only at hSw
                    go_simp
                    try (with_reducible rfl)
                  try simp only [Act.put, List.getElem_toArray, List.getElem_cons_succ, List.getElem_cons_zero, List.setIfInBounds_toArray, List.set_cons_zero, List.set_cons_succ]
                  refine wpAnyH_take (i := 24) (v := ?_) rfl (by kernel_rfl) (by kernel_rfl) (by kernel_rfl) (fun _ _ _ h => h) (Or.inl ⟨by rfl, ?_⟩) (by assumption) ?_
                  rotate_left
                  · intro wq hSw
                    try dsimp only at hSw
                    go_simp
                    try (with_reducible rfl)
                  try simp only [Act.put, List.getElem_toArray, List.getElem_cons_succ, List.getElem_cons_zero, List.setIfInBounds_toArray, List.set_cons_zero, List.set_cons_succ]
                  refine wpAnyH_done (by kernel_rfl) ?_ _
                  go_wp2_with fail
                  go_ret
                  exact tells_no (fun h => by have := h.here.kris j r s HR'.out HS.out; rw [HSL.out] at this; cases this) (HWr.out.trans (HBc.out.mono HWr.out.size))
            · have HO := Lib.hid hokk
              clear hokk
              go_upto_region 8 with fail
              have HSS := Lib.hid (show ∀ w', Below wr.heap.size wr w' → (fun w' : World => w'.cell? ⟨w.heap.size, 5, none⟩ = some (.slice (some ⟨b, o, none⟩) t.keys.length c') ∧ w'.cell? ⟨b, o + k, none⟩ = some (.string s)) w' from fun w' hb' => ⟨(HBr.out.onto hb').cell 5, ((Keeps.of_below hb').cell (show b < wr.heap.size by have h1 : b < w.heap.size := hb; omega) _).trans hc⟩)
              refine wp_region_held_drew (S := fun w' => w'.cell? ⟨w.heap.size, 5, none⟩ = some (.slice (some ⟨b, o, none⟩) t.keys.length c') ∧ w'.cell? ⟨b, o + k, none⟩ = some (.string s)) (by kernel_rfl) ?_ (fun hHeld => ?_)
              · exact HSS.out _ (Below.refl _ _).drew
              refine wpAnyH_take (i := 0) (v := ?_) rfl (by kernel_rfl) (by kernel_rfl) (by kernel_rfl) (fun _ _ _ h => h) (Or.inl ⟨by rfl, ?_⟩) (by assumption) ?_
              rotate_left
              · intro wq hSw
                try dsimp only at hSw
                go_simp
                try (with_reducible rfl)
              try simp only [Act.put, List.getElem_toArray, List.getElem_cons_succ, List.getElem_cons_zero, List.setIfInBounds_toArray, List.set_cons_zero, List.set_cons_succ]
              refine wpAnyH_take (i := 1) (v := ?_) rfl (by kernel_rfl) (by kernel_rfl) (by kernel_rfl) (fun _ _ _ h => h) (Or.inl ⟨by rfl, ?_⟩) (by assumption) ?_
              rotate_left
              · intro wq hSw
                try dsimp only at hSw
                go_simp
                try (with_reducible rfl)
              try simp only [Act.put, List.getElem_toArray, List.getElem_cons_succ, List.getElem_cons_zero, List.setIfInBounds_toArray, List.set_cons_zero, List.set_cons_succ]
              refine wpAnyH_take (i := 2) (v := ?_) rfl (by kernel_rfl) (by kernel_rfl) (by kernel_rfl) (fun _ _ _ h => h) (Or.inl ⟨by rfl, ?_⟩) (by assumption) ?_
              rotate_left
              · intro wq hSw
                try dsimp only at hSw
                go_simp
                try (with_reducible rfl)
              try simp only [Act.put, List.getElem_toArray, List.getElem_cons_succ, List.getElem_cons_zero, List.setIfInBounds_toArray, List.set_cons_zero, List.set_cons_succ]
              refine wpAnyH_take (i := 3) (v := ?_) rfl (by kernel_rfl) (by kernel_rfl) (by kernel_rfl) (fun _ _ _ h => h) (Or.inl ⟨by rfl, ?_⟩) (by assumption) ?_
              rotate_left
              · intro wq hSw
                try dsimp only at hSw
                go_simp
                try (with_reducible rfl)
              try simp only [Act.put, List.getElem_toArray, List.getElem_cons_succ, List.getElem_cons_zero, List.setIfInBounds_toArray, List.set_cons_zero, List.set_cons_succ]
              refine wpAnyH_take (i := 4) (v := ?_) rfl (by kernel_rfl) (by kernel_rfl) (by kernel_rfl) (fun _ _ _ h => h) (Or.inl ⟨by rfl, ?_⟩) (by assumption) ?_
              rotate_left
              · intro wq hSw
                try dsimp only at hSw
                go_simp
                try (with_reducible rfl)
              try simp only [Act.put, List.getElem_toArray, List.getElem_cons_succ, List.getElem_cons_zero, List.setIfInBounds_toArray, List.set_cons_zero, List.set_cons_succ]
              refine wpAnyH_ready (rs := [5]) (by kernel_rfl) (by simp) ?_
              refine AllReadyH.cons rfl (fun K hK => ?_) ?_
              rotate_left
              · exact AllReadyH.nil
              go_simp
              refine (rval_no s _ HO.out hs5).mono ?_
              rintro e6 w6 ⟨rfl, hb6⟩
              have HBc := Lib.hid (show Below wr.heap.size wr w6 from (Below.refl wr.heap.size wr).drew.trans hb6)
              clear hb6
              go_wp2_with fail
              refine hK.out _ _ ?_ (fun hHeld => ?_)
              · exact HSS.out _ HBc.out
              clear hK K
              try simp only [Act.put, List.getElem_toArray, List.getElem_cons_succ, List.getElem_cons_zero, List.setIfInBounds_toArray, List.set_cons_zero, List.set_cons_succ]
              refine wpAnyH_take (i := 6) (v := ?_) rfl (by kernel_rfl) (by kernel_rfl) (by kernel_rfl) (fun _ _ _ h => h) (Or.inl ⟨by rfl, ?_⟩) (by assumption) ?_
              rotate_left
              · intro wq hSw
                try dsimp only at hSw
                go_simp
                try (with_reducible rfl)
              try simp only [Act.put, List.getElem_toArray, List.getElem_cons_succ, List.getElem_cons_zero, List.setIfInBounds_toArray, List.set_cons_zero, List.set_cons_succ]
              refine wpAnyH_take (i := 7) (v := ?_) rfl (by kernel_rfl) (by kernel_rfl) (by kernel_rfl) (fun _ _ _ h => h) (Or.inl ⟨by rfl, ?_⟩) (by assumption) ?_
              rotate_left
              · intro wq hSw
                try dsimp only at hSw
                go_simp
                try (with_reducible rfl)
              try simp only [Act.put, List.getElem_toArray, List.getElem_cons_succ, List.getElem_cons_zero, List.setIfInBounds_toArray, List.set_cons_zero, List.set_cons_succ]
              refine wpAnyH_take (i := 8) rfl (by kernel_rfl) (by kernel_rfl) (by kernel_rfl) (fun _ _ _ h => h) (Or.inr ⟨by rfl, rfl⟩) (by assumption) ?_
              try simp only [Act.put, List.getElem_toArray, List.getElem_cons_succ, List.getElem_cons_zero, List.setIfInBounds_toArray, List.set_cons_zero, List.set_cons_succ]
              refine wpAnyH_take (i := 9) rfl (by kernel_rfl) (by kernel_rfl) (by kernel_rfl) (fun _ _ _ h => h) (Or.inr ⟨by rfl, rfl⟩) (by assumption) ?_
              try simp only [Act.put, List.getElem_toArray, List.getElem_cons_succ, List.getElem_cons_zero, List.setIfInBounds_toArray, List.set_cons_zero, List.set_cons_succ]
              refine wpAnyH_take (i := 10) rfl (by kernel_rfl) (by kernel_rfl) (by kernel_rfl) (fun _ _ _ h => h) (Or.inr ⟨by rfl, rfl⟩) (by assumption) ?_
              try simp only [Act.put, List.getElem_toArray, List.getElem_cons_succ, List.getElem_cons_zero, List.setIfInBounds_toArray, List.set_cons_zero, List.set_cons_succ]
              refine wpAnyH_take (i := 11) rfl (by kernel_rfl) (by kernel_rfl) (by kernel_rfl) (fun _ _ _ h => h) (Or.inr ⟨by rfl, rfl⟩) (by assumption) ?_
              try simp only [Act.put, List.getElem_toArray, List.getElem_cons_succ, List.getElem_cons_zero, List.setIfInBounds_toArray, List.set_cons_zero, List.set_cons_succ]
              refine wpAnyH_take (i := 12) rfl (by kernel_rfl) (by kernel_rfl) (by kernel_rfl) (fun _ _ _ h => h) (Or.inr ⟨by rfl, rfl⟩) (by assumption) ?_
              try simp only [Act.put, List.getElem_toArray, List.getElem_cons_succ, List.getElem_cons_zero, List.setIfInBounds_toArray, List.set_cons_zero, List.set_cons_succ]
              refine wpAnyH_take (i := 13) rfl (by kernel_rfl) (by kernel_rfl) (by kernel_rfl) (fun _ _ _ h => h) (Or.inr ⟨by rfl, rfl⟩) (by assumption) ?_
              try simp only [Act.put, List.getElem_toArray, List.getElem_cons_succ, List.getElem_cons_zero, List.setIfInBounds_toArray, List.set_cons_zero, List.set_cons_succ]
              refine wpAnyH_take (i := 14) rfl (by kernel_rfl) (by kernel_rfl) (by kernel_rfl) (fun _ _ _ h => h) (Or.inr ⟨by rfl, rfl⟩) (by assumption) ?_
              try simp only [Act.put, List.getElem_toArray, List.getElem_cons_succ, List.getElem_cons_zero, List.setIfInBounds_toArray, List.set_cons_zero, List.set_cons_succ]
              refine wpAnyH_take (i := 15) rfl (by kernel_rfl) (by kernel_rfl) (by kernel_rfl) (fun _ _ _ h => h) (Or.inr ⟨by rfl, rfl⟩) (by assumption) ?_
              try simp only [Act.put, List.getElem_toArray, List.getElem_cons_succ, List.getElem_cons_zero, List.setIfInBounds_toArray, List.set_cons_zero, List.set_cons_succ]
              refine wpAnyH_take (i := 16) rfl (by kernel_rfl) (by kernel_rfl) (by kernel_rfl) (fun _ _ _ h => h) (Or.inr ⟨by rfl, rfl⟩) (by assumption) ?_
              try simp only [Act.put, List.getElem_toArray, List.getElem_cons_succ, List.getElem_cons_zero, List.setIfInBounds_toArray, List.set_cons_zero, List.set_cons_succ]
              refine wpAnyH_take (i := 17) rfl (by kernel_rfl) (by kernel_rfl) (by kernel_rfl) (fun _ _ _ h => h) (Or.inr ⟨by rfl, rfl⟩) (by assumption) ?_
              try simp only [Act.put, List.getElem_toArray, List.getElem_cons_succ, List.getElem_cons_zero, List.setIfInBounds_toArray, List.set_cons_zero, List.set_cons_succ]
              refine wpAnyH_take (i := 18) rfl (by kernel_rfl) (by kernel_rfl) (by kernel_rfl) (fun _ _ _ h => h) (Or.inr ⟨by rfl, rfl⟩) (by assumption) ?_
              try simp only [Act.put, List.getElem_toArray, List.getElem_cons_succ, List.getElem_cons_zero, List.setIfInBounds_toArray, List.set_cons_zero, List.set_cons_succ]
              refine wpAnyH_take (i := 19) rfl (by kernel_rfl) (by kernel_rfl) (by kernel_rfl) (fun _ _ _ h => h) (Or.inr ⟨by rfl, rfl⟩) (by assumption) ?_
              try simp only [Act.put, List.getElem_toArray, List.getElem_cons_succ, List.getElem_cons_zero, List.setIfInBounds_toArray, List.set_cons_zero, List.set_cons_succ]
              refine wpAnyH_take (i := 20) rfl (by kernel_rfl) (by kernel_rfl) (by kernel_rfl) (fun _ _ _ h => h) (Or.inr ⟨by rfl, rfl⟩) (by assumption) ?_
              try simp only [Act.put, List.getElem_toArray, List.getElem_cons_succ, List.getElem_cons_zero, List.setIfInBounds_toArray, List.set_cons_zero, List.set_cons_succ]
              refine wpAnyH_take (i := 21) rfl (by kernel_rfl) (by kernel_rfl) (by kernel_rfl) (fun _ _ _ h => h) (Or.inr ⟨by rfl, rfl⟩) (by assumption) ?_
              try simp only [Act.put, List.getElem_toArray, List.getElem_cons_succ, List.getElem_cons_zero, List.setIfInBounds_toArray, List.set_cons_zero, List.set_cons_succ]
              refine wpAnyH_take (i := 22) rfl (by kernel_rfl) (by kernel_rfl) (by kernel_rfl) (fun _ _ _ h => h) (Or.inr ⟨by rfl, rfl⟩) (by assumption) ?_
              try simp only [Act.put, List.getElem_toArray, List.getElem_cons_succ, List.getElem_cons_zero, List.setIfInBounds_toArray, List.set_cons_zero, List.set_cons_succ]
              refine wpAnyH_take (i := 23) rfl (by kernel_rfl) (by kernel_rfl) (by kernel_rfl) (fun _ _ _ h => h) (Or.inr ⟨by rfl, rfl⟩) (by assumption) ?_
              try simp only [Act.put, List.getElem_toArray, List.getElem_cons_succ, List.getElem_cons_zero, List.setIfInBounds_toArray, List.set_cons_zero, List.set_cons_succ]
              refine wpAnyH_take (i := 24) (v := ?_) rfl (by kernel_rfl) (by kernel_rfl) (by kernel_rfl) (fun _ _ _ h => h) (Or.inl ⟨by rfl, ?_⟩) (by assumption) ?_
              rotate_left
              · intro wq hSw
                try dsimp only at hSw
                go_simp
                try (with_reducible rfl)
              try simp only [Act.put, List.getElem_toArray, List.getElem_cons_succ, List.getElem_cons_zero, List.setIfInBounds_toArray, List.set_cons_zero, List.set_cons_succ]
              refine wpAnyH_done (by kernel_rfl) ?_ _
              go_wp2_with fail
              go_ret
              exact tells_no (fun h => HO.out (h.here.ktxt s (List.mem_of_getElem? HS.out))) (HWr.out.trans (HBc.out.mono HWr.out.size))
          · obtain rfl : t.keys.length = k := by omega
            have v1 : decide (t.keys.length < t.keys.length) = false := decide_eq_false (by omega)
            obtain ⟨wo, rfl⟩ : ∃ wo : World, wo = wr := ⟨_, rfl⟩
            have d4 : wo.cell? ⟨w.heap.size, 4, none⟩ = some (.slice A t.items.length c) := HBr.out.cell 4
            clear c5
            go_wp2_with fail
            go_loopw [117] (fun i wx => ∃ k : Nat, k ≤ t.items.length ∧ i = .int .i64 k ∧ Hid (∀ (j : Nat) (x : T), j < k → t.items[j]? = some x → x.Good) ∧ Below wo.heap.size wo wx) (fun i _ => t.items.length - (intOf i).toNat)
            case atStart => exact ⟨0, Nat.zero_le _, rfl, Lib.hid (fun j s hj => absurd hj (by omega)), Below.refl _ _⟩
            case round =>
              obtain ⟨k, hk2, rfl, HX, hbel⟩ := hrel
              have Hbel2 := Lib.hid hbel
              have hBx := HBr.out.onto hbel
              have c4 : wr.cell? ⟨w.heap.size, 4, none⟩ = some (.slice A t.items.length c) := hBx.cell 4
              have HVx := Lib.hid (HVr.out.keep fun b hb => hbel.block b (by have h1 : b < w.heap.size := hb; omega))
              have HWx := Lib.hid (HWr.out.trans (hbel.mono HWr.out.size))
              have hsx := HWx.out.size
              clear hbel hBx d4
              by_cases hlt2 : k < t.items.length
              · have v2 : decide (k < t.items.length) = true := decide_eq_true hlt2
                obtain ⟨b, o, x, B, d, B', d', rfl, hb, hx, h6, hX⟩ := HVx.out.at_ hlt2
                have hxs := T.at_size hx
                have HXs := Lib.hid (HSM.out.at_ hx)
                have HXm := Lib.hid (HMI.out.at_ hx)
                have HXv := Lib.hid (show TV wr (· < wr.heap.size) x B d B' d' from hX.wide fun b hb => by have h1 : b < w.heap.size := hb; show b < wr.heap.size; omega)
                have Hx := Lib.hid hx
                obtain ⟨e0, e1, e2, e3, e4, e5⟩ := h6
                clear hX hx
                go_wp2_with fail
                refine (IH.out x B d B' d' _ (by omega) (by omega) HXs.out HXm.out HXv.out).mono ?_
                rintro e w5 ⟨g, rfl, hgg, hb5⟩
                have HGG := Lib.hid hgg
                have H5 := Lib.hid hb5
                clear hgg hb5
                cases g with
                | true =>
                  have HXg := Lib.hid (show x.Good from HGG.out.1 rfl)
                  go_wp2_with fail
                  go_roundw
                  case rel =>
                    refine ⟨k + 1, hlt2, by go_num, Lib.hid (fun j y hj hy => ?_), Hbel2.out.trans (H5.out.mono Hbel2.out.size)⟩
                    rcases Nat.lt_or_ge j k with h1 | h1
                    · exact HX.out j y h1 hy
                    · obtain rfl : j = k := by omega
                      rw [Hx.out] at hy; injection hy with hy; subst hy
                      exact HXg.out
                  case measure => simp [intOf]; omega
                | false =>
                  have HXg := Lib.hid (show ¬ x.Good from fun h => (by have := HGG.out.2 h; cases this))
                  go_wp2_with fail
                  go_ret
                  exact tells_no (fun h => HXg.out (h.at_ Hx.out)) (HWx.out.trans (H5.out.mono hsx))
              · obtain rfl : t.items.length = k := by omega
                have v2 : decide (t.items.length < t.items.length) = false := decide_eq_false (by omega)
                clear c4
                go_wp2_with fail
                go_ret
                refine ⟨true, rfl, ⟨fun _ => .mk t ?_ fun x hx => ?_, fun _ => rfl⟩, HWx.out⟩
                · have h := HH.out
                  refine ⟨h.k0, h.k5, h.tr, h.num, h.str, fun h4 h5 => List.eq_nil_of_length_eq_zero (h.items (by have := h.k0; have := h.k5; omega)), fun h5 => List.eq_nil_of_length_eq_zero (h.keys h5), HLE.out, Hok.out, fun s hs => ?_, fun i a b ha hb => ?_⟩
                  · obtain ⟨j, hj⟩ := List.mem_iff_getElem?.1 hs
                    exact (HJ.out j s (lt_of_get hj) hj).1
                  · exact (HJ.out (i + 1) b (lt_of_get hb) hb).2 i a rfl ha
                · obtain ⟨j, hj⟩ := List.mem_iff_getElem?.1 hx
                  exact HX.out j x (lt_of_get hj) hj
theorem rgood_yes (t : T) (A : Option Addr) (c : Nat) (A' : Option Addr) (c' : Nat) (w : World) (ht : t.size ≤ 100000) (hs : t.Small) (hm : T.All Mild t) (hg : t.Good) (hv : TV w (· < w.heap.size) t A c A' c') :
    Calls Try.prog 9 #[.agg #[.int .i64 t.kind, .bool t.tr, .int .i64 t.num, .string t.str, .slice A t.items.length c, .slice A' t.keys.length c']] w fun e w' => e = .returned (.bool true) ∧ Below w.heap.size w w' := by
  refine (rgood_at 100000 t A c A' c' w ht (Nat.le_refl _) hs hm hv).mono ?_
  rintro e w' ⟨g, rfl, h, hb⟩
  rw [h.2 hg]
  exact ⟨rfl, hb⟩
theorem rgood_no (t : T) (A : Option Addr) (c : Nat) (A' : Option Addr) (c' : Nat) (w : World) (ht : t.size ≤ 100000) (hs : t.Small) (hm : T.All Mild t) (hg : ¬ t.Good) (hv : TV w (· < w.heap.size) t A c A' c') :
    Calls Try.prog 9 #[.agg #[.int .i64 t.kind, .bool t.tr, .int .i64 t.num, .string t.str, .slice A t.items.length c, .slice A' t.keys.length c']] w fun e w' => e = .returned (.bool false) ∧ Below w.heap.size w w' := by
  refine (rgood_at 100000 t A c A' c' w ht (Nat.le_refl _) hs hm hv).mono ?_
  rintro e w' ⟨g, rfl, h, hb⟩
  cases g with
  | true => exact absurd (h.1 rfl) hg
  | false => exact ⟨rfl, hb⟩
end Go.Proofs.Ytleikaiokoahdaa
