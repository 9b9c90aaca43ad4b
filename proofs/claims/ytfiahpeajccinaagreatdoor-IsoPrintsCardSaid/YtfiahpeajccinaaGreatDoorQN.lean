/- Isos' text, by the program: the walk. Isos' text, by the reference. -/
import Derived.Test.YtfiahpeajccinaaGreatDoorQM
import Derived.Test.YtfiahpeajccinaaGreatDoorQJ
import Derived.Test.YtfiahpeajccinaaGreatDoorQK
import Derived.Test.YtfiahpeajccinaaGreatDoorQA
namespace Go.Proofs.YtfiahpeajccinaaGreatDoor
open Go.RowKit
open Tk Ex
set_option linter.unusedVariables false
set_option linter.unusedSimpArgs false

theorem sp_app (t : ByteArray) : ((⟨#[32]⟩ : ByteArray) ++ t).data.toList = 32 :: t.data.toList := by
  rw [ByteArray.data_append, Array.toList_append]
  rfl
theorem sp_size (t : ByteArray) : ((⟨#[32]⟩ : ByteArray) ++ t).size = t.size + 1 := by
  rw [ByteArray.size_append, Nat.add_comm]
  rfl
theorem prT_no {u : Nat} (h : u = 1) (n : Int) (k : ByteArray) : prT u n k = [] := by subst h; rfl
theorem prT_num {u : Nat} (h : u = 2 ∨ u = 3) (n : Int) (k : ByteArray) : prT u n k = 32 :: Lib.itoa n := if_pos h
theorem prT_key {u : Nat} (h : u = 4) (n : Int) (k : ByteArray) : prT u n k = 32 :: Q.quo k.data.toList := by subst h; rfl
theorem sp_data (l : List UInt8) : ((⟨#[32]⟩ : ByteArray) ++ (⟨l.toArray⟩ : ByteArray)).data.toList = 32 :: l := sp_app _
theorem sp_mk (l : List UInt8) : ((⟨#[32]⟩ : ByteArray) ++ mkB l).data.toList = 32 :: l := sp_app _
theorem bd_eq {b : Nat} {l m : List UInt8} {w : World} (h : BdI b l w) (e : m = l) : BdI b m w := e ▸ h
set_option maxRecDepth 100000 in
set_option maxHeartbeats 16000000 in
theorem print_c (l : List Iz.Iso) (A : Option Addr) (c : Nat) (w : World) (hl : l.length ≤ c) (hl6 : l.length ≤ 6) (hS : ∀ x ∈ l, SmP x) (hU : ∀ x ∈ l, Iz.use x.name ≠ 0) (hT : Tab11 w.heap.size w)
    (hp : l ≠ [] → ∃ b o, A = some ⟨b, o, none⟩ ∧ b < w.heap.size ∧ ∀ (k : Nat) (x : Iz.Iso), l[k]? = some x → w.cell? ⟨b, o + k * 3, none⟩ = some (.string x.name) ∧ w.cell? ⟨b, o + k * 3 + 1, none⟩ = some (.int .i64 x.n) ∧ w.cell? ⟨b, o + k * 3 + 2, none⟩ = some (.string x.key)) :
    Calls Tryz.prog 14 #[.slice A l.length c] w fun e w' => e = .returned (.string ⟨(prL l).toArray⟩) ∧ Below w.heap.size w w' := by
  have HP := Lib.hid hp
  have HS := Lib.hid hS
  have HU := Lib.hid hU
  have HT := Lib.hid hT
  clear hp hS hU hT
  go_enter Tryz.func14, Tryz.ntmps14
  go_upto_region 2 with fail
  have hI := Lib.IsBuilderF.of (Lib.fresh_isBuilder 74 5 w)
  have hW : Below w.heap.size w (w.alloc (.cells #[.pointer none, .slice none 0 0] 74)) := (Below.refl _ _).alloc (Nat.le_refl _) _
  generalize (w.alloc (.cells #[.pointer none, .slice none 0 0] 74)) = W at *
  have HI := Lib.hid (show BdI w.heap.size [] W from hI)
  have HW := Lib.hid hW
  clear hI hW
  obtain ⟨R, hR⟩ : ∃ R, w.heap.size = R := ⟨_, rfl⟩
  rw [hR] at HI ⊢
  go_wp2_with fail
  go_loopw [8] (fun x wr => ∃ k : Nat, k ≤ l.length ∧ x = .int .i64 k ∧ BdI R (prL (l.take k)) wr ∧ Below w.heap.size w wr) (fun x _ => l.length - (intOf x).toNat)
  case atStart => exact ⟨0, Nat.zero_le _, rfl, HI.out, HW.out⟩
  case round =>
    clear HI HW
    obtain ⟨k, hk, rfl, hI, hW⟩ := hrel
    have HI := Lib.hid hI
    have HW := Lib.hid hW
    have hRl := hI.lt
    by_cases hkm : k < l.length
    · obtain ⟨b, o, rfl, hb, hcl⟩ := HP.out (by intro h; rw [h] at hkm; simp at hkm)
      obtain ⟨x, hx⟩ : ∃ x, l[k]? = some x := ⟨_, List.getElem?_eq_getElem (by omega)⟩
      have a := hcl k x hx
      have x0 := (hW.cell (p := ⟨b, o + k * 3, none⟩) hb).trans a.1
      have x1 := (hW.cell (p := ⟨b, o + k * 3 + 1, none⟩) hb).trans a.2.1
      have x2 := (hW.cell (p := ⟨b, o + k * 3 + 2, none⟩) hb).trans a.2.2
      have HSx := Lib.hid (HS.out x (List.mem_of_getElem? hx))
      have hux := HU.out x (List.mem_of_getElem? hx)
      have hTk : prL (l.take (k + 1)) = (prL (l.take k) ++ barP k) ++ (x.name.data.toList ++ prT (Iz.use x.name) x.n x.key) := prL_take hx
      have hTl := prL_len l HS.out k
      have hbl : (barP k).length ≤ 3 := by unfold barP; split <;> decide
      have hul := Iz.use_le x.name
      obtain ⟨nm, N, ky⟩ := x
      dsimp only at x0 x1 x2 hTk hux hul
      have HTK := Lib.hid hTk
      have u1 : decide ((k : Int) < (l.length : Int)) = true := decide_eq_true (by omega)
      have i1 : (k : Int) < (l.length : Int) := by omega
      have i2 : (0 : Int) ≤ (k : Int) := by omega
      have HKU := Lib.hid (fun w1 => kind_use nm w1)
      have HTX := Lib.hid (fun w1 (hb : Below w.heap.size w w1) => W2.text_any N w1 ⟨HSx.out.2.2.1, HSx.out.2.2.2⟩ (HT.out.on hb).2)
      have HQT := Lib.hid (fun w1 => rnquote_any ky w1 (by have := HSx.out.2.1; dsimp only at this; omega))
      have hnl : nm.size ≤ 100 := HSx.out.1
      have hkl : ky.size ≤ 100 := HSx.out.2.1
      have hil := Lib.itoa_length_le N HSx.out.2.2.1 HSx.out.2.2.2
      have hql := Q.quo_len ky.data.toList
      have hky : ky.data.toList.length = ky.size := rfl
      rw [hky] at hql
      try dsimp only at hil
      have hlen1 : (prL (l.take k) ++ barP k).length ≤ 7000 := by rw [List.length_append]; omega
      have HB0 := Lib.hid hI
      clear a hx hcl hW hI HSx hTk hTl hky HI HP HS HU
      have hT0 : (prL (l.take k)).length ≤ 7000 := by rw [List.length_append] at hlen1; omega
      by_cases hk0 : k = 0
      case' pos =>
        have g1 : decide ((k : Int) > 0) = false := decide_eq_false (by omega)
        have g2 : decide ((0 : Int) < (k : Int)) = false := g1
        have g3 : decide (0 < k) = false := decide_eq_false (by omega)
        have HB0 := Lib.hid (show BdI R (prL (l.take k) ++ barP k) wr by rw [show barP k = [] from if_pos hk0, List.append_nil]; exact HB0.out)
        clear hk0
        go_upto_region 5 with fail
        refine alloc_gz (fun W2 hW1 hB => ?_)
        have HX := Lib.hid hB
        have HB := Lib.hid (HB0.out.on hW1)
        have HW := Lib.hid (HW.out.trans (hW1.mono HW.out.size))
        obtain ⟨X, hXe⟩ : ∃ X, wr.heap.size = X := ⟨_, rfl⟩
        rw [hXe] at HX ⊢
        have hXR : X ≠ R := by omega
        clear hW1 hB x0 x1 x2 u1 hXe HB0
      case' neg =>
        have g1 : decide ((k : Int) > 0) = true := decide_eq_true (by omega)
        have g2 : decide ((0 : Int) < (k : Int)) = true := g1
        have g3 : decide (0 < k) = true := decide_eq_true (by omega)
        have hbar : barP k = [32, 124, 32] := if_neg hk0
        clear hk0
        go_upto_region 5 with fail
        refine alloc_gz (fun W1 hW1 hB => ?_)
        have HX := Lib.hid hB
        have HB := Lib.hid (HB0.out.on hW1)
        have HW := Lib.hid (HW.out.trans (hW1.mono HW.out.size))
        obtain ⟨X, hXe⟩ : ∃ X, wr.heap.size = X := ⟨_, rfl⟩
        rw [hXe] at HX ⊢
        have hXR : X ≠ R := by omega
        clear hW1 hB x0 x1 x2 u1 hXe HB0
        go_wp2_with fail
        refine (bdi_write R (prL (l.take k)) ⟨#[32, 124, 32]⟩ _ HB.out (by show _ + 3 ≤ _; omega)).mono ?_
        rintro e W2 ⟨rfl, hb2, hw2, hk2⟩
        have HB := Lib.hid (show BdI R (prL (l.take k) ++ barP k) W2 by rw [hbar]; exact hb2)
        have HX := Lib.hid (kept_blkI hk2 HX.out hXR (by decide))
        have HW := Lib.hid (HW.out.trans (hw2.mono (Nat.le_of_eq hR)))
        clear hb2 hw2 hk2 hbar
      all_goals
        generalize prL (l.take k) ++ barP k = T2 at *
        have c0 := HX.out.cell 0
        have c1 := HX.out.cell 1
        have c2 := HX.out.cell 2
        go_wp2_with fail
        refine (bdi_write R T2 nm _ HB.out (by omega)).mono ?_
        rintro e W3 ⟨rfl, hb3, hw3, hk3⟩
        have HB := Lib.hid hb3
        have HX := Lib.hid (kept_blkI hk3 HX.out hXR (by decide))
        have HW := Lib.hid (HW.out.trans (hw3.mono (Nat.le_of_eq hR)))
        clear hb3 hw3 hk3 c0 c1 c2
        have c0 := HX.out.cell 0
        have c1 := HX.out.cell 1
        have c2 := HX.out.cell 2
        go_wp2_with fail
        obtain ⟨uz, kf, kg, huz, hkd⟩ := HKU.out W3
        have hfld : ∀ (v : Value) (w1 : World), (Instr.field 62 (.agg #[v, kf, kg]) 0).run Tryz.prog w1 = .ok v w1 := fun v w1 => by kernel_rfl
        refine hkd.mono ?_
        rintro e W4 ⟨rfl, hb4⟩
        have HB := Lib.hid (HB.out.on hb4)
        have HX := Lib.hid (HX.out.onto hb4)
        have HW := Lib.hid (HW.out.trans (hb4.mono HW.out.size))
        clear hb4 hkd c0 c1 c2
        have c0 := HX.out.cell 0
        have c1 := HX.out.cell 1
        have c2 := HX.out.cell 2
        generalize Iz.use nm = u at *
        rcases (by omega : u = 1 ∨ u = 2 ∨ u = 3 ∨ u = 4) with h | h | h | h
        case' inl =>
          obtain rfl : uz = 1 := by omega
          have HPT := Lib.hid (prT_no h N ky)
          clear h huz hux hul
          go_wp2_with fail
          have HB5 := Lib.hid (bd_eq (m := prL (l.take (k + 1))) HB.out (by rw [HTK.out, HPT.out, List.append_nil]))
          have HW5 := HW
          go_roundw
          case rel => exact ⟨k + 1, by omega, by go_num, HB5.out, HW5.out⟩
          case measure => simp [intOf]; omega
        case' inr.inl =>
          obtain rfl : uz = 2 := by omega
          have HPT := Lib.hid (prT_num (.inl h) N ky)
          clear h huz hux hul
        case' inr.inr.inl =>
          obtain rfl : uz = 3 := by omega
          have HPT := Lib.hid (prT_num (.inr h) N ky)
          clear h huz hux hul
        case' inr.inr.inr =>
          obtain rfl : uz = 4 := by omega
          have HPT := Lib.hid (prT_key h N ky)
          clear h huz hux hul
          go_wp2_with fail
          refine (HQT.out _).mono ?_
          obtain ⟨Z, hZ⟩ : ∃ Z, mkB (Q.quo ky.data.toList) = Z := ⟨_, rfl⟩
          have hZs : Z.size ≤ 700 := by rw [← hZ]; show (Q.quo ky.data.toList).length ≤ 700; omega
          have HZP := Lib.hid (show ((⟨#[32]⟩ : ByteArray) ++ Z).data.toList = 32 :: Q.quo ky.data.toList by rw [← hZ]; exact sp_mk _)
          rw [hZ]
          clear hZ
          rintro e W5 ⟨rfl, hb5⟩
          have zb1 : ¬ (9223372036854775807 < 1 + Z.size) := by omega
          have zb2 : ¬ ((9223372036854775807 : Int) < 1 + (Z.size : Int)) := by omega
          have zb3 : ¬ ((9223372036854775807 : Int) < ((1 + Z.size : Nat) : Int)) := by omega
          have zb4 : ¬ (9223372036854775807 < ((⟨#[32]⟩ : ByteArray) ++ Z).size) := by rw [sp_size]; omega
          have HB := Lib.hid (HB.out.on hb5)
          have HX := Lib.hid (HX.out.onto hb5)
          have HW := Lib.hid (HW.out.trans (hb5.mono HW.out.size))
          clear hb5 c0 c1 c2
          go_wp2_with fail
          refine (bdi_write R (T2 ++ nm.data.toList) ((⟨#[32]⟩ : ByteArray) ++ Z) _ HB.out (by rw [sp_size, List.length_append]; have h9 : nm.data.toList.length = nm.size := rfl; omega)).mono ?_
          rintro e W6 ⟨rfl, hb6, hw6, hk6⟩
          have HB5 := Lib.hid (show BdI R (prL (l.take (k + 1))) W6 from bd_eq hb6 (by rw [HTK.out, HPT.out, HZP.out, List.append_assoc]))
          have HW5 := Lib.hid (HW.out.trans (hw6.mono (Nat.le_of_eq hR)))
          clear hb6 hw6 hk6
          go_wp2_with fail
          go_roundw
          case rel => exact ⟨k + 1, by omega, by go_num, HB5.out, HW5.out⟩
          case measure => simp [intOf]; omega
        all_goals
          go_wp2_with fail
          refine (HTX.out _ HW.out).mono ?_
          obtain ⟨Z, hZ⟩ : ∃ Z : ByteArray, (⟨(Lib.itoa N).toArray⟩ : ByteArray) = Z := ⟨_, rfl⟩
          have hZs : Z.size ≤ 700 := by rw [← hZ]; show (Lib.itoa N).length ≤ 700; omega
          have HZP := Lib.hid (show ((⟨#[32]⟩ : ByteArray) ++ Z).data.toList = 32 :: Lib.itoa N by rw [← hZ]; exact sp_data _)
          rw [hZ]
          clear hZ
          rintro e W5 ⟨rfl, hb5⟩
          have zb1 : ¬ (9223372036854775807 < 1 + Z.size) := by omega
          have zb2 : ¬ ((9223372036854775807 : Int) < 1 + (Z.size : Int)) := by omega
          have zb3 : ¬ ((9223372036854775807 : Int) < ((1 + Z.size : Nat) : Int)) := by omega
          have zb4 : ¬ (9223372036854775807 < ((⟨#[32]⟩ : ByteArray) ++ Z).size) := by rw [sp_size]; omega
          have HB := Lib.hid (HB.out.on hb5)
          have HX := Lib.hid (HX.out.onto hb5)
          have HW := Lib.hid (HW.out.trans (hb5.mono HW.out.size))
          clear hb5 c0 c1 c2
          go_wp2_with fail
          refine (bdi_write R (T2 ++ nm.data.toList) ((⟨#[32]⟩ : ByteArray) ++ Z) _ HB.out (by rw [sp_size, List.length_append]; have h9 : nm.data.toList.length = nm.size := rfl; omega)).mono ?_
          rintro e W6 ⟨rfl, hb6, hw6, hk6⟩
          have HB5 := Lib.hid (show BdI R (prL (l.take (k + 1))) W6 from bd_eq hb6 (by rw [HTK.out, HPT.out, HZP.out, List.append_assoc]))
          have HW5 := Lib.hid (HW.out.trans (hw6.mono (Nat.le_of_eq hR)))
          clear hb6 hw6 hk6
          go_wp2_with fail
          go_roundw
          case rel => exact ⟨k + 1, by omega, by go_num, HB5.out, HW5.out⟩
          case measure => simp [intOf]; omega
    · obtain rfl : k = l.length := by omega
      rw [List.take_length] at HI
      clear hW hI
      go_wp2_with fail
      refine (Tryz.Builder_String_any_k R R (prL l) _ HI.out (Nat.le_of_lt hRl)).mono ?_
      rintro e w2 ⟨rfl, _, hb2, _⟩
      have H2 := Lib.hid (HW.out.trans (hb2.mono (Nat.le_of_eq hR)))
      clear hb2
      go_wp2_with fail
      go_ret
      exact ⟨rfl, H2.out⟩
end Go.Proofs.YtfiahpeajccinaaGreatDoor
namespace Go.Proofs.YtfiahpeajccinaaGreatDoor
open Go.RowKit
open Tk Ex
set_option linter.unusedVariables false
set_option linter.unusedSimpArgs false

theorem sm_ofI {z : Int} (h : Tk.In64 z) : W2.Sm 100 z := by
  obtain ⟨h0, h1⟩ := h
  unfold W2.Sm
  have h2 : (10000 : Nat) ^ 5 ≤ 10000 ^ 100 := Nat.pow_le_pow_right (by decide) (by decide)
  have h3 : (10000 : Nat) ^ 5 = 100000000000000000000 := by decide
  omega
theorem cat_data (a b : ByteArray) : (a ++ b).data.toList = a.data.toList ++ b.data.toList := by rw [ByteArray.data_append, Array.toList_append]
theorem ba_lit11 {a : ByteArray} {l : List UInt8} (h : a.data.toList = l) : a = ⟨l.toArray⟩ := by
  rw [← h]
theorem cat_s (a b : ByteArray) : (a ++ b).size = a.size + b.size := ByteArray.size_append
set_option maxRecDepth 100000 in
set_option maxHeartbeats 16000000 in
theorem rprint_c (l : List Iz.Iso) (b o c : Nat) (w : World) (hl : l.length ≤ c) (hl6 : l.length ≤ 6) (hb : b < w.heap.size) (hS : ∀ x ∈ l, SmP x) (hU : ∀ x ∈ l, Iz.use x.name ≠ 0)
    (hp : ∀ (k : Nat) (x : Iz.Iso), l[k]? = some x → w.cell? ⟨b, o + k * 3, none⟩ = some (.string x.name) ∧ w.cell? ⟨b, o + k * 3 + 1, none⟩ = some (.int .i64 x.n) ∧ w.cell? ⟨b, o + k * 3 + 2, none⟩ = some (.string x.key)) :
    Calls Tryz.prog 16 #[.slice (some ⟨b, o, none⟩) l.length c] w fun e w' => e = .returned (.string ⟨(prL l).toArray⟩) ∧ Below w.heap.size w w' := by
  have HP := Lib.hid hp
  have HS := Lib.hid hS
  have HU := Lib.hid hU
  clear hp hS hU
  go_enter Tryz.func16, Tryz.ntmps16
  go_wp2_with fail
  go_loopw [3, 7] (fun v x wr => ∃ (k : Nat) (S : ByteArray), k ≤ l.length ∧ x = .int .i64 k ∧ v = .string S ∧ S.data.toList = prL (l.take k) ∧ Below w.heap.size w wr) (fun _ x _ => l.length - (intOf x).toNat)
  case atStart => exact ⟨0, ⟨#[]⟩, Nat.zero_le _, rfl, rfl, rfl, Below.refl _ _⟩
  case round =>
    obtain ⟨k, S, hk, rfl, rfl, hSd, hW⟩ := hrel
    have HW := Lib.hid hW
    by_cases hkm : k < l.length
    · obtain ⟨x, hx⟩ : ∃ x, l[k]? = some x := ⟨_, List.getElem?_eq_getElem (by omega)⟩
      have a := HP.out k x hx
      have x0 := (hW.cell (p := ⟨b, o + k * 3, none⟩) hb).trans a.1
      have x1 := (hW.cell (p := ⟨b, o + k * 3 + 1, none⟩) hb).trans a.2.1
      have x2 := (hW.cell (p := ⟨b, o + k * 3 + 2, none⟩) hb).trans a.2.2
      have HSx := Lib.hid (HS.out x (List.mem_of_getElem? hx))
      have hux := HU.out x (List.mem_of_getElem? hx)
      have hTk : prL (l.take (k + 1)) = (prL (l.take k) ++ barP k) ++ (x.name.data.toList ++ prT (Iz.use x.name) x.n x.key) := prL_take hx
      have hTl := prL_len l HS.out k
      have hbl : (barP k).length ≤ 3 := by unfold barP; split <;> decide
      have hul := Iz.use_le x.name
      obtain ⟨nm, N, ky⟩ := x
      dsimp only at x0 x1 x2 hTk hux hul
      have hSs : S.size ≤ 7000 := by
        have : S.data.toList.length = S.size := rfl
        rw [hSd] at this
        omega
      have HTK := Lib.hid hTk
      have HSD := Lib.hid hSd
      have u1 : decide ((k : Int) < (l.length : Int)) = true := decide_eq_true (by omega)
      have u2 : decide (k < l.length) = true := decide_eq_true (by omega)
      have i1 : (k : Int) < (l.length : Int) := by omega
      have i2 : (0 : Int) ≤ (k : Int) := by omega
      have HRU := Lib.hid (fun w1 => ruses_any nm w1)
      have HOF := Lib.hid (fun w1 => W2.of_any N w1 ⟨HSx.out.2.2.1, HSx.out.2.2.2⟩)
      have HSM := Lib.hid (sm_ofI HSx.out.2.2)
      have HQT := Lib.hid (fun w1 => rquote_any ky w1 (by have := HSx.out.2.1; dsimp only at this; omega))
      have hnl : nm.size ≤ 100 := HSx.out.1
      have hkl : ky.size ≤ 100 := HSx.out.2.1
      have hil := Lib.itoa_length_le N HSx.out.2.2.1 HSx.out.2.2.2
      have hql := Q.quo_len ky.data.toList
      have hky : ky.data.toList.length = ky.size := rfl
      rw [hky] at hql
      try dsimp only at hil
      have HX := Lib.hid (fun w1 (hb1 : Below w.heap.size w w1) => (⟨(hb1.cell (p := ⟨b, o + k * 3, none⟩) hb).trans a.1, (hb1.cell (p := ⟨b, o + k * 3 + 1, none⟩) hb).trans a.2.1, (hb1.cell (p := ⟨b, o + k * 3 + 2, none⟩) hb).trans a.2.2⟩ : w1.cell? ⟨b, o + k * 3, none⟩ = some (.string nm) ∧ w1.cell? ⟨b, o + k * 3 + 1, none⟩ = some (.int .i64 N) ∧ w1.cell? ⟨b, o + k * 3 + 2, none⟩ = some (.string ky)))
      clear a hx hW HSx hTk hTl hky HP HS HU hSd hbl
      have s0a : ¬ (9223372036854775807 < S.size + 3) := by omega
      have s0b : ¬ ((9223372036854775807 : Int) < (S.size : Int) + 3) := by omega
      have se0 : ¬ (9223372036854775807 < (S ++ (⟨#[32, 124, 32]⟩ : ByteArray)).size) := by rw [cat_s]; show ¬ (9223372036854775807 < S.size + 3); omega
      by_cases hk0 : k = 0
      case' pos =>
        have g1 : decide ((k : Int) > 0) = false := decide_eq_false (by omega)
        have g2 : decide ((0 : Int) < (k : Int)) = false := g1
        have g3 : decide (0 < k) = false := decide_eq_false (by omega)
        have HS1 := Lib.hid (show S.data.toList = prL (l.take k) ++ barP k by rw [show barP k = [] from if_pos hk0, List.append_nil]; exact HSD.out)
        have hs1 : S.size ≤ 7003 := by omega
        clear hk0
        go_upto_region 7 with fail
        generalize S = S1 at *
      case' neg =>
        have g1 : decide ((k : Int) > 0) = true := decide_eq_true (by omega)
        have g2 : decide ((0 : Int) < (k : Int)) = true := g1
        have g3 : decide (0 < k) = true := decide_eq_true (by omega)
        have HS1 := Lib.hid (show (S ++ (⟨#[32, 124, 32]⟩ : ByteArray)).data.toList = prL (l.take k) ++ barP k by rw [cat_data, HSD.out, show barP k = [32, 124, 32] from if_neg hk0])
        have hs1 : (S ++ (⟨#[32, 124, 32]⟩ : ByteArray)).size ≤ 7003 := by rw [cat_s]; show S.size + 3 ≤ _; omega
        clear hk0
        go_upto_region 7 with fail
        clear s0a s0b se0
        generalize (S ++ (⟨#[32, 124, 32]⟩ : ByteArray)) = S1 at *
      all_goals
        clear u1 u2 g1 g2 g3
        have t0a : ¬ (9223372036854775807 < S1.size + nm.size) := by omega
        have t0b : ¬ ((9223372036854775807 : Int) < (S1.size : Int) + (nm.size : Int)) := by omega
        have te0 : ¬ (9223372036854775807 < (S1 ++ nm).size) := by rw [cat_s]; omega
        have HS2 := Lib.hid (show (S1 ++ nm).data.toList = (prL (l.take k) ++ barP k) ++ nm.data.toList by rw [cat_data, HS1.out])
        have hs2 : (S1 ++ nm).size ≤ 7103 := by rw [cat_s]; omega
        go_upto_region 8 with fail
        clear t0a t0b te0
        generalize S1 ++ nm = S2 at *
        go_wp2_with fail
        refine (HRU.out _).mono ?_
        rintro e W4 ⟨rfl, rfl⟩
        generalize Iz.use nm = u at *
        rcases (by omega : u = 1 ∨ u = 2 ∨ u = 3 ∨ u = 4) with h | h | h | h
        case' inl =>
          have HPT := Lib.hid (prT_no h N ky)
          rw [h, show usesI 1 = 0 from rfl]
          clear h hux hul
          go_wp2_with fail
          have HB5 := Lib.hid (show S2.data.toList = prL (l.take (k + 1)) by rw [HTK.out, HPT.out, List.append_nil]; exact HS2.out)
          go_roundw
          case rel => exact ⟨k + 1, S2, by omega, by go_num, rfl, HB5.out, HW.out⟩
          case measure => simp [intOf]; omega
        case' inr.inl =>
          have HPT := Lib.hid (prT_num (.inl h) N ky)
          rw [h, show usesI 2 = 1 from rfl]
        case' inr.inr.inl =>
          have HPT := Lib.hid (prT_num (.inr h) N ky)
          rw [h, show usesI 3 = 1 from rfl]
        case' inr.inr.inr =>
          have HPT := Lib.hid (prT_key h N ky)
          rw [h, show usesI 4 = 2 from rfl]
          clear h hux hul
          obtain ⟨Z, hZ⟩ : ∃ Z, mkB (Q.quo ky.data.toList) = Z := ⟨_, rfl⟩
          have hZs : Z.size ≤ 700 := by rw [← hZ]; show (Q.quo ky.data.toList).length ≤ 700; omega
          have HZP := Lib.hid (show (S2 ++ (⟨#[32]⟩ : ByteArray) ++ Z).data.toList = S2.data.toList ++ (32 :: Q.quo ky.data.toList) by rw [← hZ, cat_data, cat_data, List.append_assoc]; rfl)
          rw [hZ] at HQT
          clear hZ
          have hsp : (S2 ++ (⟨#[32]⟩ : ByteArray)).size = S2.size + 1 := cat_s _ _
          have q0a : ¬ (9223372036854775807 < S2.size + 1) := by omega
          have q0b : ¬ ((9223372036854775807 : Int) < (S2.size : Int) + 1) := by omega
          have q1a : ¬ (9223372036854775807 < S2.size + 1 + Z.size) := by omega
          have q1b : ¬ ((9223372036854775807 : Int) < (S2.size : Int) + 1 + (Z.size : Int)) := by omega
          have q2a : ¬ (9223372036854775807 < (S2 ++ (⟨#[32]⟩ : ByteArray)).size + Z.size) := by omega
          have q2b : ¬ ((9223372036854775807 : Int) < ((S2 ++ (⟨#[32]⟩ : ByteArray)).size : Int) + (Z.size : Int)) := by omega
          have qe0 : ¬ (9223372036854775807 < (S2 ++ (⟨#[32]⟩ : ByteArray)).size) := by omega
          have qe1 : ¬ (9223372036854775807 < (S2 ++ (⟨#[32]⟩ : ByteArray) ++ Z).size) := by rw [cat_s]; omega
          clear hsp
          have HB5 := Lib.hid (show (S2 ++ (⟨#[32]⟩ : ByteArray) ++ Z).data.toList = prL (l.take (k + 1)) by rw [HZP.out, HTK.out, HPT.out, HS2.out, List.append_assoc])
          go_wp2_with fail
          refine (HQT.out _).mono ?_
          rintro e W5 ⟨rfl, hb5⟩
          have HW5 := Lib.hid (HW.out.trans (hb5.mono HW.out.size))
          clear hb5
          go_wp2_with fail
          go_roundw
          case rel => exact ⟨k + 1, _, by omega, by go_num, rfl, HB5.out, HW5.out⟩
          case measure => simp [intOf]; omega
        all_goals
          clear h hux hul
          obtain ⟨Z, hZ⟩ : ∃ Z : ByteArray, (⟨(Lib.itoa N).toArray⟩ : ByteArray) = Z := ⟨_, rfl⟩
          have hZs : Z.size ≤ 700 := by rw [← hZ]; show (Lib.itoa N).length ≤ 700; omega
          have HZP := Lib.hid (show (S2 ++ (⟨#[32]⟩ : ByteArray) ++ Z).data.toList = S2.data.toList ++ (32 :: Lib.itoa N) by rw [← hZ, cat_data, cat_data, List.append_assoc]; rfl)
          have HZ := Lib.hid hZ
          clear hZ
          have hsp : (S2 ++ (⟨#[32]⟩ : ByteArray)).size = S2.size + 1 := cat_s _ _
          have q0a : ¬ (9223372036854775807 < S2.size + 1) := by omega
          have q0b : ¬ ((9223372036854775807 : Int) < (S2.size : Int) + 1) := by omega
          have q1a : ¬ (9223372036854775807 < S2.size + 1 + Z.size) := by omega
          have q1b : ¬ ((9223372036854775807 : Int) < (S2.size : Int) + 1 + (Z.size : Int)) := by omega
          have q2a : ¬ (9223372036854775807 < (S2 ++ (⟨#[32]⟩ : ByteArray)).size + Z.size) := by omega
          have q2b : ¬ ((9223372036854775807 : Int) < ((S2 ++ (⟨#[32]⟩ : ByteArray)).size : Int) + (Z.size : Int)) := by omega
          have qe0 : ¬ (9223372036854775807 < (S2 ++ (⟨#[32]⟩ : ByteArray)).size) := by omega
          have qe1 : ¬ (9223372036854775807 < (S2 ++ (⟨#[32]⟩ : ByteArray) ++ Z).size) := by rw [cat_s]; omega
          clear hsp
          have HB5 := Lib.hid (show (S2 ++ (⟨#[32]⟩ : ByteArray) ++ Z).data.toList = prL (l.take (k + 1)) by rw [HZP.out, HTK.out, HPT.out, HS2.out, List.append_assoc])
          go_wp2_with fail
          refine (HOF.out _).mono ?_
          rintro e W5 ⟨nv, rfl, hnz, hb5⟩
          have HNZ := Lib.hid hnz
          have HW5 := Lib.hid (HW.out.trans (hb5.mono HW.out.size))
          clear hb5 hnz
          go_wp2_with fail
          refine (W2.rtext_any nv N _ HNZ.out HSM.out).mono ?_
          rw [HZ.out]
          rintro e W6 ⟨rfl, hb6⟩
          have HW6 := Lib.hid (HW5.out.trans (hb6.mono HW5.out.size))
          clear hb6
          go_wp2_with fail
          go_roundw
          case rel => exact ⟨k + 1, _, by omega, by go_num, rfl, HB5.out, HW6.out⟩
          case measure => simp [intOf]; omega
    · obtain rfl : k = l.length := by omega
      rw [List.take_length] at hSd
      have HE := Lib.hid (ba_lit11 hSd)
      clear hW hSd
      go_wp2_with fail
      go_ret
      exact ⟨congrArg (fun t : ByteArray => Ending.returned (.string t)) HE.out, HW.out⟩
end Go.Proofs.YtfiahpeajccinaaGreatDoor
