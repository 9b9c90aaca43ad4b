/- Rows of isos by numbers: the document's, and the program's. Isos of the document, as the program's. Isos' text, by the program. Isos by numbers may be printed; a row of none. -/
import Derived.Test.YtfiahpeajccinaaGreatDoorQL
import Derived.Test.YtfiahpeajccinaaGreatDoorQH
import Derived.Test.YtfiahpeajccinaaGreatDoorPJ
import Derived.Test.YtfiahpeajccinaaGreatDoorQI
import Derived.Test.YtfiahpeajccinaaGreatDoorPG
import Derived.Test.YtfiahpeajccinaaGreatDoorPF
import Derived.Lib.ItoaLen
import Derived.Lib.OthersKept
namespace Go.Proofs.YtfiahpeajccinaaGreatDoor
open Go.RowKit
open Tk Ex
set_option linter.unusedVariables false
set_option linter.unusedSimpArgs false

noncomputable def ofPk (x : Pk) : Iz.Iso := ofI ((ofName[x.a % 11]?).getD nix) x.n x.k
theorem ofPk_of {x : Pk} {s : ByteArray} (h : ofName[x.a % 11]? = some s) : ofPk x = ofI s x.n x.k := by unfold ofPk; rw [h]; rfl
theorem ofPk_any (x : Pk) (w : World) (ha : x.a ≤ 255) :
    Calls Tryz.prog 7 #[.agg #[.int .u8 (x.a : Nat), .int .i64 x.n, .string x.k]] w fun e w' => e = .returned (.agg #[.string (ofPk x).name, .int .i64 (ofPk x).n, .string (ofPk x).key]) ∧ Below w.heap.size w w' := by
  obtain ⟨s, hs, h⟩ := of_iz x.a x.n x.k w ha
  rw [ofPk_of hs, ofI_name]
  exact h
set_option maxRecDepth 100000 in
set_option maxHeartbeats 8000000 in
theorem llist_c (l : List Pk) (b o c m : Nat) (w : World) (hm : m = min l.length 6) (hl : l.length ≤ c) (hc : c ≤ maxLen) (hb : b < w.heap.size) (hin : ∀ y ∈ l, y.a ≤ 255 ∧ -9223372036854775808 ≤ y.n ∧ y.n ≤ 9223372036854775807)
    (hp : ∀ (i : Nat) (x : Pk), l[i]? = some x → w.cell? ⟨b, o + i * 3, none⟩ = some (.int .u8 (x.a : Nat)) ∧ w.cell? ⟨b, o + i * 3 + 1, none⟩ = some (.int .i64 x.n) ∧ w.cell? ⟨b, o + i * 3 + 2, none⟩ = some (.string x.k)) :
    Calls Tryz.prog 13 #[.slice (some ⟨b, o, none⟩) l.length c] w fun e w' => ∃ v, e = .returned v ∧ RowI w' w.heap.size v ((l.take m).map ofPk) ∧ Below w.heap.size w w' := by
  have HP := Lib.hid hp
  have HIN := Lib.hid hin
  have hmn : min (l.length : Int) 6 = (m : Int) := by rw [hm]; omega
  have hm1 : m ≤ l.length := by omega
  have hm2 : m ≤ 6 := by omega
  have hmc : m ≤ c := by omega
  have HM := Lib.hid hm
  have hcm : c ≤ 9223372036854775807 := by unfold maxLen at hc; omega
  clear hp hin hm
  have j1 : (0 : Int) ≤ (m : Int) := by omega
  have j2 : (m : Int) ≤ (c : Int) := by omega
  go_enter Tryz.func13, Tryz.ntmps13
  go_wp2_with fail
  go_loopw [3, 12] (fun v i wr => ∃ k : Nat, k ≤ m ∧ i = .int .i64 k ∧ RowI wr w.heap.size v ((l.take k).map ofPk) ∧ Below w.heap.size w wr) (fun _ i _ => m - (intOf i).toNat)
  case atStart => exact ⟨0, Nat.zero_le _, rfl, ⟨rfl, .inl ⟨rfl, rfl⟩⟩, Below.refl _ _⟩
  case round =>
    obtain ⟨k, hk, rfl, hrow, hW⟩ := hrel
    have HROW := Lib.hid hrow
    obtain ⟨A, rc, hv, hrc⟩ := hrow.shape
    have hlen : ((l.take k).map ofPk).length = k := by simp; omega
    rw [hlen] at hv hrc
    subst hv
    have HW := Lib.hid hW
    have hsz := hW.size
    by_cases hkm : k < m
    · obtain ⟨x, hx⟩ : ∃ x, l[k]? = some x := ⟨_, List.getElem?_eq_getElem (by omega)⟩
      have a := HP.out k x hx
      have x0 := (hW.cell (p := ⟨b, o + k * 3, none⟩) hb).trans a.1
      have x1 := (hW.cell (p := ⟨b, o + k * 3 + 1, none⟩) hb).trans a.2.1
      have x2 := (hW.cell (p := ⟨b, o + k * 3 + 2, none⟩) hb).trans a.2.2
      have HXI := Lib.hid (HIN.out x (List.mem_of_getElem? hx))
      obtain ⟨pa, pn, pk⟩ := x
      dsimp only at x0 x1 x2
      have u1 : decide ((k : Int) < (m : Int)) = true := decide_eq_true (by omega)
      have i1 : (k : Int) < (m : Int) := by omega
      have i2 : (0 : Int) ≤ (k : Int) := by omega
      have HX := Lib.hid hx
      clear a hx hW hrow
      have HOF := Lib.hid (fun w1 => ofPk_any ⟨pa, pn, pk⟩ w1 HXI.out.1)
      dsimp only at HOF
      go_upto_region 5 with fail
      refine alloc_gz (fun W1 hW1 hB => ?_)
      have HW1 := Lib.hid (HW.out.trans (hW1.mono hsz))
      have HROW1 := Lib.hid (HROW.out.below hW1)
      have c0 := hB.cell 0
      have c1 := hB.cell 1
      have c2 := hB.cell 2
      clear hW1 hB x0 x1 x2 u1
      go_wp2_with fail
      refine (HOF.out _).mono ?_
      rintro e w2 ⟨rfl, hb⟩
      have HW2 := Lib.hid (HW1.out.trans (hb.mono HW1.out.size))
      have HROW2 := Lib.hid (HROW1.out.below hb)
      have hsz2 := HW2.out.size
      have htk : (l.take (k + 1)).map ofPk = (l.take k).map ofPk ++ [ofPk ⟨pa, pn, pk⟩] := by
        rw [List.take_add_one, HX.out]; simp
      have HTK := Lib.hid htk
      clear hb c0 c1 c2 htk
      generalize ofPk ⟨pa, pn, pk⟩ = y at *
      go_wp2_with (at_builtin; refine app_i rfl (.tmp 16) (.tmp 19) rfl w.heap.size _ _ y w2.heap.size rfl rfl (Blk.new _ _ _) (HROW2.out.below ((Below.refl _ _).alloc (Nat.le_refl _) _)) (by omega) (by simp; omega) ?_; intro v7 w7 hrow7 hb7 hg7 ho7; have HROW7 := Lib.hid hrow7; have HW7 := Lib.hid (hb7 w (HW2.out.alloc hsz2 _)); clear hrow7 hb7 hg7 ho7)
      go_roundw
      case rel => exact ⟨k + 1, by omega, by go_num, by rw [HTK.out]; exact HROW7.out, HW7.out⟩
      case measure => simp [intOf]; omega
    · obtain rfl : k = m := by omega
      clear hW hrow
      go_wp2_with fail
      go_ret
      exact ⟨_, rfl, HROW.out, HW.out⟩
end Go.Proofs.YtfiahpeajccinaaGreatDoor
namespace Go.Proofs.YtfiahpeajccinaaGreatDoor
open Go.RowKit
open Tk Ex
set_option linter.unusedVariables false
set_option linter.unusedSimpArgs false

theorem RowZ.lt {w : World} {base : Nat} {v : Value} {l : List Iz.Iso} (h : RowZ w base v l) (k : Nat) (hk : v.ownBlock = some k) : base ≤ k ∧ k < w.heap.size := World.ownsRow.lt h k hk
theorem RowZ.onto {w w' : World} {base : Nat} {v : Value} {l : List Iz.Iso} (h : RowZ w base v l) (hb : Below w.heap.size w w') : RowZ w' base v l :=
  World.ownsRow.kept h (row := none) ⟨hb.os, hb.tape, hb.output, hb.size, fun k hk hn => hb.block k hk⟩ (by
    cases hv : v.ownBlock with
    | none => exact .inl rfl
    | some k => exact .inr (by simp))
theorem RowZ.shape3 {w : World} {base : Nat} {v : Value} {l : List Iz.Iso} (h : RowZ w base v l) : ∃ A c, v = .slice A l.length c ∧ l.length ≤ c := by
  rcases h.2 with ⟨rfl, h0⟩ | ⟨g, cap, cur, rfl, hb, hh, hle, hm, hs, ht⟩
  · exact ⟨none, 0, by rw [h0], by omega⟩
  · exact ⟨_, _, rfl, hle⟩
set_option maxRecDepth 100000 in
set_option maxHeartbeats 8000000 in
theorem lreal_c (l : List Iz.Iso) (b o c : Nat) (w : World) (hl : l.length ≤ c) (hl6 : l.length ≤ 6) (hb : b < w.heap.size)
    (hp : ∀ (k : Nat) (x : Iz.Iso), l[k]? = some x → w.cell? ⟨b, o + k * 3, none⟩ = some (.string x.name) ∧ w.cell? ⟨b, o + k * 3 + 1, none⟩ = some (.int .i64 x.n) ∧ w.cell? ⟨b, o + k * 3 + 2, none⟩ = some (.string x.key)) :
    Calls Tryz.prog 15 #[.slice (some ⟨b, o, none⟩) l.length c] w fun e w' => ∃ v, e = .returned v ∧ RowZ w' w.heap.size v l ∧ Below w.heap.size w w' := by
  have HP := Lib.hid hp
  clear hp
  go_enter Tryz.func15, Tryz.ntmps15
  go_wp2_with fail
  go_loopw [3, 8] (fun v i wr => ∃ k : Nat, k ≤ l.length ∧ i = .int .i64 k ∧ RowZ wr w.heap.size v (l.take k) ∧ Below w.heap.size w wr) (fun _ i _ => l.length - (intOf i).toNat)
  case atStart => exact ⟨0, Nat.zero_le _, rfl, ⟨rfl, .inl ⟨rfl, rfl⟩⟩, Below.refl _ _⟩
  case round =>
    obtain ⟨k, hk, rfl, hrow, hW⟩ := hrel
    have HROW := Lib.hid hrow
    obtain ⟨A, rc, hv, hrc⟩ := hrow.shape3
    have hlen : (l.take k).length = k := by rw [List.length_take]; omega
    rw [hlen] at hv hrc
    subst hv
    have HW := Lib.hid hW
    have hsz := hW.size
    by_cases hkm : k < l.length
    · obtain ⟨x, hx⟩ : ∃ x, l[k]? = some x := ⟨_, List.getElem?_eq_getElem (by omega)⟩
      have a := HP.out k x hx
      have x0 := (hW.cell (p := ⟨b, o + k * 3, none⟩) hb).trans a.1
      have x1 := (hW.cell (p := ⟨b, o + k * 3 + 1, none⟩) hb).trans a.2.1
      have x2 := (hW.cell (p := ⟨b, o + k * 3 + 2, none⟩) hb).trans a.2.2
      have u1 : decide ((k : Int) < (l.length : Int)) = true := decide_eq_true (by omega)
      have i1 : (k : Int) < (l.length : Int) := by omega
      have i2 : (0 : Int) ≤ (k : Int) := by omega
      have HTK := Lib.hid (show l.take (k + 1) = l.take k ++ [x] from by rw [List.take_add_one, hx]; simp)
      clear a hx hW hrow
      go_upto_region 5 with fail
      refine alloc_gz (fun W1 hW1 hB => ?_)
      have HW1 := Lib.hid (HW.out.trans (hW1.mono hsz))
      have HROW1 := Lib.hid (HROW.out.onto hW1)
      have c0 := hB.cell 0
      have c1 := hB.cell 1
      have c2 := hB.cell 2
      have hsz1 := HW1.out.size
      clear hW1 hB x0 x1 x2 u1
      go_wp2_with (at_builtin; refine app_z rfl (.tmp 12) (.tmp 20) rfl w.heap.size _ _ x rfl rfl HROW1.out (by omega) (by omega) ?_; intro v7 w7 hrow7 hb7 hg7 ho7; have HROW7 := Lib.hid hrow7; have HW7 := Lib.hid (hb7 w HW1.out); clear hrow7 hb7 hg7 ho7)
      go_roundw
      case rel => exact ⟨k + 1, by omega, by go_num, by rw [HTK.out]; exact HROW7.out, HW7.out⟩
      case measure => simp [intOf]; omega
    · obtain rfl : k = l.length := by omega
      rw [List.take_length] at HROW
      clear hW hrow
      go_wp2_with fail
      go_ret
      exact ⟨_, rfl, HROW.out, HW.out⟩
theorem lreal_any (l : List Iz.Iso) (A : Option Addr) (c b1 : Nat) (w : World) (h6 : l.length ≤ 6) (hne : l ≠ []) (h : RowI w b1 (.slice A l.length c) l) :
    Calls Tryz.prog 15 #[.slice A l.length c] w fun e w' => ∃ v, e = .returned v ∧ RowZ w' w.heap.size v l ∧ Below w.heap.size w w' := by
  obtain ⟨g, c1, e1, hg, hl, hc⟩ := h.cells hne
  injection e1 with e1 _ e3
  subst e1 e3
  exact lreal_c l g 0 c w hl h6 hg hc
end Go.Proofs.YtfiahpeajccinaaGreatDoor
namespace Go.Proofs.YtfiahpeajccinaaGreatDoor
open Go.RowKit
open Tk Ex
set_option linter.unusedVariables false
set_option linter.unusedSimpArgs false

/-- a builder at b holds l -/
def BdI (b : Nat) (l : List UInt8) (w : World) : Prop := Lib.IsBuilderF 74 5 b b (Lib.byteCells l) w
theorem BdI.lt {b : Nat} {l : List UInt8} {w : World} (h : BdI b l w) : b < w.heap.size := by
  rcases h with ⟨_, v, hv, _⟩ | ⟨_, v, hv, _⟩ <;> exact (Array.getElem?_eq_some_iff.1 hv).1
theorem bld_keepI {T e : TypeId} {B b : Nat} {l : List Value} {W W' : World} (h : Lib.IsBuilderF T e B b l W) (hb : Below W.heap.size W W') : Lib.IsBuilderF T e B b l W' := by
  have go : ∀ p, Lib.BuilderAtF T e B b p l W → Lib.BuilderAtF T e B b p l W' := by
    rintro p ⟨h0, v, hv, ho, hn⟩
    have hlt : b < W.heap.size := (Array.getElem?_eq_some_iff.1 hv).1
    refine ⟨h0, v, (hb.block b hlt).trans hv, ?_, hn⟩
    exact World.ownsRowF.kept ho (row := none) ⟨hb.os, hb.tape, hb.output, hb.size, fun k hk _ => hb.block k hk⟩ (Classical.em _)
  exact h.imp (go _) (go _)
theorem BdI.on {b : Nat} {l : List UInt8} {w w' : World} (h : BdI b l w) (hb : Below w.heap.size w w') : BdI b l w' := bld_keepI h hb
theorem kept_blkI {b g : Nat} {t : TypeId} {cs : Array Value} {u v : World} (h : Lib.OthersKept 5 (some b) u v) (hb : Blk u g t cs) (hg : g ≠ b) (ht : t ≠ 5) : Blk v g t cs :=
  h g _ hb (by simpa using hg) (fun c fz e => by injection e with _ e _; exact ht e)
theorem bdi_write (b : Nat) (l : List UInt8) (s : ByteArray) (w : World) (h : BdI b l w) (hlen : l.length + s.size ≤ 900000) :
    Calls Tryz.prog 28 #[.pointer (some ⟨b, 0, none⟩), .string s] w fun e w' => e = .returned (.tuple #[.int .i64 s.size, .nilIface]) ∧ BdI b (l ++ s.data.toList) w' ∧ Below b w w' ∧ Lib.OthersKept 5 (some b) w w' := by
  refine (Tryz.Builder_WriteString_k b b _ s w h (by rw [Lib.byteCells_length]; omega) (Nat.le_of_lt h.lt)).mono ?_
  rintro e w2 ⟨rfl, h2, hb2, k2⟩
  exact ⟨rfl, .inr (by rw [Lib.byteCells_append]; exact h2), hb2, k2⟩
/-- the text of isos -/
def prL : List Iz.Iso → List UInt8
  | [] => []
  | x :: r => prI x ++ prA r
/-- what stands before the k-th -/
def barP (k : Nat) : List UInt8 := if k = 0 then [] else [32, 124, 32]
theorem prA_snoc (r : List Iz.Iso) (x : Iz.Iso) : prA (r ++ [x]) = prA r ++ ([32, 124, 32] ++ prI x) := by
  induction r with
  | nil => simp [prA]
  | cons y r ih => rw [List.cons_append, prA, ih, prA]; simp
theorem prL_snoc (r : List Iz.Iso) (x : Iz.Iso) : prL (r ++ [x]) = prL r ++ barP r.length ++ prI x := by
  cases r with
  | nil => simp [prL, barP, prA]
  | cons y r => rw [List.cons_append, prL, prA_snoc, prL]; simp [barP]
theorem prL_take {l : List Iz.Iso} {k : Nat} {x : Iz.Iso} (h : l[k]? = some x) : prL (l.take (k + 1)) = prL (l.take k) ++ barP k ++ prI x := by
  have hk := (List.getElem?_eq_some_iff.1 h).1
  rw [List.take_add_one, h]
  show prL (l.take k ++ [x]) = _
  rw [prL_snoc, List.length_take, Nat.min_eq_left (by omega)]
/-- an iso whose text is short -/
def SmP (x : Iz.Iso) : Prop := x.name.size ≤ 100 ∧ x.key.size ≤ 100 ∧ Tk.In64 x.n
theorem prI_len {x : Iz.Iso} (h : SmP x) : (prI x).length ≤ 900 := by
  have h1 := Q.quo_len x.key.data.toList
  have h2 : x.key.data.toList.length ≤ 100 := h.2.1
  have h3 : x.name.data.toList.length ≤ 100 := h.1
  have h4 := Lib.itoa_length_le x.n h.2.2.1 h.2.2.2
  unfold prI prT
  rw [List.length_append]
  split
  · simp only [List.length_cons]; omega
  · split
    · simp only [List.length_cons]; omega
    · simp only [List.length_nil]; omega
theorem prL_len (l : List Iz.Iso) (h : ∀ x ∈ l, SmP x) : ∀ k, (prL (l.take k)).length ≤ 1000 * k
  | 0 => by rw [List.take_zero]; simp [prL]
  | k + 1 => by
    have ih := prL_len l h k
    cases hx : l[k]? with
    | none =>
      rw [List.take_add_one, hx]
      simp
      omega
    | some x =>
      have h2 := prI_len (h x (List.mem_of_getElem? hx))
      have h3 : (barP k).length ≤ 3 := by unfold barP; split <;> decide
      rw [prL_take hx, List.length_append, List.length_append]
      omega
theorem kind_use (s : ByteArray) (w : World) : ∃ (uz : Int) (f g : Value), uz = (Iz.use s : Nat) ∧ Calls Tryz.prog 23 #[.string s] w fun e w' => e = .returned (.agg #[.int .i64 uz, f, g]) ∧ Below w.heap.size w w' :=
  ⟨_, wayV (thereN (kindN s)), wayV (backN (kindN s)), rfl, by rw [use_kind]; exact kind_any s w⟩
end Go.Proofs.YtfiahpeajccinaaGreatDoor
namespace Go.Proofs.YtfiahpeajccinaaGreatDoor
open Go.RowKit
open Tk Ex
set_option linter.unusedVariables false
set_option linter.unusedSimpArgs false

theorem nil_of_empty {k : ByteArray} (h : k.toList.isEmpty = true) : k = nix := by
  have h1 : k.toList = [] := by simpa using h
  have h2 : nix.toList = [] := by decide +kernel
  have h3 : (k.toList == nix.toList) = true := by rw [h1, h2]; rfl
  rw [tl_eqb] at h3
  exact eqb_yes h3
theorem ofI_n {s : ByteArray} {n : Int} {k : ByteArray} (h : Tk.In64 n) : Tk.In64 (ofI s n k).n := by
  obtain ⟨h1, h2⟩ := h
  have h0 : Tk.In64 0 := ⟨by decide, by decide⟩
  have h3 : Tk.In64 3 := ⟨by decide, by decide⟩
  unfold ofI
  split
  · exact ⟨h1, h2⟩
  · show Tk.In64 (if (n == 0) = true then 3 else n)
    split
    · exact h3
    · exact ⟨h1, h2⟩
  · exact h0
  · exact h0
theorem ofPk_facts {x : Pk} (ha : x.a ≤ 255) (hn : Tk.In64 x.n) : GoodP (ofPk x) ∧ SmP (ofPk x) ∧ Iz.use (ofPk x).name ≠ 0 := by
  have hlt : x.a % 11 < 11 := Nat.mod_lt _ (by omega)
  obtain ⟨s, hs⟩ : ∃ s, ofName[x.a % 11]? = some s := ⟨_, List.getElem?_eq_getElem (show x.a % 11 < ofName.length from hlt)⟩
  have hu := ofName_use _ _ hs
  have hg := ofI_good x.n x.k hu
  have hm : s ∈ ofName := List.mem_of_getElem? hs
  have hi := ofI_n (s := s) (k := x.k) hn
  have hk := ofI_small s x.n x.k
  rw [ofPk_of hs]
  have hnm := ofI_name s x.n x.k
  have hsz : s.size ≤ 100 := by
    have key : ∀ t ∈ ofName, t.size ≤ 100 := by decide +kernel
    exact key s hm
  refine ⟨⟨by rw [hnm]; exact hm, hi, ?_⟩, ⟨by rw [hnm]; exact hsz, hk, hi⟩, by rw [hnm]; exact hu⟩
  rw [hnm]
  generalize (ofI s x.n x.k).n = N at *
  generalize (ofI s x.n x.k).key = K at *
  have hul := Iz.use_le s
  unfold goodI at hg
  generalize Iz.use s = u at *
  rcases (by omega : u = 1 ∨ u = 2 ∨ u = 3 ∨ u = 4) with h | h | h | h <;> subst h
  · simp only [Bool.and_eq_true, beq_iff_eq] at hg
    exact ⟨hg.1, nil_of_empty hg.2⟩
  · exact nil_of_empty hg
  · simp only [Bool.and_eq_true, bne_iff_ne] at hg
    exact ⟨hg.1, nil_of_empty hg.2⟩
  · simp only [Bool.and_eq_true, beq_iff_eq] at hg
    refine ⟨hg.2, ?_⟩
    rcases txtB_cases K with ⟨_, h⟩ | ⟨h, _⟩
    · exact h
    · rw [h] at hg; exact absurd hg.1 (by decide)
set_option maxRecDepth 100000 in
set_option maxHeartbeats 4000000 in
theorem llist_nil (A : Option Addr) (c : Nat) (w : World) (hc : c ≤ maxLen) :
    Calls Tryz.prog 13 #[.slice A 0 c] w fun e w' => e = .returned (.slice none 0 0) ∧ Below w.heap.size w w' := by
  have hcm : c ≤ 9223372036854775807 := by unfold maxLen at hc; omega
  have j2 : (0 : Int) ≤ (c : Int) := by omega
  have HBW := Lib.hid (Below.refl w.heap.size w)
  cases A
  all_goals
    go_enter Tryz.func13, Tryz.ntmps13
    go_wp2_with fail
    go_loopw [3, 12] (fun v i wr => v = .slice none 0 0 ∧ i = .int .i64 0 ∧ Below w.heap.size w wr) (fun _ _ _ => 0)
    case atStart => exact ⟨rfl, rfl, HBW.out⟩
    case round =>
      obtain ⟨rfl, rfl, hW⟩ := hrel
      have HW := Lib.hid hW
      clear hW
      go_wp2_with fail
      go_ret
      exact ⟨rfl, HW.out⟩
theorem take_ne {l : List Pk} {m : Nat} (hm : m = min l.length 6) (h : l ≠ []) : (l.take m).map ofPk ≠ [] := by
  cases l with
  | nil => exact absurd rfl h
  | cons x r => rw [hm]; simp
theorem llist_any (l : List Pk) (A : Option Addr) (c m : Nat) (w : World) (hm : m = min l.length 6) (hl : l.length ≤ c) (hc : c ≤ maxLen) (hin : ∀ y ∈ l, y.a ≤ 255 ∧ -9223372036854775808 ≤ y.n ∧ y.n ≤ 9223372036854775807) (hne : l ≠ []) (hr : PkRow w w.heap.size A l) :
    Calls Tryz.prog 13 #[.slice A l.length c] w fun e w' => ∃ A' c', e = .returned (.slice A' ((l.take m).map ofPk).length c') ∧ RowI w' w.heap.size (.slice A' ((l.take m).map ofPk).length c') ((l.take m).map ofPk) ∧ Below w.heap.size w w' := by
  obtain ⟨b, o, rfl, hb, hp⟩ := hr hne
  refine (llist_c l b o c m w hm hl hc hb hin hp).mono ?_
  rintro e w' ⟨v, rfl, hrow, hbel⟩
  obtain ⟨A', c', rfl, _⟩ := hrow.shape
  exact ⟨A', c', rfl, hrow, hbel⟩
theorem PkRow.on {w w' : World} {A : Option Addr} {l : List Pk} (h : PkRow w w.heap.size A l) (hb : Below w.heap.size w w') : PkRow w' w'.heap.size A l := by
  intro hne
  obtain ⟨b, o, rfl, hlt, hp⟩ := h hne
  refine ⟨b, o, rfl, Nat.lt_of_lt_of_le hlt hb.size, fun i x hx => ?_⟩
  obtain ⟨h0, h1, h2⟩ := hp i x hx
  exact ⟨(hb.cell (p := ⟨b, o + i * 3, none⟩) hlt).trans h0, (hb.cell (p := ⟨b, o + i * 3 + 1, none⟩) hlt).trans h1, (hb.cell (p := ⟨b, o + i * 3 + 2, none⟩) hlt).trans h2⟩
end Go.Proofs.YtfiahpeajccinaaGreatDoor
