/- Contract of the reference's Text: the bytes of any points, one behind the other. -/
import Derived.Test.YtgiapdmoiaiofaaDoorRef
import Derived.Laws.IdiomStrings
import Derived.Laws.BytesArg
import Derived.OwnWalk
namespace Go.Proofs.YtgiapdmoiaiofaaDoor
open Go.RowKit
open Pl

theorem info5 : (Tryd.prog.info? 5).map (fun i => (i.zero, i.size, i.bytes)) = some (some (.int .u8 0), 1, 1) := by kernel_rfl
theorem info3 : (Tryd.prog.info? 3).map (fun i => (i.zero, i.size, i.bytes)) = some (some (.int .i64 0), 1, 8) := by kernel_rfl

/-- a slice value whose elements are the ints l, in blocks below B -/
def Reads (w : World) (B : Nat) (A : Option Addr) (l : List Int) : Prop :=
  l ≠ [] → ∃ b o, A = some ⟨b, o, none⟩ ∧ b < B ∧ ∀ i, i < l.length → w.cell? ⟨b, o + i, none⟩ = some (.int .i64 (l.getD i 0))

/-- a row that the call owns, and a block of another element type, are two -/
theorem own_ne {w : World} {base : Nat} {e t : TypeId} {size n : Nat} {v : Value} {xs : List Value} {g : Nat} {cs : Array Value} {fz : Nat × Nat}
    (h : w.ownsRow base e size v n xs) (hg : w.heap[g]? = some (.cells cs t fz)) (hne : e ≠ t) : some g ≠ v.ownBlock := by
  rcases h.2 with ⟨rfl, _⟩ | ⟨g', cap, cur, rfl, _, hh, _⟩
  · simp [Value.ownBlock]
  · intro he
    have e1 : g = g' := by simpa [Value.ownBlock] using he
    rw [e1, hh] at hg
    injection hg with hg
    injection hg with _ h2 _
    exact hne h2

theorem conv_owned {w : World} {base : Nat} {v : Value} {L : List UInt8} (h : w.ownsRow base 5 1 v L.length (Lib.byteCells L)) :
    (convert 51 9 v).run Tryd.prog w = .ok (.string ⟨L.toArray⟩) w := by
  rcases h.2 with ⟨rfl, h0⟩ | ⟨g, cap, cur, rfl, _, hh, _⟩
  · obtain rfl : L = [] := List.eq_nil_of_length_eq_zero h0
    rw [run_convert_bytes_nil w 51 5 Tryd.underlying51 Tryd.underlying5 0 0 9 Tryd.underlying9]
    rfl
  · exact run_convert_bytes_back w 51 9 5 ⟨g, 0, none⟩ cap L Tryd.underlying51 Tryd.underlying5 Tryd.underlying9 fun j hj => h.cells (g := g) rfl j _ (by simp [Lib.byteCells, List.getElem?_eq_getElem hj])

/-- Bytes, its new row told whole -/
theorem bytes_blk (n : Int) (w : World) (h : pt n = true) : Calls Tryd.prog 43 #[.int .i64 n] w fun e w' =>
    ∃ b, e = .returned (.slice (some ⟨b, 0, none⟩) (Lib.encodeRuneZ n).length (Lib.encodeRuneZ n).length) ∧ w'.heap[b]? = some (.cells (ints (Lib.encodeRuneZ n)) 3 (0, 0)) ∧ w.heap.size < w'.heap.size ∧ Below w.heap.size w w' := by
  refine (bytes_any n w h).mono ?_
  rintro e w' ⟨rfl, rfl⟩
  exact ⟨w.heap.size, rfl, heap_alloc_new w _, by simp, (Below.refl _ _).alloc (Nat.le_refl _) _⟩

theorem blk_cell {E : List Int} {w : World} {b j : Nat} (h : w.heap[b]? = some (.cells (ints E) 3 (0, 0))) (hj : j < E.length) : w.cell? ⟨b, j, none⟩ = some (.int .i64 (E.getD j 0)) := by
  rw [cell_of_row w b j _ 3 (0, 0) h]
  simp [ints, List.getElem?_eq_getElem hj]

theorem flat_take_succ (l : List Int) (k : Nat) (h : k < l.length) : flat (l.take (k + 1)) = flat (l.take k) ++ Lib.encodeRune (l.getD k 0) := by
  rw [List.take_succ_eq_append_getElem h, flat_append]
  simp [flat, List.getElem?_eq_getElem h]
theorem enc_take_succ (x : Int) (j : Nat) (h : j < (Lib.encodeRuneZ x).length) :
    Lib.byteCells ((Lib.encodeRune x).take (j + 1)) = Lib.byteCells ((Lib.encodeRune x).take j) ++ [.int .u8 ((Lib.encodeRuneZ x).getD j 0)] := by
  have hb := Lib.encodeRuneZ_byte x _ (List.getElem_mem h)
  rw [List.take_succ_eq_append_getElem (by simpa [Lib.encodeRune] using h), Lib.byteCells_append]
  congr 1
  simp only [Lib.byteCells, Lib.encodeRune, List.getElem_map, List.map_cons, List.map_nil]
  rw [b8 _ hb.1 hb.2, List.getD_eq_getElem?_getD, List.getElem?_eq_getElem h]
  simp only [Option.getD_some]
  rw [Int.toNat_of_nonneg hb.1]

theorem len4 (l : List Int) : (flat l).length ≤ 4 * l.length := by
  induction l with
  | nil => simp [flat]
  | cons x l ih => rw [flat_cons, List.length_append, List.length_cons]; have := (enc_len x).2; omega

set_option maxRecDepth 100000 in
set_option maxHeartbeats 4000000 in
theorem rtext_any (l : List Int) (A : Option Addr) (c : Nat) (w : World) (hl : l.length ≤ 100000) (hr : Reads w w.heap.size A l) (hp : ∀ x ∈ l, pt x = true) :
    Calls Tryd.prog 28 #[.slice A l.length c] w fun e w' => e = .returned (.string ⟨(flat l).toArray⟩) ∧ Below w.heap.size w w' := by
  obtain ⟨i0, hi, hz0, hz1, hz2⟩ := info_parts info5
  by_cases hnil : l = []
  · subst hnil
    have hcv := conv_owned (L := []) (World.ownsRow_nil w w.heap.size 5 1)
    clear hr hp hl hi hz0 hz1 hz2
    go_enter Tryd.func28, Tryd.ntmps28
    go_wp2_with fail
    go_loop [3, 9] (fun v i => v = .slice none 0 0 ∧ i = .int .i64 0) (fun _ _ => 0)
    case atStart => exact ⟨rfl, rfl⟩
    case round =>
      obtain ⟨rfl, rfl⟩ := hrel
      go_wp2_with fail
      go_ret
      exact ⟨rfl, Below.refl _ _⟩
  · obtain ⟨b, o, rfl, hbw, hcell⟩ := hr hnil
    clear hr hnil
    have Hcell := Lib.hid hcell
    have Hp := Lib.hid hp
    clear hcell hp
    go_enter Tryd.func28, Tryd.ntmps28
    go_wp2_with fail
    go_loopw [3, 9] (fun v i wr => ∃ k : Nat, k ≤ l.length ∧ i = .int .i64 k ∧ wr.ownsRow w.heap.size 5 1 v (flat (l.take k)).length (Lib.byteCells (flat (l.take k))) ∧ Below w.heap.size w wr) (fun _ i _ => l.length - (intOf i).toNat)
    case atStart => exact ⟨0, Nat.zero_le _, rfl, World.ownsRow_nil _ _ _ _, Below.refl _ _⟩
    case round =>
      obtain ⟨k, hk, rfl, hown, hbel⟩ := hrel
      by_cases hlt : k < l.length
      · have t1 : decide ((k : Int) < (l.length : Int)) = true := decide_eq_true (by omega)
        have hck : wr.cell? ⟨b, o + k, none⟩ = some (.int .i64 (l.getD k 0)) := (hbel.cell (by exact hbw)).trans (Hcell.out k hlt)
        have hpk : pt (l.getD k 0) = true := Hp.out _ (by rw [List.getD_eq_getElem?_getD, List.getElem?_eq_getElem hlt]; exact List.getElem_mem hlt)
        have hflat := flat_take_succ l k hlt
        have Hpk := Lib.hid hpk
        have Hflat := Lib.hid hflat
        have Hown := Lib.hid hown
        have Hbel := Lib.hid hbel
        clear hpk hflat hown hbel
        generalize l.getD k 0 = x at *
        go_wp2_with fail
        refine (bytes_blk _ _ Hpk.out).mono ?_
        rintro e w2 ⟨b2, rfl, hblk, hsz2, hb2⟩
        have Hbel2 := Lib.hid (Hbel.out.trans (hb2.mono Hbel.out.size))
        have Hown2 := Lib.hid (World.ownsRow.kept Hown.out (w' := w2) (row := none) ⟨hb2.os, hb2.tape, hb2.output, hb2.size, fun a ha _ => hb2.block a ha⟩ (by cases u3 <;> simp [Value.ownBlock] <;> split <;> simp))
        have Hblk := Lib.hid hblk
        clear hblk hsz2 hb2 Hown Hbel hck
        go_wp2_with fail
        have hEl := Lib.encodeRuneZ_length x
        have hfl : (flat (l.take k)).length ≤ 400000 := by
          have h1 := len4 (l.take k)
          rw [List.length_take] at h1
          omega
        go_loopw [3, 19] (fun v i wi => ∃ j : Nat, j ≤ (Lib.encodeRuneZ x).length ∧ i = .int .i64 j ∧ wi.ownsRow w.heap.size 5 1 v ((flat (l.take k)).length + j) (Lib.byteCells (flat (l.take k)) ++ Lib.byteCells ((Lib.encodeRune x).take j)) ∧ wi.heap[b2]? = some (.cells (ints (Lib.encodeRuneZ x)) 3 (0, 0)) ∧ Below w.heap.size w wi) (fun _ i _ => (Lib.encodeRuneZ x).length - (intOf i).toNat)
        case atStart => exact ⟨0, Nat.zero_le _, rfl, by simpa [Lib.byteCells] using Hown2.out, Hblk.out, Hbel2.out⟩
        case round =>
          obtain ⟨j, hj, rfl, hown, hblk, hbel⟩ := hrel
          by_cases hjlt : j < (Lib.encodeRuneZ x).length
          · have t2 : decide ((j : Int) < ((Lib.encodeRuneZ x).length : Int)) = true := decide_eq_true (by omega)
            have hcj := blk_cell hblk hjlt
            have hby := Lib.encodeRuneZ_byte x _ (List.getElem_mem hjlt)
            have hts := enc_take_succ x j hjlt
            have hyb : 0 ≤ (Lib.encodeRuneZ x).getD j 0 ∧ (Lib.encodeRuneZ x).getD j 0 < 256 := by
              rw [List.getD_eq_getElem?_getD, List.getElem?_eq_getElem hjlt]; exact hby
            clear hby
            generalize (Lib.encodeRuneZ x).getD j 0 = y at *
            obtain ⟨y0, y1⟩ := hyb
            have hwy : IntKind.u8.wrap y = y := by rw [IntKind.wrap_u8]; omega
            have Hts := Lib.hid hts
            have Hneb := Lib.hid (own_ne hown hblk (by decide))
            have Hblk' := Lib.hid hblk
            have Hown' := Lib.hid hown
            have Hbel' := Lib.hid hbel
            clear hts hblk hown hbel
            go_wp2_with (at_builtin; refine wpList_append_own _ rfl _ _ 51 rfl w.heap.size 5 i0 (.int .u8 0) 1 1 Tryd.underlying51 hi hz0 hz1 hz2 rfl (by decide) _ _ _ rfl (Hown'.out.alloc _) ⟨wr.heap.size, 0, none⟩ 1 1 [.int .u8 y] rfl rfl ?c1 ?c2 ?c3 ?c4 ?c5 ?_)
            case c1 =>
              intro a u hu
              match a, hu with
              | 0, hu => simp at hu; subst hu; simp [Addr.add]
            case c2 => intro u hu; simp at hu; subst hu; rfl
            case c3 => unfold maxLen; omega
            case c4 => omega
            case c5 => have := Hbel'.out.size; simp; omega
            · intro v' w3 hown3 hgrow _
              have hblk3 : w3.heap[b2]? = some (.cells (ints (Lib.encodeRuneZ x)) 3 (0, 0)) := by
                have hlt2 : b2 < wr.heap.size := (Array.getElem?_eq_some_iff.1 Hblk'.out).1
                rw [hgrow.block b2 (by simp; omega) Hneb.out]
                exact (Below.heap_alloc _ _ _ hlt2).trans Hblk'.out
              have hbel3 : Below w.heap.size w w3 := (Hbel'.out.alloc Hbel'.out.size _).grown hgrow (by have := Hbel'.out.size; simp; omega) (fun a ha => (Hown'.out.lt a ha).1)
              have Hown3 := Lib.hid hown3
              have Hblk3 := Lib.hid hblk3
              have Hbel3 := Lib.hid hbel3
              clear hown3 hgrow hblk3 hbel3
              go_wp2_with fail
              go_roundw
              case rel =>
                refine ⟨j + 1, by omega, by go_num, ?_, Hblk3.out, Hbel3.out⟩
                rw [Hts.out]
                exact Hown3.out
              case measure => simp [intOf]; omega
          · obtain rfl : j = (Lib.encodeRuneZ x).length := by omega
            have t2 : decide (((Lib.encodeRuneZ x).length : Int) < ((Lib.encodeRuneZ x).length : Int)) = false := decide_eq_false (by omega)
            have Hown' := Lib.hid hown
            have Hbel' := Lib.hid hbel
            clear hown hbel hblk
            go_wp2_with fail
            go_roundw
            case rel =>
              refine ⟨k + 1, by omega, by go_num, ?_, Hbel'.out⟩
              rw [Hflat.out, List.length_append, Lib.byteCells_append]
              have he : (Lib.encodeRune x).length = (Lib.encodeRuneZ x).length := by simp [Lib.encodeRune]
              rw [he]
              have := Hown'.out
              rw [← he, List.take_length, he] at this
              exact this
            case measure => simp [intOf]; omega
      · obtain rfl : k = l.length := by omega
        have t1 : decide ((l.length : Int) < (l.length : Int)) = false := decide_eq_false (by omega)
        rw [List.take_length] at hown
        have hcv := conv_owned hown
        have Hbel := Lib.hid hbel
        clear hown hbel
        go_wp2_with fail
        go_ret
        exact ⟨rfl, Hbel.out⟩
end Go.Proofs.YtgiapdmoiaiofaaDoor
