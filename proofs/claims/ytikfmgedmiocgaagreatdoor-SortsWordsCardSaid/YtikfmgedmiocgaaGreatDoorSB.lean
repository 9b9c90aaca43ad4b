/- strings.Join: laid by hand at this seat. The words of sorts: contract of Text. -/
import Derived.Shelf.Strings.OnBuilder
import Derived.Test.YtikfmgedmiocgaaGreatDoorShelf3
import Derived.Test.YtikfmgedmiocgaaGreatDoorSA
import Derived.Test.YtikfmgedmiocgaaGreatDoorEP
import Derived.Maps.AppendAt
import Derived.Deep.AppendLies
import Derived.Laws.OwnMore
import Derived.Lib.Join
namespace Go.Proofs
open Go.Shelf
def Tryz.lays156_ren : Go.Shelf.Ren := ⟨fun | 156 => 42 | 165 => 67 | 166 => 68 | 169 => 54 | 240 => 90 | 241 => 91 | 276 => 111 | 277 => 112 | n => n, fun | 0 => 0 | 3 => 3 | 4 => 4 | 5 => 5 | 9 => 9 | 20 => 20 | 31 => 25 | 37 => 91 | 70 => 101 | 72 => 103 | 75 => 118 | 76 => 119 | 80 => 52 | 127 => 129 | 164 => 160 | n => n, fun  | n => n⟩
theorem Tryz.lays156 : Go.Proofs.Lays.n156 Tryz.prog Tryz.lays156_ren := {
  mixed := by kernel_rfl
  f156 := Tryz.func42.trans (congrArg some (by kernel_rfl))
  f165 := Tryz.func67.trans (congrArg some (by kernel_rfl))
  f166 := Tryz.func68.trans (congrArg some (by kernel_rfl))
  f169 := Tryz.func54.trans (congrArg some (by kernel_rfl))
  f240 := Tryz.func90.trans (congrArg some (by kernel_rfl))
  f241 := Tryz.func91.trans (congrArg some (by kernel_rfl))
  f276 := Tryz.func111.trans (congrArg some (by kernel_rfl))
  f277 := Tryz.func112.trans (congrArg some (by kernel_rfl))
  t0 := Tryz.underlying0
  a0 := Tryz.isAgg0
  z0 := Tryz.sizeOf0
  v0 := Tryz.zeroValue0
  t3 := Tryz.underlying3
  a3 := Tryz.isAgg3
  z3 := Tryz.sizeOf3
  v3 := Tryz.zeroValue3
  t4 := Tryz.underlying4
  a4 := Tryz.isAgg4
  z4 := Tryz.sizeOf4
  v4 := Tryz.zeroValue4
  t9 := Tryz.underlying9
  a9 := Tryz.isAgg9
  z9 := Tryz.sizeOf9
  v9 := Tryz.zeroValue9
  t20 := Tryz.underlying20
  a20 := Tryz.isAgg20
  z20 := Tryz.sizeOf20
  v20 := Tryz.zeroValue20
  t31 := Tryz.underlying25
  a31 := Tryz.isAgg25
  z31 := Tryz.sizeOf25
  v31 := Tryz.zeroValue25
  t37 := Tryz.underlying91
  a37 := Tryz.isAgg91
  z37 := Tryz.sizeOf91
  v37 := Tryz.zeroValue91
  t70 := Tryz.underlying101
  a70 := Tryz.isAgg101
  z70 := Tryz.sizeOf101
  v70 := Tryz.zeroValue101
  t72 := Tryz.underlying103
  a72 := Tryz.isAgg103
  z72 := Tryz.sizeOf103
  v72 := Tryz.zeroValue103
  t75 := Tryz.underlying118
  a75 := Tryz.isAgg118
  z75 := Tryz.sizeOf118
  v75 := Tryz.zeroValue118
  t76 := Tryz.underlying119
  a76 := Tryz.isAgg119
  z76 := Tryz.sizeOf119
  v76 := Tryz.zeroValue119
  t127 := Tryz.underlying129
  a127 := Tryz.isAgg129
  z127 := Tryz.sizeOf129
  v127 := Tryz.zeroValue129
  t164 := Tryz.underlying160
  a164 := Tryz.isAgg160
  z164 := Tryz.sizeOf160
  v164 := Tryz.zeroValue160 }
theorem Tryz.Builder_Extra_156 : Builder.Extra Tryz.prog Tryz.lays156_ren := {
  sizeBuilder := by kernel_rfl
  liesBuilder := by kernel_rfl
  t5 := Tryz.underlying5
  a5 := Tryz.isAgg5
  z5 := Tryz.sizeOf5
  v5 := Tryz.zeroValue5
  infoByte := by kernel_rfl
  cellsByte := by kernel_rfl
  sizeByte := by kernel_rfl
  neB5 := by decide }
open Go.RowKit in
theorem Tryz.strings_Join9 (bk o c : Nat) (xs : List ByteArray) (sep : ByteArray) (w : World)
    (hcells : ∀ (j : Nat) x, xs[j]? = some x → w.cell? ⟨bk, o + j, none⟩ = some (.string x))
    (hbk : bk < w.heap.size) (hN : xs.length ≤ 140737488355328) (hcap : xs.length ≤ c)
    (hlen : (Lib.join (xs.map (·.data.toList)) sep.data.toList).length ≤ 140737488355328) :
    Calls Tryz.prog 42 #[.slice (some ⟨bk, o, none⟩) xs.length c, .string sep] w fun e w' => e = .returned (.string ⟨(Lib.join (xs.map (·.data.toList)) sep.data.toList).toArray⟩) ∧ Below w.heap.size w w' :=
  Any.strings_Join Tryz.lays156 Tryz.Builder_Extra_156 bk o c xs sep w hcells hbk hN hcap hlen
end Go.Proofs
namespace Go.Proofs.YtikfmgedmiocgaaGreatDoor
open Go.RowKit
set_option linter.unusedVariables false

theorem lt_of_get9 {α : Type} {l : List α} {i : Nat} {x : α} (h : l[i]? = some x) : i < l.length := (List.getElem?_eq_some_iff.1 h).1
theorem infoStr9 : (Tryz.prog.info? 9).map (fun i => (i.zero, i.size, i.bytes)) = some (some (.string ⟨#[]⟩), 1, 16) := by kernel_rfl
theorem app_str9 {ops : Array Oper} {rest : List Oper} {o : Oper} {a : Act} {Q : Exit → Act → World → Prop} {w : World} (hgd : o.guard = none) (s x : Operand)
    (ho : o.op = .call { callee := .builtin .append, args := #[s, x], argTypes := #[25, 25] })
    (base : Nat) (v : Value) (l : List ByteArray) (y : ByteArray) (hs : a.eval s = v) (hx : a.eval x = .slice (some ⟨w.heap.size, 0, none⟩) 1 1)
    (hown : w.ownsRow base 9 1 v l.length (l.map Value.string)) (hn : l.length ≤ 1000000) (hbase : base ≤ w.heap.size)
    (h : ∀ (v' : Value) (w' : World), w'.ownsRow base 9 1 v' (l ++ [y]).length ((l ++ [y]).map Value.string) → (∀ W, Below base W w → Below base W w') → wpList Tryz.prog ops Q rest (a.put o.dst v') w') :
    wpList Tryz.prog ops Q (o :: rest) a (w.alloc (.cells #[.string y] 9)) := by
  obtain ⟨i0, hi, hz0, hz1, hz2⟩ := info_parts infoStr9
  refine wpList_append_own _ hgd s x 25 ho base 9 i0 (.string ⟨#[]⟩) 1 16 Tryz.underlying25 hi hz0 hz1 hz2 rfl (by decide) v _ _ hs (hown.alloc _) ⟨w.heap.size, 0, none⟩ 1 1 [.string y] hx rfl ?_ ?_ ?_ ?_ ?_ ?_
  · intro j u hu
    match j, hu with
    | 0, hu => simp at hu; subst hu; simp [Addr.add]
  · intro u hu; simp at hu; subst hu; rfl
  · unfold maxLen; omega
  · omega
  · simp; omega
  · intro v' w' h1 h2 _
    refine h v' w' ?_ (fun W hW => ?_)
    · rw [List.length_append, List.map_append]; exact h1
    · exact (hW.alloc hbase _).grown h2 (by simp; omega) (fun k hk => (hown.lt k hk).1)
/-- a row of texts, readable -/
theorem own_strs9 {w : World} {base : Nat} {v : Value} {l : List ByteArray} (h : w.ownsRow base 9 1 v l.length (l.map Value.string)) :
    ∃ A c, v = .slice A l.length c ∧ l.length ≤ c ∧ SReads w (· < w.heap.size) A l := by
  rcases h.2 with ⟨rfl, h0⟩ | ⟨g, cap, cur, rfl, hb, hh, hle, hm, hs, ht⟩
  · obtain rfl : l = [] := List.eq_nil_of_length_eq_zero h0
    exact ⟨none, 0, rfl, Nat.le_refl _, SReads.none_ _ _ _⟩
  · refine ⟨_, _, rfl, hle, fun _ => ⟨g, 0, rfl, (Array.getElem?_eq_some_iff.1 hh).1, fun i s hi => ?_⟩⟩
    have hl := lt_of_get9 hi
    have h1 : (cur.toList.take (l.length * 1))[i]? = (l.map Value.string)[i]? := by rw [ht]
    rw [List.getElem?_take_of_lt (by omega), Array.getElem?_toList, List.getElem?_map, hi] at h1
    rw [cell_of_row w g (0 + i) cur 9 _ hh, Nat.zero_add]
    exact h1

/-- the kinds' words -/
def wordsN : List ByteArray := [⟨#[110, 117, 108, 108]⟩, ⟨#[98, 111, 111, 108]⟩, ⟨#[105, 110, 116]⟩, ⟨#[116, 101, 120, 116]⟩, ⟨#[108, 105, 115, 116]⟩, ⟨#[111, 98, 106, 101, 99, 116]⟩]
def wordN (k : Nat) : ByteArray := wordsN.getD k ⟨#[]⟩
/-- the words of the first kinds that are among them -/
def pickN (s : Nat) : Nat → List ByteArray
  | 0 => []
  | k + 1 => if hasN s k then pickN s k ++ [wordN k] else pickN s k
theorem pick_yes {s k : Nat} (h : hasN s k = true) : pickN s (k + 1) = pickN s k ++ [wordN k] := if_pos h
theorem pick_no {s k : Nat} (h : hasN s k = false) : pickN s (k + 1) = pickN s k := if_neg (by rw [h]; decide)
theorem pick_len (s : Nat) : ∀ k, (pickN s k).length ≤ k
  | 0 => Nat.le_refl _
  | k + 1 => by
    have := pick_len s k
    unfold pickN
    split
    · rw [List.length_append, List.length_singleton]; omega
    · omega
def barB : ByteArray := ⟨#[124]⟩
def joinN (l : List ByteArray) : List UInt8 := Lib.join (l.map (·.data.toList)) barB.data.toList
def textN (s : Nat) : ByteArray := if (pickN s 6).length = 0 then ⟨#[110, 111, 110, 101]⟩ else ⟨(joinN (pickN s 6)).toArray⟩
theorem join_le : ∀ s : Fin 64, (joinN (pickN s.val 6)).length ≤ 100 := by decide +kernel
set_option maxRecDepth 100000 in
set_option maxHeartbeats 4000000 in
theorem otext_any (s : Nat) (hs : s < 64) (w : World) : Calls Tryz.prog 18 #[.int .i64 (s : Int)] w fun e w' => e = .returned (.string (textN s)) ∧ Below w.heap.size w w' := by
  have HH := Lib.hid (fun (k : Int) w1 => ohas_any s k hs w1)
  have HJ := Lib.hid (show (joinN (pickN s 6)).length ≤ 100 from join_le ⟨s, hs⟩)
  have HTX := Lib.hid (show textN s = if (pickN s 6).length = 0 then ⟨#[110, 111, 110, 101]⟩ else ⟨(joinN (pickN s 6)).toArray⟩ from rfl)
  generalize textN s = TX at *
  clear hs
  go_enter Tryz.func18, Tryz.ntmps18
  go_upto_region 3 with fail
  have kW : Blk (w.alloc (.cells #[.string ⟨#[110, 117, 108, 108]⟩, .string ⟨#[98, 111, 111, 108]⟩, .string ⟨#[105, 110, 116]⟩, .string ⟨#[116, 101, 120, 116]⟩, .string ⟨#[108, 105, 115, 116]⟩, .string ⟨#[111, 98, 106, 101, 99, 116]⟩] 9)) w.heap.size 9 #[.string ⟨#[110, 117, 108, 108]⟩, .string ⟨#[98, 111, 111, 108]⟩, .string ⟨#[105, 110, 116]⟩, .string ⟨#[116, 101, 120, 116]⟩, .string ⟨#[108, 105, 115, 116]⟩, .string ⟨#[111, 98, 106, 101, 99, 116]⟩] := Blk.new w _ _
  have hW : Below w.heap.size w (w.alloc (.cells #[.string ⟨#[110, 117, 108, 108]⟩, .string ⟨#[98, 111, 111, 108]⟩, .string ⟨#[105, 110, 116]⟩, .string ⟨#[116, 101, 120, 116]⟩, .string ⟨#[108, 105, 115, 116]⟩, .string ⟨#[111, 98, 106, 101, 99, 116]⟩] 9)) := (Below.refl _ _).alloc (Nat.le_refl _) _
  change Code.wp _ _ _ _ (w.alloc (.cells #[.string ⟨#[110, 117, 108, 108]⟩, .string ⟨#[98, 111, 111, 108]⟩, .string ⟨#[105, 110, 116]⟩, .string ⟨#[116, 101, 120, 116]⟩, .string ⟨#[108, 105, 115, 116]⟩, .string ⟨#[111, 98, 106, 101, 99, 116]⟩] 9))
  generalize (w.alloc (.cells #[.string ⟨#[110, 117, 108, 108]⟩, .string ⟨#[98, 111, 111, 108]⟩, .string ⟨#[105, 110, 116]⟩, .string ⟨#[116, 101, 120, 116]⟩, .string ⟨#[108, 105, 115, 116]⟩, .string ⟨#[111, 98, 106, 101, 99, 116]⟩] 9)) = W at *
  have HW := Lib.hid hW
  have hs := hW.size
  have HC := Lib.hid (show ∀ k : Nat, k < 6 → W.cell? ⟨w.heap.size, k, none⟩ = some (.string (wordN k)) from fun k hk => by
    rcases (by omega : k = 0 ∨ k = 1 ∨ k = 2 ∨ k = 3 ∨ k = 4 ∨ k = 5) with rfl | rfl | rfl | rfl | rfl | rfl
    · exact kW.cell 0
    · exact kW.cell 1
    · exact kW.cell 2
    · exact kW.cell 3
    · exact kW.cell 4
    · exact kW.cell 5)
  have hgl := kW.lt
  generalize hg : w.heap.size = g at *
  have HG := Lib.hid hg
  clear kW hW hg
  go_loopw [3, 8] (fun v x wr => ∃ k : Nat, k ≤ 6 ∧ x = .int .i64 k ∧ wr.ownsRow W.heap.size 9 1 v (pickN s k).length ((pickN s k).map Value.string) ∧ Below W.heap.size W wr) (fun _ x _ => 6 - (intOf x).toNat)
  case atStart => exact ⟨0, by omega, rfl, World.ownsRow_nil _ _ _ _, Below.refl _ _⟩
  case round =>
    obtain ⟨k, hk, rfl, hown, hbel⟩ := hrel
    have HO := Lib.hid hown
    have HBl := Lib.hid hbel
    have hsz := hbel.size
    have hpl := pick_len s k
    by_cases hlt : k < 6
    · have u1 : decide (k < 6) = true := decide_eq_true hlt
      have u2 : decide ((k : Int) < 6) = true := decide_eq_true (by omega)
      have c0 : wr.cell? ⟨g, k, none⟩ = some (.string (wordN k)) := (hbel.cell (p := ⟨g, k, none⟩) hgl).trans (HC.out k hlt)
      have i1 : (k : Int) < 6 := by omega
      have i2 : (0 : Int) ≤ (k : Int) := by omega
      clear hown hbel
      go_wp2_with fail
      refine (HH.out k _).mono ?_
      rintro e w2 ⟨rfl, rfl⟩
      clear c0
      cases hh : hasN s k with
      | true =>
        have HP := Lib.hid (pick_yes hh)
        clear hh
        generalize wordN k = wd at *
        go_wp2_with (at_builtin; refine app_str9 rfl (.tmp 16) (.tmp 18) rfl W.heap.size _ _ wd rfl rfl HO.out (by omega) hsz ?_; intro v' w3 hown3 hb3)
        have HO3 := Lib.hid hown3
        have HB3 := Lib.hid (hb3 _ HBl.out)
        clear hown3 hb3
        go_wp2_with fail
        go_roundw
        case rel => exact ⟨k + 1, hlt, by go_num, by rw [HP.out]; exact HO3.out, HB3.out⟩
        case measure => simp [intOf]; omega
      | false =>
        have HP := Lib.hid (pick_no hh)
        clear hh
        go_wp2_with fail
        go_roundw
        case rel => exact ⟨k + 1, hlt, by go_num, by rw [HP.out]; exact HO.out, HBl.out⟩
        case measure => simp [intOf]; omega
    · obtain rfl : k = 6 := by omega
      have HJJ := Lib.hid (show (Lib.join ((pickN s 6).map (·.data.toList)) barB.data.toList).length ≤ 140737488355328 from Nat.le_trans HJ.out (by decide))
      have HJN := Lib.hid (show joinN (pickN s 6) = Lib.join ((pickN s 6).map (·.data.toList)) barB.data.toList from rfl)
      obtain ⟨P, c, rfl, hc, hrd⟩ := own_strs9 hown
      have HRD := Lib.hid hrd
      clear hown hbel hrd
      generalize pickN s 6 = L at *
      by_cases h0 : L.length = 0
      · have v1 : decide (L.length = 0) = true := decide_eq_true h0
        have v2 : ((L.length : Int) == 0) = true := by rw [h0]; rfl
        have v3 : decide ((L.length : Int) = 0) = true := decide_eq_true (by omega)
        have HTY := Lib.hid (HTX.out.trans (if_pos h0))
        clear h0
        go_wp2_with fail
        go_ret
        exact ⟨by rw [HTY.out] <;> rfl, by rw [HG.out]; exact HW.out.trans (HBl.out.mono hs)⟩
      · have v1 : decide (L.length = 0) = false := decide_eq_false h0
        have v2 : ((L.length : Int) == 0) = false := beq_eq_false_iff_ne.2 (by omega)
        have v3 : decide ((L.length : Int) = 0) = false := decide_eq_false (by omega)
        have HTY := Lib.hid (HTX.out.trans (if_neg h0))
        obtain ⟨bp, op, rfl, hbp, hcp⟩ := HRD.out (by intro hz; rw [hz] at h0; exact h0 rfl)
        have HCP := Lib.hid hcp
        clear h0 hcp
        go_wp2_with fail
        refine (Tryz.strings_Join9 bp op c L barB _ HCP.out hbp (by omega) hc HJJ.out).mono ?_
        rintro e w2 ⟨rfl, hb2⟩
        have HB2 := Lib.hid (HBl.out.trans (hb2.mono hsz))
        clear hb2
        go_wp2_with fail
        go_ret
        exact ⟨by rw [HTY.out, HJN.out] <;> rfl, by rw [HG.out]; exact HW.out.trans (HB2.out.mono hs)⟩
end Go.Proofs.YtikfmgedmiocgaaGreatDoor
