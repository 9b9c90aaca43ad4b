/- Whether anything is a value is the document's: a good one, with whatever fields put into it. No condition: any list of nodes, any node, any number. -/
import Derived.Test.YtleikaiokoahdaaRows
import Derived.Test.YtleikaiokoahdaaOpen
import Derived.Test.YtleikaiokoahdaaGoodsL
import Derived.WalkKit
import Derived.ProofKit
import Derived.OpenShut
import Derived.ChangeOld
import Derived.ShutString
import Derived.Below
namespace Go.Proofs.Ytleikaiokoahdaa.valueGoods
open Go.ChangeShapes Go.WideShapes Go.ChangeAt Go.RowKit
open Go.ChangeMaps (open_string shut_string)
set_option linter.unusedVariables false

theorem own : ownKnob Try.prog.godebug = none := by kernel_rfl
theorem laidOut : laidOutB Try.prog = true := by kernel_rfl

set_option maxRecDepth 100000 in
set_option maxHeartbeats 16000000 in
theorem walk (a : Option Addr) (n c : Nat) (ok on : Int) (os : ByteArray) (I : Option Addr) (mi ci : Nat) (K : Option Addr) (mk ck : Nat) (x2 : Int) (w : World) (hnc : n ≤ c) (hcm : c ≤ maxLen) (hN : Nodes w (· < w.heap.size) a n) (hnode : IsNode ok on os mi mk) (hx0 : 0 ≤ x2) (hx1 : x2 < 256) :
    Calls Try.prog 3 #[.slice a n c, .agg #[.int .u8 ok, .int .i64 on, .string os, .slice I mi ci, .slice K mk ck], .int .u8 x2] w fun e w' => e = .returned (.bool true) ∧ Below w.heap.size w w' := by
  obtain ⟨q0, q1, q2, q3, q4, q5, q6⟩ := hnode
  have HN := Lib.hid hN
  obtain ⟨i0, hi0, hz0, hz1, hz2⟩ := info_parts infoStr
  obtain ⟨i1, hi1, hy0, hy1, hy2⟩ := info_parts infoV
  have Hi0 := Lib.hid hi0
  have Hi1 := Lib.hid hi1
  clear hN hi0 hi1
  go_enter Try.func3, Try.ntmps3
  go_upto_region 1 with fail
  have hW : Below w.heap.size w (w.alloc (.cells #[.int .u8 ok, .int .i64 on, .string os, .slice I mi ci, .slice K mk ck] 26)) := (Below.refl _ _).alloc (Nat.le_refl _) _
  have hB : Blk (w.alloc (.cells #[.int .u8 ok, .int .i64 on, .string os, .slice I mi ci, .slice K mk ck] 26)) w.heap.size 26 #[.int .u8 ok, .int .i64 on, .string os, .slice I mi ci, .slice K mk ck] := Blk.new w _ _
  change Code.wp _ _ _ _ (w.alloc (.cells #[.int .u8 ok, .int .i64 on, .string os, .slice I mi ci, .slice K mk ck] 26))
  generalize (w.alloc (.cells #[.int .u8 ok, .int .i64 on, .string os, .slice I mi ci, .slice K mk ck] 26)) = W0 at *
  have HW := Lib.hid hW
  have HB := Lib.hid hB
  clear hW hB
  go_wp2_with fail
  refine (awake_any _).mono ?_
  rintro e w1 ⟨rfl, hb1⟩
  have H1 := Lib.hid (HW.out.trans (hb1.mono HW.out.size))
  have HB1 := Lib.hid (HB.out.onto hb1)
  have c2 : w1.cell? ⟨w.heap.size, 2, none⟩ = some (.string os) := HB1.out.cell 2
  have c3 : w1.cell? ⟨w.heap.size, 3, none⟩ = some (.slice I mi ci) := HB1.out.cell 3
  have c4 : w1.cell? ⟨w.heap.size, 4, none⟩ = some (.slice K mk ck) := HB1.out.cell 4
  clear hb1 HB HW
  have FAIL : ∀ (s : Bool), s = false → True := fun _ _ => trivial
  by_cases h1 : mi ≤ 10
  · have t1 : decide ((10 : Int) < (mi : Int)) = false := decide_eq_false (by omega)
    have t1' : decide (10 < mi) = false := decide_eq_false (by omega)
    by_cases h2 : mk ≤ 10
    · have t2 : decide ((10 : Int) < (mk : Int)) = false := decide_eq_false (by omega)
      have t2' : decide (10 < mk) = false := decide_eq_false (by omega)
      by_cases h3 : os.size ≤ 100
      · have t3 : decide ((100 : Int) < (os.size : Int)) = false := decide_eq_false (by omega)
        have t3' : decide (100 < os.size) = false := decide_eq_false (by omega)
        go_wp2_with fail
        refine (tree_any a n c _ hnc hcm (HN.out.on H1.out)).mono ?_
        rintro e w2 ⟨t, B, d, B', d', rfl, hnice, htv, hb2⟩
        have H2 := Lib.hid (H1.out.trans (hb2.mono H1.out.size))
        have HB2 := Lib.hid (HB1.out.onto hb2)
        have HT := Lib.hid htv
        have HNI := Lib.hid hnice
        have hts := hnice.le
        clear hb2 htv hnice c2 c3 c4 H1 HB1
        unfold T.agg
        go_upto_region 4 with fail
        have hW : Below w.heap.size w (w2.alloc (.cells #[.int .i64 t.kind, .bool t.tr, .int .i64 t.num, .string t.str, .slice B t.items.length d, .slice B' t.keys.length d'] 30)) := H2.out.alloc H2.out.size _
        have hB : Blk (w2.alloc (.cells #[.int .i64 t.kind, .bool t.tr, .int .i64 t.num, .string t.str, .slice B t.items.length d, .slice B' t.keys.length d'] 30)) w2.heap.size 30 #[.int .i64 t.kind, .bool t.tr, .int .i64 t.num, .string t.str, .slice B t.items.length d, .slice B' t.keys.length d'] := Blk.new w2 _ _
        have hO := HB2.out.alloc (.cells #[.int .i64 t.kind, .bool t.tr, .int .i64 t.num, .string t.str, .slice B t.items.length d, .slice B' t.keys.length d'] 30)
        have hT : TV (w2.alloc (.cells #[.int .i64 t.kind, .bool t.tr, .int .i64 t.num, .string t.str, .slice B t.items.length d, .slice B' t.keys.length d'] 30)) (· < w2.heap.size) t B d B' d' := HT.out.under ((Below.refl _ _).alloc (Nat.le_refl _) _)
        have hwG := HB2.out.lt
        change Code.wp _ _ _ _ (w2.alloc (.cells #[.int .i64 t.kind, .bool t.tr, .int .i64 t.num, .string t.str, .slice B t.items.length d, .slice B' t.keys.length d'] 30))
        generalize (w2.alloc (.cells #[.int .i64 t.kind, .bool t.tr, .int .i64 t.num, .string t.str, .slice B t.items.length d, .slice B' t.keys.length d'] 30)) = W at *
        clear H2 HB2 HT
        generalize w2.heap.size = G at *
        clear w2
        have HW := Lib.hid hW
        have HB := Lib.hid hB
        have HO := Lib.hid hO
        have HT := Lib.hid hT
        have hGW := hB.lt
        have a0 : W.cell? ⟨G, 0, none⟩ = some (.int .i64 t.kind) := hB.cell 0
        have a1 : W.cell? ⟨G, 1, none⟩ = some (.bool t.tr) := hB.cell 1
        have a2 : W.cell? ⟨G, 2, none⟩ = some (.int .i64 t.num) := hB.cell 2
        have a3 : W.cell? ⟨G, 3, none⟩ = some (.string t.str) := hB.cell 3
        have a4 : W.cell? ⟨G, 4, none⟩ = some (.slice B t.items.length d) := hB.cell 4
        have a5 : W.cell? ⟨G, 5, none⟩ = some (.slice B' t.keys.length d') := hB.cell 5
        clear hW hB hO hT
        go_wp2_with fail
        refine (real_cells t B d B' d' _ hts HNI.out.small (HT.out.wide fun b hb => by have : b < G := hb; show b < W.heap.size; omega)).mono ?_
        rintro e w3 ⟨C, f, C', f', rfl, hr, hb3⟩
        unfold T.agg
        have H3 := Lib.hid hb3
        have HR := Lib.hid (show TV w3 (· < w3.heap.size) t C f C' f' from hr.wide fun b hb => hb.2)
        clear hr hb3
        go_wp2_with fail
        refine (vgood_b true t C f C' f' _ ⟨fun _ => HNI.out.good, fun _ => rfl⟩ hts HNI.out.small HR.out).mono ?_
        rintro e w4 ⟨rfl, hb4⟩
        have H4 := Lib.hid (H3.out.trans (hb4.mono H3.out.size))
        clear hb4 a0 a1 a2 a3 a4 a5
        go_upto_block 0 with fail
        have m0 : 0 ≤ x2 % 6 := by omega
        have m1 : x2 % 6 < 6 := by omega
        generalize x2 % 6 = m at *
        have HB5 := Lib.hid (HB.out.onto H4.out)
        have HO5 := Lib.hid (HO.out.onto H4.out)
        have HT5 := Lib.hid (HT.out.keep fun b hb => H4.out.block b (by have : b < G := hb; omega))
        have HW5 := Lib.hid (HW.out.trans (H4.out.mono HW.out.size))
        have hG4 := HB5.out.lt
        clear HB HO HT HW H4 H3 HR hGW
        clear W
        have a4 : w4.cell? ⟨G, 4, none⟩ = some (.slice B t.items.length d) := HB5.out.cell 4
        have a5 : w4.cell? ⟨G, 5, none⟩ = some (.slice B' t.keys.length d') := HB5.out.cell 5
        have a0 : w4.cell? ⟨G, 0, none⟩ = some (.int .i64 t.kind) := HB5.out.cell 0
        have a1 : w4.cell? ⟨G, 1, none⟩ = some (.bool t.tr) := HB5.out.cell 1
        have a2 : w4.cell? ⟨G, 2, none⟩ = some (.int .i64 t.num) := HB5.out.cell 2
        have a3 : w4.cell? ⟨G, 3, none⟩ = some (.string t.str) := HB5.out.cell 3
        have f0 := HB5.out.free 0
        have f1 := HB5.out.free 1
        have f2 := HB5.out.free 2
        have f3 := HB5.out.free 3
        have f4 := HB5.out.free 4
        have f5 := HB5.out.free 5
        have o0 : w4.cell? ⟨w.heap.size, 0, none⟩ = some (.int .u8 ok) := HO5.out.cell 0
        have o1 : w4.cell? ⟨w.heap.size, 1, none⟩ = some (.int .i64 on) := HO5.out.cell 1
        have o2 : w4.cell? ⟨w.heap.size, 2, none⟩ = some (.string os) := HO5.out.cell 2
        go_cut [] (fun wy => Changed G w4 wy)
        case first =>
          rcases (by omega : m = 0 ∨ m = 1 ∨ m = 2 ∨ m = 3 ∨ m = 4 ∨ m = 5) with rfl | rfl | rfl | rfl | rfl | rfl
          · --[c0
            go_wp2_with fail
            go_meet
            exact Changed.leaf HB5.out HT5.out HNI.out (.mk _ t.tr t.num t.str t.items t.keys) 0 _ rfl rfl rfl (by have := HNI.out.fit.here.str; show t.str.size ≤ 100000; omega)
          · --[c1
            go_wp2_with fail
            go_meet
            exact Changed.leaf HB5.out HT5.out HNI.out (.mk t.kind true t.num t.str t.items t.keys) 1 _ rfl rfl rfl (by have := HNI.out.fit.here.str; show t.str.size ≤ 100000; omega)
          · --[c2
            go_wp2_with fail
            go_meet
            exact Changed.leaf HB5.out HT5.out HNI.out (.mk t.kind t.tr on t.str t.items t.keys) 2 _ rfl rfl rfl (by have := HNI.out.fit.here.str; show t.str.size ≤ 100000; omega)
          · --[c3
            go_wp2_with fail
            go_meet
            exact Changed.leaf HB5.out HT5.out HNI.out (.mk t.kind t.tr t.num os t.items t.keys) 3 _ rfl rfl rfl (by show os.size ≤ 100000; omega)
          · --[c4
            have hl40 : t.items.length ≤ 40 := by have h1 := T.len_size t; have h2 := HNI.out.size; omega
            obtain ⟨xs, hxs, hsr⟩ := (show VReads w4 (· < G) B t.items from HT5.out.row).src
            have HCX := Lib.hid hxs
            have HSR := Lib.hid hsr
            have oneX := Lib.hid (show ∀ u ∈ ([.int .i64 (ok % 8), .bool false, .int .i64 0, .string ⟨#[]⟩, .slice none 0 0, .slice none 0 0] : List Value), u.oneCell' = true from fun u hu => by simp only [List.mem_cons, List.not_mem_nil, or_false] at hu; rcases hu with rfl | rfl | rfl | rfl | rfl | rfl <;> rfl)
            have m8a : 0 ≤ ok % 8 := by omega
            have m8b : ok % 8 < 8 := by omega
            have tm8 : ok.tmod 8 = ok % 8 := Int.tmod_eq_emod_of_nonneg q0
            have wr8 : IntKind.i64.wrap (ok % 8) = ok % 8 := IntWalk.i64_in _ (by omega)
            clear hxs hsr a0 a1 a2 a3 a4 a5 o0 o1 o2 f0 f1 f2 f3 f4 f5
            go_upto_region 17 with fail
            refine wp_region_inv [some 68, some 69, some 70, some 71, some 72, some 73, some 74, some 75, some 76, some 77, some 78, some 79, none] (by kernel_rfl) (by rfl) (by kernel_rfl) (by kernel_rfl) (TwoI w4 30 6 t.items.length xs [.int .i64 (ok % 8), .bool false, .int .i64 0, .string ⟨#[]⟩, .slice none 0 0, .slice none 0 0] 0 3 9 10 12 [(1, .pointer (some ⟨G, 4, none⟩)), (2, .slice B t.items.length d), (4, .pointer (some ⟨w.heap.size, 0, none⟩)), (5, .int .u8 ok), (6, .int .u8 (ok % 8)), (7, .int .i64 (ok % 8)), (8, .agg #[.int .i64 (ok % 8), .bool false, .int .i64 0, .string ⟨#[]⟩, .slice none 0 0, .slice none 0 0]), (11, .pointer (some ⟨G, 4, none⟩))] (fun wy => Changed G w4 wy)) ?h0 ?hend ?steps
            case h0 => intro x; exact ⟨fun _ => ⟨Two.start (Below.refl _ _).drew, fun p hp h => by cases h⟩, fun h => by cases h⟩
            case hend =>
              intro l x w' hl hI
              have hF := hI.done (hl 12 (by decide))
              simp only [putL, Act.put, List.setIfInBounds_toArray, List.set_cons_zero, List.set_cons_succ]
              go_wp2_with fail
              go_meet
              exact hF
            case steps =>
              refine ⟨?_, ?_, ?_, ?_, ?_, ?_, ?_, ?_, ?_, ?_, ?_, ?_, ?_, trivial⟩
              · skip
                intro l x w' hl hd hI K hK
                have hE := TwoI.early (i := 0) hI (by decide) hl
                have hs := hE.1
                have hP := hE.2.1
                have hV := hE.2.2
                clear hE hI
                have HF := Lib.hid (hK.out (.slice (some ⟨w'.heap.size, 0, none⟩) 0 0) _ (TwoI.pre (by decide) hs (hP.empty hl (by decide)) hV (fun p hp h => by simp at hp; rcases hp with rfl | rfl | rfl | rfl | rfl | rfl | rfl | rfl <;> (exfalso; dsimp only at h; omega))))
                clear hd hK hl hs hP hV
                simp only [putL, Act.put, List.setIfInBounds_toArray, List.set_cons_zero, List.set_cons_succ]
                go_simp
                have HG := HF.out
                simp only [putL, Act.put, List.setIfInBounds_toArray, List.set_cons_zero, List.set_cons_succ] at HG
                exact HG
              · skip
                intro l x w' hl hd hI K hK
                have hE := TwoI.early (i := 1) hI (by decide) hl
                have hs := hE.1
                have hP := hE.2.1
                have hV := hE.2.2
                clear hE hI
                have HF := Lib.hid (hK.out (.pointer (some ⟨G, 4, none⟩)) w' (TwoI.pre (by decide) hs (hP.pure _ (by decide)) hV (fun p hp h => by simp at hp; rcases hp with rfl | rfl | rfl | rfl | rfl | rfl | rfl | rfl <;> first | rfl | (exfalso; dsimp only at h; omega))))
                clear hd hK hl hs hP hV
                simp only [putL, Act.put, List.setIfInBounds_toArray, List.set_cons_zero, List.set_cons_succ]
                go_simp
                have HG := HF.out
                simp only [putL, Act.put, List.setIfInBounds_toArray, List.set_cons_zero, List.set_cons_succ] at HG
                exact HG
              · skip
                intro l x w' hl hd hI K hK
                have hE := TwoI.early (i := 2) hI (by decide) hl
                have hs := hE.1
                have hP := hE.2.1
                have hV := hE.2.2
                clear hE hI
                have d1 := hV (1, .pointer (some ⟨G, 4, none⟩)) (by simp) (hd ⟨1, .data⟩ (by simp) rfl)
                have D1 := Lib.hid (show x 1 = .pointer (some ⟨G, 4, none⟩) from d1)
                have hq := HB5.out.onto hP.bel
                have q0 : w'.cell? ⟨G, 4, none⟩ = some (.slice B t.items.length d) := hq.cell 4
                have HF := Lib.hid (hK.out (.slice B t.items.length d) w' (TwoI.pre (by decide) hs (hP.pure _ (by decide)) hV (fun p hp h => by simp at hp; rcases hp with rfl | rfl | rfl | rfl | rfl | rfl | rfl | rfl <;> first | rfl | (exfalso; dsimp only at h; omega))))
                clear hd hK hl hs hP hV d1 hq
                simp only [putL, Act.put, List.setIfInBounds_toArray, List.set_cons_zero, List.set_cons_succ]
                rw [D1.out]
                go_simp
                have HG := HF.out
                simp only [putL, Act.put, List.setIfInBounds_toArray, List.set_cons_zero, List.set_cons_succ] at HG
                rw [D1.out] at HG
                exact HG
              · skip
                intro l x w' hl hd hI K hK
                have hE := TwoI.early (i := 3) hI (by decide) hl
                have hs := hE.1
                have hP := hE.2.1
                have hV := hE.2.2
                clear hE hI
                have hl0 : l 0 = true := hd ⟨0, .data⟩ (by simp) rfl
                have D2 := Lib.hid (show x 2 = .slice B t.items.length d from hV (2, .slice B t.items.length d) (by simp) (hd ⟨2, .data⟩ (by simp) rfl))
                have HP := Lib.hid hP
                have HV := Lib.hid hV
                have hown := hP.e0 hl0 hl
                clear hP hV hd
                simp only [putL, Act.put, List.setIfInBounds_toArray, List.set_cons_zero, List.set_cons_succ]
                rw [D2.out]
                rw [if_pos (by rfl)]
                refine app_wp (.tmp 68) (.tmp 70) 28 ?_ w4.heap.size 30 i1 (.agg #[.int .i64 0, .bool false, .int .i64 0, .string ⟨#[]⟩, .slice none 0 0, .slice none 0 0]) 6 88 Try.underlying28 Hi1.out hy0 hy1 hy2 rfl (by decide) (x 0) 0 [] ?_ hown B t.items.length d xs ?_ (HSR.out _ (HP.out.bel.mono (Nat.le_of_lt hG4))) HCX.out.2.1 (by unfold maxLen; omega) (by omega) HP.out.bel.size t.items.length (by omega) ?_
                · rfl
                · rfl
                · rfl
                intro K2 c2 w2 ho2 hg2 hat2
                rw [List.nil_append] at ho2
                have HG := hK.out (.slice K2 t.items.length c2) w2 (TwoI.pre (by decide) hs (HP.out.app1 hl hl0 (by decide) ho2 hg2 hat2) HV.out (fun p hp h => by simp at hp; rcases hp with rfl | rfl | rfl | rfl | rfl | rfl | rfl | rfl <;> (exfalso; dsimp only at h; omega)))
                simp only [putL, Act.put, List.setIfInBounds_toArray, List.set_cons_zero, List.set_cons_succ] at HG
                rw [D2.out] at HG
                exact HG
              · skip
                intro l x w' hl hd hI K hK
                have hE := TwoI.early (i := 4) hI (by decide) hl
                have hs := hE.1
                have hP := hE.2.1
                have hV := hE.2.2
                clear hE hI
                have HF := Lib.hid (hK.out (.pointer (some ⟨w.heap.size, 0, none⟩)) w' (TwoI.pre (by decide) hs (hP.pure _ (by decide)) hV (fun p hp h => by simp at hp; rcases hp with rfl | rfl | rfl | rfl | rfl | rfl | rfl | rfl <;> first | rfl | (exfalso; dsimp only at h; omega))))
                clear hd hK hl hs hP hV
                simp only [putL, Act.put, List.setIfInBounds_toArray, List.set_cons_zero, List.set_cons_succ]
                go_simp
                have HG := HF.out
                simp only [putL, Act.put, List.setIfInBounds_toArray, List.set_cons_zero, List.set_cons_succ] at HG
                exact HG
              · skip
                intro l x w' hl hd hI K hK
                have hE := TwoI.early (i := 5) hI (by decide) hl
                have hs := hE.1
                have hP := hE.2.1
                have hV := hE.2.2
                clear hE hI
                have d4 := hV (4, .pointer (some ⟨w.heap.size, 0, none⟩)) (by simp) (hd ⟨4, .data⟩ (by simp) rfl)
                have D4 := Lib.hid (show x 4 = .pointer (some ⟨w.heap.size, 0, none⟩) from d4)
                have hq := HO5.out.onto hP.bel
                have q0 : w'.cell? ⟨w.heap.size, 0, none⟩ = some (.int .u8 ok) := hq.cell 0
                have HF := Lib.hid (hK.out (.int .u8 ok) w' (TwoI.pre (by decide) hs (hP.pure _ (by decide)) hV (fun p hp h => by simp at hp; rcases hp with rfl | rfl | rfl | rfl | rfl | rfl | rfl | rfl <;> first | rfl | (exfalso; dsimp only at h; omega))))
                clear hd hK hl hs hP hV d4 hq
                simp only [putL, Act.put, List.setIfInBounds_toArray, List.set_cons_zero, List.set_cons_succ]
                rw [D4.out]
                go_simp
                have HG := HF.out
                simp only [putL, Act.put, List.setIfInBounds_toArray, List.set_cons_zero, List.set_cons_succ] at HG
                rw [D4.out] at HG
                exact HG
              · skip
                intro l x w' hl hd hI K hK
                have hE := TwoI.early (i := 6) hI (by decide) hl
                have hs := hE.1
                have hP := hE.2.1
                have hV := hE.2.2
                clear hE hI
                have d5 := hV (5, .int .u8 ok) (by simp) (hd ⟨5, .data⟩ (by simp) rfl)
                have D5 := Lib.hid (show x 5 = .int .u8 ok from d5)
                have HF := Lib.hid (hK.out (.int .u8 (ok % 8)) w' (TwoI.pre (by decide) hs (hP.pure _ (by decide)) hV (fun p hp h => by simp at hp; rcases hp with rfl | rfl | rfl | rfl | rfl | rfl | rfl | rfl <;> first | rfl | (exfalso; dsimp only at h; omega))))
                clear hd hK hl hs hP hV d5
                simp only [putL, Act.put, List.setIfInBounds_toArray, List.set_cons_zero, List.set_cons_succ]
                rw [D5.out]
                go_simp
                have HG := HF.out
                simp only [putL, Act.put, List.setIfInBounds_toArray, List.set_cons_zero, List.set_cons_succ] at HG
                rw [D5.out] at HG
                exact HG
              · skip
                intro l x w' hl hd hI K hK
                have hE := TwoI.early (i := 7) hI (by decide) hl
                have hs := hE.1
                have hP := hE.2.1
                have hV := hE.2.2
                clear hE hI
                have d6 := hV (6, .int .u8 (ok % 8)) (by simp) (hd ⟨6, .data⟩ (by simp) rfl)
                have D6 := Lib.hid (show x 6 = .int .u8 (ok % 8) from d6)
                have HF := Lib.hid (hK.out (.int .i64 (ok % 8)) w' (TwoI.pre (by decide) hs (hP.pure _ (by decide)) hV (fun p hp h => by simp at hp; rcases hp with rfl | rfl | rfl | rfl | rfl | rfl | rfl | rfl <;> first | rfl | (exfalso; dsimp only at h; omega))))
                clear hd hK hl hs hP hV d6
                simp only [putL, Act.put, List.setIfInBounds_toArray, List.set_cons_zero, List.set_cons_succ]
                rw [D6.out]
                go_simp
                have HG := HF.out
                simp only [putL, Act.put, List.setIfInBounds_toArray, List.set_cons_zero, List.set_cons_succ] at HG
                rw [D6.out] at HG
                exact HG
              · skip
                intro l x w' hl hd hI K hK
                have hE := TwoI.early (i := 8) hI (by decide) hl
                have hs := hE.1
                have hP := hE.2.1
                have hV := hE.2.2
                clear hE hI
                have d7 := hV (7, .int .i64 (ok % 8)) (by simp) (hd ⟨7, .data⟩ (by simp) rfl)
                have D7 := Lib.hid (show x 7 = .int .i64 (ok % 8) from d7)
                have HF := Lib.hid (hK.out (.agg #[.int .i64 (ok % 8), .bool false, .int .i64 0, .string ⟨#[]⟩, .slice none 0 0, .slice none 0 0]) w' (TwoI.pre (by decide) hs (hP.pure _ (by decide)) hV (fun p hp h => by simp at hp; rcases hp with rfl | rfl | rfl | rfl | rfl | rfl | rfl | rfl <;> first | rfl | (exfalso; dsimp only at h; omega))))
                clear hd hK hl hs hP hV d7
                simp only [putL, Act.put, List.setIfInBounds_toArray, List.set_cons_zero, List.set_cons_succ]
                rw [D7.out]
                go_simp
                have HG := HF.out
                simp only [putL, Act.put, List.setIfInBounds_toArray, List.set_cons_zero, List.set_cons_succ] at HG
                rw [D7.out] at HG
                exact HG
              · skip
                intro l x w' hl hd hI K hK
                have hE := TwoI.early (i := 9) hI (by decide) hl
                have hs := hE.1
                have hP := hE.2.1
                have hV := hE.2.2
                clear hE hI
                have D8 := Lib.hid (show x 8 = .agg #[.int .i64 (ok % 8), .bool false, .int .i64 0, .string ⟨#[]⟩, .slice none 0 0, .slice none 0 0] from hV (8, .agg #[.int .i64 (ok % 8), .bool false, .int .i64 0, .string ⟨#[]⟩, .slice none 0 0, .slice none 0 0]) (by simp) (hd ⟨8, .data⟩ (by simp) rfl))
                have HF := Lib.hid (hK.out (.slice (some ⟨w'.heap.size, 0, none⟩) 1 1) _ (TwoI.pre (by decide) hs (hP.lit hl (by decide)) hV (fun p hp h => by simp at hp; rcases hp with rfl | rfl | rfl | rfl | rfl | rfl | rfl | rfl <;> (exfalso; dsimp only at h; omega))))
                clear hd hK hl hs hP hV
                simp only [putL, Act.put, List.setIfInBounds_toArray, List.set_cons_zero, List.set_cons_succ]
                rw [D8.out]
                go_simp
                have HG := HF.out
                simp only [putL, Act.put, List.setIfInBounds_toArray, List.set_cons_zero, List.set_cons_succ] at HG
                rw [D8.out] at HG
                exact HG
              · skip
                intro l x w' hl hd hI K hK
                have hE := TwoI.early (i := 10) hI (by decide) hl
                have hs := hE.1
                have hP := hE.2.1
                have hV := hE.2.2
                clear hE hI
                have hl3 : l 3 = true := hd ⟨3, .data⟩ (by simp) rfl
                have hl6 : l 9 = true := hd ⟨9, .data⟩ (by simp) rfl
                have HP := Lib.hid hP
                have HV := Lib.hid hV
                have y3 := hP.e3 hl3 hl
                have y6 := hP.e6 hl6
                clear hP hV hd
                cases y3
                rename_i K1 y3
                cases y3
                rename_i c1 y3
                cases y6
                rename_i g y6
                have E3 := Lib.hid y3.1
                have hown := y3.2
                have E6 := Lib.hid y6.1
                have hbk := y6.2
                clear y3 y6
                simp only [putL, Act.put, List.setIfInBounds_toArray, List.set_cons_zero, List.set_cons_succ]
                rw [E3.out, E6.out]
                rw [if_pos (by rfl)]
                refine app_wp (.tmp 71) (.tmp 77) 28 ?_ w4.heap.size 30 i1 (.agg #[.int .i64 0, .bool false, .int .i64 0, .string ⟨#[]⟩, .slice none 0 0, .slice none 0 0]) 6 88 Try.underlying28 Hi1.out hy0 hy1 hy2 rfl (by decide) (.slice K1 t.items.length c1) t.items.length xs ?_ hown (some ⟨g, 0, none⟩) 1 1 [.int .i64 (ok % 8), .bool false, .int .i64 0, .string ⟨#[]⟩, .slice none 0 0, .slice none 0 0] ?_ (src_of_cs (t := T.ofKind (ok % 8)) (A := none) (c := 0) (A' := none) (c' := 0) hbk) oneX.out (by unfold maxLen; omega) (by omega) HP.out.bel.size (t.items.length + 1) (by omega) ?_
                · rfl
                · rfl
                · rfl
                intro K2 c2 w2 ho2 hg2 hat2
                have HG := hK.out (.slice K2 (t.items.length + 1) c2) w2 (TwoI.pre (by decide) hs (HP.out.app2 hl hl3 hl6 (by decide) ho2 (by rw [E3.out]; exact hg2)) HV.out (fun p hp h => by simp at hp; rcases hp with rfl | rfl | rfl | rfl | rfl | rfl | rfl | rfl <;> (exfalso; dsimp only at h; omega)))
                simp only [putL, Act.put, List.setIfInBounds_toArray, List.set_cons_zero, List.set_cons_succ] at HG
                rw [E3.out, E6.out] at HG
                exact HG
              · skip
                intro l x w' hl hd hI K hK
                have hE := TwoI.early (i := 11) hI (by decide) hl
                have hs := hE.1
                have hP := hE.2.1
                have hV := hE.2.2
                clear hE hI
                have HF := Lib.hid (hK.out (.pointer (some ⟨G, 4, none⟩)) w' (TwoI.pre (by decide) hs (hP.pure _ (by decide)) hV (fun p hp h => by simp at hp; rcases hp with rfl | rfl | rfl | rfl | rfl | rfl | rfl | rfl <;> first | rfl | (exfalso; dsimp only at h; omega))))
                clear hd hK hl hs hP hV
                simp only [putL, Act.put, List.setIfInBounds_toArray, List.set_cons_zero, List.set_cons_succ]
                go_simp
                have HG := HF.out
                simp only [putL, Act.put, List.setIfInBounds_toArray, List.set_cons_zero, List.set_cons_succ] at HG
                exact HG
              · skip
                intro l x w' hl hd hI K hK
                have hall : ∀ i, i < 12 → l i = true := fun i hi => by
                  rcases (by omega : i = 0 ∨ i = 1 ∨ i = 2 ∨ i = 3 ∨ i = 4 ∨ i = 5 ∨ i = 6 ∨ i = 7 ∨ i = 8 ∨ i = 9 ∨ i = 10 ∨ i = 11) with rfl | rfl | rfl | rfl | rfl | rfl | rfl | rfl | rfl | rfl | rfl | rfl
                  · exact hd ⟨0, .phase⟩ (by simp) rfl
                  · exact hd ⟨1, .phase⟩ (by simp) rfl
                  · exact hd ⟨2, .phase⟩ (by simp) rfl
                  · exact hd ⟨3, .phase⟩ (by simp) rfl
                  · exact hd ⟨4, .phase⟩ (by simp) rfl
                  · exact hd ⟨5, .phase⟩ (by simp) rfl
                  · exact hd ⟨6, .phase⟩ (by simp) rfl
                  · exact hd ⟨7, .phase⟩ (by simp) rfl
                  · exact hd ⟨8, .phase⟩ (by simp) rfl
                  · exact hd ⟨9, .phase⟩ (by simp) rfl
                  · exact hd ⟨10, .phase⟩ (by simp) rfl
                  · exact hd ⟨11, .data⟩ (by simp) rfl
                have hE := hI.1 hl
                have hP := hE.1
                have hV := hE.2
                have y7 := hP.e7 (hall 10 (by decide))
                have D11 := Lib.hid (show x 11 = .pointer (some ⟨G, 4, none⟩) from hV (11, .pointer (some ⟨G, 4, none⟩)) (by simp) (hall 11 (by decide)))
                have HA := Lib.hid hall
                have hbel := hP.bel
                clear hE hP hV hI hd hall
                cases y7
                rename_i K1 y7
                cases y7
                rename_i c1 y7
                have E7 := Lib.hid y7.1
                have HO := Lib.hid y7.2
                clear y7
                have hk3 := HB5.out.onto hbel
                have s5 : w'.cell? ⟨G, 4, none⟩ = some (.slice B t.items.length d) := hk3.cell 4
                have fs5 := hk3.free 4
                have HBE := Lib.hid hbel
                have HF := Lib.hid (hK.out undef (w'.setCell ⟨G, 4, none⟩ (.slice K1 (t.items.length + 1) c1)) (TwoI.last HA.out (Changed.item HB5.out HT5.out HNI.out (ok % 8) HCX.out HO.out HBE.out)))
                clear hk3 hbel hK hl
                simp only [putL, Act.put, List.setIfInBounds_toArray, List.set_cons_zero, List.set_cons_succ]
                rw [D11.out, E7.out]
                go_simp
                have HG := HF.out
                simp only [putL, Act.put, List.setIfInBounds_toArray, List.set_cons_zero, List.set_cons_succ] at HG
                rw [D11.out, E7.out] at HG
                exact HG
          · --[c5
            have hk40 := HNI.out.keys40
            have oneT := Lib.hid (show ∀ u ∈ t.keys.map Value.string, u.oneCell' = true from fun u hu => by obtain ⟨s, _, rfl⟩ := List.mem_map.1 hu; rfl)
            have oneQ := Lib.hid (show ∀ u ∈ [Value.string os], u.oneCell' = true from fun u hu => by simp at hu; subst hu; rfl)
            clear a0 a1 a2 a3 a4 a5 o0 o1 o2 f0 f1 f2 f3 f4 f5
            go_upto_region 7 with fail
            refine wp_region_inv [some 37, some 38, some 39, some 40, some 41, some 42, some 43, some 44, some 45, none] (by kernel_rfl) (by rfl) (by kernel_rfl) (by kernel_rfl) (TwoI w4 9 1 t.keys.length (t.keys.map Value.string) [.string os] 0 3 6 7 9 [(1, .pointer (some ⟨G, 5, none⟩)), (2, .slice B' t.keys.length d'), (4, .pointer (some ⟨w.heap.size, 2, none⟩)), (5, .string os), (8, .pointer (some ⟨G, 5, none⟩))] (fun wy => Changed G w4 wy)) ?h0 ?hend ?steps
            case h0 => intro x; exact ⟨fun _ => ⟨Two.start (Below.refl _ _).drew, fun p hp h => by cases h⟩, fun h => by cases h⟩
            case hend =>
              intro l x w' hl hI
              have hF := hI.done (hl 9 (by decide))
              simp only [putL, Act.put, List.setIfInBounds_toArray, List.set_cons_zero, List.set_cons_succ]
              go_wp2_with fail
              go_meet
              exact hF
            case steps =>
              refine ⟨?_, ?_, ?_, ?_, ?_, ?_, ?_, ?_, ?_, ?_, trivial⟩
              · skip
                intro l x w' hl hd hI K hK
                have hE := TwoI.early (i := 0) hI (by decide) hl
                have hs := hE.1
                have hP := hE.2.1
                have hV := hE.2.2
                clear hE hI
                have HF := Lib.hid (hK.out (.slice (some ⟨w'.heap.size, 0, none⟩) 0 0) _ (TwoI.pre (by decide) hs (hP.empty hl (by decide)) hV (fun p hp h => by simp at hp; rcases hp with rfl | rfl | rfl | rfl | rfl <;> (exfalso; dsimp only at h; omega))))
                clear hd hK hl hs hP hV
                simp only [putL, Act.put, List.setIfInBounds_toArray, List.set_cons_zero, List.set_cons_succ]
                go_simp
                have HG := HF.out
                simp only [putL, Act.put, List.setIfInBounds_toArray, List.set_cons_zero, List.set_cons_succ] at HG
                exact HG
              · skip
                intro l x w' hl hd hI K hK
                have hE := TwoI.early (i := 1) hI (by decide) hl
                have hs := hE.1
                have hP := hE.2.1
                have hV := hE.2.2
                clear hE hI
                have HF := Lib.hid (hK.out (.pointer (some ⟨G, 5, none⟩)) w' (TwoI.pre (by decide) hs (hP.pure _ (by decide)) hV (fun p hp h => by simp at hp; rcases hp with rfl | rfl | rfl | rfl | rfl <;> first | rfl | (exfalso; dsimp only at h; omega))))
                clear hd hK hl hs hP hV
                simp only [putL, Act.put, List.setIfInBounds_toArray, List.set_cons_zero, List.set_cons_succ]
                go_simp
                have HG := HF.out
                simp only [putL, Act.put, List.setIfInBounds_toArray, List.set_cons_zero, List.set_cons_succ] at HG
                exact HG
              · skip
                intro l x w' hl hd hI K hK
                have hE := TwoI.early (i := 2) hI (by decide) hl
                have hs := hE.1
                have hP := hE.2.1
                have hV := hE.2.2
                clear hE hI
                have d1 := hV (1, .pointer (some ⟨G, 5, none⟩)) (by simp) (hd ⟨1, .data⟩ (by simp) rfl)
                have D1 := Lib.hid (show x 1 = .pointer (some ⟨G, 5, none⟩) from d1)
                have hq := HB5.out.onto hP.bel
                have q0 : w'.cell? ⟨G, 5, none⟩ = some (.slice B' t.keys.length d') := hq.cell 5
                have HF := Lib.hid (hK.out (.slice B' t.keys.length d') w' (TwoI.pre (by decide) hs (hP.pure _ (by decide)) hV (fun p hp h => by simp at hp; rcases hp with rfl | rfl | rfl | rfl | rfl <;> first | rfl | (exfalso; dsimp only at h; omega))))
                clear hd hK hl hs hP hV d1 hq
                simp only [putL, Act.put, List.setIfInBounds_toArray, List.set_cons_zero, List.set_cons_succ]
                rw [D1.out]
                go_simp
                have HG := HF.out
                simp only [putL, Act.put, List.setIfInBounds_toArray, List.set_cons_zero, List.set_cons_succ] at HG
                rw [D1.out] at HG
                exact HG
              · skip
                intro l x w' hl hd hI K hK
                have hE := TwoI.early (i := 3) hI (by decide) hl
                have hs := hE.1
                have hP := hE.2.1
                have hV := hE.2.2
                clear hE hI
                have hl0 : l 0 = true := hd ⟨0, .data⟩ (by simp) rfl
                have D2 := Lib.hid (show x 2 = .slice B' t.keys.length d' from hV (2, .slice B' t.keys.length d') (by simp) (hd ⟨2, .data⟩ (by simp) rfl))
                have HP := Lib.hid hP
                have HV := Lib.hid hV
                have hown := hP.e0 hl0 hl
                clear hP hV hd
                simp only [putL, Act.put, List.setIfInBounds_toArray, List.set_cons_zero, List.set_cons_succ]
                rw [D2.out]
                rw [if_pos (by rfl)]
                refine app_wp (.tmp 37) (.tmp 39) 24 ?_ w4.heap.size 9 i0 (.string ⟨#[]⟩) 1 16 Try.underlying24 Hi0.out hz0 hz1 hz2 rfl (by decide) (x 0) 0 [] ?_ hown B' t.keys.length d' (t.keys.map Value.string) ?_ ((HT5.out.keys.keep (.of_below (HP.out.bel.mono (Nat.le_of_lt hG4)))).src) (oneT.out) (by unfold maxLen; omega) (by omega) HP.out.bel.size t.keys.length (by omega) ?_
                · rfl
                · rfl
                · rfl
                intro K2 c2 w2 ho2 hg2 hat2
                rw [List.nil_append] at ho2
                have HG := hK.out (.slice K2 t.keys.length c2) w2 (TwoI.pre (by decide) hs (HP.out.app1 hl hl0 (by decide) ho2 hg2 hat2) HV.out (fun p hp h => by simp at hp; rcases hp with rfl | rfl | rfl | rfl | rfl <;> (exfalso; dsimp only at h; omega)))
                simp only [putL, Act.put, List.setIfInBounds_toArray, List.set_cons_zero, List.set_cons_succ] at HG
                rw [D2.out] at HG
                exact HG
              · skip
                intro l x w' hl hd hI K hK
                have hE := TwoI.early (i := 4) hI (by decide) hl
                have hs := hE.1
                have hP := hE.2.1
                have hV := hE.2.2
                clear hE hI
                have HF := Lib.hid (hK.out (.pointer (some ⟨w.heap.size, 2, none⟩)) w' (TwoI.pre (by decide) hs (hP.pure _ (by decide)) hV (fun p hp h => by simp at hp; rcases hp with rfl | rfl | rfl | rfl | rfl <;> first | rfl | (exfalso; dsimp only at h; omega))))
                clear hd hK hl hs hP hV
                simp only [putL, Act.put, List.setIfInBounds_toArray, List.set_cons_zero, List.set_cons_succ]
                go_simp
                have HG := HF.out
                simp only [putL, Act.put, List.setIfInBounds_toArray, List.set_cons_zero, List.set_cons_succ] at HG
                exact HG
              · skip
                intro l x w' hl hd hI K hK
                have hE := TwoI.early (i := 5) hI (by decide) hl
                have hs := hE.1
                have hP := hE.2.1
                have hV := hE.2.2
                clear hE hI
                have d4 := hV (4, .pointer (some ⟨w.heap.size, 2, none⟩)) (by simp) (hd ⟨4, .data⟩ (by simp) rfl)
                have D4 := Lib.hid (show x 4 = .pointer (some ⟨w.heap.size, 2, none⟩) from d4)
                have hq := HO5.out.onto hP.bel
                have q0 : w'.cell? ⟨w.heap.size, 2, none⟩ = some (.string os) := hq.cell 2
                have HF := Lib.hid (hK.out (.string os) w' (TwoI.pre (by decide) hs (hP.pure _ (by decide)) hV (fun p hp h => by simp at hp; rcases hp with rfl | rfl | rfl | rfl | rfl <;> first | rfl | (exfalso; dsimp only at h; omega))))
                clear hd hK hl hs hP hV d4 hq
                simp only [putL, Act.put, List.setIfInBounds_toArray, List.set_cons_zero, List.set_cons_succ]
                rw [D4.out]
                go_simp
                have HG := HF.out
                simp only [putL, Act.put, List.setIfInBounds_toArray, List.set_cons_zero, List.set_cons_succ] at HG
                rw [D4.out] at HG
                exact HG
              · skip
                intro l x w' hl hd hI K hK
                have hE := TwoI.early (i := 6) hI (by decide) hl
                have hs := hE.1
                have hP := hE.2.1
                have hV := hE.2.2
                clear hE hI
                have D5 := Lib.hid (show x 5 = .string os from hV (5, .string os) (by simp) (hd ⟨5, .data⟩ (by simp) rfl))
                have HF := Lib.hid (hK.out (.slice (some ⟨w'.heap.size, 0, none⟩) 1 1) _ (TwoI.pre (by decide) hs (hP.lit hl (by decide)) hV (fun p hp h => by simp at hp; rcases hp with rfl | rfl | rfl | rfl | rfl <;> (exfalso; dsimp only at h; omega))))
                clear hd hK hl hs hP hV
                simp only [putL, Act.put, List.setIfInBounds_toArray, List.set_cons_zero, List.set_cons_succ]
                rw [D5.out]
                go_simp
                have HG := HF.out
                simp only [putL, Act.put, List.setIfInBounds_toArray, List.set_cons_zero, List.set_cons_succ] at HG
                rw [D5.out] at HG
                exact HG
              · skip
                intro l x w' hl hd hI K hK
                have hE := TwoI.early (i := 7) hI (by decide) hl
                have hs := hE.1
                have hP := hE.2.1
                have hV := hE.2.2
                clear hE hI
                have hl3 : l 3 = true := hd ⟨3, .data⟩ (by simp) rfl
                have hl6 : l 6 = true := hd ⟨6, .data⟩ (by simp) rfl
                have HP := Lib.hid hP
                have HV := Lib.hid hV
                have y3 := hP.e3 hl3 hl
                have y6 := hP.e6 hl6
                clear hP hV hd
                cases y3
                rename_i K1 y3
                cases y3
                rename_i c1 y3
                cases y6
                rename_i g y6
                have E3 := Lib.hid y3.1
                have hown := y3.2
                have E6 := Lib.hid y6.1
                have hbk := y6.2
                clear y3 y6
                simp only [putL, Act.put, List.setIfInBounds_toArray, List.set_cons_zero, List.set_cons_succ]
                rw [E3.out, E6.out]
                rw [if_pos (by rfl)]
                refine app_wp (.tmp 40) (.tmp 43) 24 ?_ w4.heap.size 9 i0 (.string ⟨#[]⟩) 1 16 Try.underlying24 Hi0.out hz0 hz1 hz2 rfl (by decide) (.slice K1 t.keys.length c1) t.keys.length (t.keys.map Value.string) ?_ hown (some ⟨g, 0, none⟩) 1 1 [.string os] ?_ (src_one hbk) oneQ.out (by unfold maxLen; omega) (by omega) HP.out.bel.size (t.keys.length + 1) (by omega) ?_
                · rfl
                · rfl
                · rfl
                intro K2 c2 w2 ho2 hg2 hat2
                have HG := hK.out (.slice K2 (t.keys.length + 1) c2) w2 (TwoI.pre (by decide) hs (HP.out.app2 hl hl3 hl6 (by decide) ho2 (by rw [E3.out]; exact hg2)) HV.out (fun p hp h => by simp at hp; rcases hp with rfl | rfl | rfl | rfl | rfl <;> (exfalso; dsimp only at h; omega)))
                simp only [putL, Act.put, List.setIfInBounds_toArray, List.set_cons_zero, List.set_cons_succ] at HG
                rw [E3.out, E6.out] at HG
                exact HG
              · skip
                intro l x w' hl hd hI K hK
                have hE := TwoI.early (i := 8) hI (by decide) hl
                have hs := hE.1
                have hP := hE.2.1
                have hV := hE.2.2
                clear hE hI
                have HF := Lib.hid (hK.out (.pointer (some ⟨G, 5, none⟩)) w' (TwoI.pre (by decide) hs (hP.pure _ (by decide)) hV (fun p hp h => by simp at hp; rcases hp with rfl | rfl | rfl | rfl | rfl <;> first | rfl | (exfalso; dsimp only at h; omega))))
                clear hd hK hl hs hP hV
                simp only [putL, Act.put, List.setIfInBounds_toArray, List.set_cons_zero, List.set_cons_succ]
                go_simp
                have HG := HF.out
                simp only [putL, Act.put, List.setIfInBounds_toArray, List.set_cons_zero, List.set_cons_succ] at HG
                exact HG
              · skip
                intro l x w' hl hd hI K hK
                have hall : ∀ i, i < 9 → l i = true := fun i hi => by
                  rcases (by omega : i = 0 ∨ i = 1 ∨ i = 2 ∨ i = 3 ∨ i = 4 ∨ i = 5 ∨ i = 6 ∨ i = 7 ∨ i = 8) with rfl | rfl | rfl | rfl | rfl | rfl | rfl | rfl | rfl
                  · exact hd ⟨0, .phase⟩ (by simp) rfl
                  · exact hd ⟨1, .phase⟩ (by simp) rfl
                  · exact hd ⟨2, .phase⟩ (by simp) rfl
                  · exact hd ⟨3, .phase⟩ (by simp) rfl
                  · exact hd ⟨4, .phase⟩ (by simp) rfl
                  · exact hd ⟨5, .phase⟩ (by simp) rfl
                  · exact hd ⟨6, .phase⟩ (by simp) rfl
                  · exact hd ⟨7, .phase⟩ (by simp) rfl
                  · exact hd ⟨8, .data⟩ (by simp) rfl
                have hE := hI.1 hl
                have hP := hE.1
                have hV := hE.2
                have y7 := hP.e7 (hall 7 (by decide))
                have D8 := Lib.hid (show x 8 = .pointer (some ⟨G, 5, none⟩) from hV (8, .pointer (some ⟨G, 5, none⟩)) (by simp) (hall 8 (by decide)))
                have HA := Lib.hid hall
                have hbel := hP.bel
                clear hE hP hV hI hd hall
                cases y7
                rename_i K1 y7
                cases y7
                rename_i c1 y7
                have E7 := Lib.hid y7.1
                have HO := Lib.hid y7.2
                clear y7
                have hk3 := HB5.out.onto hbel
                have s5 : w'.cell? ⟨G, 5, none⟩ = some (.slice B' t.keys.length d') := hk3.cell 5
                have fs5 := hk3.free 5
                have HBE := Lib.hid hbel
                have HF := Lib.hid (hK.out undef (w'.setCell ⟨G, 5, none⟩ (.slice K1 (t.keys.length + 1) c1)) (TwoI.last HA.out (Changed.key HB5.out HT5.out HNI.out os (by omega) HO.out HBE.out)))
                clear hk3 hbel hK hl
                simp only [putL, Act.put, List.setIfInBounds_toArray, List.set_cons_zero, List.set_cons_succ]
                rw [D8.out, E7.out]
                go_simp
                have HG := HF.out
                simp only [putL, Act.put, List.setIfInBounds_toArray, List.set_cons_zero, List.set_cons_succ] at HG
                rw [D8.out, E7.out] at HG
                exact HG
        case rest =>
          obtain ⟨u, A, c5, A', c6, hB6, hT6, hsm, hmi, hsz, hb6⟩ := hcut
          obtain ⟨g, hg⟩ : ∃ g : Bool, g = true ↔ u.Good := by
            by_cases h : u.Good
            · exact ⟨true, fun _ => h, fun _ => rfl⟩
            · exact ⟨false, fun h => by (cases h), fun k => absurd k h⟩
          have HG := Lib.hid hg
          have HB6 := Lib.hid hB6
          have HT6 := Lib.hid hT6
          have HSM := Lib.hid hsm
          have HMI := Lib.hid hmi
          have HW6 := Lib.hid (HW5.out.trans (hb6.mono (Nat.le_of_lt hwG)))
          have hgg : (g == g) = true := by simp
          clear hg hB6 hT6 hsm hmi hb6 a0 a1 a2 a3 a4 a5 o0 o1 o2 f0 f1 f2 f3 f4 f5 HB5 HO5 HT5 HW5
          go_upto_region 18 with fail
          have HSS := Lib.hid (show ∀ w', Below wc.heap.size wc w' → (w'.cell? ⟨G, 0, none⟩ = some (.int .i64 u.kind) ∧ w'.cell? ⟨G, 1, none⟩ = some (.bool u.tr) ∧ w'.cell? ⟨G, 2, none⟩ = some (.int .i64 u.num) ∧ w'.cell? ⟨G, 3, none⟩ = some (.string u.str) ∧ w'.cell? ⟨G, 4, none⟩ = some (.slice A u.items.length c5) ∧ w'.cell? ⟨G, 5, none⟩ = some (.slice A' u.keys.length c6)) from fun w' hb => by
            have k1 := HB6.out.onto hb
            exact ⟨k1.cell 0, k1.cell 1, k1.cell 2, k1.cell 3, k1.cell 4, k1.cell 5⟩)
          have HBc := Lib.hid (Below.refl wc.heap.size wc)
          obtain ⟨k0, k1, k2, k3, k4, k5⟩ := HSS.out wc (Below.refl _ _)
          go_region_held3 (fun w' => (w'.cell? ⟨G, 0, none⟩ = some (.int .i64 u.kind) ∧ w'.cell? ⟨G, 1, none⟩ = some (.bool u.tr) ∧ w'.cell? ⟨G, 2, none⟩ = some (.int .i64 u.num) ∧ w'.cell? ⟨G, 3, none⟩ = some (.string u.str) ∧ w'.cell? ⟨G, 4, none⟩ = some (.slice A u.items.length c5) ∧ w'.cell? ⟨G, 5, none⟩ = some (.slice A' u.keys.length c6)))
            (first
              | with_reducible exact HSS.out _ HBc.out
              | with_reducible exact HSS.out _ (below_drewN HBc.out _)
              | exact HSS.out _ HBc.out.drew
              | go_keep)
            (first
              | (go_at_call 7
                 with_reducible refine (real_cells u A c5 A' c6 _ hsz HSM.out (HT6.out.on ?_)).mono ?_
                 · exact (by first | with_reducible exact HBc.out | with_reducible exact below_drewN HBc.out _ | exact HBc.out.drew)
                 rintro e7 w7 ⟨L, m7, L', m8, rfl, hL, hb7⟩
                 unfold T.agg
                 have HBc := Lib.hid (show Below wc.heap.size wc w7 from by first | with_reducible exact HBc.out.trans (hb7.mono HBc.out.size) | with_reducible exact (below_drewN HBc.out _).trans (hb7.mono HBc.out.size) | exact HBc.out.drew.trans (hb7.mono HBc.out.size))
                 have HL7 := Lib.hid (show TV w7 (· < w7.heap.size) u L m7 L' m8 from hL.wide fun b hb => hb.2)
                 have HBr := Lib.hid (Below.refl w7.heap.size w7)
                 clear hL hb7)
              | (go_at_call 8
                 with_reducible refine (vgood_b g u L m7 L' m8 _ HG.out hsz HSM.out (HL7.out.on ?_)).mono ?_
                 · exact (by first | with_reducible exact HBr.out | with_reducible exact below_drewN HBr.out _ | exact HBr.out.drew)
                 rintro e8 w8 ⟨rfl, hb8⟩
                 have HBc := Lib.hid (show Below wc.heap.size wc w8 from by first | with_reducible exact HBc.out.trans (hb8.mono HBc.out.size) | with_reducible exact (below_drewN HBc.out _).trans (hb8.mono HBc.out.size) | exact HBc.out.drew.trans (hb8.mono HBc.out.size))
                 clear hb8)
              | (go_at_call 9
                 with_reducible refine (rgood_b g u A c5 A' c6 _ HG.out hsz HSM.out HMI.out (HT6.out.on ?_)).mono ?_
                 · exact (by first | with_reducible exact HBc.out | with_reducible exact below_drewN HBc.out _ | exact HBc.out.drew)
                 rintro e9 w9 ⟨rfl, hb9⟩
                 have HBc := Lib.hid (show Below wc.heap.size wc w9 from by first | with_reducible exact HBc.out.trans (hb9.mono HBc.out.size) | with_reducible exact (below_drewN HBc.out _).trans (hb9.mono HBc.out.size) | exact HBc.out.drew.trans (hb9.mono HBc.out.size))
                 clear hb9))
          all_goals
            go_wp2_with fail
            go_ret
            exact ⟨rfl, HW6.out.trans (HBc.out.mono HW6.out.size)⟩
      · --[f3
        have t3 : decide ((100 : Int) < (os.size : Int)) = true := decide_eq_true (by omega)
        have t3' : decide (100 < os.size) = true := decide_eq_true (by omega)
        go_wp2_with fail
        refine (awake_any _).mono ?_
        rintro e w2 ⟨rfl, hb2⟩
        have H2 := Lib.hid (H1.out.trans (hb2.mono H1.out.size))
        clear hb2
        go_wp2_with fail
        go_ret
        exact ⟨rfl, H2.out⟩
    · --[f2
      have t2 : decide ((10 : Int) < (mk : Int)) = true := decide_eq_true (by omega)
      have t2' : decide (10 < mk) = true := decide_eq_true (by omega)
      go_wp2_with fail
      refine (awake_any _).mono ?_
      rintro e w2 ⟨rfl, hb2⟩
      have H2 := Lib.hid (H1.out.trans (hb2.mono H1.out.size))
      clear hb2
      go_wp2_with fail
      go_ret
      exact ⟨rfl, H2.out⟩
  · --[f1
    have t1 : decide ((10 : Int) < (mi : Int)) = true := decide_eq_true (by omega)
    have t1' : decide (10 < mi) = true := decide_eq_true (by omega)
    go_wp2_with fail
    refine (awake_any _).mono ?_
    rintro e w2 ⟨rfl, hb2⟩
    have H2 := Lib.hid (H1.out.trans (hb2.mono H1.out.size))
    clear hb2
    go_wp2_with fail
    go_ret
    exact ⟨rfl, H2.out⟩

set_option maxRecDepth 100000 in
theorem lifted (os : Os) (started : os.Started) (H : Type) (enc : TypeId × Value → H) :
    ReturnsInHanded {} Try.checked os 3 .any (Rows.valueGoodsSpec.pre6 enc Try.prog Try.f3 Rows.valueGoodsRow.domain false) (Rows.valueGoodsSpec.post enc Try.prog Try.f3 false true false false) := by
  refine returnsInHanded_of_change (C := Try.checked) own started (by kernel_rfl) Try.func3
    (ChangeSpec.witness6 (enc := enc) (C := Try.checked) false ⟨#[], #[.slice none 0 0, .agg #[.int .u8 0, .int .i64 0, .string ByteArray.empty, .slice none 0 0, .slice none 0 0], .int .u8 0], []⟩ 8 (by kernel_rfl) (by kernel_rfl) (by kernel_rfl) (by kernel_rfl)) ?_
  intro W base args ds gs before hval0 hW hcnd _
  have hval : ∀ (j : Nat) t v, Try.f3.params[j]? = some t → args[j]? = some v → Value.okWide Try.prog W .any base t v := hval0
  have hW' := hW
  obtain ⟨p, q, hA0, hV, rfl, hfz, hnd⟩ := hW
  have hA : DataW.TrodAll enc Try.prog W 0 (fun _ => true) true Try.f3.params.toList args.toList ds p := hA0
  rw [Try.params3] at hA hval
  obtain ⟨v0, vs0, d0, ds0, p0, q0, hargs, rfl, rfl, h0, r0⟩ := trodAll_cons hA
  obtain ⟨v1, vs1, d1, ds1, p1, q1, rfl, rfl, rfl, h1, r1⟩ := trodAll_cons r0
  obtain ⟨v2, vs2, d2, ds2, p2, q2, rfl, rfl, rfl, h2, r2⟩ := trodAll_cons r1
  obtain ⟨rfl, rfl, rfl⟩ := trodAll_nil r2
  obtain rfl : args = #[v0, v1, v2] := by cases args; simp_all
  obtain ⟨rfl, rfl⟩ := trodVars_none hV
  obtain ⟨a0, n0, c0, rfl⟩ := okWide_slice Try.underlying22 (hval 0 22 v0 rfl rfl)
  have k0 := h0
  have lt0 : ∀ x ∈ p0, x.block < W.heap.size := by obtain ⟨m, hm⟩ := k0; exact DataW.trod_lt m _ _ _ hm
  obtain ⟨f0, hf0⟩ := h0
  obtain ⟨hnc0, hcm0, hN0⟩ := nodes_open (show DataW.trod enc Try.prog W 0 _ _ f0 22 [.slice a0 n0 c0] = some (d0, p0) from hf0)
  have k1 := h1
  have lt1 : ∀ x ∈ p1, x.block < W.heap.size := by obtain ⟨m, hm⟩ := k1; exact DataW.trod_lt m _ _ _ hm
  obtain ⟨e1, n1, s1, I1, mi1, ci1, K1, mk1, ck1, rfl, hnode1⟩ := node_open (hval 1 26 v1 rfl rfl) h1
  obtain ⟨x2, rfl, rfl, rfl, w2⟩ := open_int Try.underlying5 (hval 2 5 v2 rfl rfl) h2
  have b2 := w2
  simp only [Lit.wf, decide_eq_true_eq, Bool.and_eq_true] at b2
  have eu8a : IntKind.u8.min = 0 := rfl
  have eu8b : IntKind.u8.max = 255 := rfl
  have ei64a : IntKind.i64.min = -9223372036854775808 := rfl
  have ei64b : IntKind.i64.max = 9223372036854775807 := rfl
  clear hA0 hval0
  refine (walk a0 n0 c0 e1 n1 s1 I1 mi1 ci1 K1 mk1 ck1 x2 W hnc0 hcm0 hN0 hnode1 (by omega) (by omega)).mono fun e W' ⟨he, bel⟩ => ?_
  subst he
  exact ⟨_, rfl, _, _, _, [], _, [], hW', trodAll_mk1 (shut_bool Try.underlying4 _), (trodAll_cons_mk (Below.trod laidOut (by kernel_rfl) (of_decide_eq_true (by kernel_rfl)) k0 bel lt0) (trodAll_cons_mk (Below.trod laidOut (by kernel_rfl) (of_decide_eq_true (by kernel_rfl)) k1 bel lt1) (trodAll_cons_mk (shut_int Try.underlying5 w2) trodAll_mk0))), rfl, bel.frame _, fun h => by cases h⟩

theorem over : Rows.valueGoodsRow.holds Try.pinned (OpenSpec.ofChange Rows.valueGoodsSpec) :=
  OpenClaim.holds_of_wide 3 Try.f3 rfl rfl rfl rfl rfl rfl rfl ⟨rfl, rfl, rfl, rfl, rfl⟩ rfl rfl rfl rfl rfl (by kernel_rfl) Try.func3 (by kernel_rfl)
    (of_decide_eq_true (by kernel_rfl)) (by unfold Func.isWrapper; first | (rw [if_pos (by decide +kernel)]; kernel_rfl) | (rw [if_neg (by decide +kernel)]; exact ⟨rfl, rfl⟩))
    (fun os started H enc _ => lifted os started H enc)

/-- The statement. -/
theorem proved : Rows.ValueGoodsSaid := over
end Go.Proofs.Ytleikaiokoahdaa.valueGoods
