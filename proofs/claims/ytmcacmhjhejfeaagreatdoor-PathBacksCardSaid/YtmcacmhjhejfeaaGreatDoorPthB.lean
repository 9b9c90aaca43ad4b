/- path.Parse: contract. -/
import Derived.Test.YtmcacmhjhejfeaaGreatDoorPthA
import Derived.Test.YtmcacmhjhejfeaaGreatDoorEach
import Derived.Outline
namespace Go.Proofs.YtmcacmhjhejfeaaGreatDoor
open Go.RowKit
open Tk
open Pl
set_option linter.unusedVariables false

/-- the first k of a row turned, the others not yet -/
def halfB (f : ByteArray → ByteArray) (l : List ByteArray) (k : Nat) : List ByteArray := (l.take k).map f ++ l.drop k
theorem halfB_zero (f : ByteArray → ByteArray) (l : List ByteArray) : halfB f l 0 = l := by simp [halfB]
theorem halfB_all (f : ByteArray → ByteArray) (l : List ByteArray) {k : Nat} (h : l.length ≤ k) : halfB f l k = l.map f := by
  unfold halfB; rw [List.take_of_length_le h, List.drop_eq_nil_of_le h, List.append_nil]
theorem halfB_len (f : ByteArray → ByteArray) (l : List ByteArray) (k : Nat) : (halfB f l k).length = l.length := by
  unfold halfB; rw [List.length_append, List.length_map, List.length_take, List.length_drop]; omega
theorem halfB_at (f : ByteArray → ByteArray) {l : List ByteArray} {k : Nat} {x : ByteArray} (h : l[k]? = some x) : (halfB f l k)[k]? = some x := by
  have hl := lt_of_get h
  unfold halfB
  rw [List.getElem?_append_right (by rw [List.length_map, List.length_take]; omega), List.length_map, List.length_take, List.getElem?_drop, show min k l.length = k by omega, Nat.sub_self, Nat.add_zero]
  exact h
theorem halfB_set (f : ByteArray → ByteArray) {l : List ByteArray} {k : Nat} {x : ByteArray} (h : l[k]? = some x) : (halfB f l k).set k (f x) = halfB f l (k + 1) := by
  have hl := lt_of_get h
  have hx : l[k] = x := by rw [List.getElem?_eq_getElem hl] at h; injection h
  unfold halfB
  have e1 : ((l.take k).map f).length = k := by rw [List.length_map, List.length_take]; omega
  rw [List.set_append_right _ _ (by omega), e1, Nat.sub_self, List.drop_eq_getElem_cons hl, List.set_cons_zero, List.take_succ_eq_append_getElem hl, List.map_append, hx, List.append_assoc]
  rfl
def unB (s : ByteArray) : ByteArray := Sl.mk (Sl.unesc s.data.toList)
/-- Split's pieces -/
def pieces (s : ByteArray) : List ByteArray := Lib.splitB Sl.slashB 0 (Lib.countB s Sl.slashB) s
theorem pieces_len (s : ByteArray) : (pieces s).length = Lib.countB s Sl.slashB + 1 := Lib.splitB_all Sl.slashB (by decide) 0 _ s rfl
theorem cut_len (l : List UInt8) : ∀ p ∈ Sl.cut l, p.length ≤ l.length := by
  induction l with
  | nil => intro p hp; simp [Sl.cut] at hp; subst hp; exact Nat.le_refl _
  | cons b l ih =>
    intro p hp
    obtain ⟨q, r, hq⟩ := Sl.cut_ex l
    by_cases hb : b = 47
    · subst hb
      rw [Sl.cut_slash] at hp
      rcases List.mem_cons.1 hp with rfl | hp
      · simp
      · have := ih p hp; simp only [List.length_cons]; omega
    · rw [Sl.cut_other hb hq] at hp
      rcases List.mem_cons.1 hp with rfl | hp
      · have := ih q (by rw [hq]; simp); simp only [List.length_cons]; omega
      · have := ih p (by rw [hq]; simp [hp]); simp only [List.length_cons]; omega
theorem piece_len {s q : ByteArray} (h : q ∈ pieces s) : q.size ≤ s.size := by
  have h1 : q.data.toList ∈ (pieces s).map (·.data.toList) := List.mem_map.2 ⟨q, h, rfl⟩
  unfold pieces at h1
  rw [Sl.splitB_cut] at h1
  exact cut_len _ _ h1
theorem pieces_steps {s : ByteArray} (h : 0 < s.size) : (pieces (s.extract 1 s.size)).map unB = (Sl.steps s.data.toList).map Sl.mk := by
  rw [← Sl.split_steps h, List.map_map]; rfl
/-- what a path's parsing answers -/
def PathGives (r : Sl.PR) (w : World) (e : Ending) (w' : World) : Prop :=
  (match r with
    | .ok l => ∃ A c, e = .returned (.tuple #[.slice A l.length c, .int .i64 0, .int .i64 0]) ∧ l.length ≤ c ∧ SReads w' (· < w'.heap.size) A (l.map Sl.mk)
    | .bad p c => e = .returned (.tuple #[.slice none 0 0, .int .i64 p, .int .i64 c])) ∧ Below w.heap.size w w'
/-- the answer for any bytes: the points l, behind which R is left -/
def prs (s : ByteArray) (l : List Int) (R : List UInt8) : Sl.PR := if R = [] then Sl.pr s else .bad (flat l).length 2
theorem prs_yes {s : ByteArray} {l : List Int} {R : List UInt8} (h : R = []) : prs s l R = Sl.pr s := if_pos h
theorem prs_no {s : ByteArray} {l : List Int} {R : List UInt8} (h : R ≠ []) : prs s l R = .bad (flat l).length 2 := if_neg h
theorem ext_size (s : ByteArray) (a : Nat) : (s.extract a s.size).size = s.size - a := by rw [ByteArray.size_extract]; omega
theorem set_strs (l : List ByteArray) (k : Nat) (x : ByteArray) : ((l.map Value.string).toArray).setIfInBounds k (.string x) = ((l.set k x).map Value.string).toArray := by
  apply Array.toList_inj.1
  simp [List.map_set]
theorem blk_strs {w : World} {g : Nat} {l : List ByteArray} (h : Blk w g 9 (l.map Value.string).toArray) {k : Nat} {x : ByteArray} (hk : l[k]? = some x) : w.cell? ⟨g, k, none⟩ = some (.string x) := by
  rw [h.cell]; simp [hk]
theorem blk_sreads {w : World} {g : Nat} {l : List ByteArray} (h : Blk w g 9 (l.map Value.string).toArray) : SReads w (· < w.heap.size) (some ⟨g, 0, none⟩) l := fun _ =>
  ⟨g, 0, rfl, h.lt, fun i s hs => by rw [Nat.zero_add]; exact blk_strs h hs⟩
set_option maxRecDepth 100000 in
set_option maxHeartbeats 8000000 in
theorem parse_any4 (s : ByteArray) (l : List Int) (R : List UInt8) (hsp : Split s.data.toList l R) (hs : s.size ≤ 100000) (w : World) (hm : MaxLen w) :
    Calls Tryz.prog 7 #[.string s] w (PathGives (prs s l R) w) := by
  have HV := Lib.hid (valid_any s l R hsp w)
  have HM := Lib.hid hm
  clear hsp hm
  by_cases hR : R = []
  · have h1 : stopAt l R = 0 := stopAt_nil l hR
    have h2 : isFull R = true := isFull_nil hR
    rw [prs_yes hR]
    rw [h1, h2] at HV
    clear h1 h2 hR
    rcases Nat.eq_zero_or_pos s.size with h0 | h0
    · obtain rfl := emp_yes h0
      have HF := Lib.hid (fun w => formed_any ⟨#[]⟩ hs (.inl rfl) w)
      have hf := frm_none (Sl.fb_end (s := ⟨#[]⟩) (i := 0) (Nat.le_refl _))
      rw [hf.1, hf.2] at HF
      rw [Sl.pr_nil rfl]
      clear hf
      go_enter Tryz.func7, Tryz.ntmps7
      go_wp2_with fail
      refine HV.out.mono ?_
      rintro e w2 ⟨rfl, hb2⟩
      have H2 := Lib.hid hb2
      clear hb2
      go_wp2_with fail
      refine (HF.out _).mono ?_
      rintro e w3 ⟨rfl, hb3⟩
      have H3 := Lib.hid (H2.out.trans (hb3.mono H2.out.size))
      clear hb3
      go_wp2_with fail
      go_ret3
      exact ⟨⟨none, 0, rfl, Nat.le_refl _, SReads.none_ _ _ _⟩, H3.out⟩
    · have hE := emp_no h0
      by_cases h47 : bt s 0 = 47
      · have HF := Lib.hid (fun w => formed_any s hs (.inr h47) w)
        cases hfb : Sl.fb s 0 with
        | some p =>
          have hf := frm_some hfb
          rw [hf.1, hf.2] at HF
          rw [Sl.pr_bad h0 h47 hfb]
          clear hf hfb h47
          go_enter Tryz.func7, Tryz.ntmps7
          go_wp2_with fail
          refine HV.out.mono ?_
          rintro e w2 ⟨rfl, hb2⟩
          have H2 := Lib.hid hb2
          clear hb2
          go_wp2_with fail
          refine (HF.out _).mono ?_
          rintro e w3 ⟨rfl, hb3⟩
          have H3 := Lib.hid (H2.out.trans (hb3.mono H2.out.size))
          clear hb3
          go_wp2_with fail
          go_ret3
          exact ⟨rfl, H3.out⟩
        | none =>
          have hf := frm_none hfb
          rw [hf.1, hf.2] at HF
          rw [Sl.pr_ok h0 h47 hfb]
          have HST := Lib.hid (pieces_steps h0)
          have hpl := pieces_len (s.extract 1 s.size)
          have hpz : ∀ q ∈ pieces (s.extract 1 s.size), q.size ≤ 100000 := fun q hq => by have := piece_len hq; rw [ext_size] at this; omega
          have HPZ := Lib.hid hpz
          have hsz : (s.extract 1 s.size).size < 4294967281 := by rw [ext_size]; omega
          have i1 : (1 : Int) ≤ (s.size : Int) := by omega
          have HSp := Lib.hid (fun (m : Int) (w : World) (hm : w.cell? ⟨0, 0, none⟩ = some (.int .i64 m)) => Tryz.strings_Split (s.extract 1 s.size) Sl.slashB m w hsz hm (by decide))
          have hlen : (pieces (s.extract 1 s.size)).length ≤ 100001 := by
            rw [hpl]; have := cnt_le (s.extract 1 s.size) Sl.slashB (by decide); rw [ext_size] at this; omega
          change RowKit.Hid (∀ (m : Int) (w : World), _ → Calls Tryz.prog 28 #[.string (s.extract 1 s.size), .string Sl.slashB] w fun e w' => e = .returned (.slice (some ⟨w.heap.size, 0, none⟩) (Lib.countB (s.extract 1 s.size) Sl.slashB + 1) (Lib.countB (s.extract 1 s.size) Sl.slashB + 1)) ∧ w' = w.alloc (.cells ((pieces (s.extract 1 s.size)).map Value.string).toArray 9)) at HSp
          rw [← hpl] at HSp
          clear hf hfb h47 hpz hsz hpl
          generalize hL : pieces (s.extract 1 s.size) = L at *
          have hst : (L.map unB).length = (Sl.steps s.data.toList).length := by rw [HST.out, List.length_map]
          rw [List.length_map] at hst
          generalize Sl.steps s.data.toList = st at *
          clear hL
          go_enter Tryz.func7, Tryz.ntmps7
          go_wp2_with fail
          refine HV.out.mono ?_
          rintro e w2 ⟨rfl, hb2⟩
          have H2 := Lib.hid hb2
          clear hb2
          go_wp2_with fail
          refine (HF.out _).mono ?_
          rintro e w3 ⟨rfl, hb3⟩
          have H3 := Lib.hid (H2.out.trans (hb3.mono H2.out.size))
          obtain ⟨m, hm⟩ := HM.out.on H3.out
          have HX := Lib.hid (HSp.out m w3 hm)
          clear hb3 hm HSp H2
          go_wp2_with fail
          refine HX.out.mono ?_
          rintro e w4 ⟨rfl, rfl⟩
          clear HX HF HV
          have hB : Blk (w3.alloc (.cells (L.map Value.string).toArray 9)) w3.heap.size 9 (L.map Value.string).toArray := Blk.new w3 _ _
          have hW : Below w.heap.size w (w3.alloc (.cells (L.map Value.string).toArray 9)) := H3.out.alloc H3.out.size _
          have hg : w.heap.size ≤ w3.heap.size := H3.out.size
          generalize (w3.alloc (.cells (L.map Value.string).toArray 9)) = W at *
          generalize w3.heap.size = g at *
          clear H3
          have HB := Lib.hid hB
          have HW := Lib.hid hW
          clear hB hW w3 w2
          go_wp2_with fail
          go_loopw [35] (fun i wr => ∃ k : Nat, k ≤ L.length ∧ i = .int .i64 k ∧ Blk wr g 9 ((halfB unB L k).map Value.string).toArray ∧ Below w.heap.size w wr) (fun i _ => L.length - (intOf i).toNat)
          case atStart => exact ⟨0, Nat.zero_le _, rfl, by rw [halfB_zero]; exact HB.out, HW.out⟩
          case round =>
            obtain ⟨k, hk, rfl, hbk, hbel⟩ := hrel
            have Hbk := Lib.hid hbk
            have Hbel := Lib.hid hbel
            clear hbk hbel
            by_cases hlt : k < L.length
            · have u1 : decide (k < L.length) = true := decide_eq_true hlt
              have u2 : decide ((k : Int) < (L.length : Int)) = true := decide_eq_true (by omega)
              have i2 : (k : Int) < (L.length : Int) := by omega
              have i3 : (0 : Int) ≤ (k : Int) := by omega
              obtain ⟨x, hx⟩ : ∃ x, L[k]? = some x := ⟨_, List.getElem?_eq_getElem hlt⟩
              have Hx := Lib.hid hx
              have hxz := HPZ.out x (List.mem_of_getElem? hx)
              have e0 : wr.cell? ⟨g, k, none⟩ = some (.string x) := blk_strs Hbk.out (halfB_at unB hx)
              have e0' : wr.cell? ⟨g, 0 + k, none⟩ = some (.string x) := by rw [Nat.zero_add]; exact e0
              clear hx
              go_wp2_with fail
              refine (read_any x hxz _ (HM.out.on Hbel.out)).mono ?_
              rintro e w5 ⟨rfl, hb5⟩
              have hB5 := Hbk.out.onto hb5
              have q0 := hB5.free k
              have q1 : w5.frozen? ⟨g, 0 + k, none⟩ = false := by rw [Nat.zero_add]; exact q0
              have q2 : w5.cell? ⟨g, k, none⟩ = some (.string x) := blk_strs hB5 (halfB_at unB Hx.out)
              have q3 : w5.cell? ⟨g, 0 + k, none⟩ = some (.string x) := by rw [Nat.zero_add]; exact q2
              have hS5 := hB5.set_ k (.string (unB x))
              rw [set_strs, halfB_set unB Hx.out] at hS5
              have HS5 := Lib.hid hS5
              have H5 := Lib.hid (Hbel.out.trans (hb5.mono Hbel.out.size))
              clear hb5 hB5 hS5 e0 e0'
              go_wp2_with fail
              go_roundw
              case rel => exact ⟨k + 1, hlt, by go_num, HS5.out, H5.out.setCell hg _⟩
              case measure => simp [intOf]; omega
            · obtain rfl : k = L.length := by omega
              have u1 : decide (L.length < L.length) = false := decide_eq_false hlt
              have u2 : decide ((L.length : Int) < (L.length : Int)) = false := decide_eq_false (by omega)
              go_wp2_with fail
              go_ret3
              refine ⟨⟨some ⟨g, 0, none⟩, st.length, rfl, Nat.le_refl _, ?_⟩, Hbel.out⟩
              have h1 := Hbk.out
              rw [halfB_all unB L (Nat.le_refl _), HST.out] at h1
              exact blk_sreads h1
      · have HF := Lib.hid (fun w => formed_head s h0 h47 w)
        rw [Sl.pr_head h0 h47]
        clear h47
        go_enter Tryz.func7, Tryz.ntmps7
        go_wp2_with fail
        refine HV.out.mono ?_
        rintro e w2 ⟨rfl, hb2⟩
        have H2 := Lib.hid hb2
        clear hb2
        go_wp2_with fail
        refine (HF.out _).mono ?_
        rintro e w3 ⟨rfl, hb3⟩
        have H3 := Lib.hid (H2.out.trans (hb3.mono H2.out.size))
        clear hb3
        go_wp2_with fail
        go_ret3
        exact ⟨rfl, H3.out⟩
  · have h1 : stopAt l R = (flat l).length := stopAt_not l hR
    have h2 : isFull R = false := isFull_not hR
    rw [prs_no hR]
    rw [h1, h2] at HV
    clear h1 h2 hR
    go_enter Tryz.func7, Tryz.ntmps7
    go_wp2_with fail
    refine HV.out.mono ?_
    rintro e w2 ⟨rfl, hb2⟩
    have H2 := Lib.hid hb2
    clear hb2
    go_wp2_with fail
    go_ret3
    exact ⟨rfl, H2.out⟩
end Go.Proofs.YtmcacmhjhejfeaaGreatDoor
