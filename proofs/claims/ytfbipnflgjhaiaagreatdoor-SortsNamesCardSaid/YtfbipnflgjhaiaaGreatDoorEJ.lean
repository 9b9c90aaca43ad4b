/- A part: contract of the program's parser. append of a part: at an operation. What a call's expressions are, and the row of their parts. -/
import Derived.Test.YtfbipnflgjhaiaaGreatDoorEI
import Derived.Maps.AppendAt
import Derived.Deep.AppendLies
import Derived.Laws.OwnMore
set_option linter.unusedVariables false
set_option maxRecDepth 100000
set_option maxHeartbeats 8000000
open Go.Lib (hid)
namespace Go.Proofs.YtfbipnflgjhaiaaGreatDoor
open Go.RowKit
open Tk Ex
def PrtI (b : Nat) (s : ByteArray) (w : World) (R : Res) (f : Nat) (m : Value) (wr : World) : Prop :=
 (∃ (f' : Nat) (e : E) (p g : Nat), m = .pointer (padr (some g)) ∧ f' ≤ f ∧ prt s f' e p = R ∧ e.depth ≤ p ∧ PartAt wr (fun q => w.heap.size ≤ q ∧ q < wr.heap.size) g e ∧ Aside b w wr ∧ Px wr b s p ∧ p ≤ s.size) ∨ (m = .pointer (padr none) ∧ LevP R b s w (.returned m) wr)
theorem PrtI.wide {b : Nat} {s : ByteArray} {w : World} {R : Res} {f f2 : Nat} {m : Value} {wr : World} (h : PrtI b s w R f m wr) (hf : f ≤ f2) : PrtI b s w R f2 m wr := by
 rcases h with ⟨f', e, p, g, h1, h2, h3⟩ | h
 · exact .inl ⟨f', e, p, g, h1, Nat.le_trans h2 hf, h3⟩
 · exact .inr h
def thenP (s : ByteArray) (f : Nat) (X : Res) : Res := match X with
 | .ok y q => prt s f y q
 | .err p c => .err p c
 | .out => .out
theorem prt_step (s : ByteArray) (f : Nat) (e : E) (i : Nat) : prt s (f + 1) e i = if stands s i dotB = true then thenP s f (key s e (past s i dotB)) else if stands s i osqB = true then thenP s f (atR s f e (past s i osqB)) else .ok e i := by
 rw [prt]
 by_cases h1 : stands s i dotB = true
 · rw [if_pos h1, if_pos h1]; rfl
 ·
  rw [if_neg h1, if_neg h1]
  by_cases h2 : stands s i osqB = true
  ·
   rw [if_pos h2, if_pos h2]
   unfold atR
   cases lev s f 0 (past s i osqB) with
   | out => rfl
   | err p c => rfl
   | ok y p =>
    dsimp only
    by_cases h3 : stands s p csqB = true
    · rw [if_pos h3, if_pos h3]; rfl
    · rw [if_neg h3, if_neg h3]; rfl
  · rw [if_neg h2, if_neg h2]
theorem prt_next {b f p : Nat} {s : ByteArray} {w w1 w2 : World} {X R : Res} {e : Ending} (h : LevL w.heap.size X b s w1 e w2) (ha : Aside b w w1) (hX : ∀ y q, X = .ok y q → y.depth ≤ q ∧ p < q ∧ q ≤ s.size) (hR : thenP s f X = R) (hR0 : R ≠ .out) (hp : p ≤ s.size) :
 ∃ v, e = .returned v ∧ PrtI b s w R f v w2 ∧ madeN v * (s.size + 2 - pxAt w2 b) < s.size + 2 - p := by
 cases X with
 | out => exact absurd hR.symm hR0
 | err p2 c =>
  obtain ⟨rfl, h2, h3⟩ := h
  refine ⟨_, rfl, .inr ⟨rfl, ?_⟩, ?_⟩
  · rw [← hR]; exact ⟨rfl, ha.then h2, h3⟩
  · rw [show madeN (.pointer (padr none)) = 0 from rfl]; omega
 | ok y q =>
  obtain ⟨g, rfl, h2, h3, h4⟩ := h
  obtain ⟨h5, h6, h7⟩ := hX y q rfl
  refine ⟨_, rfl, .inl ⟨f, y, q, g, rfl, Nat.le_refl _, hR, h5, h2, ha.then h3, h4, h7⟩, ?_⟩
  rw [show madeN (.pointer (padr (some g))) = 1 from rfl, h4.at_]; omega
theorem find2 (s : ByteArray) (i : Nat) (t u : ByteArray) : [t, u].find? (stands s i) = if stands s i t = true then some t else if stands s i u = true then some u else none := by
 cases h : stands s i t with
 | true => rw [List.find?_cons_of_pos h]; rfl
 | false => rw [List.find?_cons_of_neg (by rw [h]; decide), find1]; rfl
theorem atR_le {s : ByteArray} {f i q : Nat} {e y : E} (hi : i ≤ s.size) (h : atR s f e i = .ok y q) (hd : e.depth ≤ i) : y.depth ≤ q ∧ i < q ∧ q ≤ s.size := by
 unfold atR at h
 cases hx : lev s f 0 i with
 | out => rw [hx] at h; cases h
 | err p c => rw [hx] at h; cases h
 | ok z p =>
  rw [hx] at h
  dsimp only at h
  have h1 := lev_le (by decide) hi hx
  have h2 := lev_dp (by decide) hi hx
  by_cases h3 : stands s p csqB = true
  ·
   rw [if_pos h3] at h
   have h4 := stands_le h1.2 h3
   injection h with ha hb
   subst ha hb
   rw [two_depth]
   have : csqB.size = 1 := rfl
   omega
  · rw [if_neg h3] at h; cases h
theorem key_le {s : ByteArray} {i q : Nat} {e y : E} (hi : i ≤ s.size) (h : key s e i = .ok y q) (hd : e.depth ≤ i) : y.depth ≤ q ∧ i < q ∧ q ≤ s.size := by
 have h1 := (fit_key (q := True) (s := s) (i := i) (e := e)).2 y q h
 have h2 := dp_key hi (Nat.le_refl _) y q h
 omega
theorem xpart_any (s : ByteArray) (hs : s.size ≤ 50000) (f : Nat) (IH : ∀ f', f' ≤ f → Reads8 s f' 8 111) (IE : ∀ f', f' ≤ f → Reads8 s f' 0 21) : Reads8 s (f + 1) 7 109 := by
 intro i b w hp hE hi hR
 have hlev : lev s (f + 1) 7 i = thenP s f (lev s f 8 i) := by
  rw [lev, if_neg (by decide), if_neg (by decide), if_pos rfl]
  rfl
 have hne0 : lev s f 8 i ≠ .out := by
  intro h0; rw [hlev, h0] at hR; exact hR rfl
 have HIH := hid (IH f (Nat.le_refl f) i b w hp hE hi hne0)
 have HIE := hid IE
 have HE := hid hE
 have HL := hid hlev
 have hbl := hp.lt
 have HLE := hid (fun e p (h : lev s f 8 i = .ok e p) => (show e.depth ≤ p ∧ i < p ∧ p ≤ s.size from ⟨by have := lev_dp (by decide) hi h; omega, lev_le (by decide) hi h⟩))
 generalize hRR : lev s (f + 1) 7 i = R at *
 clear hp hE hlev IH IE hRR
 go_enter Tryz.func109, Tryz.ntmps109
 go_wp2_with fail
 refine HIH.out.mono ?_
 intro e w1 hl1
 have hl1' : LevL w.heap.size (lev s f 8 i) b s w e w1 := by
  cases hx : lev s f 8 i with
  | out => exact absurd hx hne0
  | err p c => rw [hx] at hl1; exact hl1
  | ok y p => rw [hx] at hl1; exact hl1
 obtain ⟨v0, rfl, hch, _⟩ := prt_next hl1' (Aside.of (Below.refl _ _)) HLE.out HL.out.symm hR hi
 have HCH := hid (show PrtI b s w R f v0 w1 from hch)
 clear hl1 hl1' hch HLE HIH
 go_wp2_with fail
 go_loopw [3] (fun x wr => PrtI b s w R f x wr) (fun x wr => madeN x * (s.size + 2 - pxAt wr b))
 case atStart => exact HCH.out
 case round =>
  rcases hrel with ⟨f', e1, p, g, rfl, hf', hch, hd, hpa, ha, hpx, hps⟩ | ⟨rfl, hlv⟩
  ·
   have n1 := run_nilN (some g)
   have n2 : (!(some g).isNone) = true := rfl
   cases f' with
   | zero => rw [prt] at hch; exact absurd hch.symm hR
   | succ f1 =>
   rw [prt_step] at hch
   have hW : Below wr.heap.size wr (wr.alloc (.cells #[.string dotB, .string osqB] 9)) := (Below.refl _ _).alloc (Nat.le_refl _) _
   have hB : Blk (wr.alloc (.cells #[.string dotB, .string osqB] 9)) wr.heap.size 9 #[.string dotB, .string osqB] := Blk.new wr _ _
   have hwl := ha.size
   have hSR : SReads (wr.alloc (.cells #[.string dotB, .string osqB] 9)) (fun q => q ≠ b ∧ q < (wr.alloc (.cells #[.string dotB, .string osqB] 9)).heap.size) (some ⟨wr.heap.size, 0, none⟩) [dotB, osqB] := sreadN hB rfl (by omega)
   have HSG := hid (xsign_any b s p [dotB, osqB] (some ⟨wr.heap.size, 0, none⟩) 2 (wr.alloc (.cells #[.string dotB, .string osqB] 9)) (by omega) (hpx.onto hW) hps (by decide) (by decide) (hSR.wide fun q hq => hq.2) (hSR.ne (by decide)))
   have HPA := hid (hpa.aside (Aside.of hW) hbl)
   have HAS := hid (ha.then (Aside.of hW))
   have HPX := hid (hpx.onto hW)
   have hpxat := hpx.at_
   have hm1 : madeN (.pointer (padr (some g))) = 1 := rfl
   clear hB hW hSR hpa ha hpx
   by_cases hdot : stands s p dotB = true
   ·
    have hdd : [dotB, osqB].find? (stands s p) = some dotB := by rw [find2, if_pos hdot]
    have HF := hid hdd
    obtain ⟨hs1, hs2⟩ := stands_le hps hdot
    have hz1 : dotB.size = 1 := rfl
    rw [if_pos hdot] at hch
    have d1 : (dotB.toList == [46]) = true := tl_lit (t := (⟨#[46]⟩ : ByteArray)) rfl (by decide)
    have d2 : (dotB.toList == (⟨#[46]⟩ : ByteArray).toList) = true := by rw [tl_eqb]; decide
    obtain ⟨pa, hpae⟩ : ∃ pa, past s p dotB = pa := ⟨_, rfl⟩
    rw [hpae] at hch hs1 hs2
    have HPAE := hid hpae
    have HCH2 := hid hch
    have hkey := fun y q (h : key s e1 pa = .ok y q) => key_le hs2 h (by omega)
    have HKEY := hid (fun y q (h : key s e1 pa = .ok y q) => (show y.depth ≤ q ∧ p < q ∧ q ≤ s.size from by have := hkey y q h; omega))
    have HKN := hid ((fit_key (q := True) (s := s) (i := pa) (e := e1)).1 trivial)
    clear hdot hch hdd hkey hpae
    go_wp2_with fail
    change Calls _ _ _ (wr.alloc (.cells #[.string dotB, .string osqB] 9)) _
    generalize (wr.alloc (.cells #[.string dotB, .string osqB] 9)) = W1 at *
    refine HSG.out.mono ?_
    intro e w3 hsp
    unfold SignPost at hsp
    rw [HF.out] at hsp
    obtain ⟨rfl, ha3, hp3⟩ := hsp
    rw [HPAE.out] at hp3
    have HA3 := hid (HAS.out.then ha3)
    have HP3 := hid hp3
    have HPA3 := hid (HPA.out.aside ha3 hbl)
    have HE3 := hid (HE.out.side HA3.out)
    clear ha3 hp3 HSG HPA HAS HPX
    go_wp2_with fail
    refine (xget_any s hs pa b w.heap.size g e1 w3 hbl HA3.out.size HPA3.out (by omega) HP3.out HE3.out hs2).mono ?_
    intro e w4 hl4
    obtain ⟨v4, rfl, hi4, hm4⟩ := prt_next hl4 HA3.out HKEY.out HCH2.out hR hps
    have HI4 := hid (hi4.wide (show f1 ≤ f by omega))
    have HM4 := hid hm4
    clear hl4 hi4 hm4
    go_wp2_with fail
    go_roundw
    case rel => exact HI4.out
    case measure => rw [hm1, hpxat, Nat.one_mul]; exact HM4.out
   ·
    by_cases hosq : stands s p osqB = true
    ·
     have hdd : [dotB, osqB].find? (stands s p) = some osqB := by rw [find2, if_neg hdot, if_pos hosq]
     have HF := hid hdd
     obtain ⟨hs1, hs2⟩ := stands_le hps hosq
     have hz1 : osqB.size = 1 := rfl
     rw [if_neg hdot, if_pos hosq] at hch
     have d1 : (osqB.toList == [46]) = false := tl_lit (t := (⟨#[46]⟩ : ByteArray)) rfl (by decide)
     have d2 : (osqB.toList == (⟨#[46]⟩ : ByteArray).toList) = false := by rw [tl_eqb]; decide
     have d3 : (osqB.toList == [91]) = true := tl_lit (t := (⟨#[91]⟩ : ByteArray)) rfl (by decide)
     have d4 : (osqB.toList == (⟨#[91]⟩ : ByteArray).toList) = true := by rw [tl_eqb]; decide
     obtain ⟨pa, hpae⟩ : ∃ pa, past s p osqB = pa := ⟨_, rfl⟩
     rw [hpae] at hch hs1 hs2
     have HPAE := hid hpae
     have HCH2 := hid hch
     have hatn : atR s f1 e1 pa ≠ .out := by intro h0; rw [h0] at hch; exact hR hch.symm
     have hkey := fun y q (h : atR s f1 e1 pa = .ok y q) => atR_le hs2 h (by omega)
     have HKEY := hid (fun y q (h : atR s f1 e1 pa = .ok y q) => (show y.depth ≤ q ∧ p < q ∧ q ≤ s.size from by have := hkey y q h; omega))
     clear hdot hosq hch hdd hkey hpae
     go_wp2_with fail
     change Calls _ _ _ (wr.alloc (.cells #[.string dotB, .string osqB] 9)) _
     generalize (wr.alloc (.cells #[.string dotB, .string osqB] 9)) = W1 at *
     refine HSG.out.mono ?_
     intro e w3 hsp
     unfold SignPost at hsp
     rw [HF.out] at hsp
     obtain ⟨rfl, ha3, hp3⟩ := hsp
     rw [HPAE.out] at hp3
     have HA3 := hid (HAS.out.then ha3)
     have HP3 := hid hp3
     have HPA3 := hid (HPA.out.aside ha3 hbl)
     have HE3 := hid (HE.out.side HA3.out)
     clear ha3 hp3 HSG HPA HAS HPX
     go_wp2_with fail
     refine (xat_any s hs f1 (HIE.out f1 (by omega)) pa b w.heap.size g e1 w3 hbl HA3.out.size HPA3.out (by omega) HP3.out HE3.out hs2 hatn).mono ?_
     intro e w4 hl4
     obtain ⟨v4, rfl, hi4, hm4⟩ := prt_next hl4 HA3.out HKEY.out HCH2.out hR hps
     have HI4 := hid (hi4.wide (show f1 ≤ f by omega))
     have HM4 := hid hm4
     clear hl4 hi4 hm4
     go_wp2_with fail
     go_roundw
     case rel => exact HI4.out
     case measure => rw [hm1, hpxat, Nat.one_mul]; exact HM4.out
    ·
     have hdd : [dotB, osqB].find? (stands s p) = none := by rw [find2, if_neg hdot, if_neg hosq]
     have HF := hid hdd
     rw [if_neg hdot, if_neg hosq] at hch
     have HR2 := hid hch
     have d1 : ((⟨#[]⟩ : ByteArray).toList == [46]) = false := tl_lit (t := (⟨#[46]⟩ : ByteArray)) rfl (by decide)
     have d2 : ((⟨#[]⟩ : ByteArray).toList == (⟨#[46]⟩ : ByteArray).toList) = false := by rw [tl_eqb]; decide
     have d3 : ((⟨#[]⟩ : ByteArray).toList == [91]) = false := tl_lit (t := (⟨#[91]⟩ : ByteArray)) rfl (by decide)
     have d4 : ((⟨#[]⟩ : ByteArray).toList == (⟨#[91]⟩ : ByteArray).toList) = false := by rw [tl_eqb]; decide
     clear hdot hosq hch hdd
     go_wp2_with fail
     change Calls _ _ _ (wr.alloc (.cells #[.string dotB, .string osqB] 9)) _
     generalize (wr.alloc (.cells #[.string dotB, .string osqB] 9)) = W1 at *
     refine HSG.out.mono ?_
     intro e w3 hsp
     unfold SignPost at hsp
     rw [HF.out] at hsp
     obtain ⟨rfl, hb3⟩ := hsp
     have H3 := hid hb3
     clear hb3 HSG
     go_wp2_with fail
     go_ret
     rw [← HR2.out]
     exact ⟨g, rfl, HPA.out.aside (Aside.of H3.out) hbl, HAS.out.then (Aside.of H3.out), HPX.out.onto H3.out⟩
  ·
   have n1 := run_nilN none
   have n2 : (!(none : Option Nat).isNone) = false := rfl
   have HV := hid hlv
   clear hlv
   go_wp2_with fail
   go_ret
   exact HV.out
open Go.RowKit
open Tk Ex
theorem infoPX : (Tryz.prog.info? 74).map (fun i => (i.zero, i.size, i.bytes)) = some (some (.pointer none), 1, 8) := by kernel_rfl
theorem info_of {t : TypeId} {z : Option Value} {n m : Nat} (h : (Tryz.prog.info? t).map (fun i => (i.zero, i.size, i.bytes)) = some (z, n, m)) : ∃ i, Tryz.prog.info? t = some i ∧ i.zero = z ∧ i.size = n ∧ i.bytes = m := by
 cases hi : Tryz.prog.info? t with
 | none => rw [hi] at h; cases h
 | some i =>
  rw [hi] at h
  injection h with h
  injection h with h1 h2
  injection h2 with h2 h3
  exact ⟨i, rfl, h1, h2, h3⟩
def Row8 (w : World) (base : Nat) (v : Value) (l : List (Option Nat)) : Prop := w.ownsRow base 74 1 v l.length (ptrs l)
theorem app_px {ops : Array Oper} {rest : List Oper} {o : Oper} {a : Act} {Q : Exit → Act → World → Prop} {w : World} (hgd : o.guard = none) (s x : Operand)
 (ho : o.op = .call { callee := .builtin .append, args := #[s, x], argTypes := #[130, 130] })
 (base : Nat) (v : Value) (l : List (Option Nat)) (y : Option Nat) (hs : a.eval s = v) (hx : a.eval x = .slice (some ⟨w.heap.size, 0, none⟩) 1 1)
 (hown : Row8 w base v l) (hn : l.length ≤ 1000000) (hbase : base ≤ w.heap.size)
 (h : ∀ (v' : Value) (w' : World), Row8 w' base v' (l ++ [y]) → (∀ W, Below base W w → Below base W w') → w.grownBy w' v.ownBlock → (v'.ownBlock = v.ownBlock ∨ v'.ownBlock = some (w.heap.size + 1)) → wpList Tryz.prog ops Q rest (a.put o.dst v') w') :
 wpList Tryz.prog ops Q (o :: rest) a (w.alloc (.cells #[.pointer (padr y)] 74)) := by
 obtain ⟨i0, hi, hz0, hz1, hz2⟩ := info_of infoPX
 unfold Row8 at hown
 obtain ⟨v', w', hr, h1, h2, _, h5⟩ := run_append_own_at (P := Tryz.prog) (w.alloc (.cells #[.pointer (padr y)] 74)) base 130 o.type 74 i0 (.pointer none) 1 8 Tryz.underlying130 hi hz0 hz1 hz2 rfl (by decide) v _ _ (hown.alloc _) ⟨w.heap.size, 0, none⟩ 1 1 [.pointer (padr y)] rfl (by
  intro j u hu
  match j, hu with
  | 0, hu => simp at hu; subst hu; simp [Addr.add]) (by intro u hu; simp at hu; subst hu; rfl) (by unfold maxLen; omega) (by omega) (by simp; omega)
 refine wpList_plain hgd fun _ hK => ?_
 unfold Oper.wp execOp
 simp only [ho, resolve, invoke, builtin, Sem.run_bind, Sem.run_pure, Result.andThen_ok, List.map_toArray, List.map_cons, List.map_nil, hs, hx, hr]
 refine hK _ _ (h v' w' ?_ (fun W hW => ?_) ?_ ?_)
 · unfold Row8; rw [List.length_append, show ptrs (l ++ [y]) = ptrs l ++ [.pointer (padr y)] by simp [ptrs]]; exact h1
 · exact (hW.alloc hbase _).grown h2 (by simp; omega) (fun k hk => (hown.lt k hk).1)
 · exact ⟨h2.os, h2.tape, h2.output, Nat.le_trans (by simp) h2.size, fun k hk hne => (h2.block k (by simp; omega) hne).trans (heap_alloc_old w _ hk)⟩
 · simpa using h5
theorem Row8.aside {w w' : World} {base b : Nat} {v : Value} {l : List (Option Nat)} (h : Row8 w base v l) (ha : Aside b w w') (hb : b < base) : Row8 w' base v l :=
 World.ownsRow.kept h (row := some b) ⟨ha.os, ha.tape, ha.output, ha.size, fun k hk hn => ha.block k hk (by intro e; exact hn (by rw [e]))⟩ (by
  cases hv : v.ownBlock with
  | none => exact .inl rfl
  | some k =>
   refine .inr ?_
   intro e
   injection e with e
   have := (World.ownsRow.lt h k hv).1
   omega)
theorem Row8.reads {w : World} {base : Nat} {v : Value} {l : List (Option Nat)} (h : Row8 w base v l) : ∃ A c, v = .slice A l.length c ∧ l.length ≤ c ∧ VReads w (· < w.heap.size) A (ptrs l) := by
 rcases h.2 with ⟨rfl, h0⟩ | ⟨g, cap, cur, rfl, hb, hh, hle, hm, hs, ht⟩
 ·
  obtain rfl : l = [] := List.eq_nil_of_length_eq_zero h0
  exact ⟨none, 0, rfl, Nat.le_refl _, fun hn => absurd rfl hn⟩
 ·
  refine ⟨_, _, rfl, hle, fun _ => ⟨g, 0, rfl, (Array.getElem?_eq_some_iff.1 hh).1, fun i s hi => ?_⟩⟩
  have hl : i < l.length := by
   have := (List.getElem?_eq_some_iff.1 hi).1
   simpa [ptrs] using this
  have h1 : (cur.toList.take (l.length * 1))[i]? = (ptrs l)[i]? := by rw [ht]
  rw [List.getElem?_take_of_lt (by omega), Array.getElem?_toList, hi] at h1
  rw [cell_of_row w g (0 + i) cur 74 _ hh, Nat.zero_add]
  exact h1
theorem Row8.nil (w : World) : Row8 w w.heap.size (.slice none 0 0) [] := World.ownsRow_nil _ _ _ _
theorem Row8.nil' (w : World) (base : Nat) : Row8 w base (.slice none 0 0) [] := World.ownsRow_nil _ _ _ _
open Go.RowKit
open Tk Ex
def aft (s : ByteArray) (f : Nat) (w : ByteArray) (acc : List E) (p : Nat) : Res :=
 if stands s p clsB = true then (if acc.length < argsN w then .err (bl s p) 12 else .ok (.mk w nix Rd.nulT acc) (past s p clsB))
 else if stands s p commaB = true then (if acc.length < argsN w then cal s f w acc (past s p commaB) else .err (bl s p) 12)
 else .err (bl s p) 1
theorem cal_step (s : ByteArray) (f : Nat) (w : ByteArray) (acc : List E) (i : Nat) : cal s (f + 1) w acc i = match lev s f 0 i with
 | .ok y p => aft s f w (acc ++ [y]) p
 | .err p c => .err p c
 | .out => .out := by
 rw [cal]
 cases lev s f 0 i with
 | out => rfl
 | err p c => rfl
 | ok y p =>
  dsimp only
  unfold aft
  rw [List.length_append]
  rfl
theorem not_both {s : ByteArray} {p : Nat} (h : stands s p commaB = true) : stands s p clsB = false := by
 unfold stands at h ⊢
 by_cases hl : isLt (bt s (bl s p)) = true
 ·
  rw [if_pos hl] at h ⊢
  unfold eqb at h ⊢
  have h1 : (wd s p).data.toList = commaB.data.toList := by simpa using h
  rw [h1]; decide
 ·
  rw [if_neg hl] at h ⊢
  have h1 : bt s (bl s p) = 44 := has_first (t := commaB) (c := 44) (r := []) rfl h
  cases h2 : has s (bl s p) clsB with
  | false => rfl
  | true =>
   have h3 : bt s (bl s p) = 41 := has_first (t := clsB) (c := 41) (r := []) rfl h2
   omega
theorem Px.low {w w' : World} {b lo : Nat} {s : ByteArray} {i : Nat} (h : Px w b s i) (hb : Below lo w w') (hlo : b < lo) : Px w' b s i := by
 obtain ⟨p, c, h⟩ := h
 exact ⟨p, c, (hb.block b hlo).trans h⟩
theorem Aside.low {w w1 w' : World} {b : Nat} (h : Aside b w w1) (hb : Below w.heap.size w1 w') : Aside b w w' :=
 ⟨hb.os.trans h.os, hb.tape.trans h.tape, hb.output.trans h.output, Nat.le_trans h.size hb.size, fun j hj hn => (hb.block j hj).trans (h.block j hj hn)⟩
theorem grown8 {wA w4 w5 : World} {b base g : Nat} {y : E} {l : List (Nat × E)} {v v' : Value} (hrow : Row8 wA base v (heads l)) (hpts : PartsAt wA (fun q => base ≤ q ∧ q < wA.heap.size ∧ some q ≠ v.ownBlock) l) (ha : Aside b wA w4) (hb : b < base) (hbw : base ≤ wA.heap.size)
 (hy : PartAt w4 (fun q => wA.heap.size ≤ q ∧ q < w4.heap.size) g y) (hg : w4.grownBy w5 v.ownBlock) (ho : v'.ownBlock = v.ownBlock ∨ v'.ownBlock = some (w4.heap.size + 1)) :
 PartsAt w5 (fun q => base ≤ q ∧ q < w5.heap.size ∧ some q ≠ v'.ownBlock) (l ++ [(g, y)]) := by
 have key : ∀ q, q < w4.heap.size → some q ≠ v.ownBlock → some q ≠ v'.ownBlock := by
  intro q h1 h2
  rcases ho with h | h
  · rw [h]; exact h2
  · rw [h]; intro e; injection e with e; omega
 intro i x hx
 by_cases hi : i < l.length
 ·
  rw [List.getElem?_append_left hi] at hx
  have h1 := hpts i x hx
  have h2 : PartAt w4 (fun q => base ≤ q ∧ q < wA.heap.size ∧ some q ≠ v.ownBlock) x.1 x.2 := h1.keep fun q hq => ha.block q hq.2.1 (by omega)
  have h3 : PartAt w5 (fun q => base ≤ q ∧ q < wA.heap.size ∧ some q ≠ v.ownBlock) x.1 x.2 := h2.keep fun q hq => hg.block q (Nat.lt_of_lt_of_le hq.2.1 ha.size) hq.2.2
  exact h3.wide fun q hq => ⟨hq.1, Nat.lt_of_lt_of_le hq.2.1 (Nat.le_trans ha.size hg.size), key q (Nat.lt_of_lt_of_le hq.2.1 ha.size) hq.2.2⟩
 ·
  rw [List.getElem?_append_right (by omega)] at hx
  have hne : ∀ q, wA.heap.size ≤ q → some q ≠ v.ownBlock := by
   intro q hq e
   have := (World.ownsRow.lt hrow q e.symm).2
   omega
  cases hk : i - l.length with
  | succ k => rw [hk] at hx; simp at hx
  | zero =>
   rw [hk] at hx
   injection hx with hx
   subst hx
   have h3 : PartAt w5 (fun q => wA.heap.size ≤ q ∧ q < w4.heap.size) g y := hy.keep fun q hq => hg.block q hq.2 (hne q hq.1)
   exact h3.wide fun q hq => ⟨by omega, Nat.lt_of_lt_of_le hq.2 hg.size, key q hq.2 (hne q hq.1)⟩
def CalI (b : Nat) (s : ByteArray) (w : World) (wo : ByteArray) (R : Res) (f : Nat) (v : Value) (wr : World) : Prop :=
 ∃ (f' : Nat) (l : List (Nat × E)) (p : Nat), Row8 wr w.heap.size v (heads l) ∧ PartsAt wr (fun q => w.heap.size ≤ q ∧ q < wr.heap.size ∧ some q ≠ v.ownBlock) l ∧ (∀ x ∈ l, x.2.depth ≤ 50000) ∧ l.length ≤ argsN wo ∧ Aside b w wr ∧ Px wr b s p ∧ p ≤ s.size ∧ f' ≤ f ∧ (if l = [] then cal s f' wo [] p else aft s f' wo (trees l) p) = R
end Go.Proofs.YtfbipnflgjhaiaaGreatDoor
