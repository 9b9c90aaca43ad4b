/- The members of an object that is being read: what is known of them. A member of an object that is being read: contract of the program's member. -/
import Derived.Test.YtgblenoaeanogaaGreatDoorMK
import Derived.Test.YtgblenoaeanogaaGreatDoorMT
set_option linter.unusedVariables false
set_option maxRecDepth 100000
set_option maxHeartbeats 8000000
open Go.Lib (hid)
namespace Go.Proofs.YtgblenoaeanogaaGreatDoor
open Go.RowKit Go.Maps Go.Sort
open Tk
theorem keyed_str : Keyed Tryz.prog 9 := string_keyed Tryz.underlying9
theorem key_str {q : ByteArray} (h : q.size ≤ maxLen) : keyOf Tryz.prog 9 (.string q) = some (kl q) := by
 simp [keyOf, mapKey, Tryz.underlying9, h, kl]
structure MembJ (q r b N0 M room : Nat) (Y : Nat → Prop) (m : List (ByteArray × T)) (w : World) (vs : List (ByteArray × Value)) : Prop where
 fst : vs.map Prod.fst = m.map Prod.fst
 at_ : ∀ (i : Nat) (k : ByteArray) (x : T), m[i]? = some (k, x) → ∃ A c A' c', vs[i]? = some (k, x.agg A c A' c') ∧ TV w (fun j => N0 ≤ j ∧ j < w.heap.size ∧ ¬ Y j ∧ j ≠ q ∧ j ≠ M) x A c A' c'
 owns : w.ownsMap Tryz.prog 9 RV M m.length (MD vs)
 nodup : (m.map Prod.fst).Nodup
 short : ∀ k ∈ m.map Prod.fst, k.size ≤ 90000
 blk : Blk w q 163 #[.pointer (some ⟨r, 0, none⟩), .map (some M)]
 rd : Blk w r 77 #[.pointer (some ⟨b, 0, none⟩), .int .i64 room]
 nq : ¬ Y q
 nM : ¬ Y M
 yb : ∀ k, Y k → N0 ≤ k ∧ k < w.heap.size
 r0 : r < N0
 b0 : b < N0
 q0 : N0 ≤ q
 M0 : N0 ≤ M
 qM : q ≠ M
 Mw : M < w.heap.size
 rb : r ≠ b
def MembS (q r b N0 M room : Nat) (Y : Nat → Prop) (m : List (ByteArray × T)) (w : World) : Prop := ∃ vs, MembJ q r b N0 M room Y m w vs
theorem owns_block {w w' : World} {M n : Nat} {D : DataW Value} (h : w.ownsMap Tryz.prog 9 RV M n D) (hb : w'.heap[M]? = w.heap[M]?) : w'.ownsMap Tryz.prog 9 RV M n D := by
 obtain ⟨es, clock, h1, h2, h3, h4⟩ := h
 exact ⟨es, clock, hb.trans h1, h2, h3, h4⟩
theorem MembJ.kept {q r b N0 M room : Nat} {Y : Nat → Prop} {m : List (ByteArray × T)} {w w' : World} {vs : List (ByteArray × Value)} (h : MembJ q r b N0 M room Y m w vs) (k : Kept (fun i => ¬ Y i ∧ i ≠ b) w w') : MembJ q r b N0 M room (fun i => Y i ∨ (w.heap.size ≤ i ∧ i < w'.heap.size)) m w' vs := by
 obtain ⟨h1, h2, h3, h4, h5, h6, h7, h8, h9, h10, h11, h12, h13, h14, h15, h16, h17⟩ := h
 have hql := h6.lt
 refine ⟨h1, fun i ky x hx => ?_, owns_block h3 (k.block M h16 ⟨h9, by omega⟩), h4, h5, h6.kept k ⟨h8, by omega⟩, h7.kept k ⟨fun hy => by have := (h10 _ hy).1; omega, h17⟩, fun hy => ?_, fun hy => ?_, fun i hi => ?_, h11, h12, h13, h14, h15, Nat.lt_of_lt_of_le h16 k.size, h17⟩
 ·
  obtain ⟨A, c, A', c', hv, ht⟩ := h2 i ky x hx
  exact ⟨A, c, A', c', hv, (ht.keep fun j hj => k.block j hj.2.1 ⟨hj.2.2.1, by have := hj.1; omega⟩).wide fun j hj => ⟨hj.1, Nat.lt_of_lt_of_le hj.2.1 k.size, fun hy => by
   rcases hy with hy | hy
   · exact hj.2.2.1 hy
   · have := hj.2.1; omega, hj.2.2.2⟩⟩
 ·
  rcases hy with hy | hy
  · exact h8 hy
  · omega
 ·
  rcases hy with hy | hy
  · exact h9 hy
  · omega
 ·
  rcases hi with hi | hi
  · exact ⟨(h10 i hi).1, Nat.lt_of_lt_of_le (h10 i hi).2 k.size⟩
  · exact ⟨by omega, hi.2⟩
theorem memb_stable {q r b N0 M room : Nat} (Y : Nat → Prop) (m : List (ByteArray × T)) (w w' : World) (h : MembS q r b N0 M room Y m w) (k : Kept (fun i => ¬ Y i ∧ i ≠ b) w w') : MembS q r b N0 M room (fun i => Y i ∨ (w.heap.size ≤ i ∧ i < w'.heap.size)) m w' := by
 obtain ⟨vs, h⟩ := h
 exact ⟨vs, h.kept k⟩
theorem map_look {w : World} {M n : Nat} {vs : List (ByteArray × Value)} (h : w.ownsMap Tryz.prog 9 RV M n (MD vs)) (hn : (vs.map Prod.fst).Nodup) {q : ByteArray} (hq : q.size ≤ maxLen) (c : Bool) :
 (q ∉ vs.map Prod.fst → (Instr.lookup 161 (.map (some M)) (.string q) true).run Tryz.prog w = .ok (.tuple #[.agg #[.int .i64 0, .bool false, .int .i64 0, .string ⟨#[]⟩, .slice none 0 0, .slice none 0 0], .bool false]) w) ∧
  ∀ v, (q, v) ∈ vs → (Instr.lookup 161 (.map (some M)) (.string q) true).run Tryz.prog w = .ok (.tuple #[v, .bool true]) w ∧ (Instr.lookup 161 (.map (some M)) (.string q) false).run Tryz.prog w = .ok v w := by
 have hz : (zeroValue 43).run Tryz.prog w = .ok (.agg #[.int .i64 0, .bool false, .int .i64 0, .string ⟨#[]⟩, .slice none 0 0, .slice none 0 0]) w := Tryz.zeroValue43 w
 obtain ⟨v1, ps1, hrun1, hv1⟩ := h.look_ok keyed_str Tryz.underlying161 hz (zd := .held (.agg #[.int .i64 0, .bool false, .int .i64 0, .string ⟨#[]⟩, .slice none 0 0, .slice none 0 0])) (zp := []) rfl (key_str hq)
 obtain ⟨v2, ps2, hrun2, hv2⟩ := h.lookup keyed_str Tryz.underlying161 hz (zd := .held (.agg #[.int .i64 0, .bool false, .int .i64 0, .string ⟨#[]⟩, .slice none 0 0, .slice none 0 0])) (zp := []) rfl (key_str hq)
 refine ⟨fun hno => ?_, fun v hv => ?_⟩
 ·
  have h1 : Maps.has (MD vs) (kl q) = false := by
   rw [← Bool.not_eq_true]
   exact fun h => hno ((MD_has q vs).1 h)
  rw [Maps.atKey_of_not_has h1] at hv1
  rw [hrun1, h1, RV_inj hv1]
 ·
  have h1 : Maps.has (MD vs) (kl q) = true := (MD_has q vs).2 (List.mem_map.2 ⟨_, hv, rfl⟩)
  rw [MD_at hn hv] at hv1 hv2
  exact ⟨by rw [hrun1, h1, RV_inj hv1], by rw [hrun2, RV_inj hv2]⟩
theorem flat_ge (l : List UInt8) : l.length ≤ (l.flatMap Q.esc).length := by
 induction l with
 | nil => simp
 | cons c l ih =>
  have h : 1 ≤ (Q.esc c).length := by
   unfold Q.esc
   repeat' split
   all_goals simp
  simp only [List.flatMap_cons, List.length_append, List.length_cons]; omega
theorem quo_ge (l : List UInt8) : l.length ≤ (Q.quo l).length := by
 have := flat_ge l
 unfold Q.quo
 simp only [List.length_cons, List.length_append]; omega
theorem tok_short {s : ByteArray} {t : Tok} (h : FromT s t) (hk : t.kind = 2) (hs : s.size ≤ 90000) : t.text.size ≤ 90000 := by
 obtain ⟨i, hi, hn⟩ := h
 have h1 := Rd.tok_quo hn hk
 have h2 := (Rd.ok_next hi hn).1.2.1
 have h3 : t.text.data.toList.length ≤ (Q.quo t.text.data.toList).length := quo_ge t.text.data.toList
 have h4 : t.text.data.toList.length = t.text.size := by simp
 omega
theorem memb_put {q r b N0 M room : Nat} {Y : Nat → Prop} {m : List (ByteArray × T)} {w w' : World} {vs : List (ByteArray × Value)} (h : MembJ q r b N0 M room Y m w vs) {ky : ByteArray} {x : T} {A : Option Addr} {c : Nat} {A' : Option Addr} {c' : Nat} (hno : ky ∉ m.map Prod.fst) (hks : ky.size ≤ 90000)
 (ht : TV w (fun j => N0 ≤ j ∧ j < w.heap.size ∧ ¬ Y j ∧ j ≠ q ∧ j ≠ M) x A c A' c') (ho : w'.ownsMap Tryz.prog 9 RV M (m.length + 1) ((MD vs).put (kl ky) (.held (x.agg A c A' c')))) (hg : w.grownBy w' (some M)) :
 MembJ q r b N0 M room Y (m ++ [(ky, x)]) w' (vs ++ [(ky, x.agg A c A' c')]) := by
 obtain ⟨h1, h2, h3, h4, h5, h6, h7, h8, h9, h10, h11, h12, h13, h14, h15, h16, h17⟩ := h
 have hlen : vs.length = m.length := by simpa using congrArg List.length h1
 have hk : ∀ {y B d B' d'}, TV w (fun j => N0 ≤ j ∧ j < w.heap.size ∧ ¬ Y j ∧ j ≠ q ∧ j ≠ M) y B d B' d' → TV w' (fun j => N0 ≤ j ∧ j < w'.heap.size ∧ ¬ Y j ∧ j ≠ q ∧ j ≠ M) y B d B' d' := fun h =>
  (h.keep fun j hj => hg.block j hj.2.1 (fun e => hj.2.2.2.2 (by injection e))).wide fun j hj => ⟨hj.1, Nat.lt_of_lt_of_le hj.2.1 hg.size, hj.2.2⟩
 refine ⟨by simp [h1], fun i k y hy => ?_, by rw [MD_snoc, List.length_append]; exact ho, ?_, fun k hk => ?_, (hg.block q h6.lt (fun e => h15 (by injection e))).trans h6, (hg.block r h7.lt (fun e => by injection e with e; omega)).trans h7, h8, h9, fun k hk => ⟨(h10 k hk).1, Nat.lt_of_lt_of_le (h10 k hk).2 hg.size⟩, h11, h12, h13, h14, h15, Nat.lt_of_lt_of_le h16 hg.size, h17⟩
 ·
  rcases Nat.lt_or_ge i m.length with hi | hi
  ·
   rw [List.getElem?_append_left hi] at hy
   obtain ⟨B, d, B', d', hv, htv⟩ := h2 i k y hy
   exact ⟨B, d, B', d', by rw [List.getElem?_append_left (by omega)]; exact hv, hk htv⟩
  ·
   rw [List.getElem?_append_right hi] at hy
   have h0 : i - m.length = 0 := by
    rcases Nat.eq_zero_or_pos (i - m.length) with h0 | h0
    · exact h0
    · rw [List.getElem?_eq_none (by simp; omega)] at hy; cases hy
   rw [h0] at hy
   injection hy with hy
   injection hy with e1 e2
   subst e1 e2
   exact ⟨A, c, A', c', by rw [List.getElem?_append_right (by omega), show i - vs.length = 0 by omega]; rfl, hk ht⟩
 ·
  rw [List.map_append, List.nodup_append]
  exact ⟨h4, by simp, fun a ha b hb e => hno (by
   have hb' : b = ky := by simpa using hb
   rw [← hb', ← e]; exact ha)⟩
 ·
  rw [List.map_append, List.mem_append] at hk
  rcases hk with hk | hk
  · exact h5 k hk
  · rw [List.map_cons, List.map_nil, List.mem_singleton] at hk; rw [hk]; exact hks
open Go.RowKit Go.Maps Go.Sort
open Tk
def Rd.nextF (O : List (ByteArray × T) → T) (s : ByteArray) (n room i : Nat) : Rd.Res := match next s i with
 | .err p c => .err p c
 | .tok x => Rd.fromF O s n room x
theorem next_says {O : List (ByteArray × T) → T} {s : ByteArray} {n : Nat} (h : FromAt O s n) (room i r b : Nat) (hroom : room ≤ 1000) (w : World) (hs : s.size ≤ 90000) (hi : i ≤ s.size) (hn : 2 * (s.size - i) + 1 ≤ n) (hr : Blk w r 77 #[.pointer (some ⟨b, 0, none⟩), .int .i64 room]) (hl : Lx w b s i) (hE : ErrAt b w) (hne : r ≠ b) :
 Calls Tryz.prog 42 #[.pointer (some ⟨r, 0, none⟩)] w fun e w' => ∃ (V : T) (A : Option Addr) (c : Nat) (A' : Option Addr) (c' : Nat) (p ec : Int), e = .returned (.tuple #[V.agg A c A' c', .int .i64 p, .int .i64 ec]) ∧ FromSays (Rd.nextF O s n room i) b s w V A c A' c' p ec w' := by
 unfold Rd.nextF
 cases hx : next s i with
 | err p c =>
  have hc := next_code hx
  have hc' : (c == 0) = false := by rw [beq_eq_false_iff_ne]; exact hc
  refine (dnext_err s i r b room p c w hs hl hi hr hE.err hne hx hc').mono ?_
  rintro e w' ⟨rfl, hA⟩
  exact ⟨T.zero, none, 0, none, 0, p, c, rfl, rfl, rfl, hc', hA⟩
 | tok t =>
  obtain ⟨hok, hle⟩ := Rd.ok_next hi hx
  have hnn : 2 * (s.size - t.at_) + 1 ≤ n := by omega
  have h1 := (Rd.enough O s n).1 room t hok hnn
  have h2 := (Rd.err_pos O s n).1 room t
  refine (dnext_tok (Rd.fromF O s n room t) s i r b room t w hs hl hi hr hE.err hne hx h1.1 (fun w' hA hL => h room hroom t r b w' hok hnn (hr.aside hA hne) hL (hE.side hA) hne)).mono ?_
  intro e w' hg
  dsimp only
  cases hres : Rd.fromF O s n room t with
  | out => exact absurd hres h1.1
  | err p c =>
   rw [hres] at hg
   obtain ⟨rfl, hA⟩ := hg
   exact ⟨T.zero, none, 0, none, 0, p, c, rfl, rfl, rfl, (by rw [beq_eq_false_iff_ne]; exact h2 p c hres), hA⟩
  | val v fin =>
   rw [hres] at hg
   obtain ⟨A, c, A', c', rfl, h3, h4, h5⟩ := hg
   exact ⟨v, A, c, A', c', 0, 0, rfl, rfl, rfl, rfl, h3, h4, h5⟩
theorem membP_eq (O : List (ByteArray × T) → T) (s : ByteArray) (room n : Nat) (t : Tok) (m : List (ByteArray × T)) (hk : t.kind = 2) (hh : Rd.hasK m t.text = false) : Rd.membP O s room n t m = match next s t.fin with
 | .err p c => .err p c
 | .tok u => if ¬ Rd.isM u 58 then .err u.at_ 1 else match Rd.nextF O s n room u.fin with
  | .out => .out
  | .err p c => .err p c
  | .val v e => .ok (m ++ [(t.text, v)]) e := by
 unfold Rd.membP Rd.nextF
 rw [if_neg (fun h => h hk), if_neg (by rw [hh]; decide)]
 cases next s t.fin with
 | err p c => rfl
 | tok u =>
  dsimp only
  split
  · rfl
  ·
   cases next s u.fin with
   | err p c => rfl
   | tok x => rfl
theorem MembJ.side {q r b N0 M room : Nat} {Y : Nat → Prop} {m : List (ByteArray × T)} {w w' : World} {vs : List (ByteArray × Value)} (h : MembJ q r b N0 M room Y m w vs) (k : Aside b w w') : MembJ q r b N0 M room Y m w' vs := by
 obtain ⟨h1, h2, h3, h4, h5, h6, h7, h8, h9, h10, h11, h12, h13, h14, h15, h16, h17⟩ := h
 have hql := h6.lt
 refine ⟨h1, fun i ky x hx => ?_, owns_block h3 (k.block M h16 (by omega)), h4, h5, h6.aside k (by omega), h7.aside k h17, h8, h9, fun i hi => ⟨(h10 i hi).1, Nat.lt_of_lt_of_le (h10 i hi).2 k.size⟩, h11, h12, h13, h14, h15, Nat.lt_of_lt_of_le h16 k.size, h17⟩
 obtain ⟨A, c, A', c', hv, ht⟩ := h2 i ky x hx
 exact ⟨A, c, A', c', hv, (ht.keep fun j hj => k.block j hj.2.1 (by have := hj.1; omega)).wide fun j hj => ⟨hj.1, Nat.lt_of_lt_of_le hj.2.1 k.size, hj.2.2⟩⟩
theorem memb_step {O : List (ByteArray × T) → T} {s : ByteArray} {n0 q r b N0 M room : Nat} (IH : ∀ n, n ≤ n0 → FromAt O s n) (hroom : room ≤ 1000) (hs : s.size ≤ 90000) (n : Nat) (Y : Nat → Prop) (t : Tok) (m : List (ByteArray × T)) (w : World) (hn : n ≤ n0) (hJ : MembS q r b N0 M room Y m w) (hL : Lx w b s t.fin) (hE : ErrAt b w) (hok : Rd.Ok s t) (hft : FromT s t) (hnn : 2 * (s.size - t.at_) + 1 ≤ n) (hm : m.length ≤ t.at_) :
 Calls Tryz.prog 103 #[.pointer (some ⟨q, 0, none⟩), .agg #[.int .i64 t.kind, .string t.text, .int .i64 t.num, .int .i64 t.at_, .int .i64 t.fin]] w (StepPost (Rd.membP O s room n t m) (MembS q r b N0 M room) Y b N0 s w) := by
 obtain ⟨vs, hJ⟩ := hJ
 have hql := hJ.blk.lt
 have hMl := hJ.Mw
 have hb0 := hJ.b0
 have hr0 := hJ.r0
 have hq0 := hJ.q0
 have hM0 := hJ.M0
 have hrb := hJ.rb
 have HYN := hid hJ.yb
 have HN := hid (fun i w hi hn' => next_says (IH n hn) room i r b hroom w hs hi hn')
 have HOK := hid hok
 have HFT := hid hft
 have HM := hid (fun hk hh => membP_eq O s room n t m hk hh)
 have HM1 := hid (show t.kind ≠ 2 → Rd.membP O s room n t m = .err t.at_ 1 from fun h => by unfold Rd.membP; rw [if_pos h])
 have HM2 := hid (show t.kind = 2 → Rd.hasK m t.text = true → Rd.membP O s room n t m = .err t.at_ 5 from fun h h2 => by unfold Rd.membP; rw [if_neg (fun k => k h), if_pos h2])
 have hlen := hok.2.1
 have hbW : Below w.heap.size w (w.alloc (.cells (tokC t) 99)) := (Below.refl _ _).alloc (Nat.le_refl _) _
 have HJ := hid (hJ.side (Aside.of hbW))
 have HL := hid (show Lx _ b s t.fin from Blk.onto hL hbW)
 have HE := hid (hE.onto hbW)
 have HB := hid (Blk.new w 99 (tokC t))
 have HW := hid (show Kept (fun k => Y k ∨ k < N0 ∧ k ≠ b) w _ from Kept.of hbW)
 have hWs : w.heap.size < (w.alloc (.cells (tokC t) 99)).heap.size := by simp
 have HKA := hid (show ∀ w1 w2 : World, Aside b w1 w2 → Kept (fun k => Y k ∨ k < N0 ∧ k ≠ b) w1 w2 from fun w1 w2 h => Kept.side h (fun k hk => by
  rcases hk with hk | hk
  · have := (HYN.out k hk).1; omega
  · exact hk.2))
 clear hok hft hbW hJ hL hE IH
 generalize hres : Rd.membP O s room n t m = res at *
 clear hres
 go_enter Tryz.func103, Tryz.ntmps103
 go_upto_region 1 with fail
 change Code.wp _ _ _ _ (w.alloc (.cells (tokC t) 99))
 generalize (w.alloc (.cells (tokC t) 99)) = W at *
 generalize w.heap.size = F at *
 have p0 : W.cell? ⟨F, 0, none⟩ = some (.int .i64 t.kind) := HB.out.cell 0
 have p3 : W.cell? ⟨F, 3, none⟩ = some (.int .i64 t.at_) := HB.out.cell 3
 by_cases hk : t.kind = 2
 ·
  have u0 : (t.kind != 2) = false := by rw [hk]; rfl
  have HK2 := hid hk
  clear hk
  go_upto_region 3 with fail
  go_cut [6, 7] (fun s6 s7 wx => s7 = .bool (Rd.hasK m t.text) ∧ Below W.heap.size W wx)
  case first =>
   have hsz := tok_short HFT.out HK2.out hs
   have hsz' : t.text.size ≤ maxLen := by unfold maxLen; omega
   have hnd : (vs.map Prod.fst).Nodup := by rw [HJ.out.fst]; exact HJ.out.nodup
   obtain ⟨x, A, c, A', c', hlk⟩ : ∃ (x : T) (A : Option Addr) (c : Nat) (A' : Option Addr) (c' : Nat), ∀ w' : World, w'.heap[M]? = W.heap[M]? → (Instr.lookup 161 (.map (some M)) (.string t.text) true).run Tryz.prog w' = .ok (.tuple #[.agg #[.int .i64 x.kind, .bool x.tr, .int .i64 x.num, .string x.str, .slice A x.items.length c, .slice A' x.keys.length c'], .bool (Rd.hasK m t.text)]) w' := by
    cases hh : Rd.hasK m t.text with
    | true =>
     have hmem := Rd.hasK_iff.1 hh
     obtain ⟨⟨k1, x⟩, hx, hxe⟩ := List.mem_map.1 hmem
     dsimp only at hxe
     subst hxe
     obtain ⟨i, hi⟩ := List.getElem?_of_mem hx
     obtain ⟨A, c, A', c', hv, _⟩ := HJ.out.at_ i t.text x hi
     exact ⟨x, A, c, A', c', fun w' hb => ((map_look (owns_block HJ.out.owns hb) hnd hsz' true).2 _ (List.mem_of_getElem? hv)).1⟩
    | false =>
     have hmem : t.text ∉ vs.map Prod.fst := fun h => by
      rw [HJ.out.fst] at h
      have := Rd.hasK_iff.2 h
      rw [hh] at this
      cases this
     exact ⟨T.zero, none, 0, none, 0, fun w' hb => (map_look (owns_block HJ.out.owns hb) hnd hsz' true).1 hmem⟩
   generalize Rd.hasK m t.text = hb at *
   have HS := hid (show ∀ w', Below W.heap.size W w' → w'.cell? ⟨q, 1, none⟩ = some (.map (some M)) ∧ w'.cell? ⟨F, 1, none⟩ = some (.string t.text) ∧ (Instr.lookup 161 (.map (some M)) (.string t.text) true).run Tryz.prog w' = .ok (.tuple #[.agg #[.int .i64 x.kind, .bool x.tr, .int .i64 x.num, .string x.str, .slice A x.items.length c, .slice A' x.keys.length c'], .bool hb]) w' from fun w' h =>
    ⟨(HJ.out.blk.onto h).cell 1, (HB.out.onto h).cell 1, hlk w' (h.block M HJ.out.Mw)⟩)
   clear hlk hnd hsz hsz' p0 p3
   refine wp_region_held_drew (S := fun w' => w'.cell? ⟨q, 1, none⟩ = some (.map (some M)) ∧ w'.cell? ⟨F, 1, none⟩ = some (.string t.text) ∧ (Instr.lookup 161 (.map (some M)) (.string t.text) true).run Tryz.prog w' = .ok (.tuple #[.agg #[.int .i64 x.kind, .bool x.tr, .int .i64 x.num, .string x.str, .slice A x.items.length c, .slice A' x.keys.length c'], .bool hb]) w') (by kernel_rfl) ?_ (fun hHeld => ?_)
   · exact HS.out _ (Below.refl W.heap.size W).drew
   refine wpAnyH_take (i := 0) (v := ?_) rfl (by kernel_rfl) (by kernel_rfl) (by kernel_rfl) (fun _ _ _ h => h) (Or.inl ⟨by rfl, ?_⟩) (by assumption) ?_
   rotate_left
   ·
    intro wq hSw
    try dsimp only at hSw
    go_simp
    try (with_reducible rfl)
   try simp only [Act.put, List.getElem_toArray, List.getElem_cons_zero, List.setIfInBounds_toArray, List.set_cons_zero, List.set_cons_succ]
   refine wpAnyH_take (i := 1) (v := ?_) rfl (by kernel_rfl) (by kernel_rfl) (by kernel_rfl) (fun _ _ _ h => h) (Or.inl ⟨by rfl, ?_⟩) (by assumption) ?_
   rotate_left
   ·
    intro wq hSw
    try dsimp only at hSw
    go_simp
    try (with_reducible rfl)
   try simp only [Act.put, sqa, sqb, sqc, sqd, sqe, sqf]
   refine wpAnyH_take (i := 2) (v := ?_) rfl (by kernel_rfl) (by kernel_rfl) (by kernel_rfl) (fun _ _ _ h => h) (Or.inl ⟨by rfl, ?_⟩) (by assumption) ?_
   rotate_left
   ·
    intro wq hSw
    try dsimp only at hSw
    go_simp
    try (with_reducible rfl)
   try simp only [Act.put, sqa, sqb, sqc, sqd, sqe, sqf]
   refine wpAnyH_take (i := 3) (v := ?_) rfl (by kernel_rfl) (by kernel_rfl) (by kernel_rfl) (fun _ _ _ h => h) (Or.inl ⟨by rfl, ?_⟩) (by assumption) ?_
   rotate_left
   ·
    intro wq hSw
    try dsimp only at hSw
    go_simp
    try (with_reducible rfl)
   try simp only [Act.put, sqa, sqb, sqc, sqd, sqe, sqf]
   refine wpAnyH_take (i := 4) (v := ?_) rfl (by kernel_rfl) (by kernel_rfl) (by kernel_rfl) (fun _ _ _ h => h) (Or.inl ⟨by rfl, ?_⟩) (by assumption) ?_
   rotate_left
   ·
    intro wq hSw
    try dsimp only at hSw
    go_simp
    try (with_reducible rfl)
   try simp only [Act.put, sqa, sqb, sqc, sqd, sqe, sqf]
   refine wpAnyH_take (i := 5) (v := ?_) rfl (by kernel_rfl) (by kernel_rfl) (by kernel_rfl) (fun _ _ _ h => h) (Or.inl ⟨by rfl, ?_⟩) (by assumption) ?_
   rotate_left
   ·
    intro wq hSw
    try dsimp only at hSw
    go_simp
    try (with_reducible rfl)
   try simp only [Act.put, sqa, sqb, sqc, sqd, sqe, sqf]
   refine wpAnyH_take (i := 6) (v := ?_) rfl (by kernel_rfl) (by kernel_rfl) (by kernel_rfl) (fun _ _ _ h => h) (Or.inl ⟨by rfl, ?_⟩) (by assumption) ?_
   rotate_left
   ·
    intro wq hSw
    try dsimp only at hSw
    go_simp
    try (with_reducible rfl)
   try simp only [Act.put, sqa, sqb, sqc, sqd, sqe, sqf]
   refine wpAnyH_take (i := 7) (v := ?_) rfl (by kernel_rfl) (by kernel_rfl) (by kernel_rfl) (fun _ _ _ h => h) (Or.inl ⟨by rfl, ?_⟩) (by assumption) ?_
   rotate_left
   ·
    intro wq hSw
    try dsimp only at hSw
    go_simp
    try (with_reducible rfl)
   try simp only [Act.put, sqa, sqb, sqc, sqd, sqe, sqf]
   refine wpAnyH_take (i := 8) (v := ?_) rfl (by kernel_rfl) (by kernel_rfl) (by kernel_rfl) (fun _ _ _ h => h) (Or.inl ⟨by rfl, ?_⟩) (by assumption) ?_
   rotate_left
   ·
    intro wq hSw
    try dsimp only at hSw
    go_simp
    try (with_reducible rfl)
   try simp only [Act.put, sqa, sqb, sqc, sqd, sqe, sqf]
   refine wpAnyH_take (i := 9) (v := ?_) rfl (by kernel_rfl) (by kernel_rfl) (by kernel_rfl) (fun _ _ _ h => h) (Or.inl ⟨by rfl, ?_⟩) (by assumption) ?_
   rotate_left
   ·
    intro wq hSw
    try dsimp only at hSw
    go_simp
    try (with_reducible rfl)
   try simp only [Act.put, sqa, sqb, sqc, sqd, sqe, sqf]
   refine wpAnyH_ready (rs := [10]) (by kernel_rfl) (by simp) ?_
   refine AllReadyH.cons rfl (fun K0 hK => ?_) ?_
   rotate_left
   · exact AllReadyH.nil
   go_simp
   refine hK.out _ _ ?_ (fun hHeld => ?_)
   · exact HS.out _ ((Below.refl W.heap.size W).drew.alloc (Nat.le_refl _) _)
   clear hK K0
   try simp only [Act.put, sqa, sqb, sqc, sqd, sqe, sqf]
   refine wpAnyH_ready (rs := [11]) (by kernel_rfl) (by simp) ?_
   refine AllReadyH.cons rfl (fun K0 hK => ?_) ?_
   rotate_left
   · exact AllReadyH.nil
   go_simp
   refine hK.out _ _ ?_ (fun hHeld => ?_)
   · exact HS.out _ ((Below.refl W.heap.size W).drew.alloc (Nat.le_refl _) _)
   clear hK K0
   try simp only [Act.put, sqa, sqb, sqc, sqd, sqe, sqf]
   refine wpAnyH_take (i := 12) (v := ?_) rfl (by kernel_rfl) (by kernel_rfl) (by kernel_rfl) (fun _ _ _ h => h) (Or.inl ⟨by rfl, ?_⟩) (by assumption) ?_
   rotate_left
   ·
    intro wq hSw
    try dsimp only at hSw
    go_simp
    try (with_reducible rfl)
   try simp only [Act.put, sqa, sqb, sqc, sqd, sqe, sqf]
   refine wpAnyH_done (by kernel_rfl) ?_ _
   go_wp2_with fail
   go_meet
   exact ⟨rfl, (Below.refl W.heap.size W).drew.alloc (Nat.le_refl _) _⟩
  case rest =>
   obtain ⟨rfl, hbx⟩ := hcut
   have HJc := hid (HJ.out.side (Aside.of hbx))
   have HBc := hid (HB.out.onto hbx)
   have HLc := hid (show Lx wc b s t.fin from Blk.onto HL.out hbx)
   have HEc := hid (HE.out.onto hbx)
   have HWc := hid (HW.out.trans (HKA.out _ _ (Aside.of hbx)))
   have hFc : F < wc.heap.size := HBc.out.lt
   have hWc : W.heap.size ≤ wc.heap.size := hbx.size
   have q3 : wc.cell? ⟨F, 3, none⟩ = some (.int .i64 t.at_) := HBc.out.cell 3
   clear hbx p0 p3 u0 HJ HB HL HE HW
   cases hh : Rd.hasK m t.text with
   | true =>
    go_wp2_with fail
    refine bodyPost_ret (v := .tuple #[.int .i64 t.at_, .int .i64 5]) (by simp [results, Tryz.results103, go_sem]) rfl ?_
    rw [HM2.out HK2.out hh]
    exact ⟨rfl, rfl, HWc.out⟩
   | false =>
    have HRES := hid (HM.out HK2.out hh)
    have y0 : wc.cell? ⟨q, 0, none⟩ = some (.pointer (some ⟨r, 0, none⟩)) := HJc.out.blk.cell 0
    have z0 : wc.cell? ⟨r, 0, none⟩ = some (.pointer (some ⟨b, 0, none⟩)) := HJc.out.rd.cell 0
    have HNX := hid (next_any5 b s t.fin wc hs HLc.out hlen HEc.out.err)
    have HEN := hid (fun p c (h : next s t.fin = .err p c) => next_code h)
    have HPL := hid (show placeOf s t.fin = match next s t.fin with | .tok t => t.fin | .err _ _ => t.fin from rfl)
    have HOX := hid (fun u (h : next s t.fin = .tok u) => Rd.ok_next hlen h)
    generalize next s t.fin = nx at *
    generalize placeOf s t.fin = pl at *
    clear HM HM1 HM2
    go_wp2_with fail
    refine HNX.out.mono ?_
    rintro e w2 ⟨rfl, hA, hlx⟩
    have HA := hid hA
    have hA2 := hA.size
    have HLX := hid hlx
    clear hA hlx HNX y0 z0 q3
    cases nx with
    | err p e =>
     have hc0 := HEN.out p e rfl
     have v1 : (e != 0) = true := by rw [bne_iff_ne]; exact hc0
     have v0 : (e == 0) = false := by rw [beq_eq_false_iff_ne]; exact hc0
     unfold Ans.val
     go_wp2_with fail
     refine bodyPost_ret (v := .tuple #[.int .i64 p, .int .i64 e]) (by simp [results, Tryz.results103, go_sem]) rfl ?_
     rw [HRES.out]
     exact ⟨rfl, v0, (HWc.out.trans (HKA.out _ _ HA.out)).alloc _⟩
    | tok u =>
     obtain ⟨hok5, hat5⟩ := HOX.out u rfl
     have hpl : pl = u.fin := HPL.out
     subst hpl
     have hu2 := hok5.2.1
     have hu1 := hok5.1
     have hA3 : Aside b wc (w2.alloc (.cells (tokC u) 99)) := HA.out.trans_ (Aside.of ((Below.refl _ _).alloc (Nat.le_refl _) _))
     have hB3 : Blk (w2.alloc (.cells (tokC u) 99)) w2.heap.size 99 (tokC u) := Blk.new w2 _ _
     have hL3 : Lx (w2.alloc (.cells (tokC u) 99)) b s u.fin := Blk.alloc HLX.out _
     clear hok5 HEN HPL HOX
     unfold Ans.val
     dsimp only at HRES
     go_wp2_with fail
     change Calls _ _ _ (w2.alloc (.cells (tokC u) 99)) _
     generalize (w2.alloc (.cells (tokC u) 99)) = W3 at *
     generalize w2.heap.size = U at *
     have HA3 := hid hA3
     have HB3 := hid hB3
     have HL3 := hid hL3
     clear hA3 hB3 hL3 HA HLX
     by_cases hM : Rd.isM u 58
     ·
      refine (ismark_t u ⟨#[58]⟩ hM _).mono ?_
      rintro e w4 ⟨rfl, hb4⟩
      have hA4 := HA3.out.trans_ (Aside.of hb4)
      have HJ4 := hid (HJc.out.side hA4)
      have HL4 := hid (show Lx w4 b s u.fin from Blk.onto HL3.out hb4)
      have HE4 := hid (HEc.out.side hA4)
      have HB4 := hid (HBc.out.aside hA4 (by omega))
      have HW4 := hid (HWc.out.trans (HKA.out _ _ hA4))
      have hs4 := hA4.size
      have y0 : w4.cell? ⟨q, 0, none⟩ = some (.pointer (some ⟨r, 0, none⟩)) := HJ4.out.blk.cell 0
      rw [if_neg (fun h => h hM)] at HRES
      clear hb4 hA4 HA3 HB3 HL3 HJc HLc HEc HBc HWc
      go_wp2_with fail
      refine (HN.out u.fin w4 hu2 (by have := HOK.out.1; omega) HJ4.out.rd HL4.out HE4.out hrb).mono ?_
      rintro e w5 ⟨V, A, c, A', c', p, ec, rfl, hsay⟩
      have HSA := hid hsay.side
      unfold T.agg
      cases hres2 : Rd.nextF O s n room u.fin with
      | out => rw [hres2] at hsay; exact hsay.elim
      | err p0 c0 =>
       rw [hres2] at hsay HRES
       obtain ⟨rfl, rfl, he0, _⟩ := hsay
       have v1 : (ec != 0) = true := by rw [bne, he0]; rfl
       have v2 : ¬ ec = 0 := by simpa using he0
       go_wp2_with fail
       refine bodyPost_ret (v := .tuple #[.int .i64 p0, .int .i64 ec]) (by simp [results, Tryz.results103, go_sem]) rfl ?_
       rw [HRES.out]
       exact ⟨rfl, he0, (HW4.out.trans (HKA.out _ _ HSA.out)).alloc _⟩
      | val v fin =>
       rw [hres2] at hsay HRES
       obtain ⟨rfl, rfl, rfl, hT, _, hLf⟩ := hsay
       have hW6 : Below w5.heap.size w5 (w5.alloc (.cells #[.int .i64 V.kind, .bool V.tr, .int .i64 V.num, .string V.str, .slice A V.items.length c, .slice A' V.keys.length c'] 43)) := (Below.refl _ _).alloc (Nat.le_refl _) _
       have hG6 : Blk (w5.alloc (.cells #[.int .i64 V.kind, .bool V.tr, .int .i64 V.num, .string V.str, .slice A V.items.length c, .slice A' V.keys.length c'] 43)) w5.heap.size 43 #[.int .i64 V.kind, .bool V.tr, .int .i64 V.num, .string V.str, .slice A V.items.length c, .slice A' V.keys.length c'] := Blk.new w5 _ _
       have hJ6 := (HJ4.out.side HSA.out).side (Aside.of hW6)
       have hs5 := HSA.out.size
       have HT6 := hid (show TV (w5.alloc (.cells #[.int .i64 V.kind, .bool V.tr, .int .i64 V.num, .string V.str, .slice A V.items.length c, .slice A' V.keys.length c'] 43)) (fun j => N0 ≤ j ∧ j < (w5.alloc (.cells #[.int .i64 V.kind, .bool V.tr, .int .i64 V.num, .string V.str, .slice A V.items.length c, .slice A' V.keys.length c'] 43)).heap.size ∧ ¬ Y j ∧ j ≠ q ∧ j ≠ M) V A c A' c' from (hT.keep fun j hj => hW6.block j hj.2).wide fun j hj => ⟨by have := hj.1; omega, by have := hj.2; have := hW6.size; omega, fun hy => by have := (HYN.out j hy).2; have := hj.1; omega, by have := hj.1; omega, by have := hj.1; omega⟩)
       have HLf := hid (show Lx (w5.alloc (.cells #[.int .i64 V.kind, .bool V.tr, .int .i64 V.num, .string V.str, .slice A V.items.length c, .slice A' V.keys.length c'] 43)) b s fin from Blk.onto hLf hW6)
       have HA6 := hid (HKA.out _ _ (HSA.out.trans_ (Aside.of hW6)))
       have hB6 := (HB4.out.aside HSA.out (by omega)).onto hW6
       go_upto_region 14 with fail
       change Code.wp _ _ _ _ (w5.alloc (.cells #[.int .i64 V.kind, .bool V.tr, .int .i64 V.num, .string V.str, .slice A V.items.length c, .slice A' V.keys.length c'] 43))
       have hs6 := hW6.size
       generalize (w5.alloc (.cells #[.int .i64 V.kind, .bool V.tr, .int .i64 V.num, .string V.str, .slice A V.items.length c, .slice A' V.keys.length c'] 43)) = W6 at *
       have hnM : (M : Nat) < W6.heap.size := hJ6.Mw
       have hm2 : m.length < maxLen := by unfold maxLen; have := HOK.out.1; omega
       have hks := tok_short HFT.out HK2.out hs
       have hD : W6.drew.ownsMap Tryz.prog 9 RV M m.length (MD vs) := hJ6.owns
       obtain ⟨w7, hrun, hown7, hg7⟩ := World.ownsMap.update hD keyed_str Tryz.underlying161 hm2 (key_str (q := t.text) (by unfold maxLen; omega)) (val := (.agg #[.int .i64 V.kind, .bool V.tr, .int .i64 V.num, .string V.str, .slice A V.items.length c, .slice A' V.keys.length c'])) (d := .held (.agg #[.int .i64 V.kind, .bool V.tr, .int .i64 V.num, .string V.str, .slice A V.items.length c, .slice A' V.keys.length c'])) (ps := []) rfl
       have hno : t.text ∉ m.map Prod.fst := fun h => by
        have := Rd.hasK_iff.2 h
        rw [hh] at this
        cases this
       have HEND := hid (memb_put (q := q) (r := r) (b := b) (N0 := N0) (M := M) (room := room) (Y := Y) (w := W6) (w' := w7) hJ6 hno hks HT6.out hown7 ⟨hg7.os, hg7.tape, hg7.output, hg7.size, hg7.block⟩)
       have HS := hid (show ∀ w' : World, (∀ k, k < W6.heap.size → k ≠ M → w'.heap[k]? = W6.heap[k]?) → w'.cell? ⟨q, 1, none⟩ = some (.map (some M)) ∧ w'.cell? ⟨F, 1, none⟩ = some (.string t.text) ∧ (w'.cell? ⟨w5.heap.size, 0, none⟩ = some (.int .i64 V.kind) ∧ w'.cell? ⟨w5.heap.size, 1, none⟩ = some (.bool V.tr) ∧ w'.cell? ⟨w5.heap.size, 2, none⟩ = some (.int .i64 V.num) ∧ w'.cell? ⟨w5.heap.size, 3, none⟩ = some (.string V.str) ∧ w'.cell? ⟨w5.heap.size, 4, none⟩ = some (.slice A V.items.length c) ∧ w'.cell? ⟨w5.heap.size, 5, none⟩ = some (.slice A' V.keys.length c')) from fun w' h => by
        have e1 : Blk w' q 163 #[.pointer (some ⟨r, 0, none⟩), .map (some M)] := (h q (by have := hJ6.blk.lt; omega) hJ6.qM).trans hJ6.blk
        have e2 : Blk w' F 99 (tokC t) := (h F hB6.lt (by omega)).trans hB6
        have e3 : Blk w' w5.heap.size 43 #[.int .i64 V.kind, .bool V.tr, .int .i64 V.num, .string V.str, .slice A V.items.length c, .slice A' V.keys.length c'] := (h _ hG6.lt (by omega)).trans hG6
        exact ⟨e1.cell 1, e2.cell 1, e3.cell 0, e3.cell 1, e3.cell 2, e3.cell 3, e3.cell 4, e3.cell 5⟩)
       have HG7 := hid hg7
       have hbM : b ≠ M := by omega
       have HLb := hid (show Lx w7 b s fin from (hg7.block b (by show b < W6.heap.size; omega) (fun e => hbM (by injection e))).trans HLf.out)
       generalize w5.heap.size = g5 at *
       clear hJ6 hB6 hG6 hW6 hown7 hg7 hD hT hLf
       refine wp_region_held_drew (S := fun w' => w'.cell? ⟨q, 1, none⟩ = some (.map (some M)) ∧ w'.cell? ⟨F, 1, none⟩ = some (.string t.text) ∧ (w'.cell? ⟨g5, 0, none⟩ = some (.int .i64 V.kind) ∧ w'.cell? ⟨g5, 1, none⟩ = some (.bool V.tr) ∧ w'.cell? ⟨g5, 2, none⟩ = some (.int .i64 V.num) ∧ w'.cell? ⟨g5, 3, none⟩ = some (.string V.str) ∧ w'.cell? ⟨g5, 4, none⟩ = some (.slice A V.items.length c) ∧ w'.cell? ⟨g5, 5, none⟩ = some (.slice A' V.keys.length c'))) (by kernel_rfl) ?_ (fun hHeld => ?_)
       · exact HS.out _ (fun k _ _ => rfl)
       refine wpAnyH_take (i := 0) (v := ?_) rfl (by kernel_rfl) (by kernel_rfl) (by kernel_rfl) (fun _ _ _ h => h) (Or.inl ⟨by rfl, ?_⟩) (by assumption) ?_
       rotate_left
       ·
        intro wq hSw
        try dsimp only at hSw
        go_simp
        try (with_reducible rfl)
       try simp only [Act.put, List.getElem_toArray, List.getElem_cons_zero, List.setIfInBounds_toArray, List.set_cons_zero, List.set_cons_succ]
       refine wpAnyH_take (i := 1) (v := ?_) rfl (by kernel_rfl) (by kernel_rfl) (by kernel_rfl) (fun _ _ _ h => h) (Or.inl ⟨by rfl, ?_⟩) (by assumption) ?_
       rotate_left
       ·
        intro wq hSw
        try dsimp only at hSw
        go_simp
        try (with_reducible rfl)
       try simp only [Act.put, sqa, sqb, sqc, sqd, sqe, sqf]
       refine wpAnyH_take (i := 2) (v := ?_) rfl (by kernel_rfl) (by kernel_rfl) (by kernel_rfl) (fun _ _ _ h => h) (Or.inl ⟨by rfl, ?_⟩) (by assumption) ?_
       rotate_left
       ·
        intro wq hSw
        try dsimp only at hSw
        go_simp
        try (with_reducible rfl)
       try simp only [Act.put, sqa, sqb, sqc, sqd, sqe, sqf]
       refine wpAnyH_take (i := 3) (v := ?_) rfl (by kernel_rfl) (by kernel_rfl) (by kernel_rfl) (fun _ _ _ h => h) (Or.inl ⟨by rfl, ?_⟩) (by assumption) ?_
       rotate_left
       ·
        intro wq hSw
        try dsimp only at hSw
        go_simp
        try (with_reducible rfl)
       try simp only [Act.put, sqa, sqb, sqc, sqd, sqe, sqf]
       refine wpAnyH_take (i := 4) (v := ?_) rfl (by kernel_rfl) (by kernel_rfl) (by kernel_rfl) (fun _ _ _ h => h) (Or.inl ⟨by rfl, ?_⟩) (by assumption) ?_
       rotate_left
       ·
        intro wq hSw
        try dsimp only at hSw
        go_simp
        try (with_reducible rfl)
       try simp only [Act.put, sqa, sqb, sqc, sqd, sqe, sqf]
       refine wpAnyH_take (i := 5) (v := ?_) rfl (by kernel_rfl) (by kernel_rfl) (by kernel_rfl) (fun _ _ _ h => h) (Or.inl ⟨by rfl, ?_⟩) (by assumption) ?_
       rotate_left
       ·
        intro wq hSw
        try dsimp only at hSw
        go_simp
        try (with_reducible rfl)
       try simp only [Act.put, sqa, sqb, sqc, sqd, sqe, sqf]
       refine wpAnyH_take (i := 6) (v := ?_) rfl (by kernel_rfl) (by kernel_rfl) (by kernel_rfl) (fun _ _ _ h => h) (Or.inl ⟨by rfl, ?_⟩) (by assumption) ?_
       rotate_left
       ·
        intro wq hSw
        try dsimp only at hSw
        go_simp
        try (with_reducible rfl)
       try simp only [Act.put, sqa, sqb, sqc, sqd, sqe, sqf]
       refine wpAnyH_ready (rs := [7]) (by kernel_rfl) (by simp) ?_
       refine AllReadyH.cons rfl (fun K0 hK => ?_) ?_
       rotate_left
       · exact AllReadyH.nil
       go_simp
       refine hK.out _ _ ?_ (fun hHeld => ?_)
       · exact HS.out _ (fun k hk hne => HG7.out.block k hk (fun e => hne (by injection e)))
       clear hK K0
       try simp only [Act.put, sqa, sqb, sqc, sqd, sqe, sqf]
       refine wpAnyH_done (by kernel_rfl) ?_ _
       go_wp2_with fail
       refine bodyPost_ret (v := .tuple #[.int .i64 0, .int .i64 0]) (by simp [results, Tryz.results103, go_sem]) rfl ?_
       rw [HRES.out]
       exact ⟨rfl, ⟨_, HEND.out⟩, HLb.out, (HW4.out.trans HA6.out).grown (row := some M) ⟨HG7.out.os, HG7.out.tape, HG7.out.output, HG7.out.size, HG7.out.block⟩ (fun k hk => .inl (fun hS => by
        injection hk with hk
        subst hk
        rcases hS with hS | hS
        · exact HJ4.out.nM hS
        · have : M < N0 := hS.1; omega))⟩
     ·
      refine (ismark_f u ⟨#[58]⟩ hM _).mono ?_
      rintro e w4 ⟨rfl, hb4⟩
      have q3 : w4.cell? ⟨U, 3, none⟩ = some (.int .i64 u.at_) := (HB3.out.onto hb4).cell 3
      rw [if_pos hM] at HRES
      go_wp2_with fail
      refine bodyPost_ret (v := .tuple #[.int .i64 u.at_, .int .i64 1]) (by simp [results, Tryz.results103, go_sem]) rfl ?_
      rw [HRES.out]
      exact ⟨rfl, rfl, HWc.out.trans (HKA.out _ _ (HA3.out.trans_ (Aside.of hb4)))⟩
 ·
  have u0 : (t.kind != 2) = true := by rw [bne_iff_ne]; exact hk
  go_wp2_with fail
  refine bodyPost_ret (v := .tuple #[.int .i64 t.at_, .int .i64 1]) (by simp [results, Tryz.results103, go_sem]) rfl ?_
  rw [HM1.out hk]
  exact ⟨rfl, rfl, HW.out⟩
end Go.Proofs.YtgblenoaeanogaaGreatDoor
