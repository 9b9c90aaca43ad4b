/- text and Put: contracts. Objects out of keys put in one behind the other: plain mathematics. Objects out of members: plain mathematics. The members that an object's map holds: plain mathematics. -/
import Derived.Test.YtgblenoaeanogaaGreatDoorMJ
import Derived.Outline
import Derived.Deep.DeepCutAuto
import Derived.Deep.RegionLaw
import Derived.Maps.OwnSet
import Derived.Maps.Views
import Derived.Sort.KeysCollected
set_option linter.unusedVariables false
set_option maxRecDepth 100000
set_option maxHeartbeats 8000000
open Go.Lib (hid)
namespace Go.Proofs.YtgblenoaeanogaaGreatDoor
open Go.RowKit
def rank : List ByteArray → ByteArray → Nat
 | [], _ => 0
 | k :: r, q => if sl k q = true then 1 + rank r q else 0
theorem rank_le (l : List ByteArray) (q : ByteArray) : rank l q ≤ l.length := by
 induction l with
 | nil => exact Nat.le_refl _
 | cons k r ih => simp only [rank, List.length_cons]; split <;> omega
theorem rank_lt {l : List ByteArray} {q : ByteArray} : ∀ {i : Nat} {k : ByteArray}, i < rank l q → l[i]? = some k → sl k q = true := by
 induction l with
 | nil => intro i k h _; simp [rank] at h
 | cons a r ih =>
  intro i k h hk
  simp only [rank] at h
  split at h
  ·
   rename_i ha
   cases i with
   | zero => injection hk with hk; subst hk; exact ha
   | succ i => exact ih (by omega) hk
  · omega
theorem rank_at {l : List ByteArray} {q : ByteArray} : ∀ {k : ByteArray}, l[rank l q]? = some k → sl k q = false := by
 induction l with
 | nil => intro k h; simp [rank] at h
 | cons a r ih =>
  intro k hk
  simp only [rank] at hk
  split at hk
  ·
   rename_i ha
   rw [Nat.add_comm] at hk
   exact ih hk
  ·
   rename_i ha
   injection hk with hk
   subst hk
   simpa using ha
def putT (t : T) (q : ByteArray) (x : T) : T := .mk 5 false 0 ⟨#[]⟩ (t.items.take (rank t.keys q) ++ x :: t.items.drop (rank t.keys q)) (t.keys.take (rank t.keys q) ++ q :: t.keys.drop (rank t.keys q))
theorem src_take {w : World} {S : Nat → Prop} {A : Option Addr} {l : List ByteArray} (h : SReads w S A l) {k : Nat} (hk : k ≤ l.length) : Src w A k 1 ((l.take k).map Value.string) := by
 refine ⟨by simp; omega, fun hm => ?_⟩
 obtain ⟨b, o, e, _, hc⟩ := h (by intro hn; rw [hn] at hk; simp at hk; omega)
 refine ⟨_, e, fun j u hu => ?_⟩
 rw [List.getElem?_map] at hu
 cases hs : (l.take k)[j]? with
 | none => rw [hs] at hu; cases hu
 | some s =>
  rw [hs] at hu
  injection hu with hu
  subst hu
  rw [add_lit]
  have hj := lt_of_get hs
  rw [List.length_take] at hj
  rw [List.getElem?_take_of_lt (by omega)] at hs
  exact hc j s hs
theorem src_drop {w : World} {S : Nat → Prop} {A : Option Addr} {l : List ByteArray} (h : SReads w S A l) {k : Nat} {D : Option Addr} (hD : k < l.length → D = A.map fun a => a.add (k * 1)) : Src w D (l.length - k) 1 ((l.drop k).map Value.string) := by
 refine ⟨by simp, fun hm => ?_⟩
 obtain ⟨b, o, e, _, hc⟩ := h (by intro hn; rw [hn] at hm; simp at hm)
 refine ⟨⟨b, o + k, none⟩, by rw [hD (by omega), e]; simp [add_lit], fun j u hu => ?_⟩
 rw [List.getElem?_map] at hu
 cases hs : (l.drop k)[j]? with
 | none => rw [hs] at hu; cases hu
 | some s =>
  rw [hs] at hu
  injection hu with hu
  subst hu
  rw [add_lit]
  rw [List.getElem?_drop] at hs
  rw [Nat.add_assoc]
  exact hc (k + j) s hs
theorem src_one {w : World} {g : Nat} {ty : TypeId} {v : Value} (h : Blk w g ty #[v]) : Src w (some ⟨g, 0, none⟩) 1 1 [v] := by
 refine ⟨rfl, fun _ => ⟨_, rfl, fun j u hu => ?_⟩⟩
 rw [add_lit, Nat.zero_add, h.cell]
 rw [← hu, ← Array.getElem?_toList]
def newKeys (t : T) (q : ByteArray) : List ByteArray := t.keys.take (rank t.keys q) ++ q :: t.keys.drop (rank t.keys q)
def newItems (t x : T) (q : ByteArray) : List T := t.items.take (rank t.keys q) ++ x :: t.items.drop (rank t.keys q)
def KeysPut (g : Nat) (W : World) (t : T) (q : ByteArray) (s : Value) (wx : World) : Prop :=
 s = .pointer (some ⟨g, 0, none⟩) ∧ ∃ K kd, Blk wx g 50 #[.int .i64 5, .bool false, .int .i64 0, .string ⟨#[]⟩, .slice none 0 0, .slice K (t.keys.length + 1) kd] ∧ t.keys.length + 1 ≤ kd ∧ OwnKeys wx W.heap.size wx.heap.size (newKeys t q) K ∧ Below g W wx
theorem newKeys_len (t : T) (q : ByteArray) : (newKeys t q).length = t.keys.length + 1 := by
 have := rank_le t.keys q
 unfold newKeys
 rw [List.length_append, List.length_cons, List.length_take, List.length_drop]; omega
theorem keys_put {g : Nat} {W w4 : World} {t : T} {q : ByteArray} {K : Option Addr} {kd : Nat} (ho : w4.ownsRow W.heap.size 9 1 (.slice K (t.keys.length + 1) kd) (t.keys.length + 1) (((t.keys.take (rank t.keys q)).map Value.string ++ [.string q]) ++ (t.keys.drop (rank t.keys q)).map Value.string))
 (hk : Blk w4 g 50 #[.int .i64 5, .bool false, .int .i64 0, .string ⟨#[]⟩, .slice none 0 0, .slice none 0 0]) (hb : Below W.heap.size W w4) (hg : g < W.heap.size) :
 KeysPut g W t q (.pointer (some ⟨g, 0, none⟩)) (w4.setCell ⟨g, 5, none⟩ (.slice K (t.keys.length + 1) kd)) := by
 have e : ((t.keys.take (rank t.keys q)).map Value.string ++ [Value.string q]) ++ (t.keys.drop (rank t.keys q)).map Value.string = (newKeys t q).map Value.string := by simp [newKeys]
 rw [e, ← newKeys_len t q] at ho
 obtain ⟨K', d, e1, hd, hkeys⟩ := own_keys ho
 rw [newKeys_len] at e1 hd
 injection e1 with e2 _ e3
 subst e2 e3
 exact ⟨rfl, K, kd, hk.set_ 5 _, hd, hkeys.set (p := ⟨g, 5, none⟩) hk (by decide) _, (hb.mono (Nat.le_of_lt hg)).setCell (Nat.le_refl _) _⟩
def ItemsPut (S : Nat → Prop) (lo : Nat) (R g : Nat) (W : World) (t x : T) (q : ByteArray) (K : Option Addr) (kd : Nat) (s : Value) (wx : World) : Prop :=
 s = .pointer (some ⟨g, 0, none⟩) ∧ ∃ A2 d2, Blk wx g 50 #[.int .i64 5, .bool false, .int .i64 0, .string ⟨#[]⟩, .slice A2 (t.items.length + 1) d2, .slice K (t.keys.length + 1) kd] ∧ t.items.length + 1 ≤ d2 ∧ VReads wx (fun b => (S b ∨ lo ≤ b ∧ b < wx.heap.size) ∧ b ≠ R) A2 (newItems t x q) ∧
  SReads wx (fun b => (S b ∨ lo ≤ b ∧ b < wx.heap.size) ∧ b ≠ R) K (newKeys t q) ∧ Below g W wx
theorem newItems_len {t x : T} {q : ByteArray} (h : t.items.length = t.keys.length) : (newItems t x q).length = t.items.length + 1 := by
 have := rank_le t.keys q
 unfold newItems
 rw [List.length_append, List.length_cons, List.length_take, List.length_drop]; omega
theorem items_put {S : Nat → Prop} {R g : Nat} {w W w4 : World} {t x : T} {q : ByteArray} {K : Option Addr} {kd : Nat} {A2 : Option Addr} {d2 : Nat} {xs1 xs2 : List Value} {B : Option Addr} {d : Nat} {B' : Option Addr} {d' : Nat} {lo : Nat}
 (hil : t.items.length = t.keys.length)
 (ho : w4.ownsRow W.heap.size 50 6 (.slice A2 (t.items.length + 1) d2) (t.items.length + 1) ((xs1 ++ (x.cs B d B' d').toList) ++ xs2))
 (hk : Blk w4 g 50 #[.int .i64 5, .bool false, .int .i64 0, .string ⟨#[]⟩, .slice none 0 0, .slice K (t.keys.length + 1) kd]) (hb : Below W.heap.size W w4) (hg : g < W.heap.size) (hw : Below w.heap.size w W) (hlw : w.heap.size < W.heap.size)
 (hS : ∀ b, S b → b < w.heap.size) (h1 : Cells w S (t.items.take (rank t.keys q)) xs1) (h2 : Cells w S (t.items.drop (rank t.keys q)) xs2) (hx : TV w S x B d B' d') (hkeys : OwnKeys W lo W.heap.size (newKeys t q) K) (hR : w.heap.size ≤ R) (hRg : R < g) (hRl : R < lo) :
 ItemsPut S w.heap.size R g W t x q K kd (.pointer (some ⟨g, 0, none⟩)) (w4.setCell ⟨g, 4, none⟩ (.slice A2 (t.items.length + 1) d2)) := by
 have hc := (h1.append (Cells.one hx)).append h2
 have e : (t.items.take (rank t.keys q) ++ [x]) ++ t.items.drop (rank t.keys q) = newItems t x q := by simp [newItems]
 rw [e] at hc
 have hb4 := hw.trans (hb.mono (Nat.le_of_lt hlw))
 have hc4 := (hc.wide hS).on hb4 (Nat.le_of_lt hlw)
 obtain ⟨hd, hv⟩ := hc4.row (newItems_len hil) ho hb.size
 have hz : (w4.setCell ⟨g, 4, none⟩ (.slice A2 (t.items.length + 1) d2)).heap.size = w4.heap.size := by simp [World.setCell]
 refine ⟨rfl, A2, d2, hk.set_ 4 _, hd, ?_, ?_, (hb.mono (Nat.le_of_lt hg)).setCell (Nat.le_refl _) _⟩
 ·
  rw [hz]
  have hne : ∀ p, A2 = some p → p.block ≠ g := by
   intro p hp he
   subst hp
   have := (ho.lt p.block rfl).1
   omega
  intro hn
  obtain ⟨b, o, eA, hs, hi⟩ := hv hn
  refine ⟨b, o, eA, ⟨.inr ⟨by have := (ho.lt b (by rw [eA]; rfl)).1; omega, hs⟩, by have := (ho.lt b (by rw [eA]; rfl)).1; omega⟩, fun i y hy => ?_⟩
  have hbg : b ≠ g := hne _ eA
  obtain ⟨C, e, C', e', h6, _⟩ := hi i y hy
  refine ⟨C, e, C', e', h6.on_blk (Below.heap_setCell _ _ _ _ hbg), ?_⟩
  obtain ⟨D, f, D', f', hcc, ht⟩ := hc.2.2 i y hy
  have hval : ∀ j, j < 6 → (y.cs C e C' e')[j]? = (y.cs D f D' f')[j]? := fun j hj => by
   rw [← h6.at_ hj, ← hcc j hj]
   have hj2 : i * 6 + j < (t.items.length + 1) * 6 := by have := lt_of_get hy; rw [newItems_len hil] at this; omega
   have := ho.form (by omega)
   obtain ⟨g2, cap2, e2, _, _⟩ := this
   injection e2 with e3 _ e4
   rw [eA] at e3
   injection e3 with e3
   injection e3 with e5 e6
   subst e5 e6
   rw [Nat.zero_add]
   subst e4
   rw [eA] at ho
   exact ho.cellAt _ hj2
  have v4 := hval 4 (by omega)
  have v5 := hval 5 (by omega)
  simp only [T.cs] at v4 v5
  injection v4 with v4
  injection v5 with v5
  injection v4 with a1 _ a2
  injection v5 with a3 _ a4
  subst a1 a2 a3 a4
  exact ((ht.keep fun b hb' => hb4.block b (hS b hb')).keep fun b hb' => Below.heap_setCell _ _ _ _ (by show b ≠ g; have : b < w.heap.size := hS b hb'; omega)).wide fun b hb' => by
   have : b < w.heap.size := hS b hb'
   exact ⟨.inl hb', by omega⟩
 ·
  rw [hz]
  exact (((hkeys.onto hb).set (p := ⟨g, 4, none⟩) hk (by decide) _).sreads).wide fun b hb' => by
   have h3 := hb'.2
   rw [hz] at h3
   exact ⟨.inr ⟨by have := hb'.1; omega, h3⟩, by have := hb'.1; omega⟩
def PutPost (S : Nat → Prop) (t x : T) (q : ByteArray) (w : World) (e : Ending) (w' : World) : Prop :=
 ∃ B d B' d', e = .returned (.tuple #[(putT t q x).agg B d B' d', .bool true]) ∧ TV w' (fun b => S b ∨ w.heap.size ≤ b ∧ b < w'.heap.size) (putT t q x) B d B' d' ∧ Below w.heap.size w w'
theorem put_new (
 S : Nat → Prop) (t x : T) (A : Option Addr) (c : Nat) (A' : Option Addr) (c' : Nat) (B : Option Addr) (d : Nat) (B' : Option Addr) (d' : Nat) (q : ByteArray) (w : World) (hkl : t.keys.length ≤ 100000) (hil : t.items.length = t.keys.length) (hS : ∀ b, S b → b < w.heap.size) (hv : TV w S t A c A' c') (hx : TV w S x B d B' d') (hh : ¬ t.keys[rank t.keys q]? = some q) :
 Calls Tryz.prog 66 #[t.agg A c A' c', .string q, x.agg B d B' d'] w (PutPost S t x q w) := by
 have HV := hid hv
 have HX := hid hx
 have HH := hid hh
 have HIL := hid hil
 have hil' := hid hil
 have hrl := rank_le t.keys q
 have hkc := hv.lens.2
 obtain ⟨i0, hi0, hz0, hz1, hz2⟩ := info_parts infoStr
 obtain ⟨i1, hi1, hy0, hy1, hy2⟩ := info_parts infoV
 have HS := hid hS
 clear hv hh hx hil hS
 unfold T.agg
 go_enter Tryz.func66, Tryz.ntmps66
 go_wp2_with fail
 have hW : Below w.heap.size w (((w.alloc (.cells (t.cs A c A' c') 50)).alloc (.cells (x.cs B d B' d') 50)).alloc (.cells #[.int .i64 0, .bool false, .int .i64 0, .string ⟨#[]⟩, .slice none 0 0, .slice none 0 0] 50)) := (((Below.refl _ _).alloc (Nat.le_refl _) _).alloc (by simp) _).alloc (by simp; omega) _
 have hB0 : Blk (((w.alloc (.cells (t.cs A c A' c') 50)).alloc (.cells (x.cs B d B' d') 50)).alloc (.cells #[.int .i64 0, .bool false, .int .i64 0, .string ⟨#[]⟩, .slice none 0 0, .slice none 0 0] 50)) w.heap.size 50 (t.cs A c A' c') := ((Blk.new w _ _).alloc _).alloc _
 have hB1 : Blk (((w.alloc (.cells (t.cs A c A' c') 50)).alloc (.cells (x.cs B d B' d') 50)).alloc (.cells #[.int .i64 0, .bool false, .int .i64 0, .string ⟨#[]⟩, .slice none 0 0, .slice none 0 0] 50)) (w.heap.size + 1) 50 (x.cs B d B' d') := by
  have := (Blk.new (w.alloc (.cells (t.cs A c A' c') 50)) 50 (x.cs B d B' d')).alloc (.cells #[.int .i64 0, .bool false, .int .i64 0, .string ⟨#[]⟩, .slice none 0 0, .slice none 0 0] 50)
  simpa using this
 have hB2 : Blk (((w.alloc (.cells (t.cs A c A' c') 50)).alloc (.cells (x.cs B d B' d') 50)).alloc (.cells #[.int .i64 0, .bool false, .int .i64 0, .string ⟨#[]⟩, .slice none 0 0, .slice none 0 0] 50)) (w.heap.size + 2) 50 #[.int .i64 0, .bool false, .int .i64 0, .string ⟨#[]⟩, .slice none 0 0, .slice none 0 0] := by
  have := Blk.new ((w.alloc (.cells (t.cs A c A' c') 50)).alloc (.cells (x.cs B d B' d') 50)) 50 #[.int .i64 0, .bool false, .int .i64 0, .string ⟨#[]⟩, .slice none 0 0, .slice none 0 0]
  simpa using this
 have hZ : (((w.alloc (.cells (t.cs A c A' c') 50)).alloc (.cells (x.cs B d B' d') 50)).alloc (.cells #[.int .i64 0, .bool false, .int .i64 0, .string ⟨#[]⟩, .slice none 0 0, .slice none 0 0] 50)).heap.size = w.heap.size + 3 := by simp
 change Code.wp _ _ _ _ (((w.alloc (.cells (t.cs A c A' c') 50)).alloc (.cells (x.cs B d B' d') 50)).alloc (.cells #[.int .i64 0, .bool false, .int .i64 0, .string ⟨#[]⟩, .slice none 0 0, .slice none 0 0] 50))
 generalize (((w.alloc (.cells (t.cs A c A' c') 50)).alloc (.cells (x.cs B d B' d') 50)).alloc (.cells #[.int .i64 0, .bool false, .int .i64 0, .string ⟨#[]⟩, .slice none 0 0, .slice none 0 0] 50)) = W at *
 have HW := hid hW
 have HB0 := hid hB0
 have HB1 := hid hB1
 have HB2 := hid hB2
 have HZ := hid hZ
 have a5 : W.cell? ⟨w.heap.size, 5, none⟩ = some (.slice A' t.keys.length c') := hB0.cell 5
 clear hW hB0 hB1 hB2 hZ
 have a5f := True.intro
 go_loop [8] (fun i => ∃ k : Nat, k ≤ rank t.keys q ∧ i = .int .i64 k) (fun i => t.keys.length - (intOf i).toNat)
 case atStart => exact ⟨0, Nat.zero_le _, rfl⟩
 case round =>
  obtain ⟨k, hk, rfl⟩ := hrel
  by_cases hlt : k < rank t.keys q
  ·
   have u1 : decide ((k : Int) < (t.keys.length : Int)) = true := decide_eq_true (by omega)
   obtain ⟨b, o, s, rfl, hb, hx, hc⟩ := HV.out.keys.at_ (show k < t.keys.length by omega)
   have e0 := ((Keeps.of_below HW.out).cell (HS.out _ hb) (o + k)).trans hc
   have hs := rank_lt hlt hx
   unfold sl at hs
   clear hx hc
   go_wp2_with fail
   go_round
   case rel => exact ⟨k + 1, hlt, by go_num⟩
   case measure => simp [intOf]; omega
  ·
   obtain rfl : rank t.keys q = k := by omega
   have key : (t.keys.length ≤ rank t.keys q ∧ decide (rank t.keys q < t.keys.length) = false) ∨ ∃ b o s, A' = some ⟨b, o, none⟩ ∧ rank t.keys q < t.keys.length ∧ decide (rank t.keys q < t.keys.length) = true ∧ W.cell? ⟨b, o + rank t.keys q, none⟩ = some (.string s) ∧ Op.bytesLess s.toList q.toList = false ∧ s.toList ≠ q.toList := by
    by_cases hr : rank t.keys q < t.keys.length
    ·
     obtain ⟨b, o, s, e, hb, hx, hc⟩ := HV.out.keys.at_ hr
     exact .inr ⟨b, o, s, e, hr, decide_eq_true hr, ((Keeps.of_below HW.out).cell (HS.out _ hb) _).trans hc, rank_at hx, fun h => HH.out (by rw [ByteArray.toList_eq, ByteArray.toList_eq] at h; have h2 := ba_ext h; subst h2; exact hx)⟩
    · exact .inl ⟨by omega, decide_eq_false hr⟩
   have hlt0 : w.heap.size + 2 < W.heap.size := HB2.out.lt
   clear a5f
   go_upto_region 2 with fail
   go_cut [23] (fun s23 wx => s23 = .bool false ∧ wx = W)
   case first =>
    rcases key with ⟨hge, u1⟩ | ⟨b, o, s, rfl, hr, u1, e0, hs, hne⟩ <;> (go_wp2_with fail; go_meet; exact ⟨rfl, rfl⟩)
   case rest =>
   obtain ⟨rfl, rfl⟩ := hcut
   go_upto_region 4 with fail
   go_cut [39] (fun s39 wx => s39 = .bool false ∧ wx = wc)
   case first =>
    rcases key with ⟨hge, u1⟩ | ⟨b, o, s, rfl, hr, u1, e0, hs, hne⟩
    ·
     go_wp2_with fail
     go_meet
     exact ⟨rfl, rfl⟩
    ·
     go_wp2_with fail
     go_meet
     exact ⟨by simp [hne], rfl⟩
   case rest =>
    obtain ⟨rfl, rfl⟩ := hcut
    clear key
    go_upto_region 7 with fail
    have h1 : Below w.heap.size w (wc.alloc (.cells #[.int .i64 5, .bool false, .int .i64 0, .string ⟨#[]⟩, .slice none 0 0, .slice none 0 0] 50)) := HW.out.alloc HW.out.size _
    have k0 := HB0.out.alloc (.cells #[.int .i64 5, .bool false, .int .i64 0, .string ⟨#[]⟩, .slice none 0 0, .slice none 0 0] 50)
    have k1 := HB1.out.alloc (.cells #[.int .i64 5, .bool false, .int .i64 0, .string ⟨#[]⟩, .slice none 0 0, .slice none 0 0] 50)
    have k2 := HB2.out.alloc (.cells #[.int .i64 5, .bool false, .int .i64 0, .string ⟨#[]⟩, .slice none 0 0, .slice none 0 0] 50)
    have k3 := Blk.new wc 50 #[.int .i64 5, .bool false, .int .i64 0, .string ⟨#[]⟩, .slice none 0 0, .slice none 0 0]
    have kz : (wc.alloc (.cells #[.int .i64 5, .bool false, .int .i64 0, .string ⟨#[]⟩, .slice none 0 0, .slice none 0 0] 50)).heap.size = wc.heap.size + 1 := by simp
    change Code.wp _ _ _ _ (wc.alloc (.cells #[.int .i64 5, .bool false, .int .i64 0, .string ⟨#[]⟩, .slice none 0 0, .slice none 0 0] 50))
    generalize (wc.alloc (.cells #[.int .i64 5, .bool false, .int .i64 0, .string ⟨#[]⟩, .slice none 0 0, .slice none 0 0] 50)) = W1 at *
    clear HW HB0 HB1 HB2 HZ
    generalize wc.heap.size = G at *
    have H1 := hid h1
    have K0 := hid k0
    have K1 := hid k1
    have K2 := hid k2
    have K3 := hid k3
    have KZ := hid kz
    have d5 : W1.cell? ⟨w.heap.size, 5, none⟩ = some (.slice A' t.keys.length c') := k0.cell 5
    have hg1 : G < W1.heap.size := k3.lt
    have hl1 : w.heap.size < W1.heap.size := k0.lt
    have hl9 : w.heap.size + 2 < G := by omega
    have hl8 : w.heap.size < G := by omega
    have n0 : (0 : Int) ≤ (rank t.keys q : Int) := by omega
    have n1 : (rank t.keys q : Int) ≤ (t.keys.length : Int) := by omega
    have n2 : (rank t.keys q : Int) ≤ (c' : Int) := by omega
    clear h1 k0 k1 k2 k3 kz a5
    obtain ⟨DA, hDA, hdr⟩ : ∃ DA, (if c' = rank t.keys q then A' else Option.map (fun a => a.add (rank t.keys q)) A') = DA ∧ (rank t.keys q < t.keys.length → DA = A'.map fun a => a.add (rank t.keys q * 1)) :=
     ⟨_, rfl, fun h => by rw [if_neg (by omega), Nat.mul_one]⟩
    have KT := hid (show ∀ W2, Below w.heap.size w W2 → Src W2 A' (rank t.keys q) 1 ((t.keys.take (rank t.keys q)).map Value.string) from fun W2 h => src_take ((HV.out.keys.wide HS.out).below h) (by omega))
    have KD := hid (show ∀ W2, Below w.heap.size w W2 → Src W2 DA (t.keys.length - rank t.keys q) 1 ((t.keys.drop (rank t.keys q)).map Value.string) from fun W2 h => src_drop ((HV.out.keys.wide HS.out).below h) hdr)
    have oneT := hid (show ∀ l : List ByteArray, ∀ u ∈ l.map Value.string, u.oneCell' = true from fun l u hu => by obtain ⟨s, _, rfl⟩ := List.mem_map.1 hu; rfl)
    have oneQ := hid (show ∀ u ∈ [Value.string q], u.oneCell' = true from fun u hu => by simp at hu; subst hu; rfl)
    clear hdr
    go_cut [9] (fun s9 wx => KeysPut G W1 t q s9 wx)
    case first =>
     have rowA := hid (World.ownsRow_lit (base := W1.heap.size) (size := 1) (e := 9) W1 #[] 0 (Nat.le_refl _) (Nat.zero_le _) rfl)
     have rowB := hid ((World.ownsRow_lit (base := W1.heap.size) (size := 1) (e := 9) W1 #[] 0 (Nat.le_refl _) (Nat.zero_le _) rfl).alloc (.cells #[.string q] 9))
     have rowC := hid (show ((W1.alloc (.cells #[.string q] 9)).alloc (.cells #[] 9)).ownsRow W1.heap.size 9 1 (.slice (some ⟨W1.heap.size + 1, 0, none⟩) 0 0) 0 [] from by have := World.ownsRow_lit (base := W1.heap.size) (size := 1) (e := 9) (W1.alloc (.cells #[.string q] 9)) #[] 0 (by simp) (Nat.zero_le _) rfl; simpa using this)
     have BA := hid (show Below W1.heap.size W1 (W1.alloc (.cells #[] 9)) from (Below.refl _ _).alloc (Nat.le_refl _) _)
     have BQ := hid (show Below W1.heap.size W1 (W1.alloc (.cells #[.string q] 9)) from (Below.refl _ _).alloc (Nat.le_refl _) _)
     have BB := hid (show Below W1.heap.size W1 ((W1.alloc (.cells #[] 9)).alloc (.cells #[.string q] 9)) from ((Below.refl _ _).alloc (Nat.le_refl _) _).alloc (by simp) _)
     have BC := hid (show Below W1.heap.size W1 ((W1.alloc (.cells #[.string q] 9)).alloc (.cells #[] 9)) from ((Below.refl _ _).alloc (Nat.le_refl _) _).alloc (by simp) _)
     have HSS := hid (show ∀ w', Below G W1 w' → w'.cell? ⟨w.heap.size, 5, none⟩ = some (.slice A' t.keys.length c') from fun w' hb => (hb.cell (p := ⟨w.heap.size, 5, none⟩) hl8).trans d5)
     have HGW := hid (hg1)
     go_region_held3 (fun w' => w'.cell? ⟨w.heap.size, 5, none⟩ = some (.slice A' t.keys.length c'))
      (first
       | with_reducible exact HSS.out _ (BA.out.mono (Nat.le_of_lt hg1))
       | with_reducible exact HSS.out _ (BA.out.drew.mono (Nat.le_of_lt hg1))
       | with_reducible exact HSS.out _ (BQ.out.mono (Nat.le_of_lt hg1))
       | with_reducible exact HSS.out _ (BQ.out.drew.mono (Nat.le_of_lt hg1))
       | with_reducible exact HSS.out _ (BB.out.mono (Nat.le_of_lt hg1))
       | with_reducible exact HSS.out _ (BB.out.drew.mono (Nat.le_of_lt hg1))
       | with_reducible exact HSS.out _ (BC.out.mono (Nat.le_of_lt hg1))
       | with_reducible exact HSS.out _ (BC.out.drew.mono (Nat.le_of_lt hg1))
       | with_reducible exact HSS.out _ (HX2.out.mono (Nat.le_of_lt hg1))
       | with_reducible exact HSS.out _ ((HX2.out.alloc HX2.out.size _).mono (Nat.le_of_lt hg1))
       | with_reducible exact HSS.out _ (HX3.out.mono (Nat.le_of_lt hg1))
       | with_reducible exact HSS.out _ (HX4.out.mono (Nat.le_of_lt hg1))
       | with_reducible exact HSS.out _ ((HX4.out.mono (Nat.le_of_lt hg1)).setCell (Nat.le_refl _) _)
       | go_keep)
      (first
       | (
        refine app_step ?_ (.tmp 42) (.tmp 46) 41 ?_ W1.heap.size 9 i0 (.string ⟨#[]⟩) 1 16 Tryz.underlying41 hi0 hz0 hz1 hz2 ?_ ?_ (.slice (some ⟨W1.heap.size, 0, none⟩) 0 0) 0 [] ?_ ?_ A' (rank t.keys q) c' ((t.keys.take (rank t.keys q)).map Value.string) ?_ ?_ (oneT.out _) ?_ ?_ ?_ (rank t.keys q) ?_ ?_
        · rfl
        · rfl
        · rfl
        · decide
        · rfl
        · first
           | with_reducible exact rowA.out.drew
           | with_reducible exact rowB.out.drew
           | with_reducible exact rowC.out.drew
        · rfl
        · first
           | with_reducible exact KT.out _ (H1.out.trans (BA.out.drew.mono H1.out.size))
           | with_reducible exact KT.out _ (H1.out.trans (BB.out.drew.mono H1.out.size))
           | with_reducible exact KT.out _ (H1.out.trans (BC.out.drew.mono H1.out.size))
        · unfold maxLen; omega
        · omega
        · first | (simp; done) | (simp; omega)
        · omega
        intro K2' e2 w2 ho2 hgr2 hat2
        rw [List.nil_append] at ho2
        have HO2 := hid ho2
        have hb2' : Below W1.heap.size W1 w2 := by
         first
          | with_reducible exact BA.out.drew.grown hgr2 (by simp) (fun k hk => by simp [Value.ownBlock] at hk; omega)
          | with_reducible exact BB.out.drew.grown hgr2 (by simp; omega) (fun k hk => by simp [Value.ownBlock] at hk; omega)
          | with_reducible exact BC.out.drew.grown hgr2 (by simp; omega) (fun k hk => by simp [Value.ownBlock] at hk; omega)
        have HX2 := hid hb2'
        first
         | (
          have hel : Blk w2 (W1.heap.size + 1) 9 #[.string q] := (hgr2.block (W1.heap.size + 1) (by simp; done) (by simp [Value.ownBlock])).trans (show Blk ((W1.alloc (.cells #[] 9)).alloc (.cells #[.string q] 9)) (W1.heap.size + 1) 9 #[.string q] from by have := Blk.new (W1.alloc (.cells #[] 9)) 9 #[.string q]; simpa using this)
          have HEL := hid hel
          clear hel)
         | (
          have hel : Blk w2 W1.heap.size 9 #[.string q] := (hgr2.block W1.heap.size (by simp; omega) (by simp [Value.ownBlock]; done)).trans (show Blk ((W1.alloc (.cells #[.string q] 9)).alloc (.cells #[] 9)) W1.heap.size 9 #[.string q] from (Blk.new W1 9 #[.string q]).alloc _)
          have HEL := hid hel
          clear hel)
         | skip
        clear ho2 hb2')
       | (
        refine app_step ?_ (.tmp 42) (.tmp 46) 41 ?_ W1.heap.size 9 i0 (.string ⟨#[]⟩) 1 16 Tryz.underlying41 hi0 hz0 hz1 hz2 ?_ ?_ (.slice (some ⟨W1.heap.size + 1, 0, none⟩) 0 0) 0 [] ?_ ?_ A' (rank t.keys q) c' ((t.keys.take (rank t.keys q)).map Value.string) ?_ ?_ (oneT.out _) ?_ ?_ ?_ (rank t.keys q) ?_ ?_
        · rfl
        · rfl
        · rfl
        · decide
        · rfl
        · first
           | with_reducible exact rowA.out.drew
           | with_reducible exact rowB.out.drew
           | with_reducible exact rowC.out.drew
        · rfl
        · first
           | with_reducible exact KT.out _ (H1.out.trans (BA.out.drew.mono H1.out.size))
           | with_reducible exact KT.out _ (H1.out.trans (BB.out.drew.mono H1.out.size))
           | with_reducible exact KT.out _ (H1.out.trans (BC.out.drew.mono H1.out.size))
        · unfold maxLen; omega
        · omega
        · first | (simp; done) | (simp; omega)
        · omega
        intro K2' e2 w2 ho2 hgr2 hat2
        rw [List.nil_append] at ho2
        have HO2 := hid ho2
        have hb2' : Below W1.heap.size W1 w2 := by
         first
          | with_reducible exact BA.out.drew.grown hgr2 (by simp) (fun k hk => by simp [Value.ownBlock] at hk; omega)
          | with_reducible exact BB.out.drew.grown hgr2 (by simp; omega) (fun k hk => by simp [Value.ownBlock] at hk; omega)
          | with_reducible exact BC.out.drew.grown hgr2 (by simp; omega) (fun k hk => by simp [Value.ownBlock] at hk; omega)
        have HX2 := hid hb2'
        first
         | (
          have hel : Blk w2 (W1.heap.size + 1) 9 #[.string q] := (hgr2.block (W1.heap.size + 1) (by simp; done) (by simp [Value.ownBlock])).trans (show Blk ((W1.alloc (.cells #[] 9)).alloc (.cells #[.string q] 9)) (W1.heap.size + 1) 9 #[.string q] from by have := Blk.new (W1.alloc (.cells #[] 9)) 9 #[.string q]; simpa using this)
          have HEL := hid hel
          clear hel)
         | (
          have hel : Blk w2 W1.heap.size 9 #[.string q] := (hgr2.block W1.heap.size (by simp; omega) (by simp [Value.ownBlock]; done)).trans (show Blk ((W1.alloc (.cells #[.string q] 9)).alloc (.cells #[] 9)) W1.heap.size 9 #[.string q] from (Blk.new W1 9 #[.string q]).alloc _)
          have HEL := hid hel
          clear hel)
         | skip
        clear ho2 hb2')
       | (
        refine app_step ?_ (.tmp 47) (.tmp 49) 41 ?_ W1.heap.size 9 i0 (.string ⟨#[]⟩) 1 16 Tryz.underlying41 hi0 hz0 hz1 hz2 ?_ ?_ (.slice K2' (rank t.keys q) e2) (rank t.keys q) ((t.keys.take (rank t.keys q)).map Value.string) ?_ ?_ (some ⟨w2.heap.size, 0, none⟩) 1 1 [.string q] ?_ ?_ oneQ.out ?_ ?_ ?_ ((rank t.keys q) + 1) ?_ ?_
        · rfl
        · rfl
        · rfl
        · decide
        · rfl
        · first
           | with_reducible exact HO2.out
           | with_reducible exact HO2.out.alloc _
        · rfl
        · exact src_one (Blk.new w2 9 #[.string q])
        · unfold maxLen; omega
        · omega
        · have := HX2.out.size; first | exact this | (simp; omega)
        · omega
        intro K3' e3 w3 ho3 hgr3 hat3
        have HO3 := hid ho3
        have hb3 : Below W1.heap.size W1 w3 := by
         first
          | with_reducible exact HX2.out.grown hgr3 HX2.out.size (fun k hk => (HO2.out.lt k hk).1)
          | with_reducible exact (HX2.out.alloc HX2.out.size _).grown hgr3 (by have := HX2.out.size; simp; omega) (fun k hk => (HO2.out.lt k hk).1)
        have HX3 := hid hb3
        clear ho3 hb3)
       | (
        refine app_step ?_ (.tmp 47) (.tmp 49) 41 ?_ W1.heap.size 9 i0 (.string ⟨#[]⟩) 1 16 Tryz.underlying41 hi0 hz0 hz1 hz2 ?_ ?_ (.slice K2' (rank t.keys q) e2) (rank t.keys q) ((t.keys.take (rank t.keys q)).map Value.string) ?_ ?_ (some ⟨W1.heap.size + 1, 0, none⟩) 1 1 [.string q] ?_ ?_ oneQ.out ?_ ?_ ?_ ((rank t.keys q) + 1) ?_ ?_
        · rfl
        · rfl
        · rfl
        · decide
        · rfl
        · first
           | with_reducible exact HO2.out
           | with_reducible exact HO2.out.alloc _
        · rfl
        · exact src_one HEL.out
        · unfold maxLen; omega
        · omega
        · have := HX2.out.size; first | exact this | (simp; omega)
        · omega
        intro K3' e3 w3 ho3 hgr3 hat3
        have HO3 := hid ho3
        have hb3 : Below W1.heap.size W1 w3 := by
         first
          | with_reducible exact HX2.out.grown hgr3 HX2.out.size (fun k hk => (HO2.out.lt k hk).1)
          | with_reducible exact (HX2.out.alloc HX2.out.size _).grown hgr3 (by have := HX2.out.size; simp; omega) (fun k hk => (HO2.out.lt k hk).1)
        have HX3 := hid hb3
        clear ho3 hb3)
       | (
        refine app_step ?_ (.tmp 47) (.tmp 49) 41 ?_ W1.heap.size 9 i0 (.string ⟨#[]⟩) 1 16 Tryz.underlying41 hi0 hz0 hz1 hz2 ?_ ?_ (.slice K2' (rank t.keys q) e2) (rank t.keys q) ((t.keys.take (rank t.keys q)).map Value.string) ?_ ?_ (some ⟨W1.heap.size, 0, none⟩) 1 1 [.string q] ?_ ?_ oneQ.out ?_ ?_ ?_ ((rank t.keys q) + 1) ?_ ?_
        · rfl
        · rfl
        · rfl
        · decide
        · rfl
        · first
           | with_reducible exact HO2.out
           | with_reducible exact HO2.out.alloc _
        · rfl
        · exact src_one HEL.out
        · unfold maxLen; omega
        · omega
        · have := HX2.out.size; first | exact this | (simp; omega)
        · omega
        intro K3' e3 w3 ho3 hgr3 hat3
        have HO3 := hid ho3
        have hb3 : Below W1.heap.size W1 w3 := by
         first
          | with_reducible exact HX2.out.grown hgr3 HX2.out.size (fun k hk => (HO2.out.lt k hk).1)
          | with_reducible exact (HX2.out.alloc HX2.out.size _).grown hgr3 (by have := HX2.out.size; simp; omega) (fun k hk => (HO2.out.lt k hk).1)
        have HX3 := hid hb3
        clear ho3 hb3)
       | (
        refine app_step ?_ (.tmp 50) (.tmp 54) 41 ?_ W1.heap.size 9 i0 (.string ⟨#[]⟩) 1 16 Tryz.underlying41 hi0 hz0 hz1 hz2 ?_ ?_ (.slice K3' ((rank t.keys q) + 1) e3) ((rank t.keys q) + 1) (((t.keys.take (rank t.keys q)).map Value.string) ++ [.string q]) ?_ ?_ DA (t.keys.length - rank t.keys q) (c' - rank t.keys q) ((t.keys.drop (rank t.keys q)).map Value.string) ?_ ?_ (oneT.out _) ?_ ?_ ?_ (t.keys.length + 1) ?_ ?_
        · rfl
        · rfl
        · rfl
        · decide
        · rfl
        · with_reducible exact HO3.out
        · rfl
        · exact KD.out _ (H1.out.trans (HX3.out.mono H1.out.size))
        · unfold maxLen; omega
        · omega
        · exact HX3.out.size
        · omega
        intro K4' e4 w4 ho4 hgr4 hat4
        have hb4 := HX3.out.grown hgr4 HX3.out.size (fun k hk => (HO3.out.lt k hk).1)
        have hk4 := K3.out.on hb4 HGW.out
        have s5 : w4.cell? ⟨G, 5, none⟩ = some (.slice none 0 0) := hk4.cell 5
        have fs5 := hk4.free 5
        have HO4 := hid ho4
        have HX4 := hid hb4
        have HK4 := hid hk4
        clear ho4 hb4 hk4))
     all_goals
      go_wp2_with fail
      go_meet
      exact keys_put HO4.out HK4.out HX4.out hg1
    case rest =>
     obtain ⟨rfl, K, kd, hbg, hkd, hkeys, hb⟩ := hcut
     have hl7 : w.heap.size + 1 < G := by omega
     have hb1 := H1.out.trans (hb.mono (Nat.le_of_lt hl8))
     have q0 := K0.out.on hb hl8
     have q1 := K1.out.on hb hl7
     have q2 := K2.out.on hb hl9
     have hg2 : G < wc.heap.size := hbg.lt
     have d4 : wc.cell? ⟨w.heap.size, 4, none⟩ = some (.slice A t.items.length c) := q0.cell 4
     have y0 : wc.cell? ⟨w.heap.size + 1, 0, none⟩ = some (.int .i64 x.kind) := q1.cell 0
     have y1 : wc.cell? ⟨w.heap.size + 1, 1, none⟩ = some (.bool x.tr) := q1.cell 1
     have y2 : wc.cell? ⟨w.heap.size + 1, 2, none⟩ = some (.int .i64 x.num) := q1.cell 2
     have y3 : wc.cell? ⟨w.heap.size + 1, 3, none⟩ = some (.string x.str) := q1.cell 3
     have y4 : wc.cell? ⟨w.heap.size + 1, 4, none⟩ = some (.slice B x.items.length d) := q1.cell 4
     have y5 : wc.cell? ⟨w.heap.size + 1, 5, none⟩ = some (.slice B' x.keys.length d') := q1.cell 5
     have hlw : w.heap.size < wc.heap.size := by omega
     have hlw1 : w.heap.size + 1 < wc.heap.size := by omega
     have hie := HIL.out
     have hri : rank t.keys q ≤ t.items.length := by omega
     have hli : t.items.length ≤ 100000 := by omega
     have hicc : t.items.length ≤ c := HV.out.lens.1
     obtain ⟨xs1, hc1', hs1⟩ := (HV.out.vreads.take (rank t.keys q)).src_in HS.out
     obtain ⟨xs2, hc2', hs2⟩ := (HV.out.vreads.drop (rank t.keys q)).src_in HS.out
     rw [List.length_take, Nat.min_eq_left hri] at hs1
     rw [List.length_drop] at hs2
     have n0' : (0 : Int) ≤ (rank t.keys q : Int) := by omega
     have n1' : (rank t.keys q : Int) ≤ (t.items.length : Int) := by omega
     have n2' : (rank t.keys q : Int) ≤ (c : Int) := by omega
     clear HH DA hDA KT KD hie
     obtain ⟨DA, hDA, hdr⟩ : ∃ DA, (if c = rank t.keys q then A else Option.map (fun a => a.add (rank t.keys q * 6)) A) = DA ∧ (rank t.keys q < t.items.length → DA = A.map fun a => a.add (rank t.keys q * 6)) :=
      ⟨_, rfl, fun h => by rw [if_neg (by omega)]⟩
     have KT := hid hs1
     have KD := hid (show ∀ W2, Below w.heap.size w W2 → Src W2 DA (t.items.length - rank t.keys q) 6 xs2 from fun W2 h => by
      rcases Nat.lt_or_ge (rank t.keys q) t.items.length with h1 | h1
      · rw [hdr h1]; exact hs2 W2 h
      ·
       have h2 := hs2 W2 h
       have h3 : t.items.length - rank t.keys q = 0 := by omega
       rw [h3] at h2 ⊢
       exact h2.nil_any)
     have hc1 := hid hc1'
     have hc2 := hid hc2'
     have H1' := H1
     clear H1 hdr hs1 hs2 hc1' hc2'
     have H1 := hid hb1
     have KGB := hid hbg
     have HKY := hid hkeys
     have HR2 := hid q2
     clear hb1 q0 q1 q2 hbg hkeys hb K0 K1 K2 K3 H1' n0 n1 n2 d5
     go_upto_region 8 with fail
     go_cut [9] (fun s9 wx => ItemsPut S w.heap.size (w.heap.size + 2) G wc t x q K kd s9 wx)
     case first =>
      have rowA := hid (World.ownsRow_lit (base := wc.heap.size) (size := 6) (e := 50) wc #[] 0 (Nat.le_refl _) (Nat.zero_le _) rfl)
      have rowB := hid ((World.ownsRow_lit (base := wc.heap.size) (size := 6) (e := 50) wc #[] 0 (Nat.le_refl _) (Nat.zero_le _) rfl).alloc (.cells #[.int .i64 x.kind, .bool x.tr, .int .i64 x.num, .string x.str, .slice B x.items.length d, .slice B' x.keys.length d'] 50))
      have rowC := hid (show ((wc.alloc (.cells #[.int .i64 x.kind, .bool x.tr, .int .i64 x.num, .string x.str, .slice B x.items.length d, .slice B' x.keys.length d'] 50)).alloc (.cells #[] 50)).ownsRow wc.heap.size 50 6 (.slice (some ⟨wc.heap.size + 1, 0, none⟩) 0 0) 0 [] from by have := World.ownsRow_lit (base := wc.heap.size) (size := 6) (e := 50) (wc.alloc (.cells #[.int .i64 x.kind, .bool x.tr, .int .i64 x.num, .string x.str, .slice B x.items.length d, .slice B' x.keys.length d'] 50)) #[] 0 (by simp) (Nat.zero_le _) rfl; simpa using this)
      have BA := hid (show Below wc.heap.size wc (wc.alloc (.cells #[] 50)) from (Below.refl _ _).alloc (Nat.le_refl _) _)
      have BQ := hid (show Below wc.heap.size wc (wc.alloc (.cells #[.int .i64 x.kind, .bool x.tr, .int .i64 x.num, .string x.str, .slice B x.items.length d, .slice B' x.keys.length d'] 50)) from (Below.refl _ _).alloc (Nat.le_refl _) _)
      have BB := hid (show Below wc.heap.size wc ((wc.alloc (.cells #[] 50)).alloc (.cells #[.int .i64 x.kind, .bool x.tr, .int .i64 x.num, .string x.str, .slice B x.items.length d, .slice B' x.keys.length d'] 50)) from ((Below.refl _ _).alloc (Nat.le_refl _) _).alloc (by simp) _)
      have BC := hid (show Below wc.heap.size wc ((wc.alloc (.cells #[.int .i64 x.kind, .bool x.tr, .int .i64 x.num, .string x.str, .slice B x.items.length d, .slice B' x.keys.length d'] 50)).alloc (.cells #[] 50)) from ((Below.refl _ _).alloc (Nat.le_refl _) _).alloc (by simp) _)
      have HSS := hid (show ∀ w', Below G wc w' → w'.cell? ⟨w.heap.size, 4, none⟩ = some (.slice A t.items.length c) ∧ w'.cell? ⟨w.heap.size + 1, 0, none⟩ = some (.int .i64 x.kind) ∧ w'.cell? ⟨w.heap.size + 1, 1, none⟩ = some (.bool x.tr) ∧ w'.cell? ⟨w.heap.size + 1, 2, none⟩ = some (.int .i64 x.num) ∧ w'.cell? ⟨w.heap.size + 1, 3, none⟩ = some (.string x.str) ∧ w'.cell? ⟨w.heap.size + 1, 4, none⟩ = some (.slice B x.items.length d) ∧ w'.cell? ⟨w.heap.size + 1, 5, none⟩ = some (.slice B' x.keys.length d') from fun w' hb => ⟨(hb.cell (p := ⟨w.heap.size, 4, none⟩) hl8).trans d4, (hb.cell (p := ⟨w.heap.size + 1, 0, none⟩) hl7).trans y0, (hb.cell (p := ⟨w.heap.size + 1, 1, none⟩) hl7).trans y1, (hb.cell (p := ⟨w.heap.size + 1, 2, none⟩) hl7).trans y2, (hb.cell (p := ⟨w.heap.size + 1, 3, none⟩) hl7).trans y3, (hb.cell (p := ⟨w.heap.size + 1, 4, none⟩) hl7).trans y4, (hb.cell (p := ⟨w.heap.size + 1, 5, none⟩) hl7).trans y5⟩)
      have HGW := hid (hg2)
      go_region_held3 (fun w' => w'.cell? ⟨w.heap.size, 4, none⟩ = some (.slice A t.items.length c) ∧ w'.cell? ⟨w.heap.size + 1, 0, none⟩ = some (.int .i64 x.kind) ∧ w'.cell? ⟨w.heap.size + 1, 1, none⟩ = some (.bool x.tr) ∧ w'.cell? ⟨w.heap.size + 1, 2, none⟩ = some (.int .i64 x.num) ∧ w'.cell? ⟨w.heap.size + 1, 3, none⟩ = some (.string x.str) ∧ w'.cell? ⟨w.heap.size + 1, 4, none⟩ = some (.slice B x.items.length d) ∧ w'.cell? ⟨w.heap.size + 1, 5, none⟩ = some (.slice B' x.keys.length d'))
       (first
        | with_reducible exact HSS.out _ (BA.out.mono (Nat.le_of_lt hg2))
        | with_reducible exact HSS.out _ (BA.out.drew.mono (Nat.le_of_lt hg2))
        | with_reducible exact HSS.out _ (BQ.out.mono (Nat.le_of_lt hg2))
        | with_reducible exact HSS.out _ (BQ.out.drew.mono (Nat.le_of_lt hg2))
        | with_reducible exact HSS.out _ (BB.out.mono (Nat.le_of_lt hg2))
        | with_reducible exact HSS.out _ (BB.out.drew.mono (Nat.le_of_lt hg2))
        | with_reducible exact HSS.out _ (BC.out.mono (Nat.le_of_lt hg2))
        | with_reducible exact HSS.out _ (BC.out.drew.mono (Nat.le_of_lt hg2))
        | with_reducible exact HSS.out _ (HX2.out.mono (Nat.le_of_lt hg2))
        | with_reducible exact HSS.out _ ((HX2.out.alloc HX2.out.size _).mono (Nat.le_of_lt hg2))
        | with_reducible exact HSS.out _ (HX3.out.mono (Nat.le_of_lt hg2))
        | with_reducible exact HSS.out _ (HX4.out.mono (Nat.le_of_lt hg2))
        | with_reducible exact HSS.out _ ((HX4.out.mono (Nat.le_of_lt hg2)).setCell (Nat.le_refl _) _)
        | go_keep)
       (first
        | (
         refine app_step ?_ (.tmp 57) (.tmp 61) 48 ?_ wc.heap.size 50 i1 (.agg #[.int .i64 0, .bool false, .int .i64 0, .string ⟨#[]⟩, .slice none 0 0, .slice none 0 0]) 6 88 Tryz.underlying48 hi1 hy0 hy1 hy2 ?_ ?_ (.slice (some ⟨wc.heap.size, 0, none⟩) 0 0) 0 [] ?_ ?_ A (rank t.keys q) c xs1 ?_ ?_ hc1.out.2.1 ?_ ?_ ?_ (rank t.keys q) ?_ ?_
         · rfl
         · rfl
         · rfl
         · decide
         · rfl
         · first
            | with_reducible exact rowA.out.drew
            | with_reducible exact rowB.out.drew
            | with_reducible exact rowC.out.drew
         · rfl
         · first
            | with_reducible exact KT.out _ (H1.out.trans (BA.out.drew.mono H1.out.size))
            | with_reducible exact KT.out _ (H1.out.trans (BB.out.drew.mono H1.out.size))
            | with_reducible exact KT.out _ (H1.out.trans (BC.out.drew.mono H1.out.size))
         · unfold maxLen; omega
         · omega
         · first | (simp; done) | (simp; omega)
         · omega
         intro K2' e2 w2 ho2 hgr2 hat2
         rw [List.nil_append] at ho2
         have HO2 := hid ho2
         have hb2' : Below wc.heap.size wc w2 := by
          first
           | with_reducible exact BA.out.drew.grown hgr2 (by simp) (fun k hk => by simp [Value.ownBlock] at hk; omega)
           | with_reducible exact BB.out.drew.grown hgr2 (by simp; omega) (fun k hk => by simp [Value.ownBlock] at hk; omega)
           | with_reducible exact BC.out.drew.grown hgr2 (by simp; omega) (fun k hk => by simp [Value.ownBlock] at hk; omega)
         have HX2 := hid hb2'
         first
          | (
           have hel : Blk w2 (wc.heap.size + 1) 50 #[.int .i64 x.kind, .bool x.tr, .int .i64 x.num, .string x.str, .slice B x.items.length d, .slice B' x.keys.length d'] := (hgr2.block (wc.heap.size + 1) (by simp; done) (by simp [Value.ownBlock])).trans (show Blk ((wc.alloc (.cells #[] 50)).alloc (.cells #[.int .i64 x.kind, .bool x.tr, .int .i64 x.num, .string x.str, .slice B x.items.length d, .slice B' x.keys.length d'] 50)) (wc.heap.size + 1) 50 #[.int .i64 x.kind, .bool x.tr, .int .i64 x.num, .string x.str, .slice B x.items.length d, .slice B' x.keys.length d'] from by have := Blk.new (wc.alloc (.cells #[] 50)) 50 #[.int .i64 x.kind, .bool x.tr, .int .i64 x.num, .string x.str, .slice B x.items.length d, .slice B' x.keys.length d']; simpa using this)
           have HEL := hid hel
           clear hel)
          | (
           have hel : Blk w2 wc.heap.size 50 #[.int .i64 x.kind, .bool x.tr, .int .i64 x.num, .string x.str, .slice B x.items.length d, .slice B' x.keys.length d'] := (hgr2.block wc.heap.size (by simp; omega) (by simp [Value.ownBlock]; done)).trans (show Blk ((wc.alloc (.cells #[.int .i64 x.kind, .bool x.tr, .int .i64 x.num, .string x.str, .slice B x.items.length d, .slice B' x.keys.length d'] 50)).alloc (.cells #[] 50)) wc.heap.size 50 #[.int .i64 x.kind, .bool x.tr, .int .i64 x.num, .string x.str, .slice B x.items.length d, .slice B' x.keys.length d'] from (Blk.new wc 50 #[.int .i64 x.kind, .bool x.tr, .int .i64 x.num, .string x.str, .slice B x.items.length d, .slice B' x.keys.length d']).alloc _)
           have HEL := hid hel
           clear hel)
          | skip
         clear ho2 hb2')
        | (
         refine app_step ?_ (.tmp 57) (.tmp 61) 48 ?_ wc.heap.size 50 i1 (.agg #[.int .i64 0, .bool false, .int .i64 0, .string ⟨#[]⟩, .slice none 0 0, .slice none 0 0]) 6 88 Tryz.underlying48 hi1 hy0 hy1 hy2 ?_ ?_ (.slice (some ⟨wc.heap.size + 1, 0, none⟩) 0 0) 0 [] ?_ ?_ A (rank t.keys q) c xs1 ?_ ?_ hc1.out.2.1 ?_ ?_ ?_ (rank t.keys q) ?_ ?_
         · rfl
         · rfl
         · rfl
         · decide
         · rfl
         · first
            | with_reducible exact rowA.out.drew
            | with_reducible exact rowB.out.drew
            | with_reducible exact rowC.out.drew
         · rfl
         · first
            | with_reducible exact KT.out _ (H1.out.trans (BA.out.drew.mono H1.out.size))
            | with_reducible exact KT.out _ (H1.out.trans (BB.out.drew.mono H1.out.size))
            | with_reducible exact KT.out _ (H1.out.trans (BC.out.drew.mono H1.out.size))
         · unfold maxLen; omega
         · omega
         · first | (simp; done) | (simp; omega)
         · omega
         intro K2' e2 w2 ho2 hgr2 hat2
         rw [List.nil_append] at ho2
         have HO2 := hid ho2
         have hb2' : Below wc.heap.size wc w2 := by
          first
           | with_reducible exact BA.out.drew.grown hgr2 (by simp) (fun k hk => by simp [Value.ownBlock] at hk; omega)
           | with_reducible exact BB.out.drew.grown hgr2 (by simp; omega) (fun k hk => by simp [Value.ownBlock] at hk; omega)
           | with_reducible exact BC.out.drew.grown hgr2 (by simp; omega) (fun k hk => by simp [Value.ownBlock] at hk; omega)
         have HX2 := hid hb2'
         first
          | (
           have hel : Blk w2 (wc.heap.size + 1) 50 #[.int .i64 x.kind, .bool x.tr, .int .i64 x.num, .string x.str, .slice B x.items.length d, .slice B' x.keys.length d'] := (hgr2.block (wc.heap.size + 1) (by simp; done) (by simp [Value.ownBlock])).trans (show Blk ((wc.alloc (.cells #[] 50)).alloc (.cells #[.int .i64 x.kind, .bool x.tr, .int .i64 x.num, .string x.str, .slice B x.items.length d, .slice B' x.keys.length d'] 50)) (wc.heap.size + 1) 50 #[.int .i64 x.kind, .bool x.tr, .int .i64 x.num, .string x.str, .slice B x.items.length d, .slice B' x.keys.length d'] from by have := Blk.new (wc.alloc (.cells #[] 50)) 50 #[.int .i64 x.kind, .bool x.tr, .int .i64 x.num, .string x.str, .slice B x.items.length d, .slice B' x.keys.length d']; simpa using this)
           have HEL := hid hel
           clear hel)
          | (
           have hel : Blk w2 wc.heap.size 50 #[.int .i64 x.kind, .bool x.tr, .int .i64 x.num, .string x.str, .slice B x.items.length d, .slice B' x.keys.length d'] := (hgr2.block wc.heap.size (by simp; omega) (by simp [Value.ownBlock]; done)).trans (show Blk ((wc.alloc (.cells #[.int .i64 x.kind, .bool x.tr, .int .i64 x.num, .string x.str, .slice B x.items.length d, .slice B' x.keys.length d'] 50)).alloc (.cells #[] 50)) wc.heap.size 50 #[.int .i64 x.kind, .bool x.tr, .int .i64 x.num, .string x.str, .slice B x.items.length d, .slice B' x.keys.length d'] from (Blk.new wc 50 #[.int .i64 x.kind, .bool x.tr, .int .i64 x.num, .string x.str, .slice B x.items.length d, .slice B' x.keys.length d']).alloc _)
           have HEL := hid hel
           clear hel)
          | skip
         clear ho2 hb2')
        | (
         refine app_step ?_ (.tmp 62) (.tmp 64) 48 ?_ wc.heap.size 50 i1 (.agg #[.int .i64 0, .bool false, .int .i64 0, .string ⟨#[]⟩, .slice none 0 0, .slice none 0 0]) 6 88 Tryz.underlying48 hi1 hy0 hy1 hy2 ?_ ?_ (.slice K2' (rank t.keys q) e2) (rank t.keys q) xs1 ?_ ?_ (some ⟨w2.heap.size, 0, none⟩) 1 1 (x.cs B d B' d').toList ?_ ?_ cs_one ?_ ?_ ?_ ((rank t.keys q) + 1) ?_ ?_
         · rfl
         · rfl
         · rfl
         · decide
         · rfl
         · first
            | with_reducible exact HO2.out
            | with_reducible exact HO2.out.alloc _
         · rfl
         · exact src_of_cs (Blk.new w2 50 #[.int .i64 x.kind, .bool x.tr, .int .i64 x.num, .string x.str, .slice B x.items.length d, .slice B' x.keys.length d'])
         · unfold maxLen; omega
         · omega
         · have := HX2.out.size; first | exact this | (simp; omega)
         · omega
         intro K3' e3 w3 ho3 hgr3 hat3
         have HO3 := hid ho3
         have hb3 : Below wc.heap.size wc w3 := by
          first
           | with_reducible exact HX2.out.grown hgr3 HX2.out.size (fun k hk => (HO2.out.lt k hk).1)
           | with_reducible exact (HX2.out.alloc HX2.out.size _).grown hgr3 (by have := HX2.out.size; simp; omega) (fun k hk => (HO2.out.lt k hk).1)
         have HX3 := hid hb3
         clear ho3 hb3)
        | (
         refine app_step ?_ (.tmp 62) (.tmp 64) 48 ?_ wc.heap.size 50 i1 (.agg #[.int .i64 0, .bool false, .int .i64 0, .string ⟨#[]⟩, .slice none 0 0, .slice none 0 0]) 6 88 Tryz.underlying48 hi1 hy0 hy1 hy2 ?_ ?_ (.slice K2' (rank t.keys q) e2) (rank t.keys q) xs1 ?_ ?_ (some ⟨wc.heap.size + 1, 0, none⟩) 1 1 (x.cs B d B' d').toList ?_ ?_ cs_one ?_ ?_ ?_ ((rank t.keys q) + 1) ?_ ?_
         · rfl
         · rfl
         · rfl
         · decide
         · rfl
         · first
            | with_reducible exact HO2.out
            | with_reducible exact HO2.out.alloc _
         · rfl
         · exact src_of_cs HEL.out
         · unfold maxLen; omega
         · omega
         · have := HX2.out.size; first | exact this | (simp; omega)
         · omega
         intro K3' e3 w3 ho3 hgr3 hat3
         have HO3 := hid ho3
         have hb3 : Below wc.heap.size wc w3 := by
          first
           | with_reducible exact HX2.out.grown hgr3 HX2.out.size (fun k hk => (HO2.out.lt k hk).1)
           | with_reducible exact (HX2.out.alloc HX2.out.size _).grown hgr3 (by have := HX2.out.size; simp; omega) (fun k hk => (HO2.out.lt k hk).1)
         have HX3 := hid hb3
         clear ho3 hb3)
        | (
         refine app_step ?_ (.tmp 62) (.tmp 64) 48 ?_ wc.heap.size 50 i1 (.agg #[.int .i64 0, .bool false, .int .i64 0, .string ⟨#[]⟩, .slice none 0 0, .slice none 0 0]) 6 88 Tryz.underlying48 hi1 hy0 hy1 hy2 ?_ ?_ (.slice K2' (rank t.keys q) e2) (rank t.keys q) xs1 ?_ ?_ (some ⟨wc.heap.size, 0, none⟩) 1 1 (x.cs B d B' d').toList ?_ ?_ cs_one ?_ ?_ ?_ ((rank t.keys q) + 1) ?_ ?_
         · rfl
         · rfl
         · rfl
         · decide
         · rfl
         · first
            | with_reducible exact HO2.out
            | with_reducible exact HO2.out.alloc _
         · rfl
         · exact src_of_cs HEL.out
         · unfold maxLen; omega
         · omega
         · have := HX2.out.size; first | exact this | (simp; omega)
         · omega
         intro K3' e3 w3 ho3 hgr3 hat3
         have HO3 := hid ho3
         have hb3 : Below wc.heap.size wc w3 := by
          first
           | with_reducible exact HX2.out.grown hgr3 HX2.out.size (fun k hk => (HO2.out.lt k hk).1)
           | with_reducible exact (HX2.out.alloc HX2.out.size _).grown hgr3 (by have := HX2.out.size; simp; omega) (fun k hk => (HO2.out.lt k hk).1)
         have HX3 := hid hb3
         clear ho3 hb3)
        | (
         refine app_step ?_ (.tmp 65) (.tmp 69) 48 ?_ wc.heap.size 50 i1 (.agg #[.int .i64 0, .bool false, .int .i64 0, .string ⟨#[]⟩, .slice none 0 0, .slice none 0 0]) 6 88 Tryz.underlying48 hi1 hy0 hy1 hy2 ?_ ?_ (.slice K3' ((rank t.keys q) + 1) e3) ((rank t.keys q) + 1) (xs1 ++ (x.cs B d B' d').toList) ?_ ?_ DA (t.items.length - rank t.keys q) (c - rank t.keys q) xs2 ?_ ?_ hc2.out.2.1 ?_ ?_ ?_ (t.items.length + 1) ?_ ?_
         · rfl
         · rfl
         · rfl
         · decide
         · rfl
         · with_reducible exact HO3.out
         · rfl
         · exact KD.out _ (H1.out.trans (HX3.out.mono H1.out.size))
         · unfold maxLen; omega
         · omega
         · exact HX3.out.size
         · omega
         intro K4' e4 w4 ho4 hgr4 hat4
         have hb4 := HX3.out.grown hgr4 HX3.out.size (fun k hk => (HO3.out.lt k hk).1)
         have hk4 := KGB.out.on hb4 HGW.out
         have s5 : w4.cell? ⟨G, 4, none⟩ = some (.slice none 0 0) := hk4.cell 4
         have fs5 := hk4.free 4
         have HO4 := hid ho4
         have HX4 := hid hb4
         have HK4 := hid hk4
         clear ho4 hb4 hk4))
      all_goals
       go_wp2_with fail
       go_meet
       exact items_put hil'.out HO4.out HK4.out HX4.out hg2 H1.out hlw HS.out hc1.out hc2.out HX.out HKY.out (by omega) (by omega) (by omega)
     case rest =>
      obtain ⟨rfl, A2, d2, hbg, hd2, hvr, hsr, hb⟩ := hcut
      have hrr := HR2.out.on hb hl9
      have hb1 := H1.out.trans (hb.mono (Nat.le_of_lt hl8))
      have g0 : wc.cell? ⟨G, 0, none⟩ = some (.int .i64 5) := hbg.cell 0
      have g1 : wc.cell? ⟨G, 1, none⟩ = some (.bool false) := hbg.cell 1
      have g2 : wc.cell? ⟨G, 2, none⟩ = some (.int .i64 0) := hbg.cell 2
      have g3 : wc.cell? ⟨G, 3, none⟩ = some (.string ⟨#[]⟩) := hbg.cell 3
      have g4 : wc.cell? ⟨G, 4, none⟩ = some (.slice A2 (t.items.length + 1) d2) := hbg.cell 4
      have g5 : wc.cell? ⟨G, 5, none⟩ = some (.slice K (t.keys.length + 1) kd) := hbg.cell 5
      have r0 : wc.cell? ⟨w.heap.size + 2, 0, none⟩ = some (.int .i64 0) := hrr.cell 0
      have r1 : wc.cell? ⟨w.heap.size + 2, 1, none⟩ = some (.bool false) := hrr.cell 1
      have r2 : wc.cell? ⟨w.heap.size + 2, 2, none⟩ = some (.int .i64 0) := hrr.cell 2
      have r3 : wc.cell? ⟨w.heap.size + 2, 3, none⟩ = some (.string ⟨#[]⟩) := hrr.cell 3
      have r4 : wc.cell? ⟨w.heap.size + 2, 4, none⟩ = some (.slice none 0 0) := hrr.cell 4
      have r5 : wc.cell? ⟨w.heap.size + 2, 5, none⟩ = some (.slice none 0 0) := hrr.cell 5
      have x0 := hrr.free 0
      have x1 := hrr.free 1
      have x2 := hrr.free 2
      have x3 := hrr.free 3
      have x4 := hrr.free 4
      have x5 := hrr.free 5
      have HRR := hid hrr
      have HVR := hid hvr
      have HSR := hid hsr
      have HB1 := hid hb1
      have hL1 := hid (show (putT t q x).items.length = t.items.length + 1 from newItems_len hil'.out)
      have hL2 := hid (show (putT t q x).keys.length = t.keys.length + 1 from newKeys_len t q)
      clear hbg hrr hvr hsr hb hb1
      go_wp2_with fail
      have hF := res_put HRR.out rfl (putT t q x) A2 d2 K kd
      rw [hL1.out, hL2.out] at hF
      have hE : Below w.heap.size w (((((((wc.setCell ⟨w.heap.size + 2, 0, none⟩ (.int .i64 5)).setCell ⟨w.heap.size + 2, 1, none⟩ (.bool false)).setCell ⟨w.heap.size + 2, 2, none⟩ (.int .i64 0)).setCell ⟨w.heap.size + 2, 3, none⟩ (.string ⟨#[]⟩)).setCell ⟨w.heap.size + 2, 4, none⟩ (.slice A2 (t.items.length + 1) d2)).setCell ⟨w.heap.size + 2, 5, none⟩ (.slice K (t.keys.length + 1) kd))) := by
       have h2 : w.heap.size ≤ w.heap.size + 2 := by omega
       exact (((((HB1.out.setCell h2 _).setCell h2 _).setCell h2 _).setCell h2 _).setCell h2 _).setCell h2 _
      have hK : Keeps (fun b => b ≠ w.heap.size + 2) wc (((((((wc.setCell ⟨w.heap.size + 2, 0, none⟩ (.int .i64 5)).setCell ⟨w.heap.size + 2, 1, none⟩ (.bool false)).setCell ⟨w.heap.size + 2, 2, none⟩ (.int .i64 0)).setCell ⟨w.heap.size + 2, 3, none⟩ (.string ⟨#[]⟩)).setCell ⟨w.heap.size + 2, 4, none⟩ (.slice A2 (t.items.length + 1) d2)).setCell ⟨w.heap.size + 2, 5, none⟩ (.slice K (t.keys.length + 1) kd))) := by
       intro b hb
       rw [Below.heap_setCell _ _ _ _ hb, Below.heap_setCell _ _ _ _ hb, Below.heap_setCell _ _ _ _ hb, Below.heap_setCell _ _ _ _ hb, Below.heap_setCell _ _ _ _ hb, Below.heap_setCell _ _ _ _ hb]
      have hZ : (((((((wc.setCell ⟨w.heap.size + 2, 0, none⟩ (.int .i64 5)).setCell ⟨w.heap.size + 2, 1, none⟩ (.bool false)).setCell ⟨w.heap.size + 2, 2, none⟩ (.int .i64 0)).setCell ⟨w.heap.size + 2, 3, none⟩ (.string ⟨#[]⟩)).setCell ⟨w.heap.size + 2, 4, none⟩ (.slice A2 (t.items.length + 1) d2)).setCell ⟨w.heap.size + 2, 5, none⟩ (.slice K (t.keys.length + 1) kd))).heap.size = wc.heap.size := by simp [World.setCell]
      change Blk (((((((wc.setCell ⟨w.heap.size + 2, 0, none⟩ (.int .i64 5)).setCell ⟨w.heap.size + 2, 1, none⟩ (.bool false)).setCell ⟨w.heap.size + 2, 2, none⟩ (.int .i64 0)).setCell ⟨w.heap.size + 2, 3, none⟩ (.string ⟨#[]⟩)).setCell ⟨w.heap.size + 2, 4, none⟩ (.slice A2 (t.items.length + 1) d2)).setCell ⟨w.heap.size + 2, 5, none⟩ (.slice K (t.keys.length + 1) kd))) _ _ _ at hF
      generalize (((((((wc.setCell ⟨w.heap.size + 2, 0, none⟩ (.int .i64 5)).setCell ⟨w.heap.size + 2, 1, none⟩ (.bool false)).setCell ⟨w.heap.size + 2, 2, none⟩ (.int .i64 0)).setCell ⟨w.heap.size + 2, 3, none⟩ (.string ⟨#[]⟩)).setCell ⟨w.heap.size + 2, 4, none⟩ (.slice A2 (t.items.length + 1) d2)).setCell ⟨w.heap.size + 2, 5, none⟩ (.slice K (t.keys.length + 1) kd))) = Wf at *
      have m0 : Wf.cell? ⟨w.heap.size + 2, 0, none⟩ = some (.int .i64 5) := hF.cell 0
      have m1 : Wf.cell? ⟨w.heap.size + 2, 1, none⟩ = some (.bool false) := hF.cell 1
      have m2 : Wf.cell? ⟨w.heap.size + 2, 2, none⟩ = some (.int .i64 0) := hF.cell 2
      have m3 : Wf.cell? ⟨w.heap.size + 2, 3, none⟩ = some (.string ⟨#[]⟩) := hF.cell 3
      have m4 : Wf.cell? ⟨w.heap.size + 2, 4, none⟩ = some (.slice A2 (t.items.length + 1) d2) := by
       have := hF.cell 4
       simp only [T.cs, hL1.out] at this
       exact this
      have m5 : Wf.cell? ⟨w.heap.size + 2, 5, none⟩ = some (.slice K (t.keys.length + 1) kd) := by
       have := hF.cell 5
       simp only [T.cs, hL2.out] at this
       exact this
      refine bodyPost_ret (v := .tuple #[.agg #[.int .i64 5, .bool false, .int .i64 0, .string ⟨#[]⟩, .slice A2 (t.items.length + 1) d2, .slice K (t.keys.length + 1) kd], .bool true]) (by simp [results, Tryz.results66, go_sem, m0, m1, m2, m3, m4, m5]) rfl ⟨A2, d2, K, kd, ?_, ?_, hE⟩
      ·
       unfold T.agg
       rw [hL1.out, hL2.out]
       rfl
      ·
       refine TV.of (by rw [hL1.out]; exact hd2) (by rw [hL2.out]; exact hkd) (fun hn => ?_) ?_
       · exact ((HVR.out.keep (hK.mono fun b hb => hb.2)).wide fun b hb => by show S b ∨ w.heap.size ≤ b ∧ b < Wf.heap.size; rw [hZ]; exact hb.1) hn
       · exact (HSR.out.keep (hK.mono fun b hb => hb.2)).wide fun b hb => by show S b ∨ w.heap.size ≤ b ∧ b < Wf.heap.size; rw [hZ]; exact hb.1
open Go.RowKit
theorem Rising.pair {l : List ByteArray} (h : Rising l) : l.Pairwise fun a b => sl a b = true := by
 rw [List.pairwise_iff_getElem]
 intro i j h1 h2 hij
 exact h.mono (List.getElem?_eq_getElem h1) j _ hij (List.getElem?_eq_getElem h2)
def insK (l : List ByteArray) (q : ByteArray) : List ByteArray := l.take (rank l q) ++ q :: l.drop (rank l q)
theorem insK_pair {l : List ByteArray} {q : ByteArray} (h : Rising l) (hq : q ∉ l) : (insK l q).Pairwise fun a b => sl a b = true := by
 have hp := h.pair
 unfold insK
 rw [List.pairwise_append]
 refine ⟨hp.sublist (List.take_sublist _ _), ?_, ?_⟩
 ·
  rw [List.pairwise_cons]
  refine ⟨fun b hb => ?_, hp.sublist (List.drop_sublist _ _)⟩
  obtain ⟨i, hi⟩ := List.mem_iff_getElem?.1 hb
  rw [List.getElem?_drop] at hi
  have hlt := lt_of_get hi
  have h1 : rank l q < l.length := by omega
  have h2 := rank_at (List.getElem?_eq_getElem h1)
  have h3 : sl q l[rank l q] = true := by
   rcases sl_tri q l[rank l q] with k | k | k
   · exact k
   · exact absurd (k ▸ List.getElem_mem h1) hq
   · rw [h2] at k; cases k
  rcases Nat.eq_zero_or_pos i with rfl | h0
  ·
   rw [Nat.add_zero, List.getElem?_eq_getElem h1] at hi
   injection hi with hi
   exact hi ▸ h3
  · exact sl_trans h3 (h.mono (List.getElem?_eq_getElem h1) _ _ (by omega) hi)
 ·
  intro a ha b hb
  obtain ⟨i, hi⟩ := List.mem_iff_getElem?.1 ha
  have hil : i < rank l q := by
   have := lt_of_get hi
   rw [List.length_take] at this
   omega
  rw [List.getElem?_take_of_lt hil] at hi
  have h1 := rank_lt hil hi
  rcases List.mem_cons.1 hb with rfl | hb
  · exact h1
  ·
   obtain ⟨j, hj⟩ := List.mem_iff_getElem?.1 hb
   rw [List.getElem?_drop] at hj
   exact h.mono hi _ _ (by omega) hj
theorem insK_perm (l : List ByteArray) (q : ByteArray) : (insK l q).Perm (q :: l) := by
 unfold insK
 have h := List.perm_middle (a := q) (l₁ := l.take (rank l q)) (l₂ := l.drop (rank l q))
 rwa [List.take_append_drop] at h
theorem insK_srt {ks : List ByteArray} {q : ByteArray} (hn : (ks ++ [q]).Nodup) : insK (srt ks) q = srt (ks ++ [q]) := by
 have hk : ks.Nodup := (List.nodup_append.1 hn).1
 have hq : q ∉ srt ks := fun h => by
  have h1 := (srt_perm ks).mem_iff.1 h
  exact (List.nodup_append.1 hn).2.2 q h1 q (by simp) rfl
 refine List.Perm.eq_of_pairwise (le := fun a b => sl a b = true) (fun a b _ _ h1 h2 => by rw [sl_asymm h1] at h2; cases h2) (insK_pair (srt_rising hk) hq) (srt_rising hn).pair ?_
 refine (insK_perm _ _).trans (((srt_perm ks).cons q).trans ?_)
 exact ((srt_perm (ks ++ [q])).trans (List.perm_append_comm (l₁ := ks) (l₂ := [q]))).symm
end Go.Proofs.YtgblenoaeanogaaGreatDoor
namespace Go.Proofs.YtgblenoaeanogaaGreatDoor.Rd
open Tk
def lk (m : List (ByteArray × T)) (k : ByteArray) : T := look (m.map Prod.fst) (m.map Prod.snd) k
theorem lk_mem {m : List (ByteArray × T)} {q : ByteArray} {x : T} (hn : (m.map Prod.fst).Nodup) (h : (q, x) ∈ m) : lk m q = x := by
 obtain ⟨i, hi⟩ := List.mem_iff_getElem?.1 h
 exact look_at hn (i := i) (by rw [List.getElem?_map, hi]; rfl) (by rw [List.getElem?_map, hi]; rfl)
def Ob (m : List (ByteArray × T)) : T := objT (m.map Prod.fst) (m.map Prod.snd)
theorem Ob_eq (m : List (ByteArray × T)) : Ob m = .mk 5 false 0 ⟨#[]⟩ ((srt (m.map Prod.fst)).map (lk m)) (srt (m.map Prod.fst)) := rfl
theorem pair_eq {a b : List ByteArray} (ha : a.Pairwise fun x y => sl x y = true) (hb : b.Pairwise fun x y => sl x y = true) (h : a.Perm b) : a = b :=
 List.Perm.eq_of_pairwise (le := fun a b => sl a b = true) (fun a b _ _ h1 h2 => by rw [sl_asymm h1] at h2; cases h2) ha hb h
theorem srt_of {a b : List ByteArray} (hn : a.Nodup) (h : a.Perm b) : srt a = srt b :=
 pair_eq (srt_rising hn).pair (srt_rising (h.nodup_iff.1 hn)).pair ((srt_perm a).trans (h.trans (srt_perm b).symm))
theorem srt_rise {a : List ByteArray} (h : Rising a) : srt a = a := pair_eq (srt_rising h.nodup).pair h.pair (srt_perm a)
theorem Ob_good (l : List T) (ks : List ByteArray) (hl : ks.length = l.length) (hr : Rising ks) : Ob (ks.zip l) = .mk 5 false 0 nix l ks := by
 have h1 : (ks.zip l).map Prod.fst = ks := List.map_fst_zip (by omega)
 have h2 : (ks.zip l).map Prod.snd = l := List.map_snd_zip (by omega)
 have e : ks.map (lk (ks.zip l)) = l := by
  apply List.ext_getElem?
  intro i
  rw [List.getElem?_map]
  rcases Nat.lt_or_ge i ks.length with h | h
  ·
   have h3 : i < l.length := by omega
   rw [List.getElem?_eq_getElem h, List.getElem?_eq_getElem h3, Option.map_some]
   unfold lk
   rw [h1, h2, look_at hr.nodup (List.getElem?_eq_getElem h) (List.getElem?_eq_getElem h3)]
  · rw [List.getElem?_eq_none h, List.getElem?_eq_none (by omega)]; rfl
 rw [Ob_eq, h1, srt_rise hr, e]
 rfl
theorem Ob_put {m : List (ByteArray × T)} {q : ByteArray} {x : T} (hn : (m.map Prod.fst ++ [q]).Nodup) : putT (Ob m) q x = Ob (m ++ [(q, x)]) := by
 have hk := insK_srt hn
 have hm : ((m ++ [(q, x)]).map Prod.fst) = m.map Prod.fst ++ [q] := by rw [List.map_append]; rfl
 have hq : lk (m ++ [(q, x)]) q = x := lk_mem (by rw [hm]; exact hn) (by simp)
 have hn1 : (m.map Prod.fst).Nodup := (List.nodup_append.1 hn).1
 have hsame : ∀ k ∈ srt (m.map Prod.fst), lk (m ++ [(q, x)]) k = lk m k := fun k hk => by
  have hq2 : k ∈ m.map Prod.fst := (srt_perm _).mem_iff.1 hk
  obtain ⟨⟨q', y⟩, h1, rfl⟩ := List.mem_map.1 hq2
  rw [lk_mem hn1 h1, lk_mem (by rw [hm]; exact hn) (List.mem_append_left _ h1)]
 rw [Ob_eq, Ob_eq, hm, ← hk]
 unfold insK
 show T.mk _ _ _ _ (((srt (m.map Prod.fst)).map (lk m)).take (rank (srt (m.map Prod.fst)) q) ++ x :: ((srt (m.map Prod.fst)).map (lk m)).drop (rank (srt (m.map Prod.fst)) q)) ((srt (m.map Prod.fst)).take (rank (srt (m.map Prod.fst)) q) ++ q :: (srt (m.map Prod.fst)).drop (rank (srt (m.map Prod.fst)) q)) = _
 generalize rank (srt (m.map Prod.fst)) q = r
 generalize srt (m.map Prod.fst) = S at *
 have e1 : (S.map (lk m)).take r = (S.take r).map (lk (m ++ [(q, x)])) := by
  rw [← List.map_take]
  exact List.map_congr_left fun k hk => (hsame k (List.mem_of_mem_take hk)).symm
 have e2 : (S.map (lk m)).drop r = (S.drop r).map (lk (m ++ [(q, x)])) := by
  rw [← List.map_drop]
  exact List.map_congr_left fun k hk => (hsame k (List.mem_of_mem_drop hk)).symm
 rw [e1, e2, List.map_append, List.map_cons, hq]
theorem Ob_nil : Ob [] = .mk 5 false 0 ⟨#[]⟩ [] [] := by
 have e : srt [] = [] := List.eq_nil_of_length_eq_zero (by rw [srt_len]; rfl)
 rw [Ob_eq, List.map_nil, e]; rfl
theorem hasK_iff {m : List (ByteArray × T)} {k : ByteArray} : hasK m k = true ↔ k ∈ m.map Prod.fst := by
 unfold hasK
 rw [List.any_eq_true]
 constructor
 ·
  rintro ⟨x, hx, he⟩
  exact List.mem_map.2 ⟨x, hx, by simpa using he⟩
 ·
  intro h
  obtain ⟨x, hx, he⟩ := List.mem_map.1 h
  exact ⟨x, hx, by simpa using he⟩
theorem Ob_items {m : List (ByteArray × T)} (hn : (m.map Prod.fst).Nodup) : (Ob m).items.Perm (m.map Prod.snd) := by
 have h1 : ((srt (m.map Prod.fst)).map (lk m)).Perm ((m.map Prod.fst).map (lk m)) := (srt_perm _).map _
 have h2 : (m.map Prod.fst).map (lk m) = m.map Prod.snd := by
  rw [List.map_map]
  apply List.map_congr_left
  rintro ⟨q, x⟩ hx
  exact lk_mem hn hx
 rw [← h2]
 exact h1
end Go.Proofs.YtgblenoaeanogaaGreatDoor.Rd
namespace Go.Proofs.YtgblenoaeanogaaGreatDoor
open Go.RowKit Go.Maps Go.Sort
def RV (v : Value) : Option (DataW Value × List MemPlace) := some (.held v, [])
def kl (q : ByteArray) : Lit := .string q.data.toList
def MDf (D : DataW Value) (m : List (ByteArray × Value)) : DataW Value := m.foldl (fun D x => D.put (kl x.1) (.held x.2)) D
def MD (m : List (ByteArray × Value)) : DataW Value := MDf (.map []) m
theorem MD_snoc (m : List (ByteArray × Value)) (q : ByteArray) (v : Value) : MD (m ++ [(q, v)]) = (MD m).put (kl q) (.held v) := by simp [MD, MDf, List.foldl_append]
theorem kl_key (q : ByteArray) : WideAt.IsKeyLit (kl q) := by simp [kl, WideAt.IsKeyLit]
theorem kl_inj {a b : ByteArray} (h : kl a = kl b) : a = b := by
 unfold kl at h
 injection h with h
 exact ByteArray.ext (Array.ext' h)
theorem MDf_map (m : List (ByteArray × Value)) : ∀ D : DataW Value, IsMap D → IsMap (MDf D m) := by
 induction m with
 | nil => intro D h; exact h
 | cons x r ih => intro D h; exact ih _ (h.put _ _)
theorem MDf_has (q : ByteArray) (m : List (ByteArray × Value)) : ∀ D : DataW Value, IsMap D → (has (MDf D m) (kl q) = true ↔ has D (kl q) = true ∨ q ∈ m.map Prod.fst) := by
 induction m with
 | nil => intro D _; simp [MDf]
 | cons x r ih =>
  intro D hD
  show has (MDf (D.put (kl x.1) (.held x.2)) r) (kl q) = true ↔ _
  rw [ih _ (hD.put _ _)]
  by_cases h : q = x.1
  ·
   subst h
   rw [has_put_same hD (kl_key _)]
   simp
  ·
   rw [has_put_other (fun e => h (kl_inj e))]
   simp [h]
theorem MD_has (q : ByteArray) (m : List (ByteArray × Value)) : has (MD m) (kl q) = true ↔ q ∈ m.map Prod.fst := by
 rw [MD, MDf_has q m _ isMap_empty]
 simp [has]
theorem MDf_at_other (q : ByteArray) (z : DataW Value) (m : List (ByteArray × Value)) : ∀ D : DataW Value, q ∉ m.map Prod.fst → (MDf D m).atKey (kl q) z = D.atKey (kl q) z := by
 induction m with
 | nil => intro D _; rfl
 | cons x r ih =>
  intro D h
  rw [List.map_cons, List.mem_cons, not_or] at h
  show (MDf (D.put (kl x.1) (.held x.2)) r).atKey (kl q) z = _
  rw [ih _ h.2, atKey_put_other (fun e => h.1 (kl_inj e))]
theorem MDf_at (q : ByteArray) (v : Value) (z : DataW Value) (m : List (ByteArray × Value)) : ∀ D : DataW Value, IsMap D → (m.map Prod.fst).Nodup → (q, v) ∈ m → (MDf D m).atKey (kl q) z = .held v := by
 induction m with
 | nil => intro D _ _ h; cases h
 | cons x r ih =>
  intro D hD hn h
  rw [List.map_cons, List.nodup_cons] at hn
  show (MDf (D.put (kl x.1) (.held x.2)) r).atKey (kl q) z = _
  rcases List.mem_cons.1 h with h | h
  ·
   subst h
   rw [MDf_at_other q z r _ hn.1, atKey_put_same hD (kl_key _)]
  · exact ih _ (hD.put _ _) hn.2 h
theorem MD_at {q : ByteArray} {v : Value} {m : List (ByteArray × Value)} (hn : (m.map Prod.fst).Nodup) (h : (q, v) ∈ m) (z : DataW Value) : (MD m).atKey (kl q) z = .held v := MDf_at q v z m _ isMap_empty hn h
theorem insert_perm (x : Lit × DataW Value) : ∀ l : List (Lit × DataW Value), (DataW.insert x l).Perm (x :: l)
 | [] => .refl _
 | y :: r => by
  unfold DataW.insert
  split
  · exact .refl _
  · exact ((insert_perm x r).cons y).trans (.swap _ _ _)
theorem put_keys (D : DataW Value) (hD : IsMap D) (q : ByteArray) (v : DataW Value) (hh : ¬ has D (kl q) = true) : (strKeys (D.put (kl q) v)).Perm (strKeys D ++ [q.data.toList]) := by
 obtain ⟨es, rfl⟩ := hD
 have hf : es.filter (ChangeMaps.notKey (kl q)) = es := by
  rw [List.filter_eq_self]
  intro p hp
  unfold ChangeMaps.notKey
  have : ¬ p.1.sameKey (kl q) = true := fun h => hh (by rw [has_eq, List.any_eq_true]; exact ⟨p, hp, h⟩)
  simpa using this
 rw [DataW.put_eq]
 unfold ChangeMaps.putKey
 rw [hf]
 show ((DataW.insert (kl q, v) es).map fun p => strOf p.1).Perm (es.map (fun p => strOf p.1) ++ [q.data.toList])
 refine ((insert_perm _ es).map _).trans ?_
 rw [List.map_cons]
 exact (List.perm_append_singleton _ _).symm
theorem MDf_keys (m : List (ByteArray × Value)) : ∀ D : DataW Value, IsMap D → (m.map Prod.fst).Nodup → (∀ q ∈ m.map Prod.fst, ¬ has D (kl q) = true) → (strKeys (MDf D m)).Perm (strKeys D ++ m.map fun x => x.1.data.toList) := by
 induction m with
 | nil => intro D _ _ _; simp [MDf]
 | cons x r ih =>
  intro D hD hn hh
  rw [List.map_cons, List.nodup_cons] at hn
  show (strKeys (MDf (D.put (kl x.1) (.held x.2)) r)).Perm _
  refine (ih _ (hD.put _ _) hn.2 fun q hq => ?_).trans ?_
  ·
   rw [has_put_other (fun e => hn.1 (by rw [← kl_inj e]; exact hq))]
   exact hh q (by rw [List.map_cons]; exact List.mem_cons_of_mem _ hq)
  ·
   have := put_keys D hD x.1 (.held x.2) (hh x.1 (by simp))
   refine (this.append_right _).trans ?_
   rw [List.append_assoc]
   exact .refl _
theorem MD_keys {m : List (ByteArray × Value)} (hn : (m.map Prod.fst).Nodup) : (strKeys (MD m)).Perm ((m.map Prod.fst).map fun q => q.data.toList) := by
 have := MDf_keys m (.map []) isMap_empty hn (fun q _ => by simp [has])
 rw [List.map_map]
 exact this
theorem size_keys (D : DataW Value) (hD : IsMap D) : Maps.size D = (strKeys D).length := by
 obtain ⟨es, rfl⟩ := hD
 simp [Maps.size, strKeys]
theorem MD_size {m : List (ByteArray × Value)} (hn : (m.map Prod.fst).Nodup) : Maps.size (MD m) = m.length := by
 rw [size_keys (MD m) (MDf_map m _ isMap_empty), (MD_keys hn).length_eq]
 simp
theorem RV_inj {v u : Value} {ps : List MemPlace} (h : RV v = some (.held u, ps)) : v = u := by
 unfold RV at h
 injection h with h
 injection h with h _
 injection h
end Go.Proofs.YtgblenoaeanogaaGreatDoor
