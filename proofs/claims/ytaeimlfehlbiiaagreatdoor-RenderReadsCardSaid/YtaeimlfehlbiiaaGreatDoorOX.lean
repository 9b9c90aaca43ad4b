/- The order of values: plain mathematics. cmp.Compare at integers and texts, orderOfTruths, key: contracts. The program's Order: contract. value.Same of values of any size: contract. -/
import Derived.Test.YtaeimlfehlbiiaaGreatDoorMM
import Derived.Test.YtaeimlfehlbiiaaGreatDoorOV
import Derived.WalkLawsBesides
import Derived.Outline
namespace Go.Proofs.YtaeimlfehlbiiaaGreatDoor
open Go.RowKit
def cI (a b : Int) : Int := if a < b then -1 else if b < a then 1 else 0
def cB (a b : Bool) : Int := if a = b then 0 else if b = true then -1 else 1
def cS (a b : ByteArray) : Int := if sl a b = true then -1 else if sl b a = true then 1 else 0
def lex2 (a b : Int) : Int := if a = 0 then b else a
def Trip (a b c : Int) : Prop := (a = -1 ∨ a = 0 ∨ a = 1) ∧ (b = -1 ∨ b = 0 ∨ b = 1) ∧ (c = -1 ∨ c = 0 ∨ c = 1) ∧ (a = 0 → c = b) ∧ (b = 0 → c = a) ∧ (a = -1 → b = -1 → c = -1) ∧ (a = 1 → b = 1 → c = 1)
theorem Trip.zero : Trip 0 0 0 := by unfold Trip; omega
theorem cS_eq {a b : ByteArray} : cS a b = 0 ↔ a = b := by
 unfold cS; split <;> rename_i h
 · simp; rintro rfl; rw [sl_irrefl] at h; cases h
 ·
  split <;> rename_i k
  · simp; rintro rfl; rw [sl_irrefl] at k; cases k
  ·
   simp; rcases sl_tri a b with h1 | h1 | h1
   · exact absurd h1 h
   · exact h1
   · exact absurd h1 k
theorem cI_eq {a b : Int} : cI a b = 0 ↔ a = b := by
 unfold cI; repeat' split
 all_goals omega
theorem cB_eq {a b : Bool} : cB a b = 0 ↔ a = b := by cases a <;> cases b <;> simp [cB]
def keyAt (l : List ByteArray) (k : Nat) : ByteArray := l[k]?.getD ⟨#[]⟩
mutual
def ord : T → T → Int
 | .mk k b n s l ks, u => lex2 (cI k u.kind) (lex2 (cB b u.tr) (lex2 (cI n u.num) (lex2 (cS s u.str) (ords l ks 0 u.items u.keys))))
def ords : List T → List ByteArray → Nat → List T → List ByteArray → Int
 | [], _, _, [], _ => 0
 | [], _, _, _ :: _, _ => -1
 | _ :: _, _, _, [], _ => 1
 | x :: l, ks, i, y :: m, ks' => lex2 (cS (keyAt ks i) (keyAt ks' i)) (lex2 (ord x y) (ords l ks (i + 1) m ks'))
end
theorem ord_eq (t u : T) : ord t u = lex2 (cI t.kind u.kind) (lex2 (cB t.tr u.tr) (lex2 (cI t.num u.num) (lex2 (cS t.str u.str) (ords t.items t.keys 0 u.items u.keys)))) := by
 cases t; rw [ord]; rfl
theorem ords_self (l : List T) (ih : ∀ x ∈ l, ord x x = 0) : ∀ (i : Nat) (ks : List ByteArray), ords l ks i l ks = 0 := by
 induction l with
 | nil => intro i ks; rfl
 | cons x l IH => intro i ks; rw [ords, cS_eq.2 rfl, ih x (by simp), IH (fun z hz => ih z (by simp [hz]))]; rfl
theorem ord_self (t : T) : ord t t = 0 := by
 induction t using T.ind with
 | h t ih => rw [ord_eq, cI_eq.2 rfl, cB_eq.2 rfl, cI_eq.2 rfl, cS_eq.2 rfl, ords_self _ ih]; rfl
end Go.Proofs.YtaeimlfehlbiiaaGreatDoor
namespace Go.Proofs.YtaeimlfehlbiiaaGreatDoor
open Go.RowKit
set_option linter.unusedVariables false
theorem cmpInt_any (x y : Int) (w : World) : Calls Tryz.prog 57 #[.int .i64 x, .int .i64 y] w fun e w' => e = .returned (.int .i64 (cI x y)) ∧ w = w' := by
 unfold cI
 by_cases h1 : x < y
 ·
  have t1 : decide (x < y) = true := decide_eq_true h1
  rw [if_pos h1]
  go_enter Tryz.func57, Tryz.ntmps57
  go_wp2
  go_ret
  exact ⟨rfl, rfl⟩
 ·
  have t1 : decide (x < y) = false := decide_eq_false h1
  rw [if_neg h1]
  by_cases h2 : y < x
  ·
   have t2 : decide (y < x) = true := decide_eq_true h2
   rw [if_pos h2]
   go_enter Tryz.func57, Tryz.ntmps57
   go_wp2
   go_ret
   exact ⟨rfl, rfl⟩
  ·
   have t2 : decide (y < x) = false := decide_eq_false h2
   rw [if_neg h2]
   go_enter Tryz.func57, Tryz.ntmps57
   go_wp2
   go_ret
   exact ⟨rfl, rfl⟩
theorem cmpI64_any (x y : Int) (w : World) : Calls Tryz.prog 59 #[.int .i64 x, .int .i64 y] w fun e w' => e = .returned (.int .i64 (cI x y)) ∧ w = w' := by
 unfold cI
 by_cases h1 : x < y
 ·
  have t1 : decide (x < y) = true := decide_eq_true h1
  rw [if_pos h1]
  go_enter Tryz.func59, Tryz.ntmps59
  go_wp2
  go_ret
  exact ⟨rfl, rfl⟩
 ·
  have t1 : decide (x < y) = false := decide_eq_false h1
  rw [if_neg h1]
  by_cases h2 : y < x
  ·
   have t2 : decide (y < x) = true := decide_eq_true h2
   rw [if_pos h2]
   go_enter Tryz.func59, Tryz.ntmps59
   go_wp2
   go_ret
   exact ⟨rfl, rfl⟩
  ·
   have t2 : decide (y < x) = false := decide_eq_false h2
   rw [if_neg h2]
   go_enter Tryz.func59, Tryz.ntmps59
   go_wp2
   go_ret
   exact ⟨rfl, rfl⟩
theorem cmpStr_any (x y : ByteArray) (w : World) : Calls Tryz.prog 60 #[.string x, .string y] w fun e w' => e = .returned (.int .i64 (cS x y)) ∧ w = w' := by
 unfold cS
 by_cases h1 : sl x y = true
 ·
  have t1 : Op.bytesLess x.toList y.toList = true := h1
  rw [if_pos h1]
  clear h1
  go_enter Tryz.func60, Tryz.ntmps60
  go_wp2
  go_ret
  exact ⟨rfl, rfl⟩
 ·
  have t1 : Op.bytesLess x.toList y.toList = false := by simpa [sl] using h1
  rw [if_neg h1]
  by_cases h2 : sl y x = true
  ·
   have t2 : Op.bytesLess y.toList x.toList = true := h2
   rw [if_pos h2]
   have t3 : (x.toList == y.toList) = false := by
    rw [beq_eq_false_iff_ne]
    intro e
    rw [bytes_eq e, sl_irrefl] at h2
    cases h2
   clear h1 h2
   go_enter Tryz.func60, Tryz.ntmps60
   go_wp2
   go_ret
   exact ⟨rfl, rfl⟩
  ·
   have t2 : Op.bytesLess y.toList x.toList = false := by simpa [sl] using h2
   rw [if_neg h2]
   have t3 : x = y := by
    rcases sl_tri x y with h | h | h
    · exact absurd h h1
    · exact h
    · exact absurd h h2
   subst t3
   clear h1 h2
   go_enter Tryz.func60, Tryz.ntmps60
   go_wp2
   go_ret
   exact ⟨rfl, rfl⟩
theorem truths_any (x y : Bool) (w : World) : Calls Tryz.prog 58 #[.bool x, .bool y] w fun e w' => e = .returned (.int .i64 (cB x y)) ∧ w = w' := by
 cases x <;> cases y <;> (go_enter Tryz.func58, Tryz.ntmps58; go_wp2; go_ret; first | exact ⟨rfl, rfl⟩ | exact ⟨by simp [cB], rfl⟩ | simp [cB])
theorem key_any (t : T) (A : Option Addr) (c : Nat) (A' : Option Addr) (c' : Nat) (k : Nat) (w : World) (hk : k ≤ 100000) (hl : t.keys.length ≤ 100000) (hr : SReads w (· < w.heap.size) A' t.keys) :
 Calls Tryz.prog 78 #[.agg #[.int .i64 t.kind, .bool t.tr, .int .i64 t.num, .string t.str, .slice A t.items.length c, .slice A' t.keys.length c'], .int .i64 k] w fun e w' => e = .returned (.string (keyAt t.keys k)) ∧ Below w.heap.size w w' := by
 unfold keyAt
 by_cases hkl : k < t.keys.length
 ·
  obtain ⟨b, o, s, rfl, hb, hs, hc⟩ := hr.at_ hkl
  have t1 : decide ((t.keys.length : Int) ≤ (k : Int)) = false := decide_eq_false (by omega)
  have t2 : decide (t.keys.length ≤ k) = false := decide_eq_false (by omega)
  rw [hs]
  clear hs hr
  go_enter Tryz.func78, Tryz.ntmps78
  go_wp2_with fail
  go_ret
  exact ⟨rfl, (Below.refl _ _).alloc (Nat.le_refl _) _⟩
 ·
  have t1 : decide ((t.keys.length : Int) ≤ (k : Int)) = true := decide_eq_true (by omega)
  have t2 : decide (t.keys.length ≤ k) = true := decide_eq_true (by omega)
  rw [List.getElem?_eq_none (by omega)]
  go_enter Tryz.func78, Tryz.ntmps78
  go_wp2_with fail
  go_ret
  exact ⟨rfl, (Below.refl _ _).alloc (Nat.le_refl _) _⟩
end Go.Proofs.YtaeimlfehlbiiaaGreatDoor
namespace Go.Proofs.YtaeimlfehlbiiaaGreatDoor
open Go.RowKit
set_option linter.unusedVariables false
theorem lex2_zero (a : Int) : lex2 a 0 = a := by unfold lex2; split <;> omega
theorem zero_lex2 (a : Int) : lex2 0 a = a := rfl
theorem cI_self (a : Int) : cI a a = 0 := cI_eq.2 rfl
theorem cB_self (a : Bool) : cB a a = 0 := cB_eq.2 rfl
theorem cS_self (a : ByteArray) : cS a a = 0 := cS_eq.2 rfl
theorem ords_nil (ks ks' : List ByteArray) (i : Nat) : ords [] ks i [] ks' = 0 := rfl
theorem ord_kind {t u : T} (ht : t.Good) (hu : u.Good) (h : t.kind = u.kind) :
 (t.kind = 0 → ord t u = 0) ∧ (t.kind = 1 → ord t u = cB t.tr u.tr) ∧ (t.kind = 2 → ord t u = cI t.num u.num) ∧ (t.kind = 3 → ord t u = cS t.str u.str) ∧ (t.kind = 4 ∨ t.kind = 5 → ord t u = ords t.items t.keys 0 u.items u.keys) := by
 have g := ht.here
 have g' := hu.here
 rw [ord_eq, h, cI_self, zero_lex2]
 refine ⟨fun k => ?_, fun k => ?_, fun k => ?_, fun k => ?_, fun k => ?_⟩
 · rw [g.tr (by omega), g'.tr (by omega), g.num (by omega), g'.num (by omega), g.str (by omega), g'.str (by omega), g.items (by omega) (by omega), g'.items (by omega) (by omega), cB_self, cI_self, cS_self, ords_nil]; rfl
 · rw [g.num (by omega), g'.num (by omega), g.str (by omega), g'.str (by omega), g.items (by omega) (by omega), g'.items (by omega) (by omega), cI_self, cS_self, ords_nil, zero_lex2, zero_lex2, lex2_zero]
 · rw [g.tr (by omega), g'.tr (by omega), g.str (by omega), g'.str (by omega), g.items (by omega) (by omega), g'.items (by omega) (by omega), cB_self, cS_self, ords_nil, zero_lex2, zero_lex2, lex2_zero]
 · rw [g.tr (by omega), g'.tr (by omega), g.num (by omega), g'.num (by omega), g.items (by omega) (by omega), g'.items (by omega) (by omega), cB_self, cI_self, ords_nil, zero_lex2, zero_lex2, lex2_zero]
 · rw [g.tr (by omega), g'.tr (by omega), g.num (by omega), g'.num (by omega), g.str (by omega), g'.str (by omega), cB_self, cI_self, cS_self, zero_lex2, zero_lex2, zero_lex2]
theorem ord_far {t u : T} (h : t.kind ≠ u.kind) : ord t u = cI t.kind u.kind := by
 rw [ord_eq]
 unfold lex2
 rw [if_neg (fun e => h (cI_eq.1 e))]
theorem ords_at {l m : List T} {ks ks' : List ByteArray} {k : Nat} {x y : T} (hx : l[k]? = some x) (hy : m[k]? = some y) :
 ords (l.drop k) ks k (m.drop k) ks' = lex2 (cS (keyAt ks k) (keyAt ks' k)) (lex2 (ord x y) (ords (l.drop (k + 1)) ks (k + 1) (m.drop (k + 1)) ks')) := by
 have h1 := lt_of_get hx
 have h2 := lt_of_get hy
 rw [List.getElem?_eq_getElem h1] at hx
 rw [List.getElem?_eq_getElem h2] at hy
 injection hx with hx
 injection hy with hy
 rw [List.drop_eq_getElem_cons h1, List.drop_eq_getElem_cons h2, hx, hy, ords]
theorem ords_end {l m : List T} {ks ks' : List ByteArray} {k : Nat} (hk : k = min l.length m.length) : ords (l.drop k) ks k (m.drop k) ks' = cI l.length m.length := by
 unfold cI
 rcases Nat.lt_trichotomy l.length m.length with h | h | h
 · rw [List.drop_eq_nil_of_le (by omega : l.length ≤ k), List.drop_eq_getElem_cons (by omega : k < m.length), if_pos (by omega)]; rfl
 · rw [List.drop_eq_nil_of_le (by omega : l.length ≤ k), List.drop_eq_nil_of_le (by omega : m.length ≤ k), if_neg (by omega), if_neg (by omega)]; rfl
 · rw [List.drop_eq_nil_of_le (by omega : m.length ≤ k), List.drop_eq_getElem_cons (by omega : k < l.length), if_neg (by omega), if_pos (by omega)]; rfl
def OrderAt (n : Nat) : Prop := ∀ (t u : T) (A : Option Addr) (c : Nat) (A' : Option Addr) (c' : Nat) (B : Option Addr) (d : Nat) (B' : Option Addr) (d' : Nat) (w : World), t.size ≤ n → n ≤ 100000 → u.size ≤ 100000 → t.Small → u.Small → t.Good → u.Good → TV w (· < w.heap.size) t A c A' c' → TV w (· < w.heap.size) u B d B' d' →
 Calls Tryz.prog 35 #[.agg #[.int .i64 t.kind, .bool t.tr, .int .i64 t.num, .string t.str, .slice A t.items.length c, .slice A' t.keys.length c'], .agg #[.int .i64 u.kind, .bool u.tr, .int .i64 u.num, .string u.str, .slice B u.items.length d, .slice B' u.keys.length d']] w fun e w' => e = .returned (.int .i64 (ord t u)) ∧ Below w.heap.size w w'
set_option maxRecDepth 100000 in
set_option maxHeartbeats 8000000 in
theorem items_of (n : Nat) (ih : OrderAt n) (t u : T) (A : Option Addr) (c : Nat) (A' : Option Addr) (c' : Nat) (B : Option Addr) (d : Nat) (B' : Option Addr) (d' : Nat) (w : World) (ht : t.size ≤ n + 1) (hn : n + 1 ≤ 100000) (hus : u.size ≤ 100000) (hs : t.Small) (hs' : u.Small) (hg : t.Good) (hg' : u.Good) (hv : TV w (· < w.heap.size) t A c A' c') (hu : TV w (· < w.heap.size) u B d B' d') :
 Calls Tryz.prog 61 #[.agg #[.int .i64 t.kind, .bool t.tr, .int .i64 t.num, .string t.str, .slice A t.items.length c, .slice A' t.keys.length c'], .agg #[.int .i64 u.kind, .bool u.tr, .int .i64 u.num, .string u.str, .slice B u.items.length d, .slice B' u.keys.length d']] w fun e w' => e = .returned (.int .i64 (ords t.items t.keys 0 u.items u.keys)) ∧ Below w.heap.size w w' := by
 have IH := Lib.hid ih
 have HS := Lib.hid hs
 have HS' := Lib.hid hs'
 have HG := Lib.hid hg
 have HG' := Lib.hid hg'
 have hkl := hs.here
 have hkl' := hs'.here
 have hls := t.len_size
 have hul := u.len_size
 obtain ⟨M, hMe, hM1, hM2, hM3⟩ : ∃ M : Nat, min (t.items.length : Int) (u.items.length : Int) = (M : Int) ∧ M ≤ t.items.length ∧ M ≤ u.items.length ∧ M = min t.items.length u.items.length := ⟨min t.items.length u.items.length, by omega, by omega, by omega, rfl⟩
 have HM3 := Lib.hid hM3
 have HV0 := Lib.hid hv
 have HU0 := Lib.hid hu
 clear ih hs hs' hg hg' hM3 hv hu
 go_enter Tryz.func61, Tryz.ntmps61
 go_upto_region 1 with fail
 have hW : Below w.heap.size w ((w.alloc (.cells #[.int .i64 t.kind, .bool t.tr, .int .i64 t.num, .string t.str, .slice A t.items.length c, .slice A' t.keys.length c'] 32)).alloc (.cells #[.int .i64 u.kind, .bool u.tr, .int .i64 u.num, .string u.str, .slice B u.items.length d, .slice B' u.keys.length d'] 32)) := ((Below.refl w.heap.size w).alloc (Nat.le_refl _) _).alloc (by simp) _
 have hB1 : Blk ((w.alloc (.cells #[.int .i64 t.kind, .bool t.tr, .int .i64 t.num, .string t.str, .slice A t.items.length c, .slice A' t.keys.length c'] 32)).alloc (.cells #[.int .i64 u.kind, .bool u.tr, .int .i64 u.num, .string u.str, .slice B u.items.length d, .slice B' u.keys.length d'] 32)) w.heap.size 32 #[.int .i64 t.kind, .bool t.tr, .int .i64 t.num, .string t.str, .slice A t.items.length c, .slice A' t.keys.length c'] := (Blk.new w _ _).alloc _
 have hB2 : Blk ((w.alloc (.cells #[.int .i64 t.kind, .bool t.tr, .int .i64 t.num, .string t.str, .slice A t.items.length c, .slice A' t.keys.length c'] 32)).alloc (.cells #[.int .i64 u.kind, .bool u.tr, .int .i64 u.num, .string u.str, .slice B u.items.length d, .slice B' u.keys.length d'] 32)) (w.heap.size + 1) 32 #[.int .i64 u.kind, .bool u.tr, .int .i64 u.num, .string u.str, .slice B u.items.length d, .slice B' u.keys.length d'] := by
  have := Blk.new (w.alloc (.cells #[.int .i64 t.kind, .bool t.tr, .int .i64 t.num, .string t.str, .slice A t.items.length c, .slice A' t.keys.length c'] 32)) 32 #[.int .i64 u.kind, .bool u.tr, .int .i64 u.num, .string u.str, .slice B u.items.length d, .slice B' u.keys.length d']
  simpa using this
 change Code.wp _ _ _ _ ((w.alloc (.cells #[.int .i64 t.kind, .bool t.tr, .int .i64 t.num, .string t.str, .slice A t.items.length c, .slice A' t.keys.length c'] 32)).alloc (.cells #[.int .i64 u.kind, .bool u.tr, .int .i64 u.num, .string u.str, .slice B u.items.length d, .slice B' u.keys.length d'] 32))
 generalize ((w.alloc (.cells #[.int .i64 t.kind, .bool t.tr, .int .i64 t.num, .string t.str, .slice A t.items.length c, .slice A' t.keys.length c'] 32)).alloc (.cells #[.int .i64 u.kind, .bool u.tr, .int .i64 u.num, .string u.str, .slice B u.items.length d, .slice B' u.keys.length d'] 32)) = W at *
 have HW := Lib.hid hW
 have HB1 := Lib.hid hB1
 have HB2 := Lib.hid hB2
 have HV := Lib.hid (HV0.out.on hW)
 have HU := Lib.hid (HU0.out.on hW)
 have hl1 := hB1.lt
 have hl2 := hB2.lt
 have a4 : W.cell? ⟨w.heap.size, 4, none⟩ = some (.slice A t.items.length c) := hB1.cell 4
 have b4 : W.cell? ⟨w.heap.size + 1, 4, none⟩ = some (.slice B u.items.length d) := hB2.cell 4
 clear hW hB1 hB2 HV0 HU0
 go_wp2_with fail
 clear hMe
 go_loopw [15] (fun i wr => ∃ k : Nat, k ≤ M ∧ i = .int .i64 k ∧ Hid (ords t.items t.keys 0 u.items u.keys = ords (t.items.drop k) t.keys k (u.items.drop k) u.keys) ∧ Below W.heap.size W wr) (fun i _ => M - (intOf i).toNat)
 case atStart => exact ⟨0, Nat.zero_le _, rfl, Lib.hid (by rw [List.drop_zero, List.drop_zero]), Below.refl _ _⟩
 case round =>
  clear a4 b4
  obtain ⟨k, hk, rfl, HO, hbel⟩ := hrel
  have Hbel := Lib.hid hbel
  have hz := hbel.size
  have HSS := Lib.hid (show ∀ w', Below wr.heap.size wr w' → (w'.cell? ⟨w.heap.size, 0, none⟩ = some (.int .i64 t.kind) ∧ w'.cell? ⟨w.heap.size, 1, none⟩ = some (.bool t.tr) ∧ w'.cell? ⟨w.heap.size, 2, none⟩ = some (.int .i64 t.num) ∧ w'.cell? ⟨w.heap.size, 3, none⟩ = some (.string t.str) ∧ w'.cell? ⟨w.heap.size, 4, none⟩ = some (.slice A t.items.length c) ∧ w'.cell? ⟨w.heap.size, 5, none⟩ = some (.slice A' t.keys.length c')) ∧ w'.cell? ⟨w.heap.size + 1, 0, none⟩ = some (.int .i64 u.kind) ∧ w'.cell? ⟨w.heap.size + 1, 1, none⟩ = some (.bool u.tr) ∧ w'.cell? ⟨w.heap.size + 1, 2, none⟩ = some (.int .i64 u.num) ∧ w'.cell? ⟨w.heap.size + 1, 3, none⟩ = some (.string u.str) ∧ w'.cell? ⟨w.heap.size + 1, 4, none⟩ = some (.slice B u.items.length d) ∧ w'.cell? ⟨w.heap.size + 1, 5, none⟩ = some (.slice B' u.keys.length d') from fun w' hb => by
   have k1 := HB1.out.onto (hbel.trans (hb.mono hz))
   have k2 := HB2.out.onto (hbel.trans (hb.mono hz))
   exact ⟨⟨k1.cell 0, k1.cell 1, k1.cell 2, k1.cell 3, k1.cell 4, k1.cell 5⟩, k2.cell 0, k2.cell 1, k2.cell 2, k2.cell 3, k2.cell 4, k2.cell 5⟩)
  obtain ⟨⟨a0, a1, a2, a3, a4, a5⟩, b0, b1, b2, b3, b4, b5⟩ := HSS.out wr (Below.refl _ _)
  have HVr := Lib.hid (HV.out.on hbel)
  have HUr := Lib.hid (HU.out.on hbel)
  clear hbel
  by_cases hlt : k < M
  ·
   have v1 : decide (k < M) = true := decide_eq_true hlt
   obtain ⟨bE, oE, x, E, e1, E', e1', rfl, hbE, hx, h6, hX⟩ := HVr.out.at_ (show k < t.items.length by omega)
   obtain ⟨bF, oF, y, F, f1, F', f1', rfl, hbF, hy, g6, hY⟩ := HUr.out.at_ (show k < u.items.length by omega)
   have HXX := Lib.hid hx
   have HYY := Lib.hid hy
   have HOA := Lib.hid (HO.out.trans (ords_at hx hy))
   have HX6 := Lib.hid h6
   have HY6 := Lib.hid g6
   have HXT := Lib.hid hX
   have HYT := Lib.hid hY
   have hxs := T.at_size hx
   have hys := T.at_size hy
   clear hx hy h6 g6 hX hY HO
   have HBc := Lib.hid (Below.refl wr.heap.size wr)
   go_wp2_with fail
   go_region_held3 (fun w' => (w'.cell? ⟨w.heap.size, 0, none⟩ = some (.int .i64 t.kind) ∧ w'.cell? ⟨w.heap.size, 1, none⟩ = some (.bool t.tr) ∧ w'.cell? ⟨w.heap.size, 2, none⟩ = some (.int .i64 t.num) ∧ w'.cell? ⟨w.heap.size, 3, none⟩ = some (.string t.str) ∧ w'.cell? ⟨w.heap.size, 4, none⟩ = some (.slice (some ⟨bE, oE, none⟩) t.items.length c) ∧ w'.cell? ⟨w.heap.size, 5, none⟩ = some (.slice A' t.keys.length c')) ∧ w'.cell? ⟨w.heap.size + 1, 0, none⟩ = some (.int .i64 u.kind) ∧ w'.cell? ⟨w.heap.size + 1, 1, none⟩ = some (.bool u.tr) ∧ w'.cell? ⟨w.heap.size + 1, 2, none⟩ = some (.int .i64 u.num) ∧ w'.cell? ⟨w.heap.size + 1, 3, none⟩ = some (.string u.str) ∧ w'.cell? ⟨w.heap.size + 1, 4, none⟩ = some (.slice (some ⟨bF, oF, none⟩) u.items.length d) ∧ w'.cell? ⟨w.heap.size + 1, 5, none⟩ = some (.slice B' u.keys.length d'))
    (first
     | with_reducible exact HSS.out _ HBc.out
     | with_reducible exact HSS.out _ (below_drewN HBc.out _)
     | exact HSS.out _ HBc.out.drew
     | go_keep)
    (first
     | (
      go_at_call 78
      with_reducible refine (key_any t _ c A' c' k _ (by omega) hkl (HVr.out.keys.on ?_)).mono ?_
      · exact (by first | with_reducible exact HBc.out | with_reducible exact below_drewN HBc.out _ | exact HBc.out.drew)
      rintro e5 w5 ⟨rfl, hb5⟩
      have HBc := Lib.hid (show Below wr.heap.size wr w5 from by first | with_reducible exact HBc.out.trans (hb5.mono HBc.out.size) | with_reducible exact (below_drewN HBc.out _).trans (hb5.mono HBc.out.size) | exact HBc.out.drew.trans (hb5.mono HBc.out.size))
      clear hb5)
     | (
      go_at_call 78
      with_reducible refine (key_any u _ d B' d' k _ (by omega) hkl' (HUr.out.keys.on ?_)).mono ?_
      · exact (by first | with_reducible exact HBc.out | with_reducible exact below_drewN HBc.out _ | exact HBc.out.drew)
      rintro e6 w6 ⟨rfl, hb6⟩
      have HBc := Lib.hid (show Below wr.heap.size wr w6 from by first | with_reducible exact HBc.out.trans (hb6.mono HBc.out.size) | with_reducible exact (below_drewN HBc.out _).trans (hb6.mono HBc.out.size) | exact HBc.out.drew.trans (hb6.mono HBc.out.size))
      clear hb6)
     | (
      go_at_call 60
      with_reducible refine (cmpStr_any (keyAt t.keys k) (keyAt u.keys k) _).mono ?_
      rintro e7 w7 ⟨rfl, rfl⟩))
   all_goals
    by_cases hc : cS (keyAt t.keys k) (keyAt u.keys k) = 0
    ·
     have v2 : (cS (keyAt t.keys k) (keyAt u.keys k) != 0) = false := by rw [hc]; rfl
     have HC := Lib.hid hc
     clear hc
     have HSS2 := Lib.hid (show ∀ w', Below wr.heap.size wr w' → w'.cell? ⟨w.heap.size, 4, none⟩ = some (.slice (some ⟨bE, oE, none⟩) t.items.length c) ∧ w'.cell? ⟨w.heap.size + 1, 4, none⟩ = some (.slice (some ⟨bF, oF, none⟩) u.items.length d) ∧ (w'.cell? ⟨bE, oE + k * 6, none⟩ = some (.int .i64 x.kind) ∧ w'.cell? ⟨bE, oE + k * 6 + 1, none⟩ = some (.bool x.tr) ∧ w'.cell? ⟨bE, oE + k * 6 + 2, none⟩ = some (.int .i64 x.num) ∧ w'.cell? ⟨bE, oE + k * 6 + 3, none⟩ = some (.string x.str) ∧ w'.cell? ⟨bE, oE + k * 6 + 4, none⟩ = some (.slice E x.items.length e1) ∧ w'.cell? ⟨bE, oE + k * 6 + 5, none⟩ = some (.slice E' x.keys.length e1')) ∧ w'.cell? ⟨bF, oF + k * 6, none⟩ = some (.int .i64 y.kind) ∧ w'.cell? ⟨bF, oF + k * 6 + 1, none⟩ = some (.bool y.tr) ∧ w'.cell? ⟨bF, oF + k * 6 + 2, none⟩ = some (.int .i64 y.num) ∧ w'.cell? ⟨bF, oF + k * 6 + 3, none⟩ = some (.string y.str) ∧ w'.cell? ⟨bF, oF + k * 6 + 4, none⟩ = some (.slice F y.items.length f1) ∧ w'.cell? ⟨bF, oF + k * 6 + 5, none⟩ = some (.slice F' y.keys.length f1') from fun w' hb => by
      obtain ⟨⟨_, _, _, _, p4, _⟩, _, _, _, _, q4, _⟩ := HSS.out w' hb
      exact ⟨p4, q4, HX6.out.keep (S := (· < wr.heap.size)) hbE (.of_below hb), HY6.out.keep (S := (· < wr.heap.size)) hbF (.of_below hb)⟩)
     clear a0 a1 a2 a3 a4 a5 b0 b1 b2 b3 b4 b5
     have n0 : (0 : Int) ≤ (k : Int) := by omega
     have n1 : (k : Int) < (t.items.length : Int) := by omega
     have n2 : (k : Int) < (u.items.length : Int) := by omega
     have HOR := Lib.hid (fun (wq : World) (hq : Below wr.heap.size wr wq) => IH.out x y E e1 E' e1' F f1 F' f1' wq (by omega) (by omega) (by omega) (HS.out.at_ HXX.out) (HS'.out.at_ HYY.out) (HG.out.at_ HXX.out) (HG'.out.at_ HYY.out) (HXT.out.on hq) (HYT.out.on hq))
     obtain ⟨a4, b4, ⟨x0, x1, x2, x3, x4, x5⟩, y0, y1, y2, y3, y4, y5⟩ := HSS2.out _ HBc.out
     go_wp2_with fail
     go_region_held3 (fun w' => w'.cell? ⟨w.heap.size, 4, none⟩ = some (.slice (some ⟨bE, oE, none⟩) t.items.length c) ∧ w'.cell? ⟨w.heap.size + 1, 4, none⟩ = some (.slice (some ⟨bF, oF, none⟩) u.items.length d) ∧ (w'.cell? ⟨bE, oE + k * 6, none⟩ = some (.int .i64 x.kind) ∧ w'.cell? ⟨bE, oE + k * 6 + 1, none⟩ = some (.bool x.tr) ∧ w'.cell? ⟨bE, oE + k * 6 + 2, none⟩ = some (.int .i64 x.num) ∧ w'.cell? ⟨bE, oE + k * 6 + 3, none⟩ = some (.string x.str) ∧ w'.cell? ⟨bE, oE + k * 6 + 4, none⟩ = some (.slice E x.items.length e1) ∧ w'.cell? ⟨bE, oE + k * 6 + 5, none⟩ = some (.slice E' x.keys.length e1')) ∧ w'.cell? ⟨bF, oF + k * 6, none⟩ = some (.int .i64 y.kind) ∧ w'.cell? ⟨bF, oF + k * 6 + 1, none⟩ = some (.bool y.tr) ∧ w'.cell? ⟨bF, oF + k * 6 + 2, none⟩ = some (.int .i64 y.num) ∧ w'.cell? ⟨bF, oF + k * 6 + 3, none⟩ = some (.string y.str) ∧ w'.cell? ⟨bF, oF + k * 6 + 4, none⟩ = some (.slice F y.items.length f1) ∧ w'.cell? ⟨bF, oF + k * 6 + 5, none⟩ = some (.slice F' y.keys.length f1'))
      (first
       | with_reducible exact HSS2.out _ HBc.out
       | with_reducible exact HSS2.out _ (below_drewN HBc.out _)
       | exact HSS2.out _ HBc.out.drew
       | go_keep)
      (first
       | (
        go_at_call 35
        with_reducible refine (HOR.out _ ?_).mono ?_
        · exact (by first | with_reducible exact HBc.out | with_reducible exact below_drewN HBc.out _ | exact HBc.out.drew)
        rintro e8 w8 ⟨rfl, hb8⟩
        have HBc := Lib.hid (show Below wr.heap.size wr w8 from by first | with_reducible exact HBc.out.trans (hb8.mono HBc.out.size) | with_reducible exact (below_drewN HBc.out _).trans (hb8.mono HBc.out.size) | exact HBc.out.drew.trans (hb8.mono HBc.out.size))
        clear hb8))
     all_goals
      by_cases ho : ord x y = 0
      ·
       have v3 : (ord x y != 0) = false := by rw [ho]; rfl
       have HE := Lib.hid (show ords t.items t.keys 0 u.items u.keys = ords (t.items.drop (k + 1)) t.keys (k + 1) (u.items.drop (k + 1)) u.keys by rw [HOA.out, HC.out, ho]; rfl)
       clear ho
       go_wp2_with fail
       go_roundw
       case rel => exact ⟨k + 1, hlt, by go_num, Lib.hid HE.out, Hbel.out.trans (HBc.out.mono hz)⟩
       case measure => simp [intOf]; omega
      ·
       have v3 : (ord x y != 0) = true := by simpa using ho
       have HE := Lib.hid (show ords t.items t.keys 0 u.items u.keys = ord x y by rw [HOA.out, HC.out]; show lex2 (ord x y) _ = _; unfold lex2; rw [if_neg ho])
       clear ho
       go_wp2_with fail
       go_ret
       exact ⟨by rw [HE.out]; rfl, HW.out.trans ((Hbel.out.trans (HBc.out.mono hz)).mono HW.out.size)⟩
    ·
     have v2 : (cS (keyAt t.keys k) (keyAt u.keys k) != 0) = true := by simpa using hc
     have HE := Lib.hid (show ords t.items t.keys 0 u.items u.keys = cS (keyAt t.keys k) (keyAt u.keys k) by rw [HOA.out]; unfold lex2; rw [if_neg hc])
     clear hc
     go_wp2_with fail
     go_ret
     exact ⟨by rw [HE.out]; rfl, HW.out.trans ((Hbel.out.trans (HBc.out.mono hz)).mono HW.out.size)⟩
  ·
   obtain rfl : M = k := by omega
   have v1 : decide (M < M) = false := decide_eq_false (by omega)
   have HE := Lib.hid (HO.out.trans (ords_end HM3.out))
   go_wp2_with fail
   refine (cmpInt_any _ _ _).mono ?_
   rintro e w5 ⟨rfl, rfl⟩
   go_wp2_with fail
   go_ret
   exact ⟨by rw [HE.out]; rfl, HW.out.trans (Hbel.out.mono HW.out.size)⟩
set_option maxRecDepth 100000 in
set_option maxHeartbeats 8000000 in
theorem order_at (n : Nat) : OrderAt n := by
 induction n with
 | zero => intro t u _ _ _ _ _ _ _ _ _ h; have := t.size_pos; omega
 | succ n ih =>
  intro t u A c A' c' B d B' d' w ht hn hus hs hs' hg hg' hv hu
  have HG := Lib.hid hg
  have HG' := Lib.hid hg'
  have HW := Lib.hid (fun (o1 o2 : Obj) => (((Below.refl w.heap.size w).alloc (Nat.le_refl _) o1).alloc (by simp) o2 : Below w.heap.size w ((w.alloc o1).alloc o2)))
  have ih := Lib.hid ih
  have hs := Lib.hid hs
  have hs' := Lib.hid hs'
  have hg := HG
  have hg' := HG'
  have hv := Lib.hid hv
  have hu := Lib.hid hu
  by_cases hne : t.kind = u.kind
  ·
   have HKE := Lib.hid hne
   have k0 := HG.out.here.k0
   have k5 := HG.out.here.k5
   clear hne
   go_enter Tryz.func35, Tryz.ntmps35
   rcases (by omega : t.kind = 0 ∨ t.kind = 1 ∨ t.kind = 2 ∨ t.kind = 3 ∨ t.kind = 4 ∨ t.kind = 5) with hk | hk | hk | hk | hk | hk
   ·
    have hk' : u.kind = 0 := HKE.out.symm.trans hk
    have HK := Lib.hid hk
    have HE := Lib.hid ((ord_kind HG.out HG'.out HKE.out).1 HK.out)
    go_wp2_with fail
    go_ret
    exact ⟨by rw [HE.out]; rfl, HW.out _ _⟩
   ·
    have hk' : u.kind = 1 := HKE.out.symm.trans hk
    have HK := Lib.hid hk
    have HE := Lib.hid ((ord_kind HG.out HG'.out HKE.out).2.1 HK.out)
    go_wp2_with fail
    refine (truths_any _ _ _).mono ?_
    rintro e w5 ⟨rfl, rfl⟩
    go_wp2_with fail
    go_ret
    exact ⟨by rw [HE.out]; rfl, HW.out _ _⟩
   ·
    have hk' : u.kind = 2 := HKE.out.symm.trans hk
    have HK := Lib.hid hk
    have HE := Lib.hid ((ord_kind HG.out HG'.out HKE.out).2.2.1 HK.out)
    go_wp2_with fail
    refine (cmpI64_any _ _ _).mono ?_
    rintro e w5 ⟨rfl, rfl⟩
    go_wp2_with fail
    go_ret
    exact ⟨by rw [HE.out]; rfl, HW.out _ _⟩
   ·
    have hk' : u.kind = 3 := HKE.out.symm.trans hk
    have HK := Lib.hid hk
    have HE := Lib.hid ((ord_kind HG.out HG'.out HKE.out).2.2.2.1 HK.out)
    go_wp2_with fail
    refine (cmpStr_any _ _ _).mono ?_
    rintro e w5 ⟨rfl, rfl⟩
    go_wp2_with fail
    go_ret
    exact ⟨by rw [HE.out]; rfl, HW.out _ _⟩
   ·
    have hk' : u.kind = 4 := HKE.out.symm.trans hk
    have HK := Lib.hid hk
    have HE := Lib.hid ((ord_kind HG.out HG'.out HKE.out).2.2.2.2 (by have := HK.out; omega))
    have HIO := Lib.hid (fun (wq : World) (hq : Below w.heap.size w wq) => by
     have h := items_of n ih.out t u A c A' c' B d B' d' wq ht hn hus hs.out hs'.out hg.out hg'.out (hv.out.on hq) (hu.out.on hq)
     rw [HK.out, hk'] at h
     exact h)
    go_wp2_with fail
    refine (HIO.out _ (HW.out _ _)).mono ?_
    rintro e w5 ⟨rfl, hb5⟩
    have H5 := Lib.hid ((HW.out _ _).trans (hb5.mono (HW.out _ _).size))
    clear hb5
    go_wp2_with fail
    go_ret
    exact ⟨by rw [HE.out]; rfl, H5.out⟩
   ·
    have hk' : u.kind = 5 := HKE.out.symm.trans hk
    have HK := Lib.hid hk
    have HE := Lib.hid ((ord_kind HG.out HG'.out HKE.out).2.2.2.2 (by have := HK.out; omega))
    have HIO := Lib.hid (fun (wq : World) (hq : Below w.heap.size w wq) => by
     have h := items_of n ih.out t u A c A' c' B d B' d' wq ht hn hus hs.out hs'.out hg.out hg'.out (hv.out.on hq) (hu.out.on hq)
     rw [HK.out, hk'] at h
     exact h)
    go_wp2_with fail
    refine (HIO.out _ (HW.out _ _)).mono ?_
    rintro e w5 ⟨rfl, hb5⟩
    have H5 := Lib.hid ((HW.out _ _).trans (hb5.mono (HW.out _ _).size))
    clear hb5
    go_wp2_with fail
    go_ret
    exact ⟨by rw [HE.out]; rfl, H5.out⟩
  ·
   have v1 : (t.kind != u.kind) = true := by simpa using hne
   have HE := Lib.hid (ord_far hne)
   clear hne
   go_enter Tryz.func35, Tryz.ntmps35
   go_wp2_with fail
   refine (cmpInt_any _ _ _).mono ?_
   rintro e w5 ⟨rfl, rfl⟩
   go_wp2_with fail
   go_ret
   exact ⟨by rw [HE.out]; rfl, HW.out _ _⟩
end Go.Proofs.YtaeimlfehlbiiaaGreatDoor
namespace Go.Proofs.YtaeimlfehlbiiaaGreatDoor
open Go.RowKit
set_option linter.unusedVariables false
set_option maxRecDepth 100000 in
set_option maxHeartbeats 4000000 in
theorem vsame_big (t u : T) (A : Option Addr) (c : Nat) (A' : Option Addr) (c' : Nat) (B : Option Addr) (d : Nat) (B' : Option Addr) (d' : Nat) (w : World) (ht : t.size ≤ 100000) (hu : u.size ≤ 100000) (hst : t.Small) (hsu : u.Small) (hgt : t.Good) (hgu : u.Good) (hv : TV w (· < w.heap.size) t A c A' c') (hw : TV w (· < w.heap.size) u B d B' d') :
 Calls Tryz.prog 17 #[.agg #[.int .i64 t.kind, .bool t.tr, .int .i64 t.num, .string t.str, .slice A t.items.length c, .slice A' t.keys.length c'], .agg #[.int .i64 u.kind, .bool u.tr, .int .i64 u.num, .string u.str, .slice B u.items.length d, .slice B' u.keys.length d']] w fun e w' => e = .returned (.bool (ord t u == 0)) ∧ Below w.heap.size w w' := by
 have HW := Lib.hid (fun (o1 o2 : Obj) => (((Below.refl w.heap.size w).alloc (Nat.le_refl _) o1).alloc (by simp) o2 : Below w.heap.size w ((w.alloc o1).alloc o2)))
 have HO := Lib.hid (fun (wq : World) (hq : Below w.heap.size w wq) => order_at 100000 t u A c A' c' B d B' d' wq ht (Nat.le_refl _) hu hst hsu hgt hgu (hv.on hq) (hw.on hq))
 clear ht hu hst hsu hgt hgu hv hw
 go_enter Tryz.func17, Tryz.ntmps17
 go_wp2_with fail
 refine (HO.out _ (HW.out _ _)).mono ?_
 rintro e w5 ⟨rfl, hb5⟩
 have H5 := Lib.hid ((HW.out _ _).trans (hb5.mono (HW.out _ _).size))
 clear hb5
 go_wp2_with fail
 go_ret
 exact ⟨rfl, H5.out⟩
end Go.Proofs.YtaeimlfehlbiiaaGreatDoor
