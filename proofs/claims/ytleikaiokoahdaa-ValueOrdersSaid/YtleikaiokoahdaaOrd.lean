/- The order of values: plain mathematics. -/
import Derived.Test.YtleikaiokoahdaaGood
namespace Go.Proofs.Ytleikaiokoahdaa
open Go.RowKit

/-- how two integers are in order -/
def cI (a b : Int) : Int := if a < b then -1 else if b < a then 1 else 0
def cB (a b : Bool) : Int := if a = b then 0 else if b = true then -1 else 1
def cS (a b : ByteArray) : Int := if sl a b = true then -1 else if sl b a = true then 1 else 0
def lex2 (a b : Int) : Int := if a = 0 then b else a
/-- three comparisons, of one and two, of two and three, of one and three, fit -/
def Trip (a b c : Int) : Prop := (a = -1 ∨ a = 0 ∨ a = 1) ∧ (b = -1 ∨ b = 0 ∨ b = 1) ∧ (c = -1 ∨ c = 0 ∨ c = 1) ∧ (a = 0 → c = b) ∧ (b = 0 → c = a) ∧ (a = -1 → b = -1 → c = -1) ∧ (a = 1 → b = 1 → c = 1)
theorem Trip.zero : Trip 0 0 0 := by unfold Trip; omega
theorem Trip.lex {a b c a' b' c' : Int} (h : Trip a b c) (k : Trip a' b' c') : Trip (lex2 a a') (lex2 b b') (lex2 c c') := by
  obtain ⟨h1, h2, h3, h4, h5, h6, h7⟩ := h
  obtain ⟨k1, k2, k3, k4, k5, k6, k7⟩ := k
  unfold Trip lex2
  rcases h1 with rfl | rfl | rfl <;> rcases h2 with rfl | rfl | rfl <;> rcases h3 with rfl | rfl | rfl <;> simp at h4 h5 h6 h7 <;> simp <;> omega
theorem tripI (a b c : Int) : Trip (cI a b) (cI b c) (cI a c) := by
  unfold Trip cI; repeat' split
  all_goals omega
theorem tripB (a b c : Bool) : Trip (cB a b) (cB b c) (cB a c) := by
  cases a <;> cases b <;> cases c <;> (unfold Trip cB; simp)
theorem cS_lt {a b : ByteArray} : cS a b = -1 ↔ sl a b = true := by
  unfold cS; split <;> rename_i h
  · simp [h]
  · split <;> simp [h]
theorem cS_gt {a b : ByteArray} : cS a b = 1 ↔ sl b a = true := by
  unfold cS; split <;> rename_i h
  · simp [sl_asymm h]
  · split <;> rename_i k <;> simp [k]
theorem cS_eq {a b : ByteArray} : cS a b = 0 ↔ a = b := by
  unfold cS; split <;> rename_i h
  · simp; rintro rfl; rw [sl_irrefl] at h; cases h
  · split <;> rename_i k
    · simp; rintro rfl; rw [sl_irrefl] at k; cases k
    · simp; rcases sl_tri a b with h1 | h1 | h1
      · exact absurd h1 h
      · exact h1
      · exact absurd h1 k
theorem cS_range (a b : ByteArray) : cS a b = -1 ∨ cS a b = 0 ∨ cS a b = 1 := by
  unfold cS; repeat' split
  all_goals simp
theorem tripS (a b c : ByteArray) : Trip (cS a b) (cS b c) (cS a c) := by
  refine ⟨cS_range _ _, cS_range _ _, cS_range _ _, fun h => ?_, fun h => ?_, fun h k => ?_, fun h k => ?_⟩
  · rw [cS_eq.1 h]
  · rw [cS_eq.1 h]
  · exact cS_lt.2 (sl_trans (cS_lt.1 h) (cS_lt.1 k))
  · exact cS_gt.2 (sl_trans (cS_gt.1 k) (cS_gt.1 h))
theorem cI_eq {a b : Int} : cI a b = 0 ↔ a = b := by
  unfold cI; repeat' split
  all_goals omega
theorem cB_eq {a b : Bool} : cB a b = 0 ↔ a = b := by cases a <;> cases b <;> simp [cB]
theorem lex_zero {a b : Int} : lex2 a b = 0 ↔ a = 0 ∧ b = 0 := by
  unfold lex2; split <;> rename_i h <;> simp [h]
theorem cI_neg (a b : Int) : cI b a = - cI a b := by
  unfold cI; repeat' split
  all_goals omega
theorem cB_neg (a b : Bool) : cB b a = - cB a b := by cases a <;> cases b <;> simp [cB]
theorem cS_neg (a b : ByteArray) : cS b a = - cS a b := by
  rcases cS_range a b with h | h | h <;> rw [h]
  · rw [show (- -1 : Int) = 1 from rfl, cS_gt]; exact cS_lt.1 h
  · rw [show (-0 : Int) = 0 from rfl, cS_eq]; exact (cS_eq.1 h).symm
  · rw [cS_lt]; exact cS_gt.1 h
theorem lex_neg (a b : Int) : lex2 (-a) (-b) = - lex2 a b := by
  unfold lex2; split <;> rename_i h
  · rw [if_pos (by omega)]
  · rw [if_neg (by omega)]
def keyAt (l : List ByteArray) (k : Nat) : ByteArray := l[k]?.getD ⟨#[]⟩
mutual
def ord : T → T → Int
  | .mk k b n s l ks, u => lex2 (cI k u.kind) (lex2 (cB b u.tr) (lex2 (cI n u.num) (lex2 (cS s u.str) (ords l ks 0 u.items u.keys))))
def ords : List T → List ByteArray → Nat → List T → List ByteArray → Int
  | [], _, _, [], _ => 0
  | [], _, _, _ :: _, _ => -1
  | _ :: _, _, _, [], _ => 1
  | x :: l, ks, i, y :: m, ks' => lex2 (cS (keyAt ks i) (keyAt ks' i)) (lex2 (ord x y) (ords l ks (i + 1) m ks'))
end
theorem ord_eq (t u : T) : ord t u = lex2 (cI t.kind u.kind) (lex2 (cB t.tr u.tr) (lex2 (cI t.num u.num) (lex2 (cS t.str u.str) (ords t.items t.keys 0 u.items u.keys)))) := by
  cases t; rw [ord]; rfl

theorem lex_range {a b : Int} (h : a = -1 ∨ a = 0 ∨ a = 1) (k : b = -1 ∨ b = 0 ∨ b = 1) : lex2 a b = -1 ∨ lex2 a b = 0 ∨ lex2 a b = 1 := by
  unfold lex2; split
  · exact k
  · exact h
theorem cI_range (a b : Int) : cI a b = -1 ∨ cI a b = 0 ∨ cI a b = 1 := (tripI a b b).1
theorem cB_range (a b : Bool) : cB a b = -1 ∨ cB a b = 0 ∨ cB a b = 1 := (tripB a b b).1
theorem ords_range (l : List T) (ih : ∀ x ∈ l, ∀ y, ord x y = -1 ∨ ord x y = 0 ∨ ord x y = 1) : ∀ (i : Nat) (m : List T) (ks ks' : List ByteArray), ords l ks i m ks' = -1 ∨ ords l ks i m ks' = 0 ∨ ords l ks i m ks' = 1 := by
  induction l with
  | nil => intro i m ks ks'; cases m <;> simp [ords]
  | cons x l IH =>
    intro i m ks ks'
    cases m with
    | nil => simp [ords]
    | cons y m => rw [ords]; exact lex_range (cS_range _ _) (lex_range (ih x (by simp) y) (IH (fun z hz => ih z (by simp [hz])) _ _ _ _))
theorem ord_range (t : T) : ∀ u, ord t u = -1 ∨ ord t u = 0 ∨ ord t u = 1 := by
  induction t using T.ind with
  | h t ih =>
    intro u
    rw [ord_eq]
    exact lex_range (cI_range _ _) (lex_range (cB_range _ _) (lex_range (cI_range _ _) (lex_range (cS_range _ _) (ords_range _ ih _ _ _ _))))
theorem ords_trip (l : List T) (ih : ∀ x ∈ l, ∀ y z, Trip (ord x y) (ord y z) (ord x z)) : ∀ (i : Nat) (m n : List T) (ks ks' ks'' : List ByteArray), Trip (ords l ks i m ks') (ords m ks' i n ks'') (ords l ks i n ks'') := by
  have hr := fun (l : List T) => ords_range l (fun x _ => ord_range x)
  induction l with
  | nil =>
    intro i m n ks ks' ks''
    have h := hr m i n ks' ks''
    cases m <;> cases n <;> simp only [ords] at h ⊢
    all_goals (unfold Trip; omega)
  | cons x l IH =>
    intro i m n ks ks' ks''
    cases m with
    | nil =>
      have h := hr (x :: l) i n ks ks''
      cases n <;> simp only [ords] at h ⊢
      all_goals (unfold Trip; omega)
    | cons y m =>
      cases n with
      | nil =>
        have h := hr (x :: l) i (y :: m) ks ks'
        simp only [ords] at h ⊢
        unfold Trip; omega
      | cons z n =>
        rw [ords, ords, ords]
        exact (tripS _ _ _).lex ((ih x (by simp) y z).lex (IH (fun z hz => ih z (by simp [hz])) _ _ _ _ _ _))
theorem ord_trip (t : T) : ∀ u v, Trip (ord t u) (ord u v) (ord t v) := by
  induction t using T.ind with
  | h t ih =>
    intro u v
    rw [ord_eq t u, ord_eq u v, ord_eq t v]
    exact (tripI _ _ _).lex ((tripB _ _ _).lex ((tripI _ _ _).lex ((tripS _ _ _).lex (ords_trip _ ih _ _ _ _ _ _))))
theorem ords_neg (l : List T) (ih : ∀ x ∈ l, ∀ y, ord y x = - ord x y) : ∀ (i : Nat) (m : List T) (ks ks' : List ByteArray), ords m ks' i l ks = - ords l ks i m ks' := by
  induction l with
  | nil => intro i m ks ks'; cases m <;> simp [ords]
  | cons x l IH =>
    intro i m ks ks'
    cases m with
    | nil => simp [ords]
    | cons y m => rw [ords, ords, ← lex_neg, ← lex_neg, ← cS_neg, ih x (by simp) y, IH (fun z hz => ih z (by simp [hz]))]
theorem ord_neg (t : T) : ∀ u, ord u t = - ord t u := by
  induction t using T.ind with
  | h t ih =>
    intro u
    rw [ord_eq t u, ord_eq u t, ← lex_neg, ← lex_neg, ← lex_neg, ← lex_neg, ← cI_neg, ← cB_neg, ← cI_neg, ← cS_neg, ords_neg _ ih]
theorem ords_self (l : List T) (ih : ∀ x ∈ l, ord x x = 0) : ∀ (i : Nat) (ks : List ByteArray), ords l ks i l ks = 0 := by
  induction l with
  | nil => intro i ks; rfl
  | cons x l IH => intro i ks; rw [ords, cS_eq.2 rfl, ih x (by simp), IH (fun z hz => ih z (by simp [hz]))]; rfl
theorem ord_self (t : T) : ord t t = 0 := by
  induction t using T.ind with
  | h t ih => rw [ord_eq, cI_eq.2 rfl, cB_eq.2 rfl, cI_eq.2 rfl, cS_eq.2 rfl, ords_self _ ih]; rfl
theorem ords_zero (l : List T) (ih : ∀ x ∈ l, ∀ y, x.Good → y.Good → ord x y = 0 → x = y) (hg : ∀ x ∈ l, x.Good) : ∀ (i : Nat) (m : List T) (ks ks' : List ByteArray), (∀ x ∈ m, x.Good) → ords l ks i m ks' = 0 → l = m ∧ ∀ j, j < l.length → keyAt ks (i + j) = keyAt ks' (i + j) := by
  induction l with
  | nil => intro i m ks ks' _ h; cases m <;> simp [ords] at h ⊢
  | cons x l IH =>
    intro i m ks ks' hm h
    cases m with
    | nil => simp [ords] at h
    | cons y m =>
      rw [ords] at h
      obtain ⟨h1, h2⟩ := lex_zero.1 h
      obtain ⟨h2, h3⟩ := lex_zero.1 h2
      obtain ⟨e1, e2⟩ := IH (fun z hz => ih z (by simp [hz])) (fun z hz => hg z (by simp [hz])) _ _ _ _ (fun z hz => hm z (by simp [hz])) h3
      refine ⟨by rw [ih x (by simp) y (hg x (by simp)) (hm y (by simp)) h2, e1], fun j hj => ?_⟩
      cases j with
      | zero => exact cS_eq.1 h1
      | succ j => have := e2 j (by simp at hj; omega); rwa [show i + 1 + j = i + (j + 1) by omega] at this
theorem keys_of {ks ks' : List ByteArray} {n : Nat} (h : ks.length = n) (h' : ks'.length = n) (k : ∀ j, j < n → keyAt ks j = keyAt ks' j) : ks = ks' := by
  apply List.ext_getElem (by omega)
  intro j h1 h2
  have := k j (by omega)
  unfold keyAt at this
  rwa [List.getElem?_eq_getElem h1, List.getElem?_eq_getElem h2] at this
theorem ord_zero (t : T) : ∀ u, t.Good → u.Good → ord t u = 0 → t = u := by
  induction t using T.ind with
  | h t ih =>
    intro u ht hu h
    rw [ord_eq] at h
    obtain ⟨h1, h⟩ := lex_zero.1 h
    obtain ⟨h2, h⟩ := lex_zero.1 h
    obtain ⟨h3, h⟩ := lex_zero.1 h
    obtain ⟨h4, h⟩ := lex_zero.1 h
    obtain ⟨e1, e2⟩ := ords_zero _ ih (fun x hx => ht.mem hx) _ _ _ _ (fun x hx => hu.mem hx) h
    have hk := cI_eq.1 h1
    refine T.ext hk (cB_eq.1 h2) (cI_eq.1 h3) (cS_eq.1 h4) e1 ?_
    have g := ht.here
    have g' := hu.here
    by_cases h5 : t.kind = 5
    · exact keys_of (n := t.items.length) (g.lens h5) (by rw [e1]; exact g'.lens (by omega)) (fun j hj => by have := e2 j hj; rwa [Nat.zero_add] at this)
    · rw [g.keys h5, g'.keys (by omega)]
end Go.Proofs.Ytleikaiokoahdaa
