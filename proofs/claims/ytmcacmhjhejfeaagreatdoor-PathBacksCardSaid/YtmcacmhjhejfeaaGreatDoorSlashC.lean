/- A path's text is UTF-8 if its steps are: plain mathematics. -/
import Derived.Test.YtmcacmhjhejfeaaGreatDoorSlashB
import Derived.Test.YtmcacmhjhejfeaaGreatDoorTexts
namespace Go.Proofs.YtmcacmhjhejfeaaGreatDoor.Sl
open Go.Lib
open Pl

theorem enc_low {p : Int} (h0 : 0 ≤ p) (h : p ≤ 127) : encodeRune p = [p.toNat.toUInt8] := by
  unfold encodeRune encodeRuneZ
  rw [if_pos ⟨h0, h⟩]
  rfl
theorem esc_app (a b : List UInt8) : esc (a ++ b) = esc a ++ esc b := by
  induction a with
  | nil => rfl
  | cons c l ih =>
    by_cases h : c = 126
    · subst h; simp [esc, ih]
    · by_cases h2 : c = 47
      · subst h2; simp [esc, ih]
      · simp [esc, h, h2, ih]
theorem esc_id (l : List UInt8) (h : ∀ b ∈ l, b ≠ 126 ∧ b ≠ 47) : esc l = l := by
  induction l with
  | nil => rfl
  | cons c l ih =>
    have h1 := h c (by simp)
    simp only [esc, if_neg h1.1, if_neg h1.2]
    rw [ih fun b hb => h b (by simp [hb])]
theorem enc_high {p : Int} (hp : pt p = true) (h : 128 ≤ p) : ∀ b ∈ encodeRune p, 128 ≤ b.toNat := by
  have hp := (pt_iff p).1 hp
  intro b hb
  simp only [encodeRune, List.mem_map] at hb
  obtain ⟨x, hx, rfl⟩ := hb
  have key : 128 ≤ x ∧ x < 256 := by
    unfold encodeRuneZ at hx
    rw [if_neg (by omega)] at hx
    repeat' split at hx
    all_goals simp only [List.mem_cons, List.not_mem_nil, or_false] at hx
    all_goals omega
  have := b8 x (by omega) key.2
  omega
/-- the points of a written step -/
def escP : List Int → List Int
  | [] => []
  | p :: l => if p = 126 then 126 :: 48 :: escP l else if p = 47 then 126 :: 49 :: escP l else p :: escP l
theorem flat_cons_ (p : Int) (l : List Int) : flat (p :: l) = encodeRune p ++ flat l := by simp [flat]
theorem esc_flat (l : List Int) (h : ∀ x ∈ l, pt x = true) : esc (flat l) = flat (escP l) ∧ ∀ x ∈ escP l, pt x = true := by
  induction l with
  | nil => exact ⟨rfl, fun x hx => by cases hx⟩
  | cons p l ih =>
    obtain ⟨ih1, ih2⟩ := ih fun x hx => h x (by simp [hx])
    have hp := h p (by simp)
    rw [flat_cons_, esc_app, ih1]
    by_cases h1 : p = 126
    · subst h1
      simp only [escP, if_true]
      refine ⟨?_, ?_⟩
      · rw [flat_cons_, flat_cons_]; rfl
      · intro x hx
        rcases List.mem_cons.1 hx with rfl | hx
        · decide
        · rcases List.mem_cons.1 hx with rfl | hx
          · decide
          · exact ih2 x hx
    · by_cases h2 : p = 47
      · subst h2
        simp only [escP, if_neg h1, if_true]
        refine ⟨?_, ?_⟩
        · rw [flat_cons_, flat_cons_]; rfl
        · intro x hx
          rcases List.mem_cons.1 hx with rfl | hx
          · decide
          · rcases List.mem_cons.1 hx with rfl | hx
            · decide
            · exact ih2 x hx
      · simp only [escP, if_neg h1, if_neg h2]
        refine ⟨?_, ?_⟩
        · rw [flat_cons_, esc_id]
          intro b hb
          have hpt := (pt_iff p).1 hp
          rcases Int.lt_or_le p 128 with h3 | h3
          · rw [enc_low (by omega) (by omega)] at hb
            obtain rfl := List.mem_singleton.1 hb
            have := b8 p (by omega) (by omega)
            constructor
            · intro e; rw [e] at this; exact h1 (by have e2 : (126 : UInt8).toNat = 126 := rfl; omega)
            · intro e; rw [e] at this; exact h2 (by have e2 : (47 : UInt8).toNat = 47 := rfl; omega)
          · have := enc_high hp h3 b hb
            constructor
            · intro e; rw [e] at this; exact absurd this (by decide)
            · intro e; rw [e] at this; exact absurd this (by decide)
        · intro x hx
          rcases List.mem_cons.1 hx with rfl | hx
          · exact hp
          · exact ih2 x hx
theorem okText_txt (l : List ByteArray) (h : ∀ s ∈ l, okText s) : okText (mk (txt (l.map (·.data.toList)))) := by
  suffices hh : ∃ ps, txt (l.map (·.data.toList)) = flat ps ∧ ∀ x ∈ ps, pt x = true by
    obtain ⟨ps, h1, h2⟩ := hh
    exact ⟨ps, by rw [mk_list, h1, List.append_nil], rfl, h2⟩
  induction l with
  | nil => exact ⟨[], rfl, fun x hx => by cases hx⟩
  | cons s l ih =>
    obtain ⟨ps, h1, h2⟩ := ih fun q hq => h q (by simp [hq])
    obtain ⟨qs, hq1, _, hq3⟩ := h s (by simp)
    rw [List.append_nil] at hq1
    obtain ⟨e1, e2⟩ := esc_flat qs hq3
    refine ⟨47 :: (escP qs ++ ps), ?_, ?_⟩
    · rw [List.map_cons, txt, h1, hq1, e1, flat_cons_, flat_append]; rfl
    · intro x hx
      rcases List.mem_cons.1 hx with rfl | hx
      · decide
      · rcases List.mem_append.1 hx with hx | hx
        · exact e2 x hx
        · exact h2 x hx
/-- how long it may be -/
theorem esc_len (l : List UInt8) : (esc l).length ≤ 2 * l.length := by
  induction l with
  | nil => exact Nat.le_refl _
  | cons c l ih =>
    unfold esc
    repeat' split
    all_goals simp only [List.length_cons]
    all_goals omega
theorem txt_len (k : Nat) (l : List (List UInt8)) (h : ∀ s ∈ l, s.length ≤ k) : (txt l).length ≤ (2 * k + 1) * l.length := by
  induction l with
  | nil => simp [txt]
  | cons s l ih =>
    have h1 := ih fun q hq => h q (by simp [hq])
    have h2 := esc_len s
    have h3 := h s (by simp)
    rw [txt, List.length_cons, List.length_append, List.length_cons, Nat.mul_add, Nat.mul_one]
    omega
end Go.Proofs.YtmcacmhjhejfeaaGreatDoor.Sl
