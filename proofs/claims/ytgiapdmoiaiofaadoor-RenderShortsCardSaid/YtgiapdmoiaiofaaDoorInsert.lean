/- Objects out of keys put in one behind the other: plain mathematics. -/
import Derived.Test.YtgiapdmoiaiofaaDoorPut
import Derived.Test.YtgiapdmoiaiofaaDoorObject
namespace Go.Proofs.YtgiapdmoiaiofaaDoor
open Go.RowKit

theorem Rising.pair {l : List ByteArray} (h : Rising l) : l.Pairwise fun a b => sl a b = true := by
  rw [List.pairwise_iff_getElem]
  intro i j h1 h2 hij
  exact h.mono (List.getElem?_eq_getElem h1) j _ hij (List.getElem?_eq_getElem h2)
def insK (l : List ByteArray) (q : ByteArray) : List ByteArray := l.take (rank l q) ++ q :: l.drop (rank l q)
theorem insK_pair {l : List ByteArray} {q : ByteArray} (h : Rising l) (hq : q ∉ l) : (insK l q).Pairwise fun a b => sl a b = true := by
  have hp := h.pair
  unfold insK
  rw [List.pairwise_append]
  refine ⟨hp.sublist (List.take_sublist _ _), ?_, ?_⟩
  · rw [List.pairwise_cons]
    refine ⟨fun b hb => ?_, hp.sublist (List.drop_sublist _ _)⟩
    obtain ⟨i, hi⟩ := List.mem_iff_getElem?.1 hb
    rw [List.getElem?_drop] at hi
    have hlt := lt_of_get hi
    have h1 : rank l q < l.length := by omega
    have h2 := rank_at (List.getElem?_eq_getElem h1)
    have h3 : sl q l[rank l q] = true := by
      rcases sl_tri q l[rank l q] with k | k | k
      · exact k
      · exact absurd (k ▸ List.getElem_mem h1) hq
      · rw [h2] at k; cases k
    rcases Nat.eq_zero_or_pos i with rfl | h0
    · rw [Nat.add_zero, List.getElem?_eq_getElem h1] at hi
      injection hi with hi
      exact hi ▸ h3
    · exact sl_trans h3 (h.mono (List.getElem?_eq_getElem h1) _ _ (by omega) hi)
  · intro a ha b hb
    obtain ⟨i, hi⟩ := List.mem_iff_getElem?.1 ha
    have hil : i < rank l q := by
      have := lt_of_get hi
      rw [List.length_take] at this
      omega
    rw [List.getElem?_take_of_lt hil] at hi
    have h1 := rank_lt hil hi
    rcases List.mem_cons.1 hb with rfl | hb
    · exact h1
    · obtain ⟨j, hj⟩ := List.mem_iff_getElem?.1 hb
      rw [List.getElem?_drop] at hj
      exact h.mono hi _ _ (by omega) hj
theorem insK_perm (l : List ByteArray) (q : ByteArray) : (insK l q).Perm (q :: l) := by
  unfold insK
  have h := List.perm_middle (a := q) (l₁ := l.take (rank l q)) (l₂ := l.drop (rank l q))
  rwa [List.take_append_drop] at h
theorem insK_srt {ks : List ByteArray} {q : ByteArray} (hn : (ks ++ [q]).Nodup) : insK (srt ks) q = srt (ks ++ [q]) := by
  have hk : ks.Nodup := (List.nodup_append.1 hn).1
  have hq : q ∉ srt ks := fun h => by
    have h1 := (srt_perm ks).mem_iff.1 h
    exact (List.nodup_append.1 hn).2.2 q h1 q (by simp) rfl
  refine List.Perm.eq_of_pairwise (le := fun a b => sl a b = true) (fun a b _ _ h1 h2 => by rw [sl_asymm h1] at h2; cases h2) (insK_pair (srt_rising hk) hq) (srt_rising hn).pair ?_
  refine (insK_perm _ _).trans (((srt_perm ks).cons q).trans ?_)
  exact ((srt_perm (ks ++ [q])).trans (List.perm_append_comm (l₁ := ks) (l₂ := [q]))).symm
/-- the object of keys whose items are all x -/
def objR (ks : List ByteArray) (x : T) : T := .mk 5 false 0 ⟨#[]⟩ (List.replicate ks.length x) (srt ks)
theorem objT_same {ks : List ByteArray} (x : T) (hn : ks.Nodup) : objT ks (List.replicate ks.length x) = objR ks x := by
  unfold objT objR
  congr 1
  unfold placed
  apply List.ext_getElem?
  intro i
  rw [List.getElem?_map]
  rcases Nat.lt_or_ge i ks.length with h | h
  · have h1 : i < (srt ks).length := by rw [srt_len]; exact h
    rw [List.getElem?_eq_getElem h1, Option.map_some, List.getElem?_replicate, if_pos h]
    have hm : (srt ks)[i] ∈ ks := (srt_perm ks).mem_iff.1 (List.getElem_mem h1)
    obtain ⟨j, hj⟩ := List.mem_iff_getElem?.1 hm
    rw [look_at hn hj (x := x) (by rw [List.getElem?_replicate, if_pos (lt_of_get hj)])]
  · rw [List.getElem?_eq_none (by rw [srt_len]; exact h), List.getElem?_eq_none (by simpa using h)]; rfl
theorem putT_objR {ks : List ByteArray} {q : ByteArray} (x : T) (hn : (ks ++ [q]).Nodup) : putT (objR ks x) q x = objR (ks ++ [q]) x := by
  have hk := insK_srt hn
  unfold insK at hk
  have hr := rank_le (srt ks) q
  rw [srt_len] at hr
  show T.mk _ _ _ _ ((List.replicate ks.length x).take (rank (srt ks) q) ++ x :: (List.replicate ks.length x).drop (rank (srt ks) q)) ((srt ks).take (rank (srt ks) q) ++ q :: (srt ks).drop (rank (srt ks) q)) = T.mk _ _ _ _ (List.replicate (ks ++ [q]).length x) (srt (ks ++ [q]))
  rw [hk]
  congr 1
  apply List.eq_replicate_iff.2
  refine ⟨by simp; omega, fun b hb => ?_⟩
  rcases List.mem_append.1 hb with h | h
  · exact List.eq_of_mem_replicate (List.mem_of_mem_take h)
  · rcases List.mem_cons.1 h with h | h
    · exact h
    · exact List.eq_of_mem_replicate (List.mem_of_mem_drop h)
theorem putT_nil (q : ByteArray) (x : T) : putT (.mk 5 false 0 ⟨#[]⟩ [] []) q x = objR [q] x := by
  have e : srt [] = [] := List.eq_nil_of_length_eq_zero (by rw [srt_len]; rfl)
  have := putT_objR (ks := []) (q := q) x (by simp)
  unfold objR at this
  rw [e] at this
  exact this
end Go.Proofs.YtgiapdmoiaiofaaDoor
