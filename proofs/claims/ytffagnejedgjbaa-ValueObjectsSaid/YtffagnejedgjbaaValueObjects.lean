/- ValueObjects: the object of any keys and items, or why there is none, is the document's. No conditions: any keys, any list of nodes, any number (the law itself asks nothing of more than 12 keys, nor of keys of more than 60 bytes). -/
import Derived.Test.YtffagnejedgjbaaRows
import Derived.Test.YtffagnejedgjbaaOpen
import Derived.Test.YtffagnejedgjbaaCells
import Derived.Test.YtffagnejedgjbaaAwake
import Derived.Test.YtffagnejedgjbaaInsert
import Derived.Test.YtffagnejedgjbaaNice
import Derived.WalkKit
import Derived.ProofKit
import Derived.OpenShut
import Derived.ChangeOld
import Derived.ShutString
import Derived.Below
import Derived.Outline
import Derived.Deep.DeepCutAuto
namespace Go.Proofs.Ytffagnejedgjbaa.valueObjects
open Go.ChangeShapes Go.WideShapes Go.ChangeAt Go.RowKit
open Go.ChangeMaps (open_string shut_string)
set_option linter.unusedVariables false

theorem own : ownKnob Try.prog.godebug = none := by kernel_rfl
theorem laidOut : laidOutB Try.prog = true := by kernel_rfl

/-- the code of keys and N items -/
def Fin (l : List ByteArray) (N : Nat) (c : Int) : Prop := (N ≠ l.length ∧ c = 1) ∨ (N = l.length ∧ ¬ AllText l ∧ c = 2) ∨ (N = l.length ∧ AllText l ∧ ¬ l.Nodup ∧ c = 5) ∨ (N = l.length ∧ AllText l ∧ l.Nodup ∧ c = 0)
theorem Fin.uniq {l : List ByteArray} {N : Nat} {c c' : Int} (h : Fin l N c) (k : Fin l N c') : c = c' := by
  rcases h with ⟨a, b⟩ | ⟨a, a2, b⟩ | ⟨a, a2, a3, b⟩ | ⟨a, a2, a3, b⟩ <;> rcases k with ⟨e, f⟩ | ⟨e, e2, f⟩ | ⟨e, e2, e3, f⟩ | ⟨e, e2, e3, f⟩ <;>
    first
      | omega
      | exact absurd a2 e2
      | exact absurd e2 a2
      | exact absurd a3 e3
      | exact absurd e3 a3
def ObjRes (l : List ByteArray) (t : T) (N : Nat) (w : World) (e : Ending) (w' : World) : Prop := ∃ (vt : T) (ve : Int) (B : Option Addr) (d : Nat) (B' : Option Addr) (d' : Nat), e = .returned (.tuple #[.agg #[.int .i64 vt.kind, .bool vt.tr, .int .i64 vt.num, .string vt.str, .slice B vt.items.length d, .slice B' vt.keys.length d'], .int .i64 ve]) ∧ TV w' (· < w'.heap.size) vt B d B' d' ∧ Below w.heap.size w w' ∧ Fin l N ve ∧ (ve ≠ 0 → vt = T.zero) ∧ (ve = 0 → vt = objR l t)
theorem obj_res (l : List ByteArray) (t : T) (N : Nat) (A : Option Addr) (c : Nat) (A' : Option Addr) (c' : Nat) (w : World) (hl : l.length ≤ 12) (hN : N ≤ 12) (hr : SReads w (· < w.heap.size) A l) (ht : t.Nice) (hi : VReads w (· < w.heap.size) A' (List.replicate N t)) :
    Calls Try.prog 14 #[.slice A l.length c, .slice A' N c'] w (ObjRes l t N w) := by
  have e : (List.replicate N t).length = N := List.length_replicate
  by_cases hn : N = l.length
  · by_cases hat : AllText l
    · by_cases hd : l.Nodup
      · have hz : T.sizes (List.replicate N t) ≤ 100000 := by
          have : ∀ k, k ≤ 12 → T.sizes (List.replicate k t) ≤ k * 40 := by
            intro k
            induction k with
            | zero => intro _; exact Nat.le_refl _
            | succ k ih => intro hk; have := ih (by omega); have := ht.size; simp only [List.replicate, T.sizes]; omega
          have := this N hN
          omega
        have h := object_ok l (List.replicate N t) A c A' c' w (by omega) (by rw [e, hn]) hr hat hd hz (fun x hx => by rw [List.eq_of_mem_replicate hx]; exact ht.small) hi
        rw [e] at h
        refine h.mono ?_
        rintro e w' ⟨⟨B, d, B', d', rfl, htv⟩, hb⟩
        have e2 : objT l (List.replicate N t) = objR l t := by rw [hn]; exact objT_same t hd
        rw [e2] at htv ⊢
        exact ⟨_, 0, B, d, B', d', rfl, htv, hb, .inr (.inr (.inr ⟨hn, hat, hd, rfl⟩)), fun h => absurd rfl h, fun _ => rfl⟩
      · have h := object_twice l (List.replicate N t) A c A' c' w (by omega) (by rw [e, hn]) hr hat hd
        rw [e] at h
        refine h.mono ?_
        rintro e w' ⟨rfl, hb⟩
        exact ⟨T.zero, 5, none, 0, none, 0, rfl, TV.leaf _ _ rfl rfl, hb, .inr (.inr (.inl ⟨hn, hat, hd, rfl⟩)), fun _ => rfl, fun h => absurd h (by decide)⟩
    · have h := object_utf l (List.replicate N t) A c A' c' w (by omega) (by rw [e, hn]) hr hat
      rw [e] at h
      refine h.mono ?_
      rintro e w' ⟨rfl, hb⟩
      exact ⟨T.zero, 2, none, 0, none, 0, rfl, TV.leaf _ _ rfl rfl, hb, .inr (.inl ⟨hn, hat, rfl⟩), fun _ => rfl, fun h => absurd h (by decide)⟩
  · have h := object_form l (List.replicate N t) A c A' c' w (by rw [e]; omega)
    rw [e] at h
    refine h.mono ?_
    rintro e w' ⟨rfl, hb⟩
    exact ⟨T.zero, 1, none, 0, none, 0, rfl, TV.leaf _ _ rfl rfl, hb, .inl ⟨hn, rfl⟩, fun _ => rfl, fun h => absurd h (by decide)⟩
/-- the code behind the check of the first k keys -/
def Mid (l : List ByteArray) (N k : Nat) (c : Int) : Prop := (N ≠ l.length ∧ c = 1) ∨ (N = l.length ∧ ¬ AllText l ∧ c = 2) ∨ (N = l.length ∧ c = 0 ∧ ∀ (j : Nat) (s : ByteArray), j < k → l[j]? = some s → okText s)
theorem Mid.done {l : List ByteArray} {N : Nat} {c : Int} (h : Mid l N l.length c) : (c ≠ 0 ∧ Fin l N c) ∨ (c = 0 ∧ N = l.length ∧ AllText l) := by
  rcases h with ⟨a, b⟩ | ⟨a, a2, b⟩ | ⟨a, b, h⟩
  · exact .inl ⟨by omega, .inl ⟨a, b⟩⟩
  · exact .inl ⟨by omega, .inr (.inl ⟨a, a2, b⟩)⟩
  · exact .inr ⟨b, a, fun s hs => by
      obtain ⟨j, hj⟩ := List.mem_iff_getElem?.1 hs
      exact h j s (lt_of_get hj) hj⟩
theorem Mid.skip {l : List ByteArray} {N k : Nat} {c : Int} (h : Mid l N k c) (hc : c ≠ 0) : Mid l N (k + 1) c := by
  rcases h with h | h | ⟨a, b, h⟩
  · exact .inl h
  · exact .inr (.inl h)
  · exact absurd b hc
theorem Mid.ok {l : List ByteArray} {N k : Nat} {s : ByteArray} (h : Mid l N k 0) (hs : l[k]? = some s) (ht : okText s) : Mid l N (k + 1) 0 := by
  rcases h with ⟨_, h⟩ | ⟨_, _, h⟩ | ⟨a, b, h⟩
  · omega
  · omega
  · refine .inr (.inr ⟨a, rfl, fun j q hj hq => ?_⟩)
    rcases Nat.lt_or_ge j k with h1 | h1
    · exact h j q h1 hq
    · obtain rfl : j = k := by omega
      rw [hs] at hq; injection hq with hq; exact hq ▸ ht
theorem Mid.bad {l : List ByteArray} {N k : Nat} {s : ByteArray} (h : Mid l N k 0) (hs : l[k]? = some s) (ht : ¬ okText s) : Mid l N (k + 1) 2 := by
  rcases h with ⟨_, h⟩ | ⟨_, _, h⟩ | ⟨a, b, h⟩
  · omega
  · omega
  · exact .inr (.inl ⟨a, fun hat => ht (hat s (List.mem_of_getElem? hs)), rfl⟩)
/-- the code, and what stands in box G, behind the first k keys that are put in -/
def Last (l : List ByteArray) (N : Nat) (t : T) (G k : Nat) (c : Int) (w : World) : Prop := ∃ (u : T) (K : Option Addr) (d : Nat) (K' : Option Addr) (d' : Nat), Blk w G 30 (T.cs u K d K' d') ∧ TV w (fun b => b < w.heap.size ∧ b ≠ G) u K d K' d' ∧
  ((c ≠ 0 ∧ Fin l N c) ∨ (c = 0 ∧ N = l.length ∧ AllText l ∧ (l.take k).Nodup ∧ u = objR (l.take k) t))
def PutRes (S : Nat → Prop) (u x : T) (q : ByteArray) (w : World) (e : Ending) (w' : World) : Prop := ∃ (u' : T) (b : Bool) (B : Option Addr) (d : Nat) (B' : Option Addr) (d' : Nat), e = .returned (.tuple #[.agg #[.int .i64 u'.kind, .bool u'.tr, .int .i64 u'.num, .string u'.str, .slice B u'.items.length d, .slice B' u'.keys.length d'], .bool b]) ∧ TV w' (fun b => S b ∨ w.heap.size ≤ b ∧ b < w'.heap.size) u' B d B' d' ∧ Below w.heap.size w w' ∧
  ((b = true ∧ u' = putT u q x ∧ ¬ u.keys[rank u.keys q]? = some q) ∨ (b = false ∧ u' = u ∧ u.keys[rank u.keys q]? = some q))
theorem put_res (S : Nat → Prop) (u x : T) (A : Option Addr) (c : Nat) (A' : Option Addr) (c' : Nat) (B : Option Addr) (d : Nat) (B' : Option Addr) (d' : Nat) (q : ByteArray) (w : World) (hkl : u.keys.length ≤ 100000) (hil : u.items.length = u.keys.length) (hS : ∀ b, S b → b < w.heap.size) (hv : TV w S u A c A' c') (hx : TV w S x B d B' d') :
    Calls Try.prog 16 #[.agg #[.int .i64 u.kind, .bool u.tr, .int .i64 u.num, .string u.str, .slice A u.items.length c, .slice A' u.keys.length c'], .string q, .agg #[.int .i64 x.kind, .bool x.tr, .int .i64 x.num, .string x.str, .slice B x.items.length d, .slice B' x.keys.length d']] w (PutRes S u x q w) := by
  by_cases hh : u.keys[rank u.keys q]? = some q
  · refine (put_has u x A c A' c' B d B' d' q w hkl (hv.wide hS) hh).mono ?_
    rintro e w' ⟨rfl, hb⟩
    exact ⟨u, false, A, c, A', c', rfl, (hv.keep fun b hb' => hb.block b (hS b hb')).wide fun b hb' => .inl hb', hb, .inr ⟨rfl, rfl, hh⟩⟩
  · refine (put_new S u x A c A' c' B d B' d' q w hkl hil hS hv hx hh).mono ?_
    rintro e w' ⟨C, f, C', f', rfl, ht, hb⟩
    exact ⟨putT u q x, true, C, f, C', f', rfl, ht, hb, .inl ⟨rfl, rfl, hh⟩⟩
theorem objR_nil (t : T) : objR [] t = T.ofObj [] [] := by
  have e : srt [] = [] := List.eq_nil_of_length_eq_zero (by rw [srt_len]; rfl)
  unfold objR T.ofObj
  rw [e]; rfl
theorem take_succ {l : List ByteArray} {k : Nat} {s : ByteArray} (h : l[k]? = some s) : l.take (k + 1) = l.take k ++ [s] := T.take_snoc h
theorem nodup_put {l : List ByteArray} {k : Nat} {s : ByteArray} {t : T} (h : (l.take k).Nodup) (hs : l[k]? = some s) (hn : ¬ (objR (l.take k) t).keys[rank (objR (l.take k) t).keys s]? = some s) : (l.take (k + 1)).Nodup ∧ putT (objR (l.take k) t) s t = objR (l.take (k + 1)) t := by
  have hm : s ∉ l.take k := fun hm => hn (rank_mem (srt_rising h) ((srt_perm _).mem_iff.2 hm))
  have hd : (l.take k ++ [s]).Nodup := List.nodup_append.2 ⟨h, by simp, fun a ha b hb => by
    rintro rfl
    rw [List.mem_singleton] at hb
    exact hm (hb ▸ ha)⟩
  rw [take_succ hs]
  exact ⟨hd, putT_objR t hd⟩
theorem twice_put {l : List ByteArray} {k : Nat} {s : ByteArray} {t : T} (hs : l[k]? = some s) (hn : (objR (l.take k) t).keys[rank (objR (l.take k) t).keys s]? = some s) : ¬ l.Nodup := by
  intro hd
  have hm : s ∈ l.take k := (srt_perm _).mem_iff.1 (List.mem_of_getElem? hn)
  have h2 : (l.take (k + 1)).Nodup := hd.sublist (List.take_sublist _ _)
  rw [take_succ hs] at h2
  exact (List.nodup_append.1 h2).2.2 s hm s (by simp) rfl

theorem sizes_rep {t : T} (ht : t.Nice) (k : Nat) : T.sizes (List.replicate k t) ≤ k * 40 := by
  induction k with
  | zero => exact Nat.le_refl _
  | succ k ih => have := ht.size; simp only [List.replicate, T.sizes]; omega
theorem objR_le {l : List ByteArray} {t : T} (ht : t.Nice) (hl : l.length ≤ 12) : (objR l t).size ≤ 100000 := by
  rw [T.size_eq]
  have := sizes_rep ht l.length
  show 1 + T.sizes (List.replicate l.length t) ≤ 100000
  omega
theorem objR_small {l : List ByteArray} {t : T} (ht : t.Nice) (hl : l.length ≤ 12) : (objR l t).Small := by
  refine .mk _ ?_ fun x hx => ?_
  · show (srt l).length ≤ 100000
    rw [srt_len]; omega
  · have : x = t := List.eq_of_mem_replicate (show x ∈ List.replicate l.length t from hx)
    rw [this]; exact ht.small
theorem Last.of {l : List ByteArray} {N : Nat} {t : T} {G k : Nat} {c : Int} {wr w6 : World} {u' : T} {E : Option Addr} {g : Nat} {E' : Option Addr} {g' : Nat} {cs : Array Value} {o : Obj} (hb : Blk w6 G 30 cs) (hcs : cs.size = 6)
    (ht : TV w6 (fun b => (b < wr.heap.size ∧ b ≠ G) ∨ wr.heap.size ≤ b ∧ b < w6.heap.size) u' E g E' g') (hG : G < wr.heap.size) (hz : wr.heap.size ≤ w6.heap.size)
    (hc : (c ≠ 0 ∧ Fin l N c) ∨ (c = 0 ∧ N = l.length ∧ AllText l ∧ (l.take k).Nodup ∧ u' = objR (l.take k) t)) : Last l N t G k c (((((((w6.setCell ⟨G, 0, none⟩ (.int .i64 u'.kind)).setCell ⟨G, 1, none⟩ (.bool u'.tr)).setCell ⟨G, 2, none⟩ (.int .i64 u'.num)).setCell ⟨G, 3, none⟩ (.string u'.str)).setCell ⟨G, 4, none⟩ (.slice E u'.items.length g)).setCell ⟨G, 5, none⟩ (.slice E' u'.keys.length g')).alloc o) := by
  have hF := res_put hb hcs u' E g E' g'
  have hK : ∀ b, b ≠ G → (((((((w6.setCell ⟨G, 0, none⟩ (.int .i64 u'.kind)).setCell ⟨G, 1, none⟩ (.bool u'.tr)).setCell ⟨G, 2, none⟩ (.int .i64 u'.num)).setCell ⟨G, 3, none⟩ (.string u'.str)).setCell ⟨G, 4, none⟩ (.slice E u'.items.length g)).setCell ⟨G, 5, none⟩ (.slice E' u'.keys.length g'))).heap[b]? = w6.heap[b]? := by
    intro b hb
    rw [Below.heap_setCell _ _ _ _ hb, Below.heap_setCell _ _ _ _ hb, Below.heap_setCell _ _ _ _ hb, Below.heap_setCell _ _ _ _ hb, Below.heap_setCell _ _ _ _ hb, Below.heap_setCell _ _ _ _ hb]
  have hZ : (((((((w6.setCell ⟨G, 0, none⟩ (.int .i64 u'.kind)).setCell ⟨G, 1, none⟩ (.bool u'.tr)).setCell ⟨G, 2, none⟩ (.int .i64 u'.num)).setCell ⟨G, 3, none⟩ (.string u'.str)).setCell ⟨G, 4, none⟩ (.slice E u'.items.length g)).setCell ⟨G, 5, none⟩ (.slice E' u'.keys.length g'))).heap.size = w6.heap.size := by simp [World.setCell]
  generalize ((((((w6.setCell ⟨G, 0, none⟩ (.int .i64 u'.kind)).setCell ⟨G, 1, none⟩ (.bool u'.tr)).setCell ⟨G, 2, none⟩ (.int .i64 u'.num)).setCell ⟨G, 3, none⟩ (.string u'.str)).setCell ⟨G, 4, none⟩ (.slice E u'.items.length g)).setCell ⟨G, 5, none⟩ (.slice E' u'.keys.length g')) = W at *
  refine ⟨u', E, g, E', g', hF.alloc o, (ht.keep fun b hb' => (Below.heap_alloc _ _ _ (by omega)).trans (hK b (by omega))).wide fun b hb' => ?_, hc⟩
  simp
  omega
theorem rsame_z {v : T} (hz : v = T.zero) (B : Option Addr) (d : Nat) (B' : Option Addr) (d' : Nat) (w : World) (hv : TV w (· < w.heap.size) v B d B' d') :
    Calls Try.prog 17 #[.agg #[.int .i64 v.kind, .bool v.tr, .int .i64 v.num, .string v.str, .slice B v.items.length d, .slice B' v.keys.length d'], .agg #[.int .i64 0, .bool false, .int .i64 0, .string ⟨#[]⟩, .slice none 0 0, .slice none 0 0]] w fun e w' => e = .returned (.bool true) ∧ Below w.heap.size w w' := by
  subst hz
  exact rsame_zero B d B' d' w hv
theorem rsame_eq {t u : T} (hu : t = u) (A : Option Addr) (c : Nat) (A' : Option Addr) (c' : Nat) (B : Option Addr) (d : Nat) (B' : Option Addr) (d' : Nat) (w : World) (ht : t.size ≤ 100000) (hs : t.Small) (hv : TV w (· < w.heap.size) t A c A' c') (hw : TV w (· < w.heap.size) u B d B' d') :
    Calls Try.prog 17 #[.agg #[.int .i64 t.kind, .bool t.tr, .int .i64 t.num, .string t.str, .slice A t.items.length c, .slice A' t.keys.length c'], .agg #[.int .i64 u.kind, .bool u.tr, .int .i64 u.num, .string u.str, .slice B u.items.length d, .slice B' u.keys.length d']] w fun e w' => e = .returned (.bool true) ∧ Below w.heap.size w w' := by
  subst hu
  exact rsame_cells t A c A' c' B d B' d' w ht hs hv hw

set_option maxRecDepth 100000 in
set_option maxHeartbeats 16000000 in
theorem walk (l : List ByteArray) (A : Option Addr) (c : Nat) (a : Option Addr) (n c1 : Nat) (x2 : Int) (w : World) (hlc : l.length ≤ c) (hcm : c ≤ maxLen) (hr : SReads w (· < w.heap.size) A l) (hz : ∀ s ∈ l, s.size ≤ maxLen) (hnc : n ≤ c1) (hcm1 : c1 ≤ maxLen) (hN : Nodes w (· < w.heap.size) a n) (hx0 : 0 ≤ x2) (hx1 : x2 < 256) :
    Calls Try.prog 4 #[.slice A l.length c, .slice a n c1, .int .u8 x2] w fun e w' => e = .returned (.bool true) ∧ Below w.heap.size w w' := by
  have HN := Lib.hid hN
  have HR := Lib.hid hr
  obtain ⟨i1, hi1, hy0, hy1, hy2⟩ := info_parts infoVal
  clear hN hr hz
  by_cases h12 : l.length ≤ 12
  · have t0 : decide ((12 : Int) < (l.length : Int)) = false := decide_eq_false (by omega)
    have t0' : decide (12 < l.length) = false := decide_eq_false (by omega)
    obtain ⟨m3, hm3, hm3'⟩ : ∃ m : Nat, x2 % 3 = (m : Int) ∧ m < 3 := ⟨(x2 % 3).toNat, by omega, by omega⟩
    obtain ⟨N, hNe, hN12⟩ : ∃ N : Nat, min ((l.length : Int) + (m3 : Int)) 12 = (N : Int) ∧ N ≤ 12 := ⟨min (l.length + m3) 12, by omega, by omega⟩
    go_enter Try.func4, Try.ntmps4
    go_wp2_with fail
    refine (awake_any _).mono ?_
    rintro e w1 ⟨rfl, hb1⟩
    have H1 := Lib.hid hb1
    have HR1 := Lib.hid (HR.out.on hb1)
    clear hb1
    go_wp2_with fail
    go_loop [31] (fun i => ∃ k : Nat, k ≤ l.length ∧ i = .int .i64 k ∧ Hid (∀ (j : Nat) (s : ByteArray), j < k → l[j]? = some s → s.size ≤ 60)) (fun i => l.length - (intOf i).toNat)
    case atStart => exact ⟨0, Nat.zero_le _, rfl, Lib.hid (fun j s hj => absurd hj (by omega))⟩
    case round =>
      obtain ⟨k, hk, rfl, h60⟩ := hrel
      have H60 := Lib.hid (show ∀ (j : Nat) (s : ByteArray), j < k → l[j]? = some s → s.size ≤ 60 from h60.out)
      clear h60
      by_cases hlt : k < l.length
      · have v1 : decide (k < l.length) = true := decide_eq_true hlt
        obtain ⟨b, o, s, rfl, hb, hs, hc⟩ := HR1.out.at_ hlt
        have HS := Lib.hid hs
        clear hs
        by_cases hs60 : s.size ≤ 60
        · have v2 : decide ((60 : Int) < (s.size : Int)) = false := decide_eq_false (by omega)
          have v2' : decide (60 < s.size) = false := decide_eq_false (by omega)
          go_wp2_with fail
          go_round
          case rel =>
            refine ⟨k + 1, hlt, by go_num, Lib.hid (fun j q hj hq => ?_)⟩
            rcases Nat.lt_or_ge j k with h1 | h1
            · exact H60.out j q h1 hq
            · obtain rfl : j = k := by omega
              rw [HS.out] at hq; injection hq with hq; exact hq ▸ hs60
          case measure => simp [intOf]; omega
        · have v2 : decide ((60 : Int) < (s.size : Int)) = true := decide_eq_true (by omega)
          have v2' : decide (60 < s.size) = true := decide_eq_true (by omega)
          go_wp2_with fail
          go_ret
          exact ⟨rfl, H1.out⟩
      · obtain rfl : l.length = k := by omega
        have H60a := H60
        go_wp2_with fail
        refine (tree_any a n c1 _ hnc hcm1 (HN.out.on H1.out)).mono ?_
        rintro e w2 ⟨t, B, d, B', d', rfl, hnice, htv, hb2⟩
        have H2 := Lib.hid (H1.out.trans (hb2.mono H1.out.size))
        have HT := Lib.hid htv
        have hsz := hnice.le
        have HNI := Lib.hid hnice
        clear hb2 htv hnice
        unfold T.agg
        go_upto_region 10 with fail
        have hW : Below w.heap.size w (w2.alloc (.cells #[.int .i64 t.kind, .bool t.tr, .int .i64 t.num, .string t.str, .slice B t.items.length d, .slice B' t.keys.length d'] 30)) := H2.out.alloc H2.out.size _
        have hB : Blk (w2.alloc (.cells #[.int .i64 t.kind, .bool t.tr, .int .i64 t.num, .string t.str, .slice B t.items.length d, .slice B' t.keys.length d'] 30)) w2.heap.size 30 #[.int .i64 t.kind, .bool t.tr, .int .i64 t.num, .string t.str, .slice B t.items.length d, .slice B' t.keys.length d'] := Blk.new w2 _ _
        have hT : TV (w2.alloc (.cells #[.int .i64 t.kind, .bool t.tr, .int .i64 t.num, .string t.str, .slice B t.items.length d, .slice B' t.keys.length d'] 30)) (· < (w2.alloc (.cells #[.int .i64 t.kind, .bool t.tr, .int .i64 t.num, .string t.str, .slice B t.items.length d, .slice B' t.keys.length d'] 30)).heap.size) t B d B' d' := HT.out.on ((Below.refl _ _).alloc (Nat.le_refl _) _)
        change Code.wp _ _ _ _ (w2.alloc (.cells #[.int .i64 t.kind, .bool t.tr, .int .i64 t.num, .string t.str, .slice B t.items.length d, .slice B' t.keys.length d'] 30))
        generalize (w2.alloc (.cells #[.int .i64 t.kind, .bool t.tr, .int .i64 t.num, .string t.str, .slice B t.items.length d, .slice B' t.keys.length d'] 30)) = W at *
        clear HT H2 H1 HR1
        have HW := Lib.hid hW
        have HT := Lib.hid hT
        have HB := Lib.hid hB
        have HRW := Lib.hid (HR.out.on hW)
        generalize w2.heap.size = G at *
        clear hW hT hB w2
        go_wp2_with fail
        clear hm3 hNe
        go_loopw [10, 48] (fun s10 i wr => ∃ (k : Nat) (A2 : Option Addr) (d2 : Nat) (xs : List Value), k ≤ N ∧ i = .int .i64 k ∧ s10 = .slice A2 k d2 ∧ Coll 34 wr W.heap.size (fun _ => False) (List.replicate k t) (.slice A2 k d2) xs ∧ Below W.heap.size W wr) (fun _ i _ => N - (intOf i).toNat)
        case atStart => exact ⟨0, none, 0, [], Nat.zero_le _, rfl, rfl, Coll.nil _ _ _ _, Below.refl _ _⟩
        case round =>
          obtain ⟨k, A2, d2, xs, hk, rfl, rfl, hcoll, hbel⟩ := hrel
          have Hcoll := Lib.hid hcoll
          have Hbel := Lib.hid hbel
          have hbw := HB.out.onto hbel
          have a0 : wr.cell? ⟨G, 0, none⟩ = some (.int .i64 t.kind) := hbw.cell 0
          have a1 : wr.cell? ⟨G, 1, none⟩ = some (.bool t.tr) := hbw.cell 1
          have a2 : wr.cell? ⟨G, 2, none⟩ = some (.int .i64 t.num) := hbw.cell 2
          have a3 : wr.cell? ⟨G, 3, none⟩ = some (.string t.str) := hbw.cell 3
          have a4 : wr.cell? ⟨G, 4, none⟩ = some (.slice B t.items.length d) := hbw.cell 4
          have a5 : wr.cell? ⟨G, 5, none⟩ = some (.slice B' t.keys.length d') := hbw.cell 5
          clear hcoll hbel hbw
          by_cases hlt2 : k < N
          · have v1 : decide (k < N) = true := decide_eq_true hlt2
            go_wp2_with fail
            refine (real_cells t B d B' d' _ hsz HNI.out.small (HT.out.on Hbel.out)).mono ?_
            rintro e w3 ⟨C, f, C', f', rfl, hT3, hb3⟩
            unfold T.agg
            have hc3 := Hcoll.out.onto hb3
            have hlen : (List.replicate k t).length = k := List.length_replicate
            have ho3 := hc3.2.1
            rw [hlen] at ho3
            have HT3 := Lib.hid (show TV w3 (fun b => b < w3.heap.size ∧ ¬ False ∧ some b ≠ (Value.slice A2 k d2).ownBlock) t C f C' f' from hT3.wide fun b hb => ⟨hb.2, fun h => h, fun e1 => by
              have := Hcoll.out.2.1.lt b e1.symm
              omega⟩)
            have Hc3 := Lib.hid hc3
            have Ho3 := Lib.hid ho3
            have Hb3 := Lib.hid (Hbel.out.trans (hb3.mono Hbel.out.size))
            have hw3 := Hb3.out.size
            clear hT3 hb3 hc3 ho3 a0 a1 a2 a3 a4 a5
            go_wp2_with (at_builtin
                         refine app_list ?_ (.tmp 50) (.tmp 53) 32 ?_ W.heap.size 34 i1 (.agg #[.int .i64 0, .bool false, .int .i64 0, .string ⟨#[]⟩, .slice none 0 0, .slice none 0 0]) 6 88 Try.underlying32 hi1 hy0 hy1 hy2 ?_ ?_ (.slice A2 k d2) k xs ?_ ?_ (some ⟨w3.heap.size, 0, none⟩) 1 1 (t.cs C f C' f').toList ?_ ?_ cs_one ?_ ?_ ?_ (k + 1) ?_ ?_
                         · rfl
                         · rfl
                         · rfl
                         · decide
                         · rfl
                         · exact Ho3.out.alloc _
                         · rfl
                         · exact src_of_cs (Blk.new w3 34 _)
                         · unfold maxLen; omega
                         · omega
                         · simp; omega
                         · rfl
                         intro A3 d3 w4 ho4 hg4 hat4
                         have Ho4 := Lib.hid ho4
                         have Hg4 := Lib.hid hg4
                         have Hat4 := Lib.hid hat4
                         clear ho4 hg4 hat4)
            go_roundw
            case rel =>
              have hc4 := Hc3.out.app_new HT3.out (fun h => h) (by rw [hlen]) Ho4.out Hg4.out Hat4.out
              rw [← List.replicate_succ'] at hc4
              have hb4 := (Hb3.out.alloc Hb3.out.size (.cells (t.cs C f C' f') 34)).grown Hg4.out (by simp; omega) (fun b hb => by have := (Ho3.out.lt b hb).1; omega)
              first
                | exact ⟨k + 1, A3, d3, _, hlt2, by go_num, rfl, hc4, hb4⟩
                | ((repeat apply Exists.intro); exact ⟨⟨k + 1, A3, d3, _, hlt2, by go_num, rfl, hc4, hb4⟩, rfl⟩)
            case measure => simp [intOf]; omega
          · obtain rfl : N = k := by omega
            have v1 : decide (N < N) = false := decide_eq_false (by omega)
            clear a0 a1 a2 a3 a4 a5
            have HRr := Lib.hid (HRW.out.on Hbel.out)
            have HV := Lib.hid (Hcoll.out.vreads.2.2.wide fun b hb => hb.1)
            go_wp2_with fail
            refine (obj_res l t N _ c A2 d2 _ h12 hN12 HRr.out HNI.out HV.out).mono ?_
            rintro e w5 ⟨vt, ve, E, g, E', g', rfl, hvt, hb5, hfin, hv0, hv1⟩
            have H5 := Lib.hid (Hbel.out.trans (hb5.mono Hbel.out.size))
            have HVT := Lib.hid hvt
            have HFIN := Lib.hid hfin
            have HV0 := Lib.hid hv0
            have HV1 := Lib.hid hv1
            clear hvt hb5 hfin hv0 hv1 Hcoll Hbel HRr HV
            go_upto_region 17 with fail
            have hX : Below W.heap.size W ((w5.alloc (.cells #[.int .i64 vt.kind, .bool vt.tr, .int .i64 vt.num, .string vt.str, .slice E vt.items.length g, .slice E' vt.keys.length g'] 34)).alloc (.cells #[.int .i64 5, .bool false, .int .i64 0, .string ⟨#[]⟩, .slice none 0 0, .slice none 0 0] 30)) := (H5.out.alloc H5.out.size _).alloc (by have := H5.out.size; simp; omega) _
            have h5V : Below w5.heap.size w5 ((w5.alloc (.cells #[.int .i64 vt.kind, .bool vt.tr, .int .i64 vt.num, .string vt.str, .slice E vt.items.length g, .slice E' vt.keys.length g'] 34)).alloc (.cells #[.int .i64 5, .bool false, .int .i64 0, .string ⟨#[]⟩, .slice none 0 0, .slice none 0 0] 30)) := ((Below.refl _ _).alloc (Nat.le_refl _) _).alloc (by simp) _
            have hB11 : Blk ((w5.alloc (.cells #[.int .i64 vt.kind, .bool vt.tr, .int .i64 vt.num, .string vt.str, .slice E vt.items.length g, .slice E' vt.keys.length g'] 34)).alloc (.cells #[.int .i64 5, .bool false, .int .i64 0, .string ⟨#[]⟩, .slice none 0 0, .slice none 0 0] 30)) w5.heap.size 34 #[.int .i64 vt.kind, .bool vt.tr, .int .i64 vt.num, .string vt.str, .slice E vt.items.length g, .slice E' vt.keys.length g'] := (Blk.new w5 _ _).alloc _
            have hB13 : Blk ((w5.alloc (.cells #[.int .i64 vt.kind, .bool vt.tr, .int .i64 vt.num, .string vt.str, .slice E vt.items.length g, .slice E' vt.keys.length g'] 34)).alloc (.cells #[.int .i64 5, .bool false, .int .i64 0, .string ⟨#[]⟩, .slice none 0 0, .slice none 0 0] 30)) (w5.heap.size + 1) 30 #[.int .i64 5, .bool false, .int .i64 0, .string ⟨#[]⟩, .slice none 0 0, .slice none 0 0] := by
              have := Blk.new (w5.alloc (.cells #[.int .i64 vt.kind, .bool vt.tr, .int .i64 vt.num, .string vt.str, .slice E vt.items.length g, .slice E' vt.keys.length g'] 34)) 30 #[.int .i64 5, .bool false, .int .i64 0, .string ⟨#[]⟩, .slice none 0 0, .slice none 0 0]
              simpa using this
            change Code.wp _ _ _ _ ((w5.alloc (.cells #[.int .i64 vt.kind, .bool vt.tr, .int .i64 vt.num, .string vt.str, .slice E vt.items.length g, .slice E' vt.keys.length g'] 34)).alloc (.cells #[.int .i64 5, .bool false, .int .i64 0, .string ⟨#[]⟩, .slice none 0 0, .slice none 0 0] 30))
            generalize ((w5.alloc (.cells #[.int .i64 vt.kind, .bool vt.tr, .int .i64 vt.num, .string vt.str, .slice E vt.items.length g, .slice E' vt.keys.length g'] 34)).alloc (.cells #[.int .i64 5, .bool false, .int .i64 0, .string ⟨#[]⟩, .slice none 0 0, .slice none 0 0] 30)) = V at *
            have HWV := Lib.hid hX
            have HB11 := Lib.hid hB11
            have HB13 := Lib.hid hB13
            have HVTV := Lib.hid ((HVT.out.under h5V).wide (S' := fun b => b < w5.heap.size) fun b hb => hb)
            have hl13 := hB13.lt
            have hWK := H5.out.size
            clear hX hB11 hB13 h5V H5 HVT
            generalize w5.heap.size = K at *
            clear w5
            obtain ⟨cc, hMid⟩ : ∃ cc : Int, Mid l N 0 cc ∧ ((N = l.length ∧ cc = 0 ∧ ((N : Int) != (l.length : Int)) = false) ∨ (cc = 1 ∧ ((N : Int) != (l.length : Int)) = true)) := by
              by_cases hn : N = l.length
              · exact ⟨0, .inr (.inr ⟨hn, rfl, fun j s hj => absurd hj (by omega)⟩), .inl ⟨hn, rfl, by simp; omega⟩⟩
              · exact ⟨1, .inl ⟨hn, rfl⟩, .inr ⟨rfl, by simp; omega⟩⟩
            have HMid := Lib.hid hMid
            clear hMid
            go_upto_if 67 with fail
            go_cut [14] (fun s14 wy => s14 = .int .i64 cc ∧ wy = V)
            case first =>
              obtain ⟨_, ⟨hq1, rfl, hn⟩ | ⟨rfl, hn⟩⟩ := HMid.out
              · clear hq1
                go_wp2_with fail
                go_meet
                exact ⟨rfl, rfl⟩
              · go_wp2_with fail
                go_meet
                exact ⟨rfl, rfl⟩
            case rest =>
              obtain ⟨rfl, rfl⟩ := hcut
              have HM0 := Lib.hid HMid.out.1
              clear HMid
              go_wp2_with fail
              go_loopw [14, 70] (fun s14 i wr => ∃ (k : Nat) (c3 : Int), k ≤ l.length ∧ i = .int .i64 k ∧ s14 = .int .i64 c3 ∧ Hid (Mid l N k c3) ∧ Below wc.heap.size wc wr) (fun _ i _ => l.length - (intOf i).toNat)
              case atStart => exact ⟨0, cc, Nat.zero_le _, rfl, rfl, Lib.hid HM0.out, Below.refl _ _⟩
              case round =>
                clear HM0
                obtain ⟨k, c3, hk3, rfl, rfl, HM, hbel⟩ := hrel
                have Hbel := Lib.hid hbel
                clear hbel
                by_cases hlt3 : k < l.length
                · have v1 : decide (k < l.length) = true := decide_eq_true hlt3
                  obtain ⟨b, o, s, rfl, hb, hs, hc⟩ := (HR.out.on ((HW.out.trans (HWV.out.mono HW.out.size)).trans (Hbel.out.mono (HW.out.trans (HWV.out.mono HW.out.size)).size))).at_ hlt3
                  have HS := Lib.hid hs
                  clear hs
                  by_cases hc0 : c3 = 0
                  · subst hc0
                    by_cases hok : okText s
                    · have Hok := Lib.hid hok
                      clear hok
                      go_wp2_with fail
                      refine (rval_yes s _ Hok.out (by have := H60a.out k s hlt3 HS.out; omega)).mono ?_
                      rintro e w6 ⟨rfl, hb6⟩
                      have Hb6 := Lib.hid (Hbel.out.trans (hb6.mono Hbel.out.size))
                      clear hb6
                      go_wp2_with fail
                      go_roundw
                      case rel => exact ⟨k + 1, 0, hlt3, by go_num, rfl, Lib.hid (HM.out.ok HS.out Hok.out), Hb6.out⟩
                      case measure => simp [intOf]; omega
                    · have Hok := Lib.hid hok
                      clear hok
                      go_wp2_with fail
                      refine (rval_no s _ Hok.out (by have := H60a.out k s hlt3 HS.out; omega)).mono ?_
                      rintro e w6 ⟨rfl, hb6⟩
                      have Hb6 := Lib.hid (Hbel.out.trans (hb6.mono Hbel.out.size))
                      clear hb6
                      go_wp2_with fail
                      go_roundw
                      case rel => exact ⟨k + 1, 2, hlt3, by go_num, rfl, Lib.hid (HM.out.bad HS.out Hok.out), Hb6.out⟩
                      case measure => simp [intOf]; omega
                  · have v3 : (c3 == 0) = false := by rw [beq_eq_false_iff_ne]; exact hc0
                    have HC0 := Lib.hid hc0
                    clear hc0
                    go_wp2_with fail
                    go_roundw
                    case rel => exact ⟨k + 1, c3, hlt3, by go_num, rfl, Lib.hid (HM.out.skip HC0.out), Hbel.out⟩
                    case measure => simp [intOf]; omega
                · obtain rfl : l.length = k := by omega
                  have v1 : decide (l.length < l.length) = false := decide_eq_false (by omega)
                  obtain ⟨wo, rfl⟩ : ∃ wo : World, wo = wr := ⟨_, rfl⟩
                  have HL0 := Lib.hid (show Last l N t (K + 1) 0 c3 wo from by
                    refine ⟨T.ofObj [] [], none, 0, none, 0, HB13.out.onto Hbel.out, TV.leaf _ _ rfl rfl, ?_⟩
                    rcases HM.out.done with ⟨h1, h2⟩ | ⟨h1, h2, h3⟩
                    · exact .inl ⟨h1, h2⟩
                    · exact .inr ⟨h1, h2, h3, by simp, by rw [List.take_zero]; exact (objR_nil t).symm⟩)
                  clear HM
                  go_wp2_with fail
                  go_loopw [14, 84] (fun s14 i wx => ∃ (k : Nat) (c4 : Int), k ≤ l.length ∧ i = .int .i64 k ∧ s14 = .int .i64 c4 ∧ Hid (Last l N t (K + 1) k c4 wx) ∧ Below (K + 1) wc wx) (fun _ i _ => l.length - (intOf i).toNat)
                  case atStart => exact ⟨0, c3, Nat.zero_le _, rfl, rfl, Lib.hid HL0.out, Hbel.out.mono (by omega)⟩
                  case round =>
                    clear HL0 Hbel v1
                    obtain ⟨k, c4, hk4, rfl, rfl, HL, hbel⟩ := hrel
                    have Hbel := Lib.hid hbel
                    have HW4 := Lib.hid (HW.out.trans ((HWV.out.trans (hbel.mono (by have := HWV.out.size; omega))).mono HW.out.size))
                    obtain ⟨u, X, x1, X', x1', hu13, hut, hcase⟩ := HL.out
                    have HU13 := Lib.hid hu13
                    have HUT := Lib.hid hut
                    have HCA := Lib.hid hcase
                    have hltu := hu13.lt
                    have hKl := hbel.size
                    have y0 : wr.cell? ⟨K + 1, 0, none⟩ = some (.int .i64 u.kind) := hu13.cell 0
                    have y1 : wr.cell? ⟨K + 1, 1, none⟩ = some (.bool u.tr) := hu13.cell 1
                    have y2 : wr.cell? ⟨K + 1, 2, none⟩ = some (.int .i64 u.num) := hu13.cell 2
                    have y3 : wr.cell? ⟨K + 1, 3, none⟩ = some (.string u.str) := hu13.cell 3
                    have y4 : wr.cell? ⟨K + 1, 4, none⟩ = some (.slice X u.items.length x1) := hu13.cell 4
                    have y5 : wr.cell? ⟨K + 1, 5, none⟩ = some (.slice X' u.keys.length x1') := hu13.cell 5
                    have hBt := HB.out.on ((HWV.out.trans (hbel.mono (by have := HWV.out.size; omega)))) HB.out.lt
                    have a0 : wr.cell? ⟨G, 0, none⟩ = some (.int .i64 t.kind) := hBt.cell 0
                    have a1 : wr.cell? ⟨G, 1, none⟩ = some (.bool t.tr) := hBt.cell 1
                    have a2 : wr.cell? ⟨G, 2, none⟩ = some (.int .i64 t.num) := hBt.cell 2
                    have a3 : wr.cell? ⟨G, 3, none⟩ = some (.string t.str) := hBt.cell 3
                    have a4 : wr.cell? ⟨G, 4, none⟩ = some (.slice B t.items.length d) := hBt.cell 4
                    have a5 : wr.cell? ⟨G, 5, none⟩ = some (.slice B' t.keys.length d') := hBt.cell 5
                    have hB11 := HB11.out.on hbel (show K < K + 1 by omega)
                    have HB11r := Lib.hid hB11
                    clear hbel hu13 hut hcase HL hBt
                    by_cases hlt4 : k < l.length
                    · have v1 : decide (k < l.length) = true := decide_eq_true hlt4
                      obtain ⟨b, o, s, rfl, hb, hs, hc⟩ := (HR.out.on HW4.out).at_ hlt4
                      have HS := Lib.hid hs
                      clear hs hB11
                      by_cases hc0 : c4 = 0
                      · subst hc0
                        obtain ⟨hNl, hat, hnd, hu⟩ : N = l.length ∧ AllText l ∧ (l.take k).Nodup ∧ u = objR (l.take k) t := by
                          rcases HCA.out with ⟨h, _⟩ | ⟨_, h1, h2, h3, h4⟩
                          · exact absurd rfl h
                          · exact ⟨h1, h2, h3, h4⟩
                        have HNL := Lib.hid hNl
                        have HAT := Lib.hid hat
                        have HND := Lib.hid hnd
                        have HU := Lib.hid hu
                        have hkl : u.keys.length ≤ 100000 := by rw [hu]; show (srt (l.take k)).length ≤ 100000; rw [srt_len, List.length_take]; omega
                        have hil : u.items.length = u.keys.length := by rw [hu]; show (List.replicate (l.take k).length t).length = (srt (l.take k)).length; rw [srt_len, List.length_replicate]
                        have HIL := Lib.hid hil
                        have HXT := Lib.hid (show TV wr (fun b => b < wr.heap.size ∧ b ≠ K + 1) t B d B' d' from (HT.out.keep fun b hb => by
                          have h1 := HWV.out.size
                          exact ((Hbel.out.block b (by have h2 : b < W.heap.size := hb; omega)).trans (HWV.out.block b hb))).wide fun b hb => by have h1 := HWV.out.size; have h2 : b < W.heap.size := hb; omega)
                        clear hNl hat hnd hu hil HCA
                        go_wp2_with fail
                        refine (put_res (fun b => b < wr.heap.size ∧ b ≠ K + 1) u t X x1 X' x1' B d B' d' s _ hkl HIL.out (fun b hb => hb.1) HUT.out HXT.out).mono ?_
                        rintro e w6 ⟨u', bb, E6, g6, E6', g6', rfl, ht6, hb6, hcs⟩
                        have H6 := Lib.hid hb6
                        have HT6 := Lib.hid ht6
                        have HCS := Lib.hid hcs
                        have hk6 := HU13.out.onto hb6
                        have HK6 := Lib.hid hk6
                        have hz6 := hb6.size
                        clear y0 y1 y2 y3 y4 y5 a0 a1 a2 a3 a4 a5 hb6 ht6 hcs
                        have s0 : w6.cell? ⟨K + 1, 0, none⟩ = some (.int .i64 u.kind) := hk6.cell 0
                        have s1 : w6.cell? ⟨K + 1, 1, none⟩ = some (.bool u.tr) := hk6.cell 1
                        have s2 : w6.cell? ⟨K + 1, 2, none⟩ = some (.int .i64 u.num) := hk6.cell 2
                        have s3 : w6.cell? ⟨K + 1, 3, none⟩ = some (.string u.str) := hk6.cell 3
                        have s4 : w6.cell? ⟨K + 1, 4, none⟩ = some (.slice X u.items.length x1) := hk6.cell 4
                        have s5 : w6.cell? ⟨K + 1, 5, none⟩ = some (.slice X' u.keys.length x1') := hk6.cell 5
                        have fs0 := hk6.free 0
                        have fs1 := hk6.free 1
                        have fs2 := hk6.free 2
                        have fs3 := hk6.free 3
                        have fs4 := hk6.free 4
                        have fs5 := hk6.free 5
                        clear hk6
                        have hkw : K + 1 < w6.heap.size := by omega
                        have hKr : K + 1 ≤ wr.heap.size := by omega
                        rcases HCS.out with ⟨hbb, h2, h3⟩ | ⟨hbb, h2, h3⟩
                        · subst hbb
                          have HL6 := Lib.hid (fun o => Last.of (l := l) (N := N) (t := t) (k := k + 1) (c := 0) (o := o) HK6.out rfl HT6.out hltu hz6 (.inr ⟨rfl, HNL.out, HAT.out, (nodup_put HND.out HS.out (by rw [← HU.out]; exact h3)).1, by rw [h2, HU.out]; exact (nodup_put HND.out HS.out (by rw [← HU.out]; exact h3)).2⟩))
                          clear h2 h3 HCS HNL
                          go_wp2_with fail
                          go_roundw
                          case rel => exact ⟨k + 1, 0, hlt4, by go_num, rfl, Lib.hid (HL6.out _), (((((((Hbel.out.trans (H6.out.mono hKr)).setCell (Nat.le_refl _) _).setCell (Nat.le_refl _) _).setCell (Nat.le_refl _) _).setCell (Nat.le_refl _) _).setCell (Nat.le_refl _) _).setCell (Nat.le_refl _) _).alloc (by simp [World.setCell]; omega) _⟩
                          case measure => simp [intOf]; omega
                        · subst hbb
                          have HL6 := Lib.hid (fun o => Last.of (l := l) (N := N) (t := t) (k := k + 1) (c := 5) (o := o) HK6.out rfl HT6.out hltu hz6 (.inl ⟨by decide, .inr (.inr (.inl ⟨HNL.out, HAT.out, twice_put HS.out (by rw [← HU.out]; exact h3), rfl⟩))⟩))
                          clear h2 h3 HCS HNL
                          go_wp2_with fail
                          go_roundw
                          case rel => exact ⟨k + 1, 5, hlt4, by go_num, rfl, Lib.hid (HL6.out _), (((((((Hbel.out.trans (H6.out.mono hKr)).setCell (Nat.le_refl _) _).setCell (Nat.le_refl _) _).setCell (Nat.le_refl _) _).setCell (Nat.le_refl _) _).setCell (Nat.le_refl _) _).setCell (Nat.le_refl _) _).alloc (by simp [World.setCell]; omega) _⟩
                          case measure => simp [intOf]; omega
                      · have v3 : (c4 == 0) = false := by rw [beq_eq_false_iff_ne]; exact hc0
                        have HC0 := Lib.hid hc0
                        clear hc0 y0 y1 y2 y3 y4 y5 a0 a1 a2 a3 a4 a5
                        go_wp2_with fail
                        go_roundw
                        case rel => exact ⟨k + 1, c4, hlt4, by go_num, rfl, Lib.hid ⟨u, X, x1, X', x1', HU13.out, HUT.out, .inl (by
                          rcases HCA.out with h | ⟨h, _⟩
                          · exact h
                          · exact absurd h HC0.out)⟩, Hbel.out⟩
                        case measure => simp [intOf]; omega
                    · obtain rfl : l.length = k := by omega
                      have v1 : decide (l.length < l.length) = false := decide_eq_false (by omega)
                      have x0 : wr.cell? ⟨K, 0, none⟩ = some (.int .i64 vt.kind) := hB11.cell 0
                      have x1a : wr.cell? ⟨K, 1, none⟩ = some (.bool vt.tr) := hB11.cell 1
                      have x2a : wr.cell? ⟨K, 2, none⟩ = some (.int .i64 vt.num) := hB11.cell 2
                      have x3 : wr.cell? ⟨K, 3, none⟩ = some (.string vt.str) := hB11.cell 3
                      have x4 : wr.cell? ⟨K, 4, none⟩ = some (.slice E vt.items.length g) := hB11.cell 4
                      have x5 : wr.cell? ⟨K, 5, none⟩ = some (.slice E' vt.keys.length g') := hB11.cell 5
                      have HVr := Lib.hid (show TV wr (· < K) vt E g E' g' from HVTV.out.keep fun b hb => Hbel.out.block b (by have h2 : b < K := hb; omega))
                      have hKw : K ≤ wr.heap.size := by omega
                      clear hB11 a0 a1 a2 a3 a4 a5
                      by_cases hc0 : c4 = 0
                      · subst hc0
                        obtain ⟨hNl, hat, hnd, hu⟩ : N = l.length ∧ AllText l ∧ (l.take l.length).Nodup ∧ u = objR (l.take l.length) t := by
                          rcases HCA.out with ⟨h, _⟩ | ⟨_, h1, h2, h3, h4⟩
                          · exact absurd rfl h
                          · exact ⟨h1, h2, h3, h4⟩
                        rw [List.take_length] at hnd hu
                        have hve : ve = 0 := HFIN.out.uniq (.inr (.inr (.inr ⟨hNl, hat, hnd, rfl⟩)))
                        have hvt := HV1.out hve
                        subst hve
                        have HVU := Lib.hid (hvt.trans hu.symm)
                        have hvs : vt.size ≤ 100000 := by rw [hvt]; exact objR_le HNI.out h12
                        have HVS := Lib.hid (show vt.Small by rw [hvt]; exact objR_small HNI.out h12)
                        clear hNl hat hnd hu hvt HCA
                        go_wp2_with fail
                        have HSS := Lib.hid (show ∀ w', Below wr.heap.size wr w' → (w'.cell? ⟨K, 0, none⟩ = some (.int .i64 vt.kind) ∧ w'.cell? ⟨K, 1, none⟩ = some (.bool vt.tr) ∧ w'.cell? ⟨K, 2, none⟩ = some (.int .i64 vt.num) ∧ w'.cell? ⟨K, 3, none⟩ = some (.string vt.str) ∧ w'.cell? ⟨K, 4, none⟩ = some (.slice E vt.items.length g) ∧ w'.cell? ⟨K, 5, none⟩ = some (.slice E' vt.keys.length g')) ∧ w'.cell? ⟨K + 1, 0, none⟩ = some (.int .i64 u.kind) ∧ w'.cell? ⟨K + 1, 1, none⟩ = some (.bool u.tr) ∧ w'.cell? ⟨K + 1, 2, none⟩ = some (.int .i64 u.num) ∧ w'.cell? ⟨K + 1, 3, none⟩ = some (.string u.str) ∧ w'.cell? ⟨K + 1, 4, none⟩ = some (.slice X u.items.length x1) ∧ w'.cell? ⟨K + 1, 5, none⟩ = some (.slice X' u.keys.length x1') from fun w' hb => by
                          have k1 := HB11r.out.onto hb
                          have k3 := HU13.out.onto hb
                          exact ⟨⟨k1.cell 0, k1.cell 1, k1.cell 2, k1.cell 3, k1.cell 4, k1.cell 5⟩, k3.cell 0, k3.cell 1, k3.cell 2, k3.cell 3, k3.cell 4, k3.cell 5⟩)
                        have HBc := Lib.hid (Below.refl wr.heap.size wr)
                        go_region_held3 (fun w' => (w'.cell? ⟨K, 0, none⟩ = some (.int .i64 vt.kind) ∧ w'.cell? ⟨K, 1, none⟩ = some (.bool vt.tr) ∧ w'.cell? ⟨K, 2, none⟩ = some (.int .i64 vt.num) ∧ w'.cell? ⟨K, 3, none⟩ = some (.string vt.str) ∧ w'.cell? ⟨K, 4, none⟩ = some (.slice E vt.items.length g) ∧ w'.cell? ⟨K, 5, none⟩ = some (.slice E' vt.keys.length g')) ∧ w'.cell? ⟨K + 1, 0, none⟩ = some (.int .i64 u.kind) ∧ w'.cell? ⟨K + 1, 1, none⟩ = some (.bool u.tr) ∧ w'.cell? ⟨K + 1, 2, none⟩ = some (.int .i64 u.num) ∧ w'.cell? ⟨K + 1, 3, none⟩ = some (.string u.str) ∧ w'.cell? ⟨K + 1, 4, none⟩ = some (.slice X u.items.length x1) ∧ w'.cell? ⟨K + 1, 5, none⟩ = some (.slice X' u.keys.length x1'))
                          (first
                            | with_reducible exact HSS.out _ HBc.out
                            | with_reducible exact HSS.out _ (below_drewN HBc.out _)
                            | exact HSS.out _ HBc.out.drew
                            | go_keep)
                          (first
                            | (go_at_call 18
                               with_reducible refine (ref_cells wr.heap.size vt E g E' g' _ hvs ?_ ?_).mono ?_
                               · exact (show Below wr.heap.size wr _ from (by first | with_reducible exact HBc.out | with_reducible exact below_drewN HBc.out _ | exact HBc.out.drew)).size
                               · exact (HVr.out.wide fun b hb => by have h2 : b < K := hb; show b < wr.heap.size; omega).under (show Below wr.heap.size wr _ from (by first | with_reducible exact HBc.out | with_reducible exact below_drewN HBc.out _ | exact HBc.out.drew))
                               rintro e7 w7 ⟨L, m, L', m', rfl, hL, hb7⟩
                               unfold T.agg
                               have HBc := Lib.hid (show Below wr.heap.size wr w7 from by first | with_reducible exact HBc.out.trans (hb7.mono HBc.out.size) | with_reducible exact (below_drewN HBc.out _).trans (hb7.mono HBc.out.size) | exact HBc.out.drew.trans (hb7.mono HBc.out.size))
                               have HL7 := Lib.hid (show TV w7 (· < w7.heap.size) vt L m L' m' from hL.wide fun b hb => by have h1 := HBc.out.size; have h2 := hb; show b < w7.heap.size; rcases h2 with h2 | h2 <;> omega)
                               have HBr := Lib.hid (Below.refl w7.heap.size w7)
                               clear hL hb7)
                            | (go_at_call 17
                               with_reducible refine (rsame_eq HVU.out L m L' m' X x1 X' x1' _ hvs HVS.out (HL7.out.on ?_) ?_).mono ?_
                               · exact (by first | with_reducible exact HBr.out | with_reducible exact below_drewN HBr.out _ | exact HBr.out.drew)
                               · exact (HUT.out.wide fun b hb => hb.1 : TV wr (· < wr.heap.size) u X x1 X' x1').on (by first | with_reducible exact HBc.out | with_reducible exact below_drewN HBc.out _ | exact HBc.out.drew)
                               rintro e8 w8 ⟨rfl, hb8⟩
                               have HBc := Lib.hid (show Below wr.heap.size wr w8 from by first | with_reducible exact HBc.out.trans (hb8.mono HBc.out.size) | with_reducible exact (below_drewN HBc.out _).trans (hb8.mono HBc.out.size) | exact HBc.out.drew.trans (hb8.mono HBc.out.size))
                               clear hb8))
                        all_goals
                          go_wp2_with fail
                          go_ret
                          exact ⟨rfl, HW4.out.trans (HBc.out.mono HW4.out.size)⟩
                      · have hfin : Fin l N c4 := by
                          rcases HCA.out with h | ⟨h, _⟩
                          · exact h.2
                          · exact absurd h hc0
                        have hve : ve = c4 := HFIN.out.uniq hfin
                        subst hve
                        have HVZ := Lib.hid (HV0.out hc0)
                        have v3 : (ve == 0) = false := by rw [beq_eq_false_iff_ne]; exact hc0
                        have v4 : (ve != 0) = true := by rw [bne, v3]; rfl
                        have hvs : vt.size ≤ 100000 := by rw [HVZ.out]; show 1 ≤ 100000; omega
                        clear hc0 hfin HCA
                        go_wp2_with fail
                        refine (ref_cells K vt E g E' g' _ hvs hKw HVr.out).mono ?_
                        rintro e w7 ⟨L, m, L', m', rfl, hL, hb7⟩
                        unfold T.agg
                        have HL7 := Lib.hid (show TV w7 (· < w7.heap.size) vt L m L' m' from hL.wide fun b hb => by have h1 := hb7.size; have h2 := hb; show b < w7.heap.size; rcases h2 with h2 | h2 <;> omega)
                        have H7 := Lib.hid (HW4.out.trans (hb7.mono HW4.out.size))
                        clear hL hb7
                        go_wp2_with fail
                        refine (rsame_z HVZ.out L m L' m' _ HL7.out).mono ?_
                        rintro e w8 ⟨rfl, hb8⟩
                        have H8 := Lib.hid (H7.out.trans (hb8.mono H7.out.size))
                        clear hb8
                        go_wp2_with fail
                        go_ret
                        exact ⟨rfl, H8.out⟩
  · have t0 : decide ((12 : Int) < (l.length : Int)) = true := decide_eq_true (by omega)
    have t0' : decide (12 < l.length) = true := decide_eq_true (by omega)
    go_enter Try.func4, Try.ntmps4
    go_wp2_with fail
    refine (awake_any _).mono ?_
    rintro e w1 ⟨rfl, hb1⟩
    have H1 := Lib.hid hb1
    clear hb1
    go_wp2_with fail
    refine (awake_any _).mono ?_
    rintro e w2 ⟨rfl, hb2⟩
    have H2 := Lib.hid (H1.out.trans (hb2.mono H1.out.size))
    clear hb2 H1
    go_wp2_with fail
    go_ret
    exact ⟨rfl, H2.out⟩

set_option maxRecDepth 100000 in
theorem lifted (os : Os) (started : os.Started) (H : Type) (enc : TypeId × Value → H) :
    ReturnsInHanded {} Try.checked os 4 .any (Rows.valueObjectsSpec.pre6 enc Try.prog Try.f4 Rows.valueObjectsRow.domain false) (Rows.valueObjectsSpec.post enc Try.prog Try.f4 false true false false) := by
  refine returnsInHanded_of_change (C := Try.checked) own started (by kernel_rfl) Try.func4
    (ChangeSpec.witness6 (enc := enc) (C := Try.checked) false ⟨#[], #[.slice none 0 0, .slice none 0 0, .int .u8 0], []⟩ 8 (by kernel_rfl) (by kernel_rfl) (by kernel_rfl) (by kernel_rfl)) ?_
  intro W base args ds gs before hval0 hW hcnd _
  have hval : ∀ (j : Nat) t v, Try.f4.params[j]? = some t → args[j]? = some v → Value.okWide Try.prog W .any base t v := hval0
  have hW' := hW
  obtain ⟨p, q, hA0, hV, rfl, hfz, hnd⟩ := hW
  have hA : DataW.TrodAll enc Try.prog W 0 (fun _ => true) true Try.f4.params.toList args.toList ds p := hA0
  rw [Try.params4] at hA hval
  obtain ⟨v0, vs0, d0, ds0, p0, q0, hargs, rfl, rfl, h0, r0⟩ := trodAll_cons hA
  obtain ⟨v1, vs1, d1, ds1, p1, q1, rfl, rfl, rfl, h1, r1⟩ := trodAll_cons r0
  obtain ⟨v2, vs2, d2, ds2, p2, q2, rfl, rfl, rfl, h2, r2⟩ := trodAll_cons r1
  obtain ⟨rfl, rfl, rfl⟩ := trodAll_nil r2
  obtain rfl : args = #[v0, v1, v2] := by cases args; simp_all
  obtain ⟨rfl, rfl⟩ := trodVars_none hV
  obtain ⟨a0, n0, c0, rfl⟩ := okWide_slice Try.underlying24 (hval 0 24 v0 rfl rfl)
  have k0 := h0
  have lt0 : ∀ x ∈ p0, x.block < W.heap.size := by obtain ⟨m, hm⟩ := k0; exact DataW.trod_lt m _ _ _ hm
  obtain ⟨f0, hf0⟩ := h0
  obtain ⟨hnc0, hcm0, l0, rfl, hr0, hz0⟩ := strs_open (show DataW.trod enc Try.prog W 0 _ _ f0 24 [.slice a0 n0 c0] = some (d0, p0) from hf0)
  obtain ⟨a1, n1, c1, rfl⟩ := okWide_slice Try.underlying22 (hval 1 22 v1 rfl rfl)
  have k1 := h1
  have lt1 : ∀ x ∈ p1, x.block < W.heap.size := by obtain ⟨m, hm⟩ := k1; exact DataW.trod_lt m _ _ _ hm
  obtain ⟨f1, hf1⟩ := h1
  obtain ⟨hnc1, hcm1, hN1⟩ := nodes_open (show DataW.trod enc Try.prog W 0 _ _ f1 22 [.slice a1 n1 c1] = some (d1, p1) from hf1)
  obtain ⟨x2, rfl, rfl, rfl, w2⟩ := open_int Try.underlying5 (hval 2 5 v2 rfl rfl) h2
  have b2 := w2
  simp only [Lit.wf, decide_eq_true_eq, Bool.and_eq_true] at b2
  have eu8a : IntKind.u8.min = 0 := rfl
  have eu8b : IntKind.u8.max = 255 := rfl
  have ei64a : IntKind.i64.min = -9223372036854775808 := rfl
  have ei64b : IntKind.i64.max = 9223372036854775807 := rfl
  clear hA0 hval0
  refine (walk l0 a0 c0 a1 n1 c1 x2 W hnc0 hcm0 hr0 hz0 hnc1 hcm1 hN1 (by omega) (by omega)).mono fun e W' ⟨he, bel⟩ => ?_
  subst he
  exact ⟨_, rfl, _, _, _, [], _, [], hW', trodAll_mk1 (shut_bool Try.underlying4 _), (trodAll_cons_mk (Below.trod laidOut (by kernel_rfl) (of_decide_eq_true (by kernel_rfl)) k0 bel lt0) (trodAll_cons_mk (Below.trod laidOut (by kernel_rfl) (of_decide_eq_true (by kernel_rfl)) k1 bel lt1) (trodAll_cons_mk (shut_int Try.underlying5 w2) trodAll_mk0))), rfl, bel.frame _, fun h => by cases h⟩

theorem over : Rows.valueObjectsRow.holds Try.pinned (OpenSpec.ofChange Rows.valueObjectsSpec) :=
  OpenClaim.holds_of_wide 4 Try.f4 rfl rfl rfl rfl rfl rfl rfl ⟨rfl, rfl, rfl, rfl, rfl⟩ rfl rfl rfl rfl rfl (by kernel_rfl) Try.func4 (by kernel_rfl)
    (of_decide_eq_true (by kernel_rfl)) (by unfold Func.isWrapper; first | (rw [if_pos (by decide +kernel)]; kernel_rfl) | (rw [if_neg (by decide +kernel)]; exact ⟨rfl, rfl⟩))
    (fun os started H enc _ => lifted os started H enc)

/-- The statement. -/
theorem proved : Rows.ValueObjectsSaid := over
end Go.Proofs.Ytffagnejedgjbaa.valueObjects
