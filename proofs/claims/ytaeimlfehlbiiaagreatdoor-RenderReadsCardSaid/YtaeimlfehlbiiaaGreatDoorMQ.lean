/- The library's contracts of a map's keys, sorted, at this translation's own numbers (laid by the shelf's program, in plain words). An object that is being read: what its keys, sorted, are. An object that is being read: contract of the program's object. -/
import Derived.Shelf.SlGeneric
import Derived.Shelf.SlIter.Nil
import Derived.Shelf.SortM.Plain
import Derived.Shelf.SortM.SortNone
import Derived.Ground.GgzProg
import Derived.Ground.SlgmProg
import Derived.Test.YtaeimlfehlbiiaaGreatDoorProg
import Derived.Test.YtaeimlfehlbiiaaGreatDoorMP
namespace Go.Proofs
open Go.RowKit Go.Maps Go.Sort Go.Shelf
def Tryz.keys122_ren : Go.Shelf.Ren := ⟨fun | 7 => 122 | 10 => 141 | n => n, fun | 23 => 171 | 26 => 9 | 3 => 32 | 28 => 176 | 0 => 0 | 27 => 175 | 33 => 47 | 4 => 4 | n => n, fun | n => n⟩
theorem Tryz.keys122 : Go.Proofs.SlLaysZ.n7 Tryz.prog Tryz.keys122_ren := {
 mixed := by kernel_rfl
 f7 := ⟨Tryz.f122.name, by decide, Tryz.func122.trans (congrArg some (by kernel_rfl))⟩
 f10 := ⟨Tryz.f141.name, by decide, Tryz.func141.trans (congrArg some (by kernel_rfl))⟩
 t0 := Tryz.underlying0
 a0 := Tryz.isAgg0
 z0 := Tryz.sizeOf0
 v0 := Tryz.zeroValue0
 t4 := Tryz.underlying4
 a4 := Tryz.isAgg4
 z4 := Tryz.sizeOf4
 v4 := Tryz.zeroValue4
 t23 := Tryz.underlying171
 a23 := Tryz.isAgg171
 z23 := Tryz.sizeOf171
 v23 := Tryz.zeroValue171
 t26 := Tryz.underlying9
 a26 := Tryz.isAgg9
 z26 := Tryz.sizeOf9
 v26 := Tryz.zeroValue9
 t27 := Tryz.underlying175
 a27 := Tryz.isAgg175
 z27 := Tryz.sizeOf175
 v27 := Tryz.zeroValue175
 t28 := Tryz.underlying176
 a28 := Tryz.isAgg176
 z28 := Tryz.sizeOf176
 v28 := Tryz.zeroValue176
 t33 := Tryz.underlying47
 a33 := Tryz.isAgg47
 z33 := Tryz.sizeOf47
 v33 := Tryz.zeroValue47 }
def Tryz.sorted121_ren : Go.Shelf.Ren := ⟨fun | 6 => 121 | 8 => 140 | 9 => 38 | 11 => 155 | 13 => 64 | 12 => 63 | 23 => 89 | 24 => 90 | 14 => 81 | 15 => 82 | 16 => 83 | 17 => 84 | 18 => 85 | 19 => 86 | 20 => 65 | 21 => 87 | 22 => 88 | 25 => 108 | 26 => 109 | 27 => 110 | 28 => 111 | 29 => 112 | 30 => 77 | 31 => 134 | n => n, fun | 26 => 9 | 28 => 176 | 24 => 25 | 0 => 0 | 3 => 3 | 37 => 118 | 48 => 142 | 50 => 144 | 4 => 4 | 40 => 136 | 39 => 135 | 45 => 85 | 5 => 5 | 9 => 9 | 51 => 154 | 55 => 158 | 57 => 190 | 58 => 126 | 33 => 47 | n => n, fun | n => n⟩
theorem Tryz.sorted121 : Go.Proofs.SlLaysZ.n6 Tryz.prog Tryz.sorted121_ren := {
 mixed := by kernel_rfl
 f6 := ⟨Tryz.f121.name, by decide, Tryz.func121.trans (congrArg some (by kernel_rfl))⟩
 f8 := ⟨Tryz.f140.name, by decide, Tryz.func140.trans (congrArg some (by kernel_rfl))⟩
 f11 := ⟨Tryz.f155.name, by decide, Tryz.func155.trans (congrArg some (by kernel_rfl))⟩
 t0 := Tryz.underlying0
 a0 := Tryz.isAgg0
 z0 := Tryz.sizeOf0
 v0 := Tryz.zeroValue0
 t24 := Tryz.underlying25
 a24 := Tryz.isAgg25
 z24 := Tryz.sizeOf25
 v24 := Tryz.zeroValue25
 t26 := Tryz.underlying9
 a26 := Tryz.isAgg9
 z26 := Tryz.sizeOf9
 v26 := Tryz.zeroValue9
 t28 := Tryz.underlying176
 a28 := Tryz.isAgg176
 z28 := Tryz.sizeOf176
 v28 := Tryz.zeroValue176
 i26 := by kernel_rfl }
def Tryz.sort38_ren : Go.Shelf.Ren := ⟨fun | 6 => 38 | 8 => 64 | 9 => 63 | 19 => 89 | 20 => 90 | 21 => 81 | 22 => 82 | 23 => 83 | 24 => 84 | 25 => 85 | 26 => 86 | 27 => 65 | 28 => 87 | 29 => 88 | 36 => 108 | 31 => 109 | 32 => 110 | 37 => 111 | 38 => 112 | 39 => 77 | 41 => 134 | n => n, fun | 27 => 25 | 29 => 9 | 3 => 3 | 32 => 118 | 26 => 25 | 0 => 0 | 44 => 142 | 46 => 144 | 4 => 4 | 36 => 136 | 35 => 135 | 41 => 85 | 5 => 5 | 9 => 9 | 53 => 154 | 57 => 158 | 63 => 190 | 64 => 126 | n => n, fun | n => n⟩
theorem Tryz.sort38 : Go.Proofs.SlLaysM.n6 Tryz.prog Tryz.sort38_ren := {
 mixed := by kernel_rfl
 f6 := ⟨Tryz.f38.name, by decide, Tryz.func38.trans (congrArg some (by kernel_rfl))⟩
 f8 := Tryz.func64.trans (congrArg some (by kernel_rfl))
 f9 := ⟨Tryz.f63.name, by decide, Tryz.func63.trans (congrArg some (by kernel_rfl))⟩
 f19 := Tryz.func89.trans (congrArg some (by kernel_rfl))
 f20 := Tryz.func90.trans (congrArg some (by kernel_rfl))
 f21 := ⟨Tryz.f81.name, by decide, Tryz.func81.trans (congrArg some (by kernel_rfl))⟩
 f22 := ⟨Tryz.f82.name, by decide, Tryz.func82.trans (congrArg some (by kernel_rfl))⟩
 f23 := ⟨Tryz.f83.name, by decide, Tryz.func83.trans (congrArg some (by kernel_rfl))⟩
 f24 := ⟨Tryz.f84.name, by decide, Tryz.func84.trans (congrArg some (by kernel_rfl))⟩
 f25 := ⟨Tryz.f85.name, by decide, Tryz.func85.trans (congrArg some (by kernel_rfl))⟩
 f26 := ⟨Tryz.f86.name, by decide, Tryz.func86.trans (congrArg some (by kernel_rfl))⟩
 f27 := ⟨Tryz.f65.name, by decide, Tryz.func65.trans (congrArg some (by kernel_rfl))⟩
 f28 := ⟨Tryz.f87.name, by decide, Tryz.func87.trans (congrArg some (by kernel_rfl))⟩
 f29 := ⟨Tryz.f88.name, by decide, Tryz.func88.trans (congrArg some (by kernel_rfl))⟩
 f31 := Tryz.func109.trans (congrArg some (by kernel_rfl))
 f32 := Tryz.func110.trans (congrArg some (by kernel_rfl))
 f36 := ⟨Tryz.f108.name, by decide, Tryz.func108.trans (congrArg some (by kernel_rfl))⟩
 f37 := ⟨Tryz.f111.name, by decide, Tryz.func111.trans (congrArg some (by kernel_rfl))⟩
 f38 := ⟨Tryz.f112.name, by decide, Tryz.func112.trans (congrArg some (by kernel_rfl))⟩
 f39 := ⟨Tryz.f77.name, by decide, Tryz.func77.trans (congrArg some (by kernel_rfl))⟩
 f41 := ⟨Tryz.f134.name, by decide, Tryz.func134.trans (congrArg some (by kernel_rfl))⟩
 t0 := Tryz.underlying0
 a0 := Tryz.isAgg0
 z0 := Tryz.sizeOf0
 v0 := Tryz.zeroValue0
 t3 := Tryz.underlying3
 a3 := Tryz.isAgg3
 z3 := Tryz.sizeOf3
 v3 := Tryz.zeroValue3
 t4 := Tryz.underlying4
 a4 := Tryz.isAgg4
 z4 := Tryz.sizeOf4
 v4 := Tryz.zeroValue4
 t5 := Tryz.underlying5
 a5 := Tryz.isAgg5
 z5 := Tryz.sizeOf5
 v5 := Tryz.zeroValue5
 t9 := Tryz.underlying9
 a9 := Tryz.isAgg9
 z9 := Tryz.sizeOf9
 v9 := Tryz.zeroValue9
 t26 := Tryz.underlying25
 a26 := Tryz.isAgg25
 z26 := Tryz.sizeOf25
 v26 := Tryz.zeroValue25
 t27 := Tryz.underlying25
 a27 := Tryz.isAgg25
 z27 := Tryz.sizeOf25
 v27 := Tryz.zeroValue25
 t29 := Tryz.underlying9
 a29 := Tryz.isAgg9
 z29 := Tryz.sizeOf9
 v29 := Tryz.zeroValue9
 t32 := Tryz.underlying118
 a32 := Tryz.isAgg118
 z32 := Tryz.sizeOf118
 v32 := Tryz.zeroValue118
 t35 := Tryz.underlying135
 a35 := Tryz.isAgg135
 z35 := Tryz.sizeOf135
 v35 := Tryz.zeroValue135
 t36 := Tryz.underlying136
 a36 := Tryz.isAgg136
 z36 := Tryz.sizeOf136
 v36 := Tryz.zeroValue136
 t41 := Tryz.underlying85
 a41 := Tryz.isAgg85
 z41 := Tryz.sizeOf85
 v41 := Tryz.zeroValue85
 t44 := Tryz.underlying142
 a44 := Tryz.isAgg142
 z44 := Tryz.sizeOf142
 v44 := Tryz.zeroValue142
 t46 := Tryz.underlying144
 a46 := Tryz.isAgg144
 z46 := Tryz.sizeOf144
 v46 := Tryz.zeroValue144
 t53 := Tryz.underlying154
 a53 := Tryz.isAgg154
 z53 := Tryz.sizeOf154
 v53 := Tryz.zeroValue154
 t57 := Tryz.underlying158
 a57 := Tryz.isAgg158
 z57 := Tryz.sizeOf158
 v57 := Tryz.zeroValue158
 t63 := Tryz.underlying190
 a63 := Tryz.isAgg190
 z63 := Tryz.sizeOf190
 v63 := Tryz.zeroValue190
 t64 := Tryz.underlying126
 a64 := Tryz.isAgg126
 z64 := Tryz.sizeOf126
 v64 := Tryz.zeroValue126 }
theorem Tryz.sorts121 (m : Nat) : AnyZ.SortsIn Tryz.prog Tryz.sorted121_ren Fence.wide m :=
 ⟨fun blk off cap ss W hH hblk hsz => callsIn_wide.2 (AnyM.slices_Sort_string Tryz.sort38 blk off cap ss W hH hblk hsz),
  fun p cap W => callsIn_wide.2 (AnyM.slices_Sort_string_none Tryz.sort38 p cap W)⟩
theorem Tryz.maps_Keys_122 (mb : Option Nat) (W : World) : CallsIn Fence.wide 5 Tryz.prog 122 #[.map mb] W fun e w' => e = .returned (.func (.func 141) #[] #[.pointer (some ⟨W.heap.size, 0, none⟩)]) ∧ w' = W.alloc (.cells #[.map mb] 171) :=
 AnyZ.keys_in Tryz.keys122 Fence.wide 5 trivial rfl mb W
set_option maxHeartbeats 1000000 in
theorem Tryz.slices_Sorted_keys_121_122 {H : Type} (b nn : Nat) (D0 : DataW H) (R : Value → Option (DataW H × List MemPlace)) (w : World) (hown : w.ownsMap Tryz.prog 9 R b nn D0) (hmax : Maps.size D0 ≤ maxLen) (hbytes : Maps.size D0 * 16 ≤ 140737488355328) :
 CallsIn Fence.wide 5 Tryz.prog 121 #[.func (.func 141) #[] #[.pointer (some ⟨w.heap.size, 0, none⟩)]] (w.alloc (.cells #[.map (some b)] 171)) fun e w' => ∃ (v : Value) (ss : List (List UInt8)), e = .returned v ∧ ss.Perm (strKeys D0) ∧
  w'.ownsRow (w.alloc (.cells #[.map (some b)] 171)).heap.size 9 1 v ss.length ((ss.mergeSort (fun x y => decide (x ≤ y))).map encStr) ∧ (v = .slice none 0 0 ↔ ss = []) ∧ Below (w.alloc (.cells #[.map (some b)] 171)).heap.size (w.alloc (.cells #[.map (some b)] 171)) w' := by
 have hbl := hown.lt
 have hseq : SeqGives Fence.wide 2 Tryz.prog 141 #[.pointer (some ⟨w.heap.size, 0, none⟩)] encStr (fun ss => ss.Perm (strKeys D0)) (Maps.size D0) (w.alloc (.cells #[.map (some b)] 171)) :=
  AnyZ.keys_gives (ρ := Tryz.keys122_ren) { Tryz.keys122 with } Fence.wide _ trivial rfl (by omega) w.heap.size b nn D0 _ (by simp) (by simp) (by
   obtain ⟨es, clock, hb, Ft, hs, hD⟩ := hown
   exact ⟨es, clock, (Below.heap_alloc _ _ b hbl).trans hb, Ft, hs, hD⟩)
 exact AnyZ.sorted_in Tryz.sorted121 Fence.wide 5 trivial trivial trivial trivial rfl (by omega) (Tryz.sorts121 _) (enters_of Tryz.func38 (by kernel_rfl) rfl) 141 #[.pointer (some ⟨w.heap.size, 0, none⟩)] trivial (enters_of Tryz.func141 (by kernel_rfl) rfl) _ _ hmax hbytes _ hseq
end Go.Proofs
namespace Go.Proofs.YtaeimlfehlbiiaaGreatDoor
open Go.RowKit Go.Maps Go.Sort
open Tk
set_option linter.unusedVariables false
theorem memb_parted {O : List (ByteArray × T) → T} {s : ByteArray} {n0 q r b N0 M room : Nat} (IH : ∀ n, n ≤ n0 → FromAt O s n) (hroom : room ≤ 1000) (hs : s.size ≤ 90000) : Parted (Rd.membP O s room) (MembS q r b N0 M room) 120 (.pointer (some ⟨q, 0, none⟩)) b r N0 n0 s List.length where
 stable := memb_stable
 reader := fun Y l w h => ⟨room, h.choose_spec.rd⟩
 step := fun n Y t l w hn hJ hL hE hok hft hnn hm => memb_step IH hroom hs n Y t l w hn hJ hL hE hok hft hnn hm
theorem keys_sorted {vs : List (ByteArray × Value)} (hn : (vs.map Prod.fst).Nodup) {ss : List (List UInt8)} (hp : ss.Perm (strKeys (MD vs))) : ss.length = vs.length ∧ (ss.mergeSort fun x y => decide (x ≤ y)).map encStr = (srt (vs.map Prod.fst)).map Value.string := by
 have h1 := hp.trans (MD_keys hn)
 have e1 : (ss.map fun l => (⟨l.toArray⟩ : ByteArray)).map (fun q => q.data.toList) = ss := by
  rw [List.map_map]
  exact (List.map_congr_left (fun l _ => rfl)).trans (List.map_id ss)
 have h2 : (ss.map fun l => (⟨l.toArray⟩ : ByteArray)).Perm (vs.map Prod.fst) := by
  have := h1.map fun l => (⟨l.toArray⟩ : ByteArray)
  rw [List.map_map] at this
  exact this.trans (.of_eq ((List.map_congr_left (fun q _ => rfl)).trans (List.map_id _)))
 refine ⟨by simpa using h1.length_eq, ?_⟩
 have h3 := srt_map (ss.map fun l => (⟨l.toArray⟩ : ByteArray))
 rw [e1] at h3
 rw [h3, Rd.srt_of (h2.nodup_iff.2 hn) h2]
theorem keys_call (M : Nat) (W : World) : Calls Tryz.prog 122 #[.map (some M)] W fun e w' => e = .returned (.func (.func 141) #[] #[.pointer (some ⟨W.heap.size, 0, none⟩)]) ∧ w' = W.alloc (.cells #[.map (some M)] 171) :=
 callsIn_wide.1 (Tryz.maps_Keys_122 (some M) W)
theorem sorted_call {W : World} {M n : Nat} {vs : List (ByteArray × Value)} (h : W.ownsMap Tryz.prog 9 RV M n (MD vs)) (hn : (vs.map Prod.fst).Nodup) (hl : vs.length ≤ 100000) :
 Calls Tryz.prog 121 #[.func (.func 141) #[] #[.pointer (some ⟨W.heap.size, 0, none⟩)]] (W.alloc (.cells #[.map (some M)] 171)) fun e w' => ∃ K kd, e = .returned (.slice K vs.length kd) ∧ vs.length ≤ kd ∧ OwnKeys w' (W.heap.size + 1) w'.heap.size (srt (vs.map Prod.fst)) K ∧ Below W.heap.size W w' := by
 have hz := MD_size hn
 refine (callsIn_wide.1 (Tryz.slices_Sorted_keys_121_122 M n (MD vs) RV W h (by rw [hz]; unfold maxLen; omega) (by rw [hz]; omega))).mono ?_
 rintro e w' ⟨v, ss, rfl, hp, ho, _, hb⟩
 obtain ⟨h1, h2⟩ := keys_sorted hn hp
 rw [h2, h1] at ho
 have hl2 : vs.length = (srt (vs.map Prod.fst)).length := by rw [srt_len, List.length_map]
 rw [hl2] at ho ⊢
 obtain ⟨K, kd, rfl, hd, hk⟩ := own_keys ho
 rw [World.size_alloc] at hk
 exact ⟨K, kd, rfl, hd, hk, ((Below.refl _ _).alloc (Nat.le_refl _) _).trans (hb.mono (by simp))⟩
theorem loop_len {α : Type} {part : Nat → Tok → α → Rd.Gp α} {m : α → Nat} {s : ByteArray} (G : Rd.Good part m s) (c : Nat) : ∀ (k : Nat) (t : Tok) (a a' : α) (fin : Nat), Rd.Ok s t → 2 * (s.size - t.at_) + 2 ≤ k → m a ≤ t.at_ → Rd.loopF part s c k t a = .ok a' fin → m a' ≤ fin ∧ fin ≤ s.size := by
 intro k
 induction k with
 | zero => intro t a a' fin _ h; omega
 | succ k ih =>
  intro t a a' fin ht h hm hl
  obtain ⟨g1, g2⟩ := G k t a ht (by omega)
  unfold Rd.loopF at hl
  split at hl
  · cases hl
  · cases hl
  ·
   rename_i a1 e he
   obtain ⟨e1, e2, e3⟩ := g2 a1 e he
   split at hl
   · cases hl
   ·
    rename_i u hu
    obtain ⟨⟨o1, o2, _⟩, hle⟩ := Rd.ok_next e2 hu
    split at hl
    ·
     injection hl with h1 h2
     subst h1 h2
     exact ⟨by omega, o2⟩
    ·
     split at hl
     · cases hl
     ·
      split at hl
      · cases hl
      ·
       rename_i x hx
       obtain ⟨ho, hle2⟩ := Rd.ok_next o2 hx
       exact ih x a1 a' fin ho (by have := ho.1; have := ho.2.1; omega) (by omega) hl
theorem start_len {α : Type} {part : Nat → Tok → α → Rd.Gp α} {m : α → Nat} {s : ByteArray} (G : Rd.Good part m s) {c n i fin : Nat} {a a' : α} (hi : i ≤ s.size) (hn : 2 * (s.size - i) + 2 ≤ n) (hm : m a ≤ i) (h : Rd.startF part s c n i a = .ok a' fin) : m a' ≤ fin ∧ fin ≤ s.size := by
 unfold Rd.startF at h
 split at h
 · cases h
 ·
  rename_i u hu
  obtain ⟨ho, hle⟩ := Rd.ok_next hi hu
  split at h
  ·
   injection h with h1 h2
   subst h1 h2
   exact ⟨by have := ho.1; omega, ho.2.1⟩
  · exact loop_len G c n u a a' fin ho (by omega) (by omega) h
end Go.Proofs.YtaeimlfehlbiiaaGreatDoor
namespace Go.Proofs.YtaeimlfehlbiiaaGreatDoor
open Go.RowKit Go.Maps Go.Sort
open Tk
set_option linter.unusedVariables false
set_option maxRecDepth 100000 in
set_option maxHeartbeats 16000000 in
theorem object_any {s : ByteArray} {n r b room i : Nat} (IH : ∀ k, k < n → FromAt Rd.Ob s k) (hroom : room ≤ 1000) (hs : s.size ≤ 90000) (w : World) (hr : Blk w r 70 #[.pointer (some ⟨b, 0, none⟩), .int .i64 room]) (hL : Lx w b s i) (hE : ErrAt b w) (hi : i ≤ s.size) (hn : 2 * (s.size - i) + 2 ≤ n) (h4 : r ≠ b) :
 Calls Tryz.prog 98 #[.pointer (some ⟨r, 0, none⟩)] w (FromGives ((Rd.startF (Rd.membP Rd.Ob s room) s 125 n i []).res Rd.Ob) b s w) := by
 have hmm := @run_makeMap Tryz.prog
 have hrl := hr.lt
 have hbl : b < w.heap.size := Blk.lt hL
 have HPA := Lib.hid (fun (W : World) (Y : Nat → Prop) (q M : Nat) => parts_any (memb_parted (O := Rd.Ob) (s := s) (n0 := n - 1) (q := q) (r := r) (b := b) (N0 := w.heap.size) (M := M) (room := room) (fun k hk => IH k (by omega)) hroom hs) (Rd.memb_good Rd.Ob s room) (Go.Proofs.enters_of Tryz.func120 (by kernel_rfl) rfl) 125 hs hbl h4 n i (by omega) Y [] W)
 have HB := Lib.hid (Blk.new w 32 #[.int .i64 0, .bool false, .int .i64 0, .string ⟨#[]⟩, .slice none 0 0, .slice none 0 0])
 have hW : Below w.heap.size w (w.alloc (.cells #[.int .i64 0, .bool false, .int .i64 0, .string ⟨#[]⟩, .slice none 0 0, .slice none 0 0] 32)) := (Below.refl _ _).alloc (Nat.le_refl _) _
 have HR := Lib.hid (hr.onto hW)
 have HL := Lib.hid (show Lx _ b s i from Blk.onto hL hW)
 have HE := Lib.hid (hE.onto hW)
 have HW := Lib.hid hW
 have hWs : (w.alloc (.cells #[.int .i64 0, .bool false, .int .i64 0, .string ⟨#[]⟩, .slice none 0 0, .slice none 0 0] 32)).heap.size = w.heap.size + 1 := by simp
 clear hW hr hL hE
 go_enter Tryz.func98, Tryz.ntmps98
 go_upto_region 1 with fail
 change Code.wp _ _ _ _ (w.alloc (.cells #[.int .i64 0, .bool false, .int .i64 0, .string ⟨#[]⟩, .slice none 0 0, .slice none 0 0] 32))
 generalize (w.alloc (.cells #[.int .i64 0, .bool false, .int .i64 0, .string ⟨#[]⟩, .slice none 0 0, .slice none 0 0] 32)) = W at *
 have hGW : w.heap.size < W.heap.size := by omega
 generalize hG : w.heap.size = G at *
 have HG := Lib.hid hG
 have HWs := Lib.hid hWs
 clear hG hWs
 go_upto_region 2 with fail
 have hB1 : Below W.heap.size W ((W.alloc (.map #[] 0)).alloc (.cells #[.pointer (some ⟨r, 0, none⟩), .map (some W.heap.size)] 173)) := ((Below.refl _ _).alloc (Nat.le_refl _) _).alloc (by simp) _
 have hQ1 : Blk ((W.alloc (.map #[] 0)).alloc (.cells #[.pointer (some ⟨r, 0, none⟩), .map (some W.heap.size)] 173)) (W.heap.size + 1) 173 #[.pointer (some ⟨r, 0, none⟩), .map (some W.heap.size)] := by
  have := Blk.new (W.alloc (.map #[] 0)) 173 #[.pointer (some ⟨r, 0, none⟩), .map (some W.heap.size)]
  rwa [World.size_alloc] at this
 have hM1 : ((W.alloc (.map #[] 0)).alloc (.cells #[.pointer (some ⟨r, 0, none⟩), .map (some W.heap.size)] 173)).ownsMap Tryz.prog 9 RV W.heap.size 0 (MD []) := (World.ownsMap_made W Tryz.prog 9 RV).alloc _
 change Code.wp _ _ _ _ ((W.alloc (.map #[] 0)).alloc (.cells #[.pointer (some ⟨r, 0, none⟩), .map (some W.heap.size)] 173))
 generalize ((W.alloc (.map #[] 0)).alloc (.cells #[.pointer (some ⟨r, 0, none⟩), .map (some W.heap.size)] 173)) = W1 at *
 have hW1s := hB1.size
 have hq1 := hQ1.lt
 have HJ := Lib.hid (show MembS (W.heap.size + 1) r b G W.heap.size room (fun k => k = G) [] W1 from ⟨[], ⟨rfl, fun i k x h => by simp at h, hM1, by simp, by simp, hQ1, HR.out.onto hB1, by omega, by omega, fun k hk => ⟨by omega, by omega⟩, by omega, by omega, by omega, by omega, by omega, by omega, h4⟩⟩)
 have HL1 := Lib.hid (show Lx W1 b s i from Blk.onto HL.out hB1)
 have HE1 := Lib.hid (HE.out.onto hB1)
 have HB1 := Lib.hid hB1
 have HBr := Lib.hid (HB.out.onto hB1)
 generalize hM : W.heap.size = M at *
 have HMq := Lib.hid hM
 clear hB1 hQ1 hM hM1
 go_wp2_with fail
 refine (HPA.out W1 (fun k => k = G) (M + 1) M HJ.out HL1.out HE1.out hi hn (Nat.zero_le _) (by omega) (by omega)).mono ?_
 intro e w2 hg
 cases hres : Rd.startF (Rd.membP Rd.Ob s room) s 125 n i [] with
 | out => exact absurd hres (start_out (Rd.memb_good Rd.Ob s room) 125 n i [] hi hn)
 | err p c =>
  rw [hres] at hg
  obtain ⟨rfl, hc0, hk⟩ := hg
  have v1 : (c != 0) = true := by rw [bne, hc0]; rfl
  have v2 : ¬ c = 0 := by simpa using hc0
  have hAs : Aside b w w2 := Kept.aside ((Aside.of (HG.out ▸ HW.out)).trans_ (Aside.of (HMq.out ▸ HB1.out))) hk (fun k hk' hne => .inr ⟨by have := HG.out; omega, hne⟩)
  have HA := Lib.hid hAs
  have HBx := Lib.hid (HBr.out.kept hk (.inl rfl))
  have q0 : w2.cell? ⟨G, 0, none⟩ = some (.int .i64 0) := HBx.out.cell 0
  have q1 : w2.cell? ⟨G, 1, none⟩ = some (.bool false) := HBx.out.cell 1
  have q2 : w2.cell? ⟨G, 2, none⟩ = some (.int .i64 0) := HBx.out.cell 2
  have q3 : w2.cell? ⟨G, 3, none⟩ = some (.string ⟨#[]⟩) := HBx.out.cell 3
  have q4 : w2.cell? ⟨G, 4, none⟩ = some (.slice none 0 0) := HBx.out.cell 4
  have q5 : w2.cell? ⟨G, 5, none⟩ = some (.slice none 0 0) := HBx.out.cell 5
  have xq0 := HBx.out.free 0
  have xq1 := HBx.out.free 1
  have xq2 := HBx.out.free 2
  have xq3 := HBx.out.free 3
  have xq4 := HBx.out.free 4
  have xq5 := HBx.out.free 5
  clear hAs hk
  go_wp2_with fail
  have hF : Blk ((((((w2.setCell ⟨G, 0, none⟩ (.int .i64 0)).setCell ⟨G, 1, none⟩ (.bool false)).setCell ⟨G, 2, none⟩ (.int .i64 0)).setCell ⟨G, 3, none⟩ (.string ⟨#[]⟩)).setCell ⟨G, 4, none⟩ (.slice none 0 0)).setCell ⟨G, 5, none⟩ (.slice none 0 0)) G 32 (#[.int .i64 T.zero.kind, .bool T.zero.tr, .int .i64 T.zero.num, .string T.zero.str, .slice none T.zero.items.length 0, .slice none T.zero.keys.length 0]) := res_put HBx.out rfl T.zero none 0 none 0
  have HZ := Lib.hid (show Aside b w ((((((w2.setCell ⟨G, 0, none⟩ (.int .i64 0)).setCell ⟨G, 1, none⟩ (.bool false)).setCell ⟨G, 2, none⟩ (.int .i64 0)).setCell ⟨G, 3, none⟩ (.string ⟨#[]⟩)).setCell ⟨G, 4, none⟩ (.slice none 0 0)).setCell ⟨G, 5, none⟩ (.slice none 0 0)) from HA.out.put6 (by have := HG.out; omega) _ _ _ _ _ _)
  change Blk ((((((w2.setCell ⟨G, 0, none⟩ (.int .i64 0)).setCell ⟨G, 1, none⟩ (.bool false)).setCell ⟨G, 2, none⟩ (.int .i64 0)).setCell ⟨G, 3, none⟩ (.string ⟨#[]⟩)).setCell ⟨G, 4, none⟩ (.slice none 0 0)).setCell ⟨G, 5, none⟩ (.slice none 0 0)) _ _ _ at hF
  generalize ((((((w2.setCell ⟨G, 0, none⟩ (.int .i64 0)).setCell ⟨G, 1, none⟩ (.bool false)).setCell ⟨G, 2, none⟩ (.int .i64 0)).setCell ⟨G, 3, none⟩ (.string ⟨#[]⟩)).setCell ⟨G, 4, none⟩ (.slice none 0 0)).setCell ⟨G, 5, none⟩ (.slice none 0 0)) = V9 at *
  have m0 : V9.cell? ⟨G, 0, none⟩ = some (.int .i64 0) := hF.cell 0
  have m1 : V9.cell? ⟨G, 1, none⟩ = some (.bool false) := hF.cell 1
  have m2 : V9.cell? ⟨G, 2, none⟩ = some (.int .i64 0) := hF.cell 2
  have m3 : V9.cell? ⟨G, 3, none⟩ = some (.string ⟨#[]⟩) := hF.cell 3
  have m4 : V9.cell? ⟨G, 4, none⟩ = some (.slice none 0 0) := hF.cell 4
  have m5 : V9.cell? ⟨G, 5, none⟩ = some (.slice none 0 0) := hF.cell 5
  refine bodyPost_ret (v := .tuple #[T.zero.agg none 0 none 0, .int .i64 p, .int .i64 c]) (by simp [results, Tryz.results98, go_sem, T.agg, T.zero, T.kind, T.tr, T.num, T.str, T.items, T.keys, m0, m1, m2, m3, m4, m5]) rfl ?_
  rw [hres]
  exact ⟨rfl, HZ.out⟩
 | ok m fin =>
  rw [hres] at hg
  obtain ⟨rfl, ⟨Y', hY', vs, hJ⟩, hLf, hk⟩ := hg
  have hAs : Aside b w w2 := Kept.aside ((Aside.of (HG.out ▸ HW.out)).trans_ (Aside.of (HMq.out ▸ HB1.out))) hk (fun k hk' hne => .inr ⟨by have := HG.out; omega, hne⟩)
  have HA := Lib.hid hAs
  have HBx := Lib.hid (HBr.out.kept hk (.inl rfl))
  have HLf := Lib.hid hLf
  have hYG := hY' G rfl
  have HJ2 := Lib.hid hJ
  have c1 : w2.cell? ⟨M + 1, 1, none⟩ = some (.map (some M)) := hJ.blk.cell 1
  have hnd : (vs.map Prod.fst).Nodup := by rw [hJ.fst]; exact hJ.nodup
  have hvl : vs.length = m.length := by simpa using congrArg List.length hJ.fst
  have hml : m.length ≤ 90000 := by have := start_len (Rd.memb_good Rd.Ob s room) hi hn (Nat.zero_le _) hres; omega
  have HVL := Lib.hid hvl
  have hvml : vs.length ≤ 90000 := by omega
  clear hvl hml
  have HK := Lib.hid (keys_call M w2)
  have HS := Lib.hid (sorted_call hJ.owns hnd (by omega))
  have hMl := hJ.Mw
  have hql := hJ.blk.lt
  have hGw2 : G < w2.heap.size := (hJ.yb G hYG).2
  clear hAs hk hJ hLf HBr HPA HJ HL1 HE1
  go_wp2_with fail
  refine HK.out.mono ?_
  rintro e w3 ⟨rfl, rfl⟩
  go_wp2_with fail
  refine HS.out.mono ?_
  rintro e w4 ⟨K, kd, rfl, hkd, hok, hb4⟩
  have hs4 := hb4.size
  have hB5 : Blk (w4.alloc (.cells #[.int .i64 5, .bool false, .int .i64 0, .string ⟨#[]⟩, .slice none 0 0, .slice K vs.length kd] 32)) w4.heap.size 32 #[.int .i64 5, .bool false, .int .i64 0, .string ⟨#[]⟩, .slice none 0 0, .slice K vs.length kd] := Blk.new w4 _ _
  have hW45 : Below w4.heap.size w4 (w4.alloc (.cells #[.int .i64 5, .bool false, .int .i64 0, .string ⟨#[]⟩, .slice none 0 0, .slice K vs.length kd] 32)) := (Below.refl _ _).alloc (Nat.le_refl _) _
  go_upto_region 6 with fail
  change Code.wp _ _ _ _ (w4.alloc (.cells #[.int .i64 5, .bool false, .int .i64 0, .string ⟨#[]⟩, .slice none 0 0, .slice K vs.length kd] 32))
  generalize (w4.alloc (.cells #[.int .i64 5, .bool false, .int .i64 0, .string ⟨#[]⟩, .slice none 0 0, .slice K vs.length kd] 32)) = W5 at *
  have HW5 := Lib.hid (show Below w2.heap.size w2 W5 from hb4.trans (hW45.mono hs4))
  have HSK := Lib.hid (show SReads W5 (fun j => w2.heap.size + 1 ≤ j ∧ j < w4.heap.size) K (srt (vs.map Prod.fst)) from hok.sreads.keep fun j hj => hW45.block j hj.2)
  have HB5 := Lib.hid hB5
  have h5 : W5.cell? ⟨w4.heap.size, 5, none⟩ = some (.slice K vs.length kd) := hB5.cell 5
  have hB5l := hB5.lt
  have HND := Lib.hid hnd
  obtain ⟨its, hits⟩ : ∃ its, its = (srt (m.map Prod.fst)).map (Rd.lk m) := ⟨_, rfl⟩
  have Hits := Lib.hid hits
  have Hitl := Lib.hid (show its.length = vs.length by rw [hits, List.length_map, srt_len, List.length_map, HVL.out])
  obtain ⟨X, hX⟩ : ∃ X : Nat → Prop, X = fun j => j < G ∨ j = w4.heap.size ∨ Y' j ∨ j = M + 1 ∨ j = M := ⟨_, rfl⟩
  have HX := Lib.hid hX
  have HXn := Lib.hid (show ∀ j, W5.heap.size ≤ j → ¬ X j from fun j hj hx => by
   rw [hX] at hx
   rcases hx with hx | hx | hx | hx | hx
   · omega
   · omega
   · have := (HJ2.out.yb j hx).2; omega
   · omega
   · omega)
  have HXo := Lib.hid (show ∀ j, (G ≤ j ∧ j < w2.heap.size ∧ ¬ Y' j ∧ j ≠ M + 1 ∧ j ≠ M) → ¬ X j from fun j hj hx => by
   rw [hX] at hx
   rcases hx with hx | hx | hx | hx | hx
   · omega
   · omega
   · exact hj.2.2.1 hx
   · omega
   · omega)
  have HXb := Lib.hid (show X w4.heap.size from by rw [hX]; exact .inr (.inl rfl))
  clear hB5 hW45 hok hb4 hits hX hnd HK HS
  generalize hB8 : w4.heap.size = B8 at *
  clear hB8
  obtain ⟨i1, hi1, hy0, hy1, hy2⟩ := info_parts infoVal
  go_wp2_with fail
  go_loopw [10, 37] (fun _ x wr => ∃ (k : Nat) (A2 : Option Addr) (d2 : Nat) (xs : List Value), k ≤ vs.length ∧ x = .int .i64 k ∧ Coll 32 wr (B8 + 1) X (its.take k) (.slice A2 k d2) xs ∧ Blk wr B8 32 #[.int .i64 5, .bool false, .int .i64 0, .string ⟨#[]⟩, .slice A2 k d2, .slice K vs.length kd] ∧ Below B8 W5 wr) (fun _ x _ => vs.length - (intOf x).toNat)
  case atStart => exact ⟨0, none, 0, [], Nat.zero_le _, rfl, Coll.nil _ _ _ _, HB5.out, Below.refl _ _⟩
  case round =>
   obtain ⟨k, A2, d2, xs, hk, rfl, hcoll, hbb, hbel⟩ := hrel
   have Hcoll := Lib.hid hcoll
   have Hbb := Lib.hid hbb
   have Hbel := Lib.hid hbel
   have hsr := hbel.size
   have q4 : wr.cell? ⟨B8, 4, none⟩ = some (.slice A2 k d2) := hbb.cell 4
   have hBr := hbb.lt
   clear hcoll hbb hbel
   by_cases hlt : k < vs.length
   ·
    have u1 : decide (k < vs.length) = true := decide_eq_true hlt
    have u2 : decide ((k : Int) < (vs.length : Int)) = true := decide_eq_true (by omega)
    have i1' : (k : Int) < (vs.length : Int) := by omega
    have i2' : (0 : Int) ≤ (k : Int) := by omega
    obtain ⟨kk, hkk⟩ : ∃ kk, (srt (vs.map Prod.fst))[k]? = some kk := ⟨_, List.getElem?_eq_getElem (by rw [srt_len, List.length_map]; exact hlt)⟩
    obtain ⟨gk, ok, rfl, hgk, hkc⟩ := HSK.out (by intro h; rw [h] at hkk; simp at hkk)
    have hkc2 := hkc k kk hkk
    have hkr : wr.cell? ⟨gk, ok + k, none⟩ = some (.string kk) := (World.cell?_of_block (Hbel.out.block gk (by have := hgk.2; omega))).trans hkc2
    have hmem : kk ∈ vs.map Prod.fst := (srt_perm _).mem_iff.1 (List.mem_of_getElem? hkk)
    rw [HJ2.out.fst] at hmem
    obtain ⟨⟨k1, x⟩, hmx, hme⟩ := List.mem_map.1 hmem
    dsimp only at hme
    subst hme
    obtain ⟨i, hmi⟩ := List.getElem?_of_mem hmx
    obtain ⟨A, c, A', c', hv, hT0⟩ := HJ2.out.at_ i k1 x hmi
    have hsz : k1.size ≤ maxLen := by have := HJ2.out.short k1 hmem; unfold maxLen; omega
    have Hx := Lib.hid (show its[k]? = some x from by
     rw [Hits.out, List.getElem?_map]
     rw [HJ2.out.fst] at hkk
     rw [hkk]
     exact congrArg some (Rd.lk_mem HJ2.out.nodup hmx))
    have HTx := Lib.hid (show TV wr (fun j => j < wr.heap.size ∧ ¬ X j ∧ some j ≠ (Value.slice A2 k d2).ownBlock) x A c A' c' from (hT0.keep fun j hj => (Hbel.out.block j (by omega)).trans (HW5.out.block j (by omega))).wide fun j hj => ⟨by omega, HXo.out j hj, fun e => by have := (Hcoll.out.2.1.lt j e.symm).1; omega⟩)
    have Hlen := Lib.hid (show (its.take k).length = k by rw [List.length_take, Hitl.out]; omega)
    have hown := Hcoll.out.2.1
    rw [Hlen.out] at hown
    have Hown := Lib.hid hown
    have HSL := Lib.hid (show ∀ w' : World, (∀ j, j < B8 → w'.heap[j]? = wr.heap[j]?) → w'.cell? ⟨M + 1, 1, none⟩ = some (.map (some M)) ∧ (Instr.lookup 171 (.map (some M)) (.string k1) false).run Tryz.prog w' = .ok (.agg #[.int .i64 x.kind, .bool x.tr, .int .i64 x.num, .string x.str, .slice A x.items.length c, .slice A' x.keys.length c']) w' from fun w' h => by
     have hb : ∀ j, j < w2.heap.size → w'.heap[j]? = w2.heap[j]? := fun j hj => (h j (by omega)).trans ((Hbel.out.block j (by omega)).trans (HW5.out.block j hj))
     exact ⟨(World.cell?_of_block (hb (M + 1) HJ2.out.blk.lt)).trans (HJ2.out.blk.cell 1), ((map_look (owns_block HJ2.out.owns (hb M HJ2.out.Mw)) HND.out hsz false).2 _ (List.mem_of_getElem? hv)).2⟩)
    clear hT0 hkc hkc2 hown hmx hmi hv hkk hmem
    go_wp2_with fail
    refine wp_region_held_drew (S := fun w' => w'.cell? ⟨M + 1, 1, none⟩ = some (.map (some M)) ∧ (Instr.lookup 171 (.map (some M)) (.string k1) false).run Tryz.prog w' = .ok (.agg #[.int .i64 x.kind, .bool x.tr, .int .i64 x.num, .string x.str, .slice A x.items.length c, .slice A' x.keys.length c']) w') (by kernel_rfl) ?_ (fun hHeld => ?_)
    · exact HSL.out wr.drew (fun _ _ => rfl)
    refine wpAnyH_take (i := 0) (v := ?_) rfl (by kernel_rfl) (by kernel_rfl) (by kernel_rfl) (fun _ _ _ h => h) (Or.inl ⟨by rfl, ?_⟩) (by assumption) ?_
    rotate_left
    ·
     intro wq hSw
     try dsimp only at hSw
     go_simp
     try (with_reducible rfl)
    try simp only [Act.put, List.getElem_toArray, List.getElem_cons_zero, List.setIfInBounds_toArray, List.set_cons_zero, List.set_cons_succ]
    refine wpAnyH_take (i := 2) (v := ?_) rfl (by kernel_rfl) (by kernel_rfl) (by kernel_rfl) (fun _ _ _ h => h) (Or.inl ⟨by rfl, ?_⟩) (by assumption) ?_
    rotate_left
    ·
     intro wq hSw
     try dsimp only at hSw
     go_simp
     try (with_reducible rfl)
    try simp only [Act.put, List.getElem_toArray, List.getElem_cons_succ, List.getElem_cons_zero, List.setIfInBounds_toArray, List.set_cons_zero, List.set_cons_succ]
    refine wpAnyH_take (i := 3) (v := ?_) rfl (by kernel_rfl) (by kernel_rfl) (by kernel_rfl) (fun _ _ _ h => h) (Or.inl ⟨by rfl, ?_⟩) (by assumption) ?_
    rotate_left
    ·
     intro wq hSw
     try dsimp only at hSw
     go_simp
     try (with_reducible rfl)
    try simp only [Act.put, List.getElem_toArray, List.getElem_cons_succ, List.getElem_cons_zero, List.setIfInBounds_toArray, List.set_cons_zero, List.set_cons_succ]
    refine wpAnyH_take (i := 4) (v := ?_) rfl (by kernel_rfl) (by kernel_rfl) (by kernel_rfl) (fun _ _ _ h => h) (Or.inl ⟨by rfl, ?_⟩) (by assumption) ?_
    rotate_left
    ·
     intro wq hSw
     try dsimp only at hSw
     go_simp
     try (with_reducible rfl)
    try simp only [Act.put, List.getElem_toArray, List.getElem_cons_succ, List.getElem_cons_zero, List.setIfInBounds_toArray, List.set_cons_zero, List.set_cons_succ]
    refine wpAnyH_take (i := 5) (v := ?_) rfl (by kernel_rfl) (by kernel_rfl) (by kernel_rfl) (fun _ _ _ h => h) (Or.inl ⟨by rfl, ?_⟩) (by assumption) ?_
    rotate_left
    ·
     intro wq hSw
     try dsimp only at hSw
     go_simp
     try (with_reducible rfl)
    try simp only [Act.put, List.getElem_toArray, List.getElem_cons_succ, List.getElem_cons_zero, List.setIfInBounds_toArray, List.set_cons_zero, List.set_cons_succ]
    refine wpAnyH_take (i := 6) (v := ?_) rfl (by kernel_rfl) (by kernel_rfl) (by kernel_rfl) (fun _ _ _ h => h) (Or.inl ⟨by rfl, ?_⟩) (by assumption) ?_
    rotate_left
    ·
     intro wq hSw
     try dsimp only at hSw
     go_simp
     try (with_reducible rfl)
    try simp only [Act.put, List.getElem_toArray, List.getElem_cons_succ, List.getElem_cons_zero, List.setIfInBounds_toArray, List.set_cons_zero, List.set_cons_succ]
    refine wpAnyH_take (i := 7) (v := ?_) rfl (by kernel_rfl) (by kernel_rfl) (by kernel_rfl) (fun _ _ _ h => h) (Or.inl ⟨by rfl, ?_⟩) (by assumption) ?_
    rotate_left
    ·
     intro wq hSw
     try dsimp only at hSw
     go_simp
     try (with_reducible rfl)
    try simp only [Act.put, List.getElem_toArray, List.getElem_cons_succ, List.getElem_cons_zero, List.setIfInBounds_toArray, List.set_cons_zero, List.set_cons_succ]
    have q4d : wr.drew.cell? ⟨B8, 4, none⟩ = some (.slice A2 k d2) := q4
    refine wpAnyH_ready (rs := [1, 8]) (by kernel_rfl) (by simp) ?_
    refine AllReadyH.cons rfl (fun K0 hK => ?_) (AllReadyH.cons rfl (fun K0 hK => ?_) AllReadyH.nil)
    ·
     skip
     go_simp
     refine hK.out _ _ ?_ (fun hHeld => ?_)
     · exact HSL.out wr.drew (fun _ _ => rfl)
     clear hK K0
     try simp only [Act.put, List.getElem_toArray, List.getElem_cons_succ, List.getElem_cons_zero, List.setIfInBounds_toArray, List.set_cons_zero, List.set_cons_succ]
     refine wpAnyH_ready (rs := [8]) (by kernel_rfl) (by simp) ?_
     refine AllReadyH.cons rfl (fun K0 hK => ?_) ?_
     rotate_left
     · exact AllReadyH.nil
     go_simp
     have HZa := Lib.hid (show Blk (wr.alloc (.cells #[.int .i64 x.kind, .bool x.tr, .int .i64 x.num, .string x.str, .slice A x.items.length c, .slice A' x.keys.length c'] 32)).drew wr.heap.size 32 (x.cs A c A' c') from Blk.new wr _ _)
     have HOa := Lib.hid (show (wr.alloc (.cells #[.int .i64 x.kind, .bool x.tr, .int .i64 x.num, .string x.str, .slice A x.items.length c, .slice A' x.keys.length c'] 32)).drew.ownsRow (B8 + 1) 32 6 (.slice A2 k d2) k xs from (Hown.out.alloc _).drew)
     have HBa := Lib.hid (show ∀ j, j < wr.heap.size → (wr.alloc (.cells #[.int .i64 x.kind, .bool x.tr, .int .i64 x.num, .string x.str, .slice A x.items.length c, .slice A' x.keys.length c'] 32)).drew.heap[j]? = wr.heap[j]? from fun j hj => Below.heap_alloc wr _ j hj)
     have HGa := Lib.hid (show (wr.alloc (.cells #[.int .i64 x.kind, .bool x.tr, .int .i64 x.num, .string x.str, .slice A x.items.length c, .slice A' x.keys.length c'] 32)).grownBy (wr.alloc (.cells #[.int .i64 x.kind, .bool x.tr, .int .i64 x.num, .string x.str, .slice A x.items.length c, .slice A' x.keys.length c'] 32)).drew none from ⟨rfl, rfl, rfl, Nat.le_refl _, fun _ _ _ => rfl⟩)
     have hwa1 : (wr.alloc (.cells #[.int .i64 x.kind, .bool x.tr, .int .i64 x.num, .string x.str, .slice A x.items.length c, .slice A' x.keys.length c'] 32)).drew.heap.size = wr.heap.size + 1 := by
      show (wr.alloc (.cells #[.int .i64 x.kind, .bool x.tr, .int .i64 x.num, .string x.str, .slice A x.items.length c, .slice A' x.keys.length c'] 32)).heap.size = _
      simp
     refine hK.out _ _ ?_ (fun hHeld => ?_)
     · exact HSL.out _ (fun j hj => HBa.out j (by omega))
     clear hK K0
     try simp only [Act.put, List.getElem_toArray, List.getElem_cons_succ, List.getElem_cons_zero, List.setIfInBounds_toArray, List.set_cons_zero, List.set_cons_succ]
     generalize (wr.alloc (.cells #[.int .i64 x.kind, .bool x.tr, .int .i64 x.num, .string x.str, .slice A x.items.length c, .slice A' x.keys.length c'] 32)).drew = wa at *
     refine wpAnyH_ready (rs := [9]) (by kernel_rfl) (by simp) ?_
     refine AllReadyH.cons rfl (fun K0 hK => ?_) ?_
     rotate_left
     · exact AllReadyH.nil
     refine app_step rfl (.tmp 42) (.tmp 49) 30 rfl (B8 + 1) 32 i1 (.agg #[.int .i64 0, .bool false, .int .i64 0, .string ⟨#[]⟩, .slice none 0 0, .slice none 0 0]) 6 88 Tryz.underlying30 hi1 hy0 hy1 hy2 rfl (by decide) (.slice A2 k d2) k xs rfl HOa.out (some ⟨wr.heap.size, 0, none⟩) 1 1 (x.cs A c A' c').toList rfl (src_of_cs HZa.out) cs_one (by unfold maxLen; omega) (by omega) (by omega) (k + 1) rfl ?_
     intro A3 d3 w8 ho8 hg8 hat8
     have HEND := Lib.hid (show Coll 32 w8 (B8 + 1) X (its.take k ++ [x]) (.slice A3 (k + 1) d3) (xs ++ (x.cs A c A' c').toList) from Hcoll.out.app_new (o := .cells #[.int .i64 x.kind, .bool x.tr, .int .i64 x.num, .string x.str, .slice A x.items.length c, .slice A' x.keys.length c'] 32) HTx.out (HXn.out (wr.heap.size + 1) (by omega)) (by rw [Hlen.out]) ho8 ⟨hg8.os.trans HGa.out.os, hg8.tape.trans HGa.out.tape, hg8.output.trans HGa.out.output, Nat.le_trans HGa.out.size hg8.size, fun j hj hne => (hg8.block j (by rw [World.size_alloc] at hj; omega) hne).trans (HGa.out.block j hj (by simp))⟩ (by rw [World.size_alloc]; rw [hwa1] at hat8; exact hat8))
     have HB8n := Lib.hid (show ∀ j, j < wr.heap.size → j < B8 + 1 → w8.heap[j]? = wr.heap[j]? from fun j hj hj2 => (hg8.block j (by omega) (fun e => by have := (Hown.out.lt j e.symm).1; omega)).trans (HBa.out j hj))
     have HG8 := Lib.hid (show Kept (fun j => j < B8) wr w8 from ⟨hg8.os.trans HGa.out.os, hg8.tape.trans HGa.out.tape, hg8.output.trans HGa.out.output, by have := hg8.size; omega, fun j hj hj2 => (hg8.block j (by omega) (fun e => by have := (Hown.out.lt j e.symm).1; omega)).trans (HBa.out j hj)⟩)
     have hQ8 := (HB8n.out B8 (by omega) (by omega)).trans Hbb.out
     have HQ8 := Lib.hid (show Blk w8 B8 32 #[.int .i64 5, .bool false, .int .i64 0, .string ⟨#[]⟩, .slice A2 k d2, .slice (some ⟨gk, ok, none⟩) vs.length kd] from hQ8)
     clear ho8 hg8 hat8 hQ8
     have y4 := HQ8.out.free 4
     have y4c : w8.cell? ⟨B8, 4, none⟩ = some (.slice A2 k d2) := HQ8.out.cell 4
     refine hK.out _ _ ?_ (fun hHeld => ?_)
     · exact HSL.out _ (fun j hj => HB8n.out j (by omega) (by omega))
     clear hK K0
     try simp only [Act.put, List.getElem_toArray, List.getElem_cons_succ, List.getElem_cons_zero, List.setIfInBounds_toArray, List.set_cons_zero, List.set_cons_succ]
     refine wpAnyH_take (i := 10) (v := ?_) rfl (by kernel_rfl) (by kernel_rfl) (by kernel_rfl) (fun _ _ _ h => h) (Or.inl ⟨by rfl, ?_⟩) (by assumption) ?_
     rotate_left
     ·
      intro wq hSw
      try dsimp only at hSw
      go_simp
      try (with_reducible rfl)
     try simp only [Act.put, List.getElem_toArray, List.getElem_cons_succ, List.getElem_cons_zero, List.setIfInBounds_toArray, List.set_cons_zero, List.set_cons_succ]
     refine wpAnyH_ready (rs := [11]) (by kernel_rfl) (by simp) ?_
     refine AllReadyH.cons rfl (fun K0 hK => ?_) ?_
     rotate_left
     · exact AllReadyH.nil
     go_simp
     refine hK.out _ _ ?_ (fun hHeld => ?_)
     · exact HSL.out _ (fun j hj => (Below.heap_setCell w8 ⟨B8, 4, none⟩ _ j (by show j ≠ B8; omega)).trans (HB8n.out j (by omega) (by omega)))
     clear hK K0
     try simp only [Act.put, List.getElem_toArray, List.getElem_cons_succ, List.getElem_cons_zero, List.setIfInBounds_toArray, List.set_cons_zero, List.set_cons_succ]
     refine wpAnyH_done (by kernel_rfl) ?_ _
     go_wp2_with fail
     go_roundw
     case rel =>
      refine ⟨k + 1, A3, d3, xs ++ (x.cs A c A' c').toList, hlt, by go_num, ?_, HQ8.out.set_ 4 _, ?_⟩
      ·
       rw [T.take_snoc Hx.out]
       exact HEND.out.set (HXb.out) _
      · exact ⟨HG8.out.os.trans Hbel.out.os, HG8.out.tape.trans Hbel.out.tape, HG8.out.output.trans Hbel.out.output, by rw [setCell_size]; exact Nat.le_trans Hbel.out.size HG8.out.size, fun j hj => (Below.heap_setCell w8 ⟨B8, 4, none⟩ _ j (by show j ≠ B8; omega)).trans ((HG8.out.block j (by have := Hbel.out.size; omega) hj).trans (Hbel.out.block j hj))⟩
     case measure => simp [intOf]; omega
    ·
     skip
     go_simp
     have HZa := Lib.hid (show Blk (wr.alloc (.cells #[.int .i64 x.kind, .bool x.tr, .int .i64 x.num, .string x.str, .slice A x.items.length c, .slice A' x.keys.length c'] 32)).drew wr.heap.size 32 (x.cs A c A' c') from Blk.new wr _ _)
     have HOa := Lib.hid (show (wr.alloc (.cells #[.int .i64 x.kind, .bool x.tr, .int .i64 x.num, .string x.str, .slice A x.items.length c, .slice A' x.keys.length c'] 32)).drew.ownsRow (B8 + 1) 32 6 (.slice A2 k d2) k xs from (Hown.out.alloc _).drew)
     have HBa := Lib.hid (show ∀ j, j < wr.heap.size → (wr.alloc (.cells #[.int .i64 x.kind, .bool x.tr, .int .i64 x.num, .string x.str, .slice A x.items.length c, .slice A' x.keys.length c'] 32)).drew.heap[j]? = wr.heap[j]? from fun j hj => Below.heap_alloc wr _ j hj)
     have HGa := Lib.hid (show (wr.alloc (.cells #[.int .i64 x.kind, .bool x.tr, .int .i64 x.num, .string x.str, .slice A x.items.length c, .slice A' x.keys.length c'] 32)).grownBy (wr.alloc (.cells #[.int .i64 x.kind, .bool x.tr, .int .i64 x.num, .string x.str, .slice A x.items.length c, .slice A' x.keys.length c'] 32)).drew none from ⟨rfl, rfl, rfl, Nat.le_refl _, fun _ _ _ => rfl⟩)
     have hwa1 : (wr.alloc (.cells #[.int .i64 x.kind, .bool x.tr, .int .i64 x.num, .string x.str, .slice A x.items.length c, .slice A' x.keys.length c'] 32)).drew.heap.size = wr.heap.size + 1 := by
      show (wr.alloc (.cells #[.int .i64 x.kind, .bool x.tr, .int .i64 x.num, .string x.str, .slice A x.items.length c, .slice A' x.keys.length c'] 32)).heap.size = _
      simp
     refine hK.out _ _ ?_ (fun hHeld => ?_)
     · exact HSL.out _ (fun j hj => HBa.out j (by omega))
     clear hK K0
     try simp only [Act.put, List.getElem_toArray, List.getElem_cons_succ, List.getElem_cons_zero, List.setIfInBounds_toArray, List.set_cons_zero, List.set_cons_succ]
     have q4a : (wr.alloc (.cells #[.int .i64 x.kind, .bool x.tr, .int .i64 x.num, .string x.str, .slice A x.items.length c, .slice A' x.keys.length c'] 32)).drew.cell? ⟨B8, 4, none⟩ = some (.slice A2 k d2) := (World.cell?_of_block (HBa.out B8 (by omega))).trans q4
     generalize (wr.alloc (.cells #[.int .i64 x.kind, .bool x.tr, .int .i64 x.num, .string x.str, .slice A x.items.length c, .slice A' x.keys.length c'] 32)).drew = wa at *
     refine wpAnyH_ready (rs := [1]) (by kernel_rfl) (by simp) ?_
     refine AllReadyH.cons rfl (fun K0 hK => ?_) ?_
     rotate_left
     · exact AllReadyH.nil
     go_simp
     refine hK.out _ _ ?_ (fun hHeld => ?_)
     · exact HSL.out _ (fun j hj => HBa.out j (by omega))
     clear hK K0
     try simp only [Act.put, List.getElem_toArray, List.getElem_cons_succ, List.getElem_cons_zero, List.setIfInBounds_toArray, List.set_cons_zero, List.set_cons_succ]
     refine wpAnyH_ready (rs := [9]) (by kernel_rfl) (by simp) ?_
     refine AllReadyH.cons rfl (fun K0 hK => ?_) ?_
     rotate_left
     · exact AllReadyH.nil
     refine app_step rfl (.tmp 42) (.tmp 49) 30 rfl (B8 + 1) 32 i1 (.agg #[.int .i64 0, .bool false, .int .i64 0, .string ⟨#[]⟩, .slice none 0 0, .slice none 0 0]) 6 88 Tryz.underlying30 hi1 hy0 hy1 hy2 rfl (by decide) (.slice A2 k d2) k xs rfl HOa.out (some ⟨wr.heap.size, 0, none⟩) 1 1 (x.cs A c A' c').toList rfl (src_of_cs HZa.out) cs_one (by unfold maxLen; omega) (by omega) (by omega) (k + 1) rfl ?_
     intro A3 d3 w8 ho8 hg8 hat8
     have HEND := Lib.hid (show Coll 32 w8 (B8 + 1) X (its.take k ++ [x]) (.slice A3 (k + 1) d3) (xs ++ (x.cs A c A' c').toList) from Hcoll.out.app_new (o := .cells #[.int .i64 x.kind, .bool x.tr, .int .i64 x.num, .string x.str, .slice A x.items.length c, .slice A' x.keys.length c'] 32) HTx.out (HXn.out (wr.heap.size + 1) (by omega)) (by rw [Hlen.out]) ho8 ⟨hg8.os.trans HGa.out.os, hg8.tape.trans HGa.out.tape, hg8.output.trans HGa.out.output, Nat.le_trans HGa.out.size hg8.size, fun j hj hne => (hg8.block j (by rw [World.size_alloc] at hj; omega) hne).trans (HGa.out.block j hj (by simp))⟩ (by rw [World.size_alloc]; rw [hwa1] at hat8; exact hat8))
     have HB8n := Lib.hid (show ∀ j, j < wr.heap.size → j < B8 + 1 → w8.heap[j]? = wr.heap[j]? from fun j hj hj2 => (hg8.block j (by omega) (fun e => by have := (Hown.out.lt j e.symm).1; omega)).trans (HBa.out j hj))
     have HG8 := Lib.hid (show Kept (fun j => j < B8) wr w8 from ⟨hg8.os.trans HGa.out.os, hg8.tape.trans HGa.out.tape, hg8.output.trans HGa.out.output, by have := hg8.size; omega, fun j hj hj2 => (hg8.block j (by omega) (fun e => by have := (Hown.out.lt j e.symm).1; omega)).trans (HBa.out j hj)⟩)
     have hQ8 := (HB8n.out B8 (by omega) (by omega)).trans Hbb.out
     have HQ8 := Lib.hid (show Blk w8 B8 32 #[.int .i64 5, .bool false, .int .i64 0, .string ⟨#[]⟩, .slice A2 k d2, .slice (some ⟨gk, ok, none⟩) vs.length kd] from hQ8)
     clear ho8 hg8 hat8 hQ8
     have y4 := HQ8.out.free 4
     have y4c : w8.cell? ⟨B8, 4, none⟩ = some (.slice A2 k d2) := HQ8.out.cell 4
     refine hK.out _ _ ?_ (fun hHeld => ?_)
     · exact HSL.out _ (fun j hj => HB8n.out j (by omega) (by omega))
     clear hK K0
     try simp only [Act.put, List.getElem_toArray, List.getElem_cons_succ, List.getElem_cons_zero, List.setIfInBounds_toArray, List.set_cons_zero, List.set_cons_succ]
     refine wpAnyH_take (i := 10) (v := ?_) rfl (by kernel_rfl) (by kernel_rfl) (by kernel_rfl) (fun _ _ _ h => h) (Or.inl ⟨by rfl, ?_⟩) (by assumption) ?_
     rotate_left
     ·
      intro wq hSw
      try dsimp only at hSw
      go_simp
      try (with_reducible rfl)
     try simp only [Act.put, List.getElem_toArray, List.getElem_cons_succ, List.getElem_cons_zero, List.setIfInBounds_toArray, List.set_cons_zero, List.set_cons_succ]
     refine wpAnyH_ready (rs := [11]) (by kernel_rfl) (by simp) ?_
     refine AllReadyH.cons rfl (fun K0 hK => ?_) ?_
     rotate_left
     · exact AllReadyH.nil
     go_simp
     refine hK.out _ _ ?_ (fun hHeld => ?_)
     · exact HSL.out _ (fun j hj => (Below.heap_setCell w8 ⟨B8, 4, none⟩ _ j (by show j ≠ B8; omega)).trans (HB8n.out j (by omega) (by omega)))
     clear hK K0
     try simp only [Act.put, List.getElem_toArray, List.getElem_cons_succ, List.getElem_cons_zero, List.setIfInBounds_toArray, List.set_cons_zero, List.set_cons_succ]
     refine wpAnyH_done (by kernel_rfl) ?_ _
     go_wp2_with fail
     go_roundw
     case rel =>
      refine ⟨k + 1, A3, d3, xs ++ (x.cs A c A' c').toList, hlt, by go_num, ?_, HQ8.out.set_ 4 _, ?_⟩
      ·
       rw [T.take_snoc Hx.out]
       exact HEND.out.set (HXb.out) _
      · exact ⟨HG8.out.os.trans Hbel.out.os, HG8.out.tape.trans Hbel.out.tape, HG8.out.output.trans Hbel.out.output, by rw [setCell_size]; exact Nat.le_trans Hbel.out.size HG8.out.size, fun j hj => (Below.heap_setCell w8 ⟨B8, 4, none⟩ _ j (by show j ≠ B8; omega)).trans ((HG8.out.block j (by have := Hbel.out.size; omega) hj).trans (Hbel.out.block j hj))⟩
     case measure => simp [intOf]; omega
   ·
    obtain rfl : vs.length = k := by omega
    have HTK := Lib.hid (show its.take vs.length = its from by rw [List.take_of_length_le (by rw [Hitl.out]; exact Nat.le_refl _)])
    rw [HTK.out] at Hcoll
    have c0 : wr.cell? ⟨B8, 0, none⟩ = some (.int .i64 5) := Hbb.out.cell 0
    have c1' : wr.cell? ⟨B8, 1, none⟩ = some (.bool false) := Hbb.out.cell 1
    have c2 : wr.cell? ⟨B8, 2, none⟩ = some (.int .i64 0) := Hbb.out.cell 2
    have c3 : wr.cell? ⟨B8, 3, none⟩ = some (.string ⟨#[]⟩) := Hbb.out.cell 3
    have c5 : wr.cell? ⟨B8, 5, none⟩ = some (.slice K vs.length kd) := Hbb.out.cell 5
    have u1 : decide (vs.length < vs.length) = false := decide_eq_false (Nat.lt_irrefl _)
    have HBy := Lib.hid (show Blk wr G 32 #[.int .i64 0, .bool false, .int .i64 0, .string ⟨#[]⟩, .slice none 0 0, .slice none 0 0] from (Hbel.out.block G (by omega)).trans ((HW5.out.block G (by omega)).trans HBx.out))
    have HAr := Lib.hid (show Aside b w wr from HA.out.trans_ (Aside.of ⟨Hbel.out.os.trans HW5.out.os, Hbel.out.tape.trans HW5.out.tape, Hbel.out.output.trans HW5.out.output, Nat.le_trans HW5.out.size hsr, fun j hj => (Hbel.out.block j (by omega)).trans (HW5.out.block j hj)⟩))
    have HLr := Lib.hid (show Lx wr b s fin from (Hbel.out.block b (by omega)).trans ((HW5.out.block b (by omega)).trans HLf.out))
    have HVR := Lib.hid Hcoll.out.vreads
    have HTV := Lib.hid (show TV wr (fun j => w.heap.size ≤ j ∧ j < wr.heap.size ∧ j ≠ G) (Rd.Ob m) A2 d2 K kd from by
     have hG' := HG.out
     refine TV.of ?_ ?_ (fun hn' => ?_) ?_
     ·
      rw [Rd.Ob_eq]
      show ((srt (m.map Prod.fst)).map (Rd.lk m)).length ≤ d2
      rw [← Hits.out, Hitl.out]; exact HVR.out.2.1
     ·
      rw [Rd.Ob_eq]
      show (srt (m.map Prod.fst)).length ≤ kd
      rw [srt_len, List.length_map, ← HVL.out]; exact hkd
     ·
      have hx : (Rd.Ob m).items = its := by rw [Rd.Ob_eq, Hits.out]; rfl
      rw [hx] at hn' ⊢
      refine (VReads.wide HVR.out.2.2 (fun j hj => ?_)) hn'
      have h1 : ¬ j < G := fun h => hj.2 (by rw [HX.out]; exact .inl h)
      exact ⟨by omega, hj.1, fun e => hj.2 (by rw [HX.out]; exact .inr (.inr (.inl (e ▸ hYG))))⟩
     ·
      have hx : (Rd.Ob m).keys = srt (vs.map Prod.fst) := by rw [Rd.Ob_eq, HJ2.out.fst]; rfl
      rw [hx]
      exact (HSK.out.keep fun j hj => Hbel.out.block j (by omega)).wide fun j hj => ⟨by omega, by omega, by omega⟩)
    have HBx := HBy
    have q0 : wr.cell? ⟨G, 0, none⟩ = some (.int .i64 0) := HBy.out.cell 0
    have q1 : wr.cell? ⟨G, 1, none⟩ = some (.bool false) := HBy.out.cell 1
    have q2 : wr.cell? ⟨G, 2, none⟩ = some (.int .i64 0) := HBy.out.cell 2
    have q3 : wr.cell? ⟨G, 3, none⟩ = some (.string ⟨#[]⟩) := HBy.out.cell 3
    have q4 : wr.cell? ⟨G, 4, none⟩ = some (.slice none 0 0) := HBy.out.cell 4
    have q5 : wr.cell? ⟨G, 5, none⟩ = some (.slice none 0 0) := HBy.out.cell 5
    have xq0 := HBy.out.free 0
    have xq1 := HBy.out.free 1
    have xq2 := HBy.out.free 2
    have xq3 := HBy.out.free 3
    have xq4 := HBy.out.free 4
    have xq5 := HBy.out.free 5
    go_wp2_with fail
    have HZ := Lib.hid (show FromGives (.val (Rd.Ob m) fin) b s w (.returned (.tuple #[(Rd.Ob m).agg A2 d2 K kd, .int .i64 0, .int .i64 0])) ((((((wr.setCell ⟨G, 0, none⟩ (.int .i64 5)).setCell ⟨G, 1, none⟩ (.bool false)).setCell ⟨G, 2, none⟩ (.int .i64 0)).setCell ⟨G, 3, none⟩ (.string ⟨#[]⟩)).setCell ⟨G, 4, none⟩ (.slice A2 vs.length d2)).setCell ⟨G, 5, none⟩ (.slice K vs.length kd)) from ⟨A2, d2, K, kd, rfl, box_put HTV.out, HAr.out.put6 (by have := HG.out; omega) _ _ _ _ _ _, (putv_heap (by omega)).trans HLr.out⟩)
    have hF : Blk ((((((wr.setCell ⟨G, 0, none⟩ (.int .i64 5)).setCell ⟨G, 1, none⟩ (.bool false)).setCell ⟨G, 2, none⟩ (.int .i64 0)).setCell ⟨G, 3, none⟩ (.string ⟨#[]⟩)).setCell ⟨G, 4, none⟩ (.slice A2 vs.length d2)).setCell ⟨G, 5, none⟩ (.slice K vs.length kd)) G 32 #[.int .i64 5, .bool false, .int .i64 0, .string ⟨#[]⟩, .slice A2 vs.length d2, .slice K vs.length kd] := (((((HBy.out.set_ 0 _).set_ 1 _).set_ 2 _).set_ 3 _).set_ 4 _).set_ 5 _
    generalize ((((((wr.setCell ⟨G, 0, none⟩ (.int .i64 5)).setCell ⟨G, 1, none⟩ (.bool false)).setCell ⟨G, 2, none⟩ (.int .i64 0)).setCell ⟨G, 3, none⟩ (.string ⟨#[]⟩)).setCell ⟨G, 4, none⟩ (.slice A2 vs.length d2)).setCell ⟨G, 5, none⟩ (.slice K vs.length kd)) = V9 at *
    have m0 : V9.cell? ⟨G, 0, none⟩ = some (.int .i64 5) := hF.cell 0
    have m1 : V9.cell? ⟨G, 1, none⟩ = some (.bool false) := hF.cell 1
    have m2 : V9.cell? ⟨G, 2, none⟩ = some (.int .i64 0) := hF.cell 2
    have m3 : V9.cell? ⟨G, 3, none⟩ = some (.string ⟨#[]⟩) := hF.cell 3
    have m4 : V9.cell? ⟨G, 4, none⟩ = some (.slice A2 vs.length d2) := hF.cell 4
    have m5 : V9.cell? ⟨G, 5, none⟩ = some (.slice K vs.length kd) := hF.cell 5
    refine bodyPost_ret (v := .tuple #[.agg #[.int .i64 5, .bool false, .int .i64 0, .string ⟨#[]⟩, .slice A2 vs.length d2, .slice K vs.length kd], .int .i64 0, .int .i64 0]) (by simp [results, Tryz.results98, go_sem, m0, m1, m2, m3, m4, m5]) rfl ?_
    rw [hres]
    have hagg : (Rd.Ob m).agg A2 d2 K kd = .agg #[.int .i64 5, .bool false, .int .i64 0, .string ⟨#[]⟩, .slice A2 vs.length d2, .slice K vs.length kd] := by
     rw [Rd.Ob_eq]
     simp only [T.agg, T.kind, T.tr, T.num, T.str, T.items, T.keys, List.length_map, srt_len, HVL.out]
    have hz := HZ.out
    rw [hagg] at hz
    exact hz
end Go.Proofs.YtaeimlfehlbiiaaGreatDoor
