/- The library's contracts of a map's keys, sorted, at this translation's own numbers (laid by the shelf's program, in plain words). An object that is being read: what its keys, sorted, are. An object that is being read: contract of the program's object. -/
import Derived.Shelf.SlGeneric
import Derived.Shelf.SlIter.Nil
import Derived.Shelf.SortM.Plain
import Derived.Shelf.SortM.SortNone
import Derived.Ground.GgzProg
import Derived.Ground.SlgmProg
import Derived.Test.YtgblenoaeanogaaGreatDoorProg
import Derived.Test.YtgblenoaeanogaaGreatDoorMP
set_option linter.unusedVariables false
set_option maxRecDepth 100000
set_option maxHeartbeats 8000000
open Go.Lib (hid)
namespace Go.Proofs
open Go.RowKit Go.Maps Go.Sort Go.Shelf
def Tryz.keys105_ren : Go.Shelf.Ren := ⟨fun | 7 => 105 | 10 => 127 | n => n, fun | 23 => 161 | 26 => 9 | 3 => 43 | 28 => 166 | 0 => 0 | 27 => 165 | 33 => 30 | 4 => 4 | n => n, fun | n => n⟩
theorem Tryz.keys105 : Go.Proofs.SlLaysZ.n7 Tryz.prog Tryz.keys105_ren := {
 mixed := by kernel_rfl
 f7 := ⟨Tryz.f105.name, by decide, Tryz.func105.trans (congrArg some (by kernel_rfl))⟩
 f10 := ⟨Tryz.f127.name, by decide, Tryz.func127.trans (congrArg some (by kernel_rfl))⟩
 t0 := Tryz.underlying0
 a0 := Tryz.isAgg0
 z0 := Tryz.sizeOf0
 v0 := Tryz.zeroValue0
 t4 := Tryz.underlying4
 a4 := Tryz.isAgg4
 z4 := Tryz.sizeOf4
 v4 := Tryz.zeroValue4
 t23 := Tryz.underlying161
 a23 := Tryz.isAgg161
 z23 := Tryz.sizeOf161
 v23 := Tryz.zeroValue161
 t26 := Tryz.underlying9
 a26 := Tryz.isAgg9
 z26 := Tryz.sizeOf9
 v26 := Tryz.zeroValue9
 t27 := Tryz.underlying165
 a27 := Tryz.isAgg165
 z27 := Tryz.sizeOf165
 v27 := Tryz.zeroValue165
 t28 := Tryz.underlying166
 a28 := Tryz.isAgg166
 z28 := Tryz.sizeOf166
 v28 := Tryz.zeroValue166
 t33 := Tryz.underlying30
 a33 := Tryz.isAgg30
 z33 := Tryz.sizeOf30
 v33 := Tryz.zeroValue30 }
def Tryz.sorted104_ren : Go.Shelf.Ren := ⟨fun | 6 => 104 | 8 => 125 | 9 => 126 | 11 => 146 | 13 => 148 | 12 => 147 | 23 => 172 | 24 => 141 | 14 => 163 | 15 => 164 | 16 => 165 | 17 => 166 | 18 => 167 | 19 => 168 | 20 => 169 | 21 => 170 | 22 => 171 | 25 => 184 | 26 => 185 | 27 => 186 | 28 => 187 | 29 => 188 | 30 => 189 | 31 => 195 | n => n, fun | 26 => 9 | 28 => 166 | 24 => 41 | 0 => 0 | 3 => 3 | 37 => 206 | 48 => 204 | 50 => 70 | 4 => 4 | 40 => 220 | 39 => 219 | 45 => 179 | 5 => 5 | 9 => 9 | 51 => 240 | 55 => 244 | 57 => 251 | 58 => 133 | 33 => 30 | n => n, fun | n => n⟩
theorem Tryz.sorted104 : Go.Proofs.SlLaysZ.n6 Tryz.prog Tryz.sorted104_ren := {
 mixed := by kernel_rfl
 f6 := ⟨Tryz.f104.name, by decide, Tryz.func104.trans (congrArg some (by kernel_rfl))⟩
 f8 := ⟨Tryz.f125.name, by decide, Tryz.func125.trans (congrArg some (by kernel_rfl))⟩
 f11 := ⟨Tryz.f146.name, by decide, Tryz.func146.trans (congrArg some (by kernel_rfl))⟩
 t0 := Tryz.underlying0
 a0 := Tryz.isAgg0
 z0 := Tryz.sizeOf0
 v0 := Tryz.zeroValue0
 t24 := Tryz.underlying41
 a24 := Tryz.isAgg41
 z24 := Tryz.sizeOf41
 v24 := Tryz.zeroValue41
 t26 := Tryz.underlying9
 a26 := Tryz.isAgg9
 z26 := Tryz.sizeOf9
 v26 := Tryz.zeroValue9
 t28 := Tryz.underlying166
 a28 := Tryz.isAgg166
 z28 := Tryz.sizeOf166
 v28 := Tryz.zeroValue166
 i26 := by kernel_rfl }
def Tryz.sort126_ren : Go.Shelf.Ren := ⟨fun | 6 => 126 | 8 => 148 | 9 => 147 | 19 => 172 | 20 => 141 | 21 => 163 | 22 => 164 | 23 => 165 | 24 => 166 | 25 => 167 | 26 => 168 | 27 => 169 | 28 => 170 | 29 => 171 | 36 => 184 | 31 => 185 | 32 => 186 | 37 => 187 | 38 => 188 | 39 => 189 | 41 => 195 | n => n, fun | 27 => 41 | 29 => 9 | 3 => 3 | 32 => 206 | 26 => 41 | 0 => 0 | 44 => 204 | 46 => 70 | 4 => 4 | 36 => 220 | 35 => 219 | 41 => 179 | 5 => 5 | 9 => 9 | 53 => 240 | 57 => 244 | 63 => 251 | 64 => 133 | n => n, fun | n => n⟩
theorem Tryz.sort126 : Go.Proofs.SlLaysM.n6 Tryz.prog Tryz.sort126_ren := {
 mixed := by kernel_rfl
 f6 := ⟨Tryz.f126.name, by decide, Tryz.func126.trans (congrArg some (by kernel_rfl))⟩
 f8 := Tryz.func148.trans (congrArg some (by kernel_rfl))
 f9 := ⟨Tryz.f147.name, by decide, Tryz.func147.trans (congrArg some (by kernel_rfl))⟩
 f19 := Tryz.func172.trans (congrArg some (by kernel_rfl))
 f20 := Tryz.func141.trans (congrArg some (by kernel_rfl))
 f21 := ⟨Tryz.f163.name, by decide, Tryz.func163.trans (congrArg some (by kernel_rfl))⟩
 f22 := ⟨Tryz.f164.name, by decide, Tryz.func164.trans (congrArg some (by kernel_rfl))⟩
 f23 := ⟨Tryz.f165.name, by decide, Tryz.func165.trans (congrArg some (by kernel_rfl))⟩
 f24 := ⟨Tryz.f166.name, by decide, Tryz.func166.trans (congrArg some (by kernel_rfl))⟩
 f25 := ⟨Tryz.f167.name, by decide, Tryz.func167.trans (congrArg some (by kernel_rfl))⟩
 f26 := ⟨Tryz.f168.name, by decide, Tryz.func168.trans (congrArg some (by kernel_rfl))⟩
 f27 := ⟨Tryz.f169.name, by decide, Tryz.func169.trans (congrArg some (by kernel_rfl))⟩
 f28 := ⟨Tryz.f170.name, by decide, Tryz.func170.trans (congrArg some (by kernel_rfl))⟩
 f29 := ⟨Tryz.f171.name, by decide, Tryz.func171.trans (congrArg some (by kernel_rfl))⟩
 f31 := Tryz.func185.trans (congrArg some (by kernel_rfl))
 f32 := Tryz.func186.trans (congrArg some (by kernel_rfl))
 f36 := ⟨Tryz.f184.name, by decide, Tryz.func184.trans (congrArg some (by kernel_rfl))⟩
 f37 := ⟨Tryz.f187.name, by decide, Tryz.func187.trans (congrArg some (by kernel_rfl))⟩
 f38 := ⟨Tryz.f188.name, by decide, Tryz.func188.trans (congrArg some (by kernel_rfl))⟩
 f39 := ⟨Tryz.f189.name, by decide, Tryz.func189.trans (congrArg some (by kernel_rfl))⟩
 f41 := ⟨Tryz.f195.name, by decide, Tryz.func195.trans (congrArg some (by kernel_rfl))⟩
 t0 := Tryz.underlying0
 a0 := Tryz.isAgg0
 z0 := Tryz.sizeOf0
 v0 := Tryz.zeroValue0
 t3 := Tryz.underlying3
 a3 := Tryz.isAgg3
 z3 := Tryz.sizeOf3
 v3 := Tryz.zeroValue3
 t4 := Tryz.underlying4
 a4 := Tryz.isAgg4
 z4 := Tryz.sizeOf4
 v4 := Tryz.zeroValue4
 t5 := Tryz.underlying5
 a5 := Tryz.isAgg5
 z5 := Tryz.sizeOf5
 v5 := Tryz.zeroValue5
 t9 := Tryz.underlying9
 a9 := Tryz.isAgg9
 z9 := Tryz.sizeOf9
 v9 := Tryz.zeroValue9
 t26 := Tryz.underlying41
 a26 := Tryz.isAgg41
 z26 := Tryz.sizeOf41
 v26 := Tryz.zeroValue41
 t27 := Tryz.underlying41
 a27 := Tryz.isAgg41
 z27 := Tryz.sizeOf41
 v27 := Tryz.zeroValue41
 t29 := Tryz.underlying9
 a29 := Tryz.isAgg9
 z29 := Tryz.sizeOf9
 v29 := Tryz.zeroValue9
 t32 := Tryz.underlying206
 a32 := Tryz.isAgg206
 z32 := Tryz.sizeOf206
 v32 := Tryz.zeroValue206
 t35 := Tryz.underlying219
 a35 := Tryz.isAgg219
 z35 := Tryz.sizeOf219
 v35 := Tryz.zeroValue219
 t36 := Tryz.underlying220
 a36 := Tryz.isAgg220
 z36 := Tryz.sizeOf220
 v36 := Tryz.zeroValue220
 t41 := Tryz.underlying179
 a41 := Tryz.isAgg179
 z41 := Tryz.sizeOf179
 v41 := Tryz.zeroValue179
 t44 := Tryz.underlying204
 a44 := Tryz.isAgg204
 z44 := Tryz.sizeOf204
 v44 := Tryz.zeroValue204
 t46 := Tryz.underlying70
 a46 := Tryz.isAgg70
 z46 := Tryz.sizeOf70
 v46 := Tryz.zeroValue70
 t53 := Tryz.underlying240
 a53 := Tryz.isAgg240
 z53 := Tryz.sizeOf240
 v53 := Tryz.zeroValue240
 t57 := Tryz.underlying244
 a57 := Tryz.isAgg244
 z57 := Tryz.sizeOf244
 v57 := Tryz.zeroValue244
 t63 := Tryz.underlying251
 a63 := Tryz.isAgg251
 z63 := Tryz.sizeOf251
 v63 := Tryz.zeroValue251
 t64 := Tryz.underlying133
 a64 := Tryz.isAgg133
 z64 := Tryz.sizeOf133
 v64 := Tryz.zeroValue133 }
theorem Tryz.sorts104 (m : Nat) : AnyZ.SortsIn Tryz.prog Tryz.sorted104_ren Fence.wide m :=
 ⟨fun blk off cap ss W hH hblk hsz => callsIn_wide.2 (AnyM.slices_Sort_string Tryz.sort126 blk off cap ss W hH hblk hsz),
  fun p cap W => callsIn_wide.2 (AnyM.slices_Sort_string_none Tryz.sort126 p cap W)⟩
theorem Tryz.maps_Keys_105 (mb : Option Nat) (W : World) : CallsIn Fence.wide 5 Tryz.prog 105 #[.map mb] W fun e w' => e = .returned (.func (.func 127) #[] #[.pointer (some ⟨W.heap.size, 0, none⟩)]) ∧ w' = W.alloc (.cells #[.map mb] 161) :=
 AnyZ.keys_in Tryz.keys105 Fence.wide 5 trivial rfl mb W
theorem Tryz.slices_Sorted_keys_104_105 {H : Type} (b nn : Nat) (D0 : DataW H) (R : Value → Option (DataW H × List MemPlace)) (w : World) (hown : w.ownsMap Tryz.prog 9 R b nn D0) (hmax : Maps.size D0 ≤ maxLen) (hbytes : Maps.size D0 * 16 ≤ 140737488355328) :
 CallsIn Fence.wide 5 Tryz.prog 104 #[.func (.func 127) #[] #[.pointer (some ⟨w.heap.size, 0, none⟩)]] (w.alloc (.cells #[.map (some b)] 161)) fun e w' => ∃ (v : Value) (ss : List (List UInt8)), e = .returned v ∧ ss.Perm (strKeys D0) ∧
  w'.ownsRow (w.alloc (.cells #[.map (some b)] 161)).heap.size 9 1 v ss.length ((ss.mergeSort (fun x y => decide (x ≤ y))).map encStr) ∧ (v = .slice none 0 0 ↔ ss = []) ∧ Below (w.alloc (.cells #[.map (some b)] 161)).heap.size (w.alloc (.cells #[.map (some b)] 161)) w' := by
 have hbl := hown.lt
 have hseq : SeqGives Fence.wide 2 Tryz.prog 127 #[.pointer (some ⟨w.heap.size, 0, none⟩)] encStr (fun ss => ss.Perm (strKeys D0)) (Maps.size D0) (w.alloc (.cells #[.map (some b)] 161)) :=
  AnyZ.keys_gives (ρ := Tryz.keys105_ren) { Tryz.keys105 with } Fence.wide _ trivial rfl (by omega) w.heap.size b nn D0 _ (by simp) (by simp) (by
   obtain ⟨es, clock, hb, Ft, hs, hD⟩ := hown
   exact ⟨es, clock, (Below.heap_alloc _ _ b hbl).trans hb, Ft, hs, hD⟩)
 exact AnyZ.sorted_in Tryz.sorted104 Fence.wide 5 trivial trivial trivial trivial rfl (by omega) (Tryz.sorts104 _) (enters_of Tryz.func126 (by kernel_rfl) rfl) 127 #[.pointer (some ⟨w.heap.size, 0, none⟩)] trivial (enters_of Tryz.func127 (by kernel_rfl) rfl) _ _ hmax hbytes _ hseq
end Go.Proofs
namespace Go.Proofs.YtgblenoaeanogaaGreatDoor
open Go.RowKit Go.Maps Go.Sort
open Tk
theorem memb_parted {O : List (ByteArray × T) → T} {s : ByteArray} {n0 q r b N0 M room : Nat} (IH : ∀ n, n ≤ n0 → FromAt O s n) (hroom : room ≤ 1000) (hs : s.size ≤ 90000) : Parted (Rd.membP O s room) (MembS q r b N0 M room) 103 (.pointer (some ⟨q, 0, none⟩)) b r N0 n0 s List.length where
 stable := memb_stable
 reader := fun Y l w h => ⟨room, h.choose_spec.rd⟩
 step := fun n Y t l w hn hJ hL hE hok hft hnn hm => memb_step IH hroom hs n Y t l w hn hJ hL hE hok hft hnn hm
theorem keys_sorted {vs : List (ByteArray × Value)} (hn : (vs.map Prod.fst).Nodup) {ss : List (List UInt8)} (hp : ss.Perm (strKeys (MD vs))) : ss.length = vs.length ∧ (ss.mergeSort fun x y => decide (x ≤ y)).map encStr = (srt (vs.map Prod.fst)).map Value.string := by
 have h1 := hp.trans (MD_keys hn)
 have e1 : (ss.map fun l => (⟨l.toArray⟩ : ByteArray)).map (fun q => q.data.toList) = ss := by
  rw [List.map_map]
  exact (List.map_congr_left (fun l _ => rfl)).trans (List.map_id ss)
 have h2 : (ss.map fun l => (⟨l.toArray⟩ : ByteArray)).Perm (vs.map Prod.fst) := by
  have := h1.map fun l => (⟨l.toArray⟩ : ByteArray)
  rw [List.map_map] at this
  exact this.trans (.of_eq ((List.map_congr_left (fun q _ => rfl)).trans (List.map_id _)))
 refine ⟨by simpa using h1.length_eq, ?_⟩
 have h3 := srt_map (ss.map fun l => (⟨l.toArray⟩ : ByteArray))
 rw [e1] at h3
 rw [h3, Rd.srt_of (h2.nodup_iff.2 hn) h2]
theorem keys_call (M : Nat) (W : World) : Calls Tryz.prog 105 #[.map (some M)] W fun e w' => e = .returned (.func (.func 127) #[] #[.pointer (some ⟨W.heap.size, 0, none⟩)]) ∧ w' = W.alloc (.cells #[.map (some M)] 161) :=
 callsIn_wide.1 (Tryz.maps_Keys_105 (some M) W)
theorem sorted_call {W : World} {M n : Nat} {vs : List (ByteArray × Value)} (h : W.ownsMap Tryz.prog 9 RV M n (MD vs)) (hn : (vs.map Prod.fst).Nodup) (hl : vs.length ≤ 100000) :
 Calls Tryz.prog 104 #[.func (.func 127) #[] #[.pointer (some ⟨W.heap.size, 0, none⟩)]] (W.alloc (.cells #[.map (some M)] 161)) fun e w' => ∃ K kd, e = .returned (.slice K vs.length kd) ∧ vs.length ≤ kd ∧ OwnKeys w' (W.heap.size + 1) w'.heap.size (srt (vs.map Prod.fst)) K ∧ Below W.heap.size W w' := by
 have hz := MD_size hn
 refine (callsIn_wide.1 (Tryz.slices_Sorted_keys_104_105 M n (MD vs) RV W h (by rw [hz]; unfold maxLen; omega) (by rw [hz]; omega))).mono ?_
 rintro e w' ⟨v, ss, rfl, hp, ho, _, hb⟩
 obtain ⟨h1, h2⟩ := keys_sorted hn hp
 rw [h2, h1] at ho
 have hl2 : vs.length = (srt (vs.map Prod.fst)).length := by rw [srt_len, List.length_map]
 rw [hl2] at ho ⊢
 obtain ⟨K, kd, rfl, hd, hk⟩ := own_keys ho
 rw [World.size_alloc] at hk
 exact ⟨K, kd, rfl, hd, hk, ((Below.refl _ _).alloc (Nat.le_refl _) _).trans (hb.mono (by simp))⟩
theorem loop_len {α : Type} {part : Nat → Tok → α → Rd.Gp α} {m : α → Nat} {s : ByteArray} (G : Rd.Good part m s) (c : Nat) : ∀ (k : Nat) (t : Tok) (a a' : α) (fin : Nat), Rd.Ok s t → 2 * (s.size - t.at_) + 2 ≤ k → m a ≤ t.at_ → Rd.loopF part s c k t a = .ok a' fin → m a' ≤ fin ∧ fin ≤ s.size := by
 intro k
 induction k with
 | zero => intro t a a' fin _ h; omega
 | succ k ih =>
  intro t a a' fin ht h hm hl
  obtain ⟨g1, g2⟩ := G k t a ht (by omega)
  unfold Rd.loopF at hl
  split at hl
  · cases hl
  · cases hl
  ·
   rename_i a1 e he
   obtain ⟨e1, e2, e3⟩ := g2 a1 e he
   split at hl
   · cases hl
   ·
    rename_i u hu
    obtain ⟨⟨o1, o2, _⟩, hle⟩ := Rd.ok_next e2 hu
    split at hl
    ·
     injection hl with h1 h2
     subst h1 h2
     exact ⟨by omega, o2⟩
    ·
     split at hl
     · cases hl
     ·
      split at hl
      · cases hl
      ·
       rename_i x hx
       obtain ⟨ho, hle2⟩ := Rd.ok_next o2 hx
       exact ih x a1 a' fin ho (by have := ho.1; have := ho.2.1; omega) (by omega) hl
theorem start_len {α : Type} {part : Nat → Tok → α → Rd.Gp α} {m : α → Nat} {s : ByteArray} (G : Rd.Good part m s) {c n i fin : Nat} {a a' : α} (hi : i ≤ s.size) (hn : 2 * (s.size - i) + 2 ≤ n) (hm : m a ≤ i) (h : Rd.startF part s c n i a = .ok a' fin) : m a' ≤ fin ∧ fin ≤ s.size := by
 unfold Rd.startF at h
 split at h
 · cases h
 ·
  rename_i u hu
  obtain ⟨ho, hle⟩ := Rd.ok_next hi hu
  split at h
  ·
   injection h with h1 h2
   subst h1 h2
   exact ⟨by have := ho.1; omega, ho.2.1⟩
  · exact loop_len G c n u a a' fin ho (by omega) (by omega) h
open Go.RowKit Go.Maps Go.Sort
open Tk
theorem object_any {s : ByteArray} {n r b room i : Nat} (IH : ∀ k, k < n → FromAt Rd.Ob s k) (hroom : room ≤ 1000) (hs : s.size ≤ 90000) (w : World) (hr : Blk w r 77 #[.pointer (some ⟨b, 0, none⟩), .int .i64 room]) (hL : Lx w b s i) (hE : ErrAt b w) (hi : i ≤ s.size) (hn : 2 * (s.size - i) + 2 ≤ n) (h4 : r ≠ b) :
 Calls Tryz.prog 83 #[.pointer (some ⟨r, 0, none⟩)] w (FromGives ((Rd.startF (Rd.membP Rd.Ob s room) s 125 n i []).res Rd.Ob) b s w) := by
 have hmm := @run_makeMap Tryz.prog
 have hrl := hr.lt
 have hbl : b < w.heap.size := Blk.lt hL
 have HPA := hid (fun (W : World) (Y : Nat → Prop) (q M : Nat) => parts_any (memb_parted (O := Rd.Ob) (s := s) (n0 := n - 1) (q := q) (r := r) (b := b) (N0 := w.heap.size) (M := M) (room := room) (fun k hk => IH k (by omega)) hroom hs) (Rd.memb_good Rd.Ob s room) (Go.Proofs.enters_of Tryz.func103 (by kernel_rfl) rfl) 125 hs hbl h4 n i (by omega) Y [] W)
 have HB := hid (Blk.new w 43 #[.int .i64 0, .bool false, .int .i64 0, .string ⟨#[]⟩, .slice none 0 0, .slice none 0 0])
 have hW : Below w.heap.size w (w.alloc (.cells #[.int .i64 0, .bool false, .int .i64 0, .string ⟨#[]⟩, .slice none 0 0, .slice none 0 0] 43)) := (Below.refl _ _).alloc (Nat.le_refl _) _
 have HR := hid (hr.onto hW)
 have HL := hid (show Lx _ b s i from Blk.onto hL hW)
 have HE := hid (hE.onto hW)
 have HW := hid hW
 have hWs : (w.alloc (.cells #[.int .i64 0, .bool false, .int .i64 0, .string ⟨#[]⟩, .slice none 0 0, .slice none 0 0] 43)).heap.size = w.heap.size + 1 := by simp
 clear hW hr hL hE
 go_enter Tryz.func83, Tryz.ntmps83
 go_upto_region 1 with fail
 change Code.wp _ _ _ _ (w.alloc (.cells #[.int .i64 0, .bool false, .int .i64 0, .string ⟨#[]⟩, .slice none 0 0, .slice none 0 0] 43))
 generalize (w.alloc (.cells #[.int .i64 0, .bool false, .int .i64 0, .string ⟨#[]⟩, .slice none 0 0, .slice none 0 0] 43)) = W at *
 have hGW : w.heap.size < W.heap.size := by omega
 generalize hG : w.heap.size = G at *
 have HG := hid hG
 have HWs := hid hWs
 clear hG hWs
 go_upto_region 2 with fail
 have hB1 : Below W.heap.size W ((W.alloc (.map #[] 0)).alloc (.cells #[.pointer (some ⟨r, 0, none⟩), .map (some W.heap.size)] 163)) := ((Below.refl _ _).alloc (Nat.le_refl _) _).alloc (by simp) _
 have hQ1 : Blk ((W.alloc (.map #[] 0)).alloc (.cells #[.pointer (some ⟨r, 0, none⟩), .map (some W.heap.size)] 163)) (W.heap.size + 1) 163 #[.pointer (some ⟨r, 0, none⟩), .map (some W.heap.size)] := by
  have := Blk.new (W.alloc (.map #[] 0)) 163 #[.pointer (some ⟨r, 0, none⟩), .map (some W.heap.size)]
  rwa [World.size_alloc] at this
 have hM1 : ((W.alloc (.map #[] 0)).alloc (.cells #[.pointer (some ⟨r, 0, none⟩), .map (some W.heap.size)] 163)).ownsMap Tryz.prog 9 RV W.heap.size 0 (MD []) := (World.ownsMap_made W Tryz.prog 9 RV).alloc _
 change Code.wp _ _ _ _ ((W.alloc (.map #[] 0)).alloc (.cells #[.pointer (some ⟨r, 0, none⟩), .map (some W.heap.size)] 163))
 generalize ((W.alloc (.map #[] 0)).alloc (.cells #[.pointer (some ⟨r, 0, none⟩), .map (some W.heap.size)] 163)) = W1 at *
 have hW1s := hB1.size
 have hq1 := hQ1.lt
 have HJ := hid (show MembS (W.heap.size + 1) r b G W.heap.size room (fun k => k = G) [] W1 from ⟨[], ⟨rfl, fun i k x h => by simp at h, hM1, by simp, by simp, hQ1, HR.out.onto hB1, by omega, by omega, fun k hk => ⟨by omega, by omega⟩, by omega, by omega, by omega, by omega, by omega, by omega, h4⟩⟩)
 have HL1 := hid (show Lx W1 b s i from Blk.onto HL.out hB1)
 have HE1 := hid (HE.out.onto hB1)
 have HB1 := hid hB1
 have HBr := hid (HB.out.onto hB1)
 generalize hM : W.heap.size = M at *
 have HMq := hid hM
 clear hB1 hQ1 hM hM1
 go_wp2_with fail
 refine (HPA.out W1 (fun k => k = G) (M + 1) M HJ.out HL1.out HE1.out hi hn (Nat.zero_le _) (by omega) (by omega)).mono ?_
 intro e w2 hg
 cases hres : Rd.startF (Rd.membP Rd.Ob s room) s 125 n i [] with
 | out => exact absurd hres (start_out (Rd.memb_good Rd.Ob s room) 125 n i [] hi hn)
 | err p c =>
  rw [hres] at hg
  obtain ⟨rfl, hc0, hk⟩ := hg
  have v1 : (c != 0) = true := by rw [bne, hc0]; rfl
  have v2 : ¬ c = 0 := by simpa using hc0
  have hAs : Aside b w w2 := Kept.aside ((Aside.of (HG.out ▸ HW.out)).trans_ (Aside.of (HMq.out ▸ HB1.out))) hk (fun k hk' hne => .inr ⟨by have := HG.out; omega, hne⟩)
  have HA := hid hAs
  have HBx := hid (HBr.out.kept hk (.inl rfl))
  have q0 : w2.cell? ⟨G, 0, none⟩ = some (.int .i64 0) := HBx.out.cell 0
  have q1 : w2.cell? ⟨G, 1, none⟩ = some (.bool false) := HBx.out.cell 1
  have q2 : w2.cell? ⟨G, 2, none⟩ = some (.int .i64 0) := HBx.out.cell 2
  have q3 : w2.cell? ⟨G, 3, none⟩ = some (.string ⟨#[]⟩) := HBx.out.cell 3
  have q4 : w2.cell? ⟨G, 4, none⟩ = some (.slice none 0 0) := HBx.out.cell 4
  have q5 : w2.cell? ⟨G, 5, none⟩ = some (.slice none 0 0) := HBx.out.cell 5
  have xq0 := HBx.out.free 0
  have xq1 := HBx.out.free 1
  have xq2 := HBx.out.free 2
  have xq3 := HBx.out.free 3
  have xq4 := HBx.out.free 4
  have xq5 := HBx.out.free 5
  clear hAs hk
  go_wp2_with fail
  have hF : Blk ((((((w2.setCell ⟨G, 0, none⟩ (.int .i64 0)).setCell ⟨G, 1, none⟩ (.bool false)).setCell ⟨G, 2, none⟩ (.int .i64 0)).setCell ⟨G, 3, none⟩ (.string ⟨#[]⟩)).setCell ⟨G, 4, none⟩ (.slice none 0 0)).setCell ⟨G, 5, none⟩ (.slice none 0 0)) G 43 (#[.int .i64 T.zero.kind, .bool T.zero.tr, .int .i64 T.zero.num, .string T.zero.str, .slice none T.zero.items.length 0, .slice none T.zero.keys.length 0]) := res_put HBx.out rfl T.zero none 0 none 0
  have HZ := hid (show Aside b w ((((((w2.setCell ⟨G, 0, none⟩ (.int .i64 0)).setCell ⟨G, 1, none⟩ (.bool false)).setCell ⟨G, 2, none⟩ (.int .i64 0)).setCell ⟨G, 3, none⟩ (.string ⟨#[]⟩)).setCell ⟨G, 4, none⟩ (.slice none 0 0)).setCell ⟨G, 5, none⟩ (.slice none 0 0)) from HA.out.put6 (by have := HG.out; omega) _ _ _ _ _ _)
  change Blk ((((((w2.setCell ⟨G, 0, none⟩ (.int .i64 0)).setCell ⟨G, 1, none⟩ (.bool false)).setCell ⟨G, 2, none⟩ (.int .i64 0)).setCell ⟨G, 3, none⟩ (.string ⟨#[]⟩)).setCell ⟨G, 4, none⟩ (.slice none 0 0)).setCell ⟨G, 5, none⟩ (.slice none 0 0)) _ _ _ at hF
  generalize ((((((w2.setCell ⟨G, 0, none⟩ (.int .i64 0)).setCell ⟨G, 1, none⟩ (.bool false)).setCell ⟨G, 2, none⟩ (.int .i64 0)).setCell ⟨G, 3, none⟩ (.string ⟨#[]⟩)).setCell ⟨G, 4, none⟩ (.slice none 0 0)).setCell ⟨G, 5, none⟩ (.slice none 0 0)) = V9 at *
  have m0 : V9.cell? ⟨G, 0, none⟩ = some (.int .i64 0) := hF.cell 0
  have m1 : V9.cell? ⟨G, 1, none⟩ = some (.bool false) := hF.cell 1
  have m2 : V9.cell? ⟨G, 2, none⟩ = some (.int .i64 0) := hF.cell 2
  have m3 : V9.cell? ⟨G, 3, none⟩ = some (.string ⟨#[]⟩) := hF.cell 3
  have m4 : V9.cell? ⟨G, 4, none⟩ = some (.slice none 0 0) := hF.cell 4
  have m5 : V9.cell? ⟨G, 5, none⟩ = some (.slice none 0 0) := hF.cell 5
  refine bodyPost_ret (v := .tuple #[T.zero.agg none 0 none 0, .int .i64 p, .int .i64 c]) (by simp [results, Tryz.results83, go_sem, T.agg, T.zero, T.kind, T.tr, T.num, T.str, T.items, T.keys, m0, m1, m2, m3, m4, m5]) rfl ?_
  rw [hres]
  exact ⟨rfl, HZ.out⟩
 | ok m fin =>
  rw [hres] at hg
  obtain ⟨rfl, ⟨Y', hY', vs, hJ⟩, hLf, hk⟩ := hg
  have hAs : Aside b w w2 := Kept.aside ((Aside.of (HG.out ▸ HW.out)).trans_ (Aside.of (HMq.out ▸ HB1.out))) hk (fun k hk' hne => .inr ⟨by have := HG.out; omega, hne⟩)
  have HA := hid hAs
  have HBx := hid (HBr.out.kept hk (.inl rfl))
  have HLf := hid hLf
  have hYG := hY' G rfl
  have HJ2 := hid hJ
  have c1 : w2.cell? ⟨M + 1, 1, none⟩ = some (.map (some M)) := hJ.blk.cell 1
  have hnd : (vs.map Prod.fst).Nodup := by rw [hJ.fst]; exact hJ.nodup
  have hvl : vs.length = m.length := by simpa using congrArg List.length hJ.fst
  have hml : m.length ≤ 90000 := by have := start_len (Rd.memb_good Rd.Ob s room) hi hn (Nat.zero_le _) hres; omega
  have HVL := hid hvl
  have hvml : vs.length ≤ 90000 := by omega
  clear hvl hml
  have HK := hid (keys_call M w2)
  have HS := hid (sorted_call hJ.owns hnd (by omega))
  have hMl := hJ.Mw
  have hql := hJ.blk.lt
  have hGw2 : G < w2.heap.size := (hJ.yb G hYG).2
  clear hAs hk hJ hLf HBr HPA HJ HL1 HE1
  go_wp2_with fail
  refine HK.out.mono ?_
  rintro e w3 ⟨rfl, rfl⟩
  go_wp2_with fail
  refine HS.out.mono ?_
  rintro e w4 ⟨K, kd, rfl, hkd, hok, hb4⟩
  have hs4 := hb4.size
  have hW45 : Below w4.heap.size w4 (w4.alloc (.cells #[.int .i64 5, .bool false, .int .i64 0, .string ⟨#[]⟩, .slice none 0 0, .slice K vs.length kd] 43)) := (Below.refl _ _).alloc (Nat.le_refl _) _
  have hB5 : Blk (w4.alloc (.cells #[.int .i64 5, .bool false, .int .i64 0, .string ⟨#[]⟩, .slice none 0 0, .slice K vs.length kd] 43)) w4.heap.size 43 #[.int .i64 5, .bool false, .int .i64 0, .string ⟨#[]⟩, .slice none 0 0, .slice K vs.length kd] := Blk.new w4 _ _
  go_upto_region 6 with fail
  change Code.wp _ _ _ _ (w4.alloc (.cells #[.int .i64 5, .bool false, .int .i64 0, .string ⟨#[]⟩, .slice none 0 0, .slice K vs.length kd] 43))
  generalize (w4.alloc (.cells #[.int .i64 5, .bool false, .int .i64 0, .string ⟨#[]⟩, .slice none 0 0, .slice K vs.length kd] 43)) = W5 at *
  have HW5 := hid (show Below w2.heap.size w2 W5 from hb4.trans (hW45.mono hs4))
  have HSK := hid (show SReads W5 (fun j => w2.heap.size + 1 ≤ j ∧ j < w4.heap.size) K (srt (vs.map Prod.fst)) from hok.sreads.keep fun j hj => hW45.block j hj.2)
  have HB5 := hid hB5
  have h5 : W5.cell? ⟨w4.heap.size, 5, none⟩ = some (.slice K vs.length kd) := hB5.cell 5
  have hB5l := hB5.lt
  have HND := hid hnd
  obtain ⟨its, hits⟩ : ∃ its, its = (srt (m.map Prod.fst)).map (Rd.lk m) := ⟨_, rfl⟩
  have Hits := hid hits
  have Hitl := hid (show its.length = vs.length by rw [hits, List.length_map, srt_len, List.length_map, HVL.out])
  obtain ⟨X, hX⟩ : ∃ X : Nat → Prop, X = fun j => j < G ∨ j = w4.heap.size ∨ Y' j ∨ j = M + 1 ∨ j = M := ⟨_, rfl⟩
  have HX := hid hX
  have HXn := hid (show ∀ j, W5.heap.size ≤ j → ¬ X j from fun j hj hx => by
   rw [hX] at hx
   rcases hx with hx | hx | hx | hx | hx
   · omega
   · omega
   · have := (HJ2.out.yb j hx).2; omega
   · omega
   · omega)
  have HXo := hid (show ∀ j, (G ≤ j ∧ j < w2.heap.size ∧ ¬ Y' j ∧ j ≠ M + 1 ∧ j ≠ M) → ¬ X j from fun j hj hx => by
   rw [hX] at hx
   rcases hx with hx | hx | hx | hx | hx
   · omega
   · omega
   · exact hj.2.2.1 hx
   · omega
   · omega)
  have HXb := hid (show X w4.heap.size from by rw [hX]; exact .inr (.inl rfl))
  clear hB5 hW45 hok hb4 hits hX hnd HK HS
  generalize hB8 : w4.heap.size = B8 at *
  clear hB8
  obtain ⟨i1, hi1, hy0, hy1, hy2⟩ := info_parts infoVal
  go_wp2_with fail
  go_loopw [10, 37] (fun _ x wr => ∃ (k : Nat) (A2 : Option Addr) (d2 : Nat) (xs : List Value), k ≤ vs.length ∧ x = .int .i64 k ∧ Coll 43 wr (B8 + 1) X (its.take k) (.slice A2 k d2) xs ∧ Blk wr B8 43 #[.int .i64 5, .bool false, .int .i64 0, .string ⟨#[]⟩, .slice A2 k d2, .slice K vs.length kd] ∧ Below B8 W5 wr) (fun _ x _ => vs.length - (intOf x).toNat)
  case atStart => exact ⟨0, none, 0, [], Nat.zero_le _, rfl, Coll.nil _ _ _ _, HB5.out, Below.refl _ _⟩
  case round =>
   obtain ⟨k, A2, d2, xs, hk, rfl, hcoll, hbb, hbel⟩ := hrel
   have Hcoll := hid hcoll
   have Hbb := hid hbb
   have Hbel := hid hbel
   have hsr := hbel.size
   have q4 : wr.cell? ⟨B8, 4, none⟩ = some (.slice A2 k d2) := hbb.cell 4
   have hBr := hbb.lt
   clear hcoll hbb hbel
   by_cases hlt : k < vs.length
   ·
    have u1 : decide (k < vs.length) = true := decide_eq_true hlt
    have u2 : decide ((k : Int) < (vs.length : Int)) = true := decide_eq_true (by omega)
    have i1' : (k : Int) < (vs.length : Int) := by omega
    have i2' : (0 : Int) ≤ (k : Int) := by omega
    obtain ⟨kk, hkk⟩ : ∃ kk, (srt (vs.map Prod.fst))[k]? = some kk := ⟨_, List.getElem?_eq_getElem (by rw [srt_len, List.length_map]; exact hlt)⟩
    obtain ⟨gk, ok, rfl, hgk, hkc⟩ := HSK.out (by intro h; rw [h] at hkk; simp at hkk)
    have hkc2 := hkc k kk hkk
    have hkr : wr.cell? ⟨gk, ok + k, none⟩ = some (.string kk) := (World.cell?_of_block (Hbel.out.block gk (by have := hgk.2; omega))).trans hkc2
    have hmem : kk ∈ vs.map Prod.fst := (srt_perm _).mem_iff.1 (List.mem_of_getElem? hkk)
    rw [HJ2.out.fst] at hmem
    obtain ⟨⟨k1, x⟩, hmx, hme⟩ := List.mem_map.1 hmem
    dsimp only at hme
    subst hme
    obtain ⟨i, hmi⟩ := List.getElem?_of_mem hmx
    obtain ⟨A, c, A', c', hv, hT0⟩ := HJ2.out.at_ i k1 x hmi
    have hsz : k1.size ≤ maxLen := by have := HJ2.out.short k1 hmem; unfold maxLen; omega
    have Hx := hid (show its[k]? = some x from by
     rw [Hits.out, List.getElem?_map]
     rw [HJ2.out.fst] at hkk
     rw [hkk]
     exact congrArg some (Rd.lk_mem HJ2.out.nodup hmx))
    have HTx := hid (show TV wr (fun j => j < wr.heap.size ∧ ¬ X j ∧ some j ≠ (Value.slice A2 k d2).ownBlock) x A c A' c' from (hT0.keep fun j hj => (Hbel.out.block j (by omega)).trans (HW5.out.block j (by omega))).wide fun j hj => ⟨by omega, HXo.out j hj, fun e => by have := (Hcoll.out.2.1.lt j e.symm).1; omega⟩)
    have Hlen := hid (show (its.take k).length = k by rw [List.length_take, Hitl.out]; omega)
    have hown := Hcoll.out.2.1
    rw [Hlen.out] at hown
    have Hown := hid hown
    have HSL := hid (show ∀ w' : World, (∀ j, j < B8 → w'.heap[j]? = wr.heap[j]?) → w'.cell? ⟨M + 1, 1, none⟩ = some (.map (some M)) ∧ (Instr.lookup 161 (.map (some M)) (.string k1) false).run Tryz.prog w' = .ok (.agg #[.int .i64 x.kind, .bool x.tr, .int .i64 x.num, .string x.str, .slice A x.items.length c, .slice A' x.keys.length c']) w' from fun w' h => by
     have hb : ∀ j, j < w2.heap.size → w'.heap[j]? = w2.heap[j]? := fun j hj => (h j (by omega)).trans ((Hbel.out.block j (by omega)).trans (HW5.out.block j hj))
     exact ⟨(World.cell?_of_block (hb (M + 1) HJ2.out.blk.lt)).trans (HJ2.out.blk.cell 1), ((map_look (owns_block HJ2.out.owns (hb M HJ2.out.Mw)) HND.out hsz false).2 _ (List.mem_of_getElem? hv)).2⟩)
    clear hT0 hkc hkc2 hown hmx hmi hv hkk hmem
    go_wp2_with fail
    refine wp_region_held_drew (S := fun w' => w'.cell? ⟨M + 1, 1, none⟩ = some (.map (some M)) ∧ (Instr.lookup 161 (.map (some M)) (.string k1) false).run Tryz.prog w' = .ok (.agg #[.int .i64 x.kind, .bool x.tr, .int .i64 x.num, .string x.str, .slice A x.items.length c, .slice A' x.keys.length c']) w') (by kernel_rfl) ?_ (fun hHeld => ?_)
    · exact HSL.out wr.drew (fun _ _ => rfl)
    refine wpAnyH_take (i := 0) (v := ?_) rfl (by kernel_rfl) (by kernel_rfl) (by kernel_rfl) (fun _ _ _ h => h) (Or.inl ⟨by rfl, ?_⟩) (by assumption) ?_
    rotate_left
    ·
     intro wq hSw
     try dsimp only at hSw
     go_simp
     try (with_reducible rfl)
    try simp only [Act.put, List.getElem_toArray, List.getElem_cons_zero, List.setIfInBounds_toArray, List.set_cons_zero, List.set_cons_succ]
    refine wpAnyH_take (i := 2) (v := ?_) rfl (by kernel_rfl) (by kernel_rfl) (by kernel_rfl) (fun _ _ _ h => h) (Or.inl ⟨by rfl, ?_⟩) (by assumption) ?_
    rotate_left
    ·
     intro wq hSw
     try dsimp only at hSw
     go_simp
     try (with_reducible rfl)
    try simp only [Act.put, sqa, sqb, sqc, sqd, sqe, sqf]
    refine wpAnyH_take (i := 3) (v := ?_) rfl (by kernel_rfl) (by kernel_rfl) (by kernel_rfl) (fun _ _ _ h => h) (Or.inl ⟨by rfl, ?_⟩) (by assumption) ?_
    rotate_left
    ·
     intro wq hSw
     try dsimp only at hSw
     go_simp
     try (with_reducible rfl)
    try simp only [Act.put, sqa, sqb, sqc, sqd, sqe, sqf]
    refine wpAnyH_take (i := 4) (v := ?_) rfl (by kernel_rfl) (by kernel_rfl) (by kernel_rfl) (fun _ _ _ h => h) (Or.inl ⟨by rfl, ?_⟩) (by assumption) ?_
    rotate_left
    ·
     intro wq hSw
     try dsimp only at hSw
     go_simp
     try (with_reducible rfl)
    try simp only [Act.put, sqa, sqb, sqc, sqd, sqe, sqf]
    refine wpAnyH_take (i := 5) (v := ?_) rfl (by kernel_rfl) (by kernel_rfl) (by kernel_rfl) (fun _ _ _ h => h) (Or.inl ⟨by rfl, ?_⟩) (by assumption) ?_
    rotate_left
    ·
     intro wq hSw
     try dsimp only at hSw
     go_simp
     try (with_reducible rfl)
    try simp only [Act.put, sqa, sqb, sqc, sqd, sqe, sqf]
    refine wpAnyH_take (i := 6) (v := ?_) rfl (by kernel_rfl) (by kernel_rfl) (by kernel_rfl) (fun _ _ _ h => h) (Or.inl ⟨by rfl, ?_⟩) (by assumption) ?_
    rotate_left
    ·
     intro wq hSw
     try dsimp only at hSw
     go_simp
     try (with_reducible rfl)
    try simp only [Act.put, sqa, sqb, sqc, sqd, sqe, sqf]
    refine wpAnyH_take (i := 7) (v := ?_) rfl (by kernel_rfl) (by kernel_rfl) (by kernel_rfl) (fun _ _ _ h => h) (Or.inl ⟨by rfl, ?_⟩) (by assumption) ?_
    rotate_left
    ·
     intro wq hSw
     try dsimp only at hSw
     go_simp
     try (with_reducible rfl)
    try simp only [Act.put, sqa, sqb, sqc, sqd, sqe, sqf]
    have q4d : wr.drew.cell? ⟨B8, 4, none⟩ = some (.slice A2 k d2) := q4
    refine wpAnyH_ready (rs := [1, 8]) (by kernel_rfl) (by simp) ?_
    refine AllReadyH.cons rfl (fun K0 hK => ?_) (AllReadyH.cons rfl (fun K0 hK => ?_) AllReadyH.nil)
    ·
     skip
     go_simp
     refine hK.out _ _ ?_ (fun hHeld => ?_)
     · exact HSL.out wr.drew (fun _ _ => rfl)
     clear hK K0
     try simp only [Act.put, sqa, sqb, sqc, sqd, sqe, sqf]
     refine wpAnyH_ready (rs := [8]) (by kernel_rfl) (by simp) ?_
     refine AllReadyH.cons rfl (fun K0 hK => ?_) ?_
     rotate_left
     · exact AllReadyH.nil
     go_simp
     have HZa := hid (show Blk (wr.alloc (.cells #[.int .i64 x.kind, .bool x.tr, .int .i64 x.num, .string x.str, .slice A x.items.length c, .slice A' x.keys.length c'] 43)).drew wr.heap.size 43 (x.cs A c A' c') from Blk.new wr _ _)
     have HOa := hid (show (wr.alloc (.cells #[.int .i64 x.kind, .bool x.tr, .int .i64 x.num, .string x.str, .slice A x.items.length c, .slice A' x.keys.length c'] 43)).drew.ownsRow (B8 + 1) 43 6 (.slice A2 k d2) k xs from (Hown.out.alloc _).drew)
     have HBa := hid (show ∀ j, j < wr.heap.size → (wr.alloc (.cells #[.int .i64 x.kind, .bool x.tr, .int .i64 x.num, .string x.str, .slice A x.items.length c, .slice A' x.keys.length c'] 43)).drew.heap[j]? = wr.heap[j]? from fun j hj => Below.heap_alloc wr _ j hj)
     have HGa := hid (show (wr.alloc (.cells #[.int .i64 x.kind, .bool x.tr, .int .i64 x.num, .string x.str, .slice A x.items.length c, .slice A' x.keys.length c'] 43)).grownBy (wr.alloc (.cells #[.int .i64 x.kind, .bool x.tr, .int .i64 x.num, .string x.str, .slice A x.items.length c, .slice A' x.keys.length c'] 43)).drew none from ⟨rfl, rfl, rfl, Nat.le_refl _, fun _ _ _ => rfl⟩)
     have hwa1 : (wr.alloc (.cells #[.int .i64 x.kind, .bool x.tr, .int .i64 x.num, .string x.str, .slice A x.items.length c, .slice A' x.keys.length c'] 43)).drew.heap.size = wr.heap.size + 1 := by
      show (wr.alloc (.cells #[.int .i64 x.kind, .bool x.tr, .int .i64 x.num, .string x.str, .slice A x.items.length c, .slice A' x.keys.length c'] 43)).heap.size = _
      simp
     refine hK.out _ _ ?_ (fun hHeld => ?_)
     · exact HSL.out _ (fun j hj => HBa.out j (by omega))
     clear hK K0
     try simp only [Act.put, sqa, sqb, sqc, sqd, sqe, sqf]
     generalize (wr.alloc (.cells #[.int .i64 x.kind, .bool x.tr, .int .i64 x.num, .string x.str, .slice A x.items.length c, .slice A' x.keys.length c'] 43)).drew = wa at *
     refine wpAnyH_ready (rs := [9]) (by kernel_rfl) (by simp) ?_
     refine AllReadyH.cons rfl (fun K0 hK => ?_) ?_
     rotate_left
     · exact AllReadyH.nil
     refine app_step rfl (.tmp 42) (.tmp 49) 40 rfl (B8 + 1) 43 i1 (.agg #[.int .i64 0, .bool false, .int .i64 0, .string ⟨#[]⟩, .slice none 0 0, .slice none 0 0]) 6 88 Tryz.underlying40 hi1 hy0 hy1 hy2 rfl (by decide) (.slice A2 k d2) k xs rfl HOa.out (some ⟨wr.heap.size, 0, none⟩) 1 1 (x.cs A c A' c').toList rfl (src_of_cs HZa.out) cs_one (by unfold maxLen; omega) (by omega) (by omega) (k + 1) rfl ?_
     intro A3 d3 w8 ho8 hg8 hat8
     have HEND := hid (show Coll 43 w8 (B8 + 1) X (its.take k ++ [x]) (.slice A3 (k + 1) d3) (xs ++ (x.cs A c A' c').toList) from Hcoll.out.app_new (o := .cells #[.int .i64 x.kind, .bool x.tr, .int .i64 x.num, .string x.str, .slice A x.items.length c, .slice A' x.keys.length c'] 43) HTx.out (HXn.out (wr.heap.size + 1) (by omega)) (by rw [Hlen.out]) ho8 ⟨hg8.os.trans HGa.out.os, hg8.tape.trans HGa.out.tape, hg8.output.trans HGa.out.output, Nat.le_trans HGa.out.size hg8.size, fun j hj hne => (hg8.block j (by rw [World.size_alloc] at hj; omega) hne).trans (HGa.out.block j hj (by simp))⟩ (by rw [World.size_alloc]; rw [hwa1] at hat8; exact hat8))
     have HB8n := hid (show ∀ j, j < wr.heap.size → j < B8 + 1 → w8.heap[j]? = wr.heap[j]? from fun j hj hj2 => (hg8.block j (by omega) (fun e => by have := (Hown.out.lt j e.symm).1; omega)).trans (HBa.out j hj))
     have HG8 := hid (show Kept (fun j => j < B8) wr w8 from ⟨hg8.os.trans HGa.out.os, hg8.tape.trans HGa.out.tape, hg8.output.trans HGa.out.output, by have := hg8.size; omega, fun j hj hj2 => (hg8.block j (by omega) (fun e => by have := (Hown.out.lt j e.symm).1; omega)).trans (HBa.out j hj)⟩)
     have hQ8 := (HB8n.out B8 (by omega) (by omega)).trans Hbb.out
     have HQ8 := hid (show Blk w8 B8 43 #[.int .i64 5, .bool false, .int .i64 0, .string ⟨#[]⟩, .slice A2 k d2, .slice (some ⟨gk, ok, none⟩) vs.length kd] from hQ8)
     clear ho8 hg8 hat8 hQ8
     have y4 := HQ8.out.free 4
     have y4c : w8.cell? ⟨B8, 4, none⟩ = some (.slice A2 k d2) := HQ8.out.cell 4
     refine hK.out _ _ ?_ (fun hHeld => ?_)
     · exact HSL.out _ (fun j hj => HB8n.out j (by omega) (by omega))
     clear hK K0
     try simp only [Act.put, sqa, sqb, sqc, sqd, sqe, sqf]
     refine wpAnyH_take (i := 10) (v := ?_) rfl (by kernel_rfl) (by kernel_rfl) (by kernel_rfl) (fun _ _ _ h => h) (Or.inl ⟨by rfl, ?_⟩) (by assumption) ?_
     rotate_left
     ·
      intro wq hSw
      try dsimp only at hSw
      go_simp
      try (with_reducible rfl)
     try simp only [Act.put, sqa, sqb, sqc, sqd, sqe, sqf]
     refine wpAnyH_ready (rs := [11]) (by kernel_rfl) (by simp) ?_
     refine AllReadyH.cons rfl (fun K0 hK => ?_) ?_
     rotate_left
     · exact AllReadyH.nil
     go_simp
     refine hK.out _ _ ?_ (fun hHeld => ?_)
     · exact HSL.out _ (fun j hj => (Below.heap_setCell w8 ⟨B8, 4, none⟩ _ j (by show j ≠ B8; omega)).trans (HB8n.out j (by omega) (by omega)))
     clear hK K0
     try simp only [Act.put, sqa, sqb, sqc, sqd, sqe, sqf]
     refine wpAnyH_done (by kernel_rfl) ?_ _
     go_wp2_with fail
     go_roundw
     case rel =>
      refine ⟨k + 1, A3, d3, xs ++ (x.cs A c A' c').toList, hlt, by go_num, ?_, HQ8.out.set_ 4 _, ?_⟩
      ·
       rw [T.take_snoc Hx.out]
       exact HEND.out.set (HXb.out) _
      · exact ⟨HG8.out.os.trans Hbel.out.os, HG8.out.tape.trans Hbel.out.tape, HG8.out.output.trans Hbel.out.output, by rw [setCell_size]; exact Nat.le_trans Hbel.out.size HG8.out.size, fun j hj => (Below.heap_setCell w8 ⟨B8, 4, none⟩ _ j (by show j ≠ B8; omega)).trans ((HG8.out.block j (by have := Hbel.out.size; omega) hj).trans (Hbel.out.block j hj))⟩
     case measure => simp [intOf]; omega
    ·
     skip
     go_simp
     have HZa := hid (show Blk (wr.alloc (.cells #[.int .i64 x.kind, .bool x.tr, .int .i64 x.num, .string x.str, .slice A x.items.length c, .slice A' x.keys.length c'] 43)).drew wr.heap.size 43 (x.cs A c A' c') from Blk.new wr _ _)
     have HOa := hid (show (wr.alloc (.cells #[.int .i64 x.kind, .bool x.tr, .int .i64 x.num, .string x.str, .slice A x.items.length c, .slice A' x.keys.length c'] 43)).drew.ownsRow (B8 + 1) 43 6 (.slice A2 k d2) k xs from (Hown.out.alloc _).drew)
     have HBa := hid (show ∀ j, j < wr.heap.size → (wr.alloc (.cells #[.int .i64 x.kind, .bool x.tr, .int .i64 x.num, .string x.str, .slice A x.items.length c, .slice A' x.keys.length c'] 43)).drew.heap[j]? = wr.heap[j]? from fun j hj => Below.heap_alloc wr _ j hj)
     have HGa := hid (show (wr.alloc (.cells #[.int .i64 x.kind, .bool x.tr, .int .i64 x.num, .string x.str, .slice A x.items.length c, .slice A' x.keys.length c'] 43)).grownBy (wr.alloc (.cells #[.int .i64 x.kind, .bool x.tr, .int .i64 x.num, .string x.str, .slice A x.items.length c, .slice A' x.keys.length c'] 43)).drew none from ⟨rfl, rfl, rfl, Nat.le_refl _, fun _ _ _ => rfl⟩)
     have hwa1 : (wr.alloc (.cells #[.int .i64 x.kind, .bool x.tr, .int .i64 x.num, .string x.str, .slice A x.items.length c, .slice A' x.keys.length c'] 43)).drew.heap.size = wr.heap.size + 1 := by
      show (wr.alloc (.cells #[.int .i64 x.kind, .bool x.tr, .int .i64 x.num, .string x.str, .slice A x.items.length c, .slice A' x.keys.length c'] 43)).heap.size = _
      simp
     refine hK.out _ _ ?_ (fun hHeld => ?_)
     · exact HSL.out _ (fun j hj => HBa.out j (by omega))
     clear hK K0
     try simp only [Act.put, sqa, sqb, sqc, sqd, sqe, sqf]
     have q4a : (wr.alloc (.cells #[.int .i64 x.kind, .bool x.tr, .int .i64 x.num, .string x.str, .slice A x.items.length c, .slice A' x.keys.length c'] 43)).drew.cell? ⟨B8, 4, none⟩ = some (.slice A2 k d2) := (World.cell?_of_block (HBa.out B8 (by omega))).trans q4
     generalize (wr.alloc (.cells #[.int .i64 x.kind, .bool x.tr, .int .i64 x.num, .string x.str, .slice A x.items.length c, .slice A' x.keys.length c'] 43)).drew = wa at *
     refine wpAnyH_ready (rs := [1]) (by kernel_rfl) (by simp) ?_
     refine AllReadyH.cons rfl (fun K0 hK => ?_) ?_
     rotate_left
     · exact AllReadyH.nil
     go_simp
     refine hK.out _ _ ?_ (fun hHeld => ?_)
     · exact HSL.out _ (fun j hj => HBa.out j (by omega))
     clear hK K0
     try simp only [Act.put, sqa, sqb, sqc, sqd, sqe, sqf]
     refine wpAnyH_ready (rs := [9]) (by kernel_rfl) (by simp) ?_
     refine AllReadyH.cons rfl (fun K0 hK => ?_) ?_
     rotate_left
     · exact AllReadyH.nil
     refine app_step rfl (.tmp 42) (.tmp 49) 40 rfl (B8 + 1) 43 i1 (.agg #[.int .i64 0, .bool false, .int .i64 0, .string ⟨#[]⟩, .slice none 0 0, .slice none 0 0]) 6 88 Tryz.underlying40 hi1 hy0 hy1 hy2 rfl (by decide) (.slice A2 k d2) k xs rfl HOa.out (some ⟨wr.heap.size, 0, none⟩) 1 1 (x.cs A c A' c').toList rfl (src_of_cs HZa.out) cs_one (by unfold maxLen; omega) (by omega) (by omega) (k + 1) rfl ?_
     intro A3 d3 w8 ho8 hg8 hat8
     have HEND := hid (show Coll 43 w8 (B8 + 1) X (its.take k ++ [x]) (.slice A3 (k + 1) d3) (xs ++ (x.cs A c A' c').toList) from Hcoll.out.app_new (o := .cells #[.int .i64 x.kind, .bool x.tr, .int .i64 x.num, .string x.str, .slice A x.items.length c, .slice A' x.keys.length c'] 43) HTx.out (HXn.out (wr.heap.size + 1) (by omega)) (by rw [Hlen.out]) ho8 ⟨hg8.os.trans HGa.out.os, hg8.tape.trans HGa.out.tape, hg8.output.trans HGa.out.output, Nat.le_trans HGa.out.size hg8.size, fun j hj hne => (hg8.block j (by rw [World.size_alloc] at hj; omega) hne).trans (HGa.out.block j hj (by simp))⟩ (by rw [World.size_alloc]; rw [hwa1] at hat8; exact hat8))
     have HB8n := hid (show ∀ j, j < wr.heap.size → j < B8 + 1 → w8.heap[j]? = wr.heap[j]? from fun j hj hj2 => (hg8.block j (by omega) (fun e => by have := (Hown.out.lt j e.symm).1; omega)).trans (HBa.out j hj))
     have HG8 := hid (show Kept (fun j => j < B8) wr w8 from ⟨hg8.os.trans HGa.out.os, hg8.tape.trans HGa.out.tape, hg8.output.trans HGa.out.output, by have := hg8.size; omega, fun j hj hj2 => (hg8.block j (by omega) (fun e => by have := (Hown.out.lt j e.symm).1; omega)).trans (HBa.out j hj)⟩)
     have hQ8 := (HB8n.out B8 (by omega) (by omega)).trans Hbb.out
     have HQ8 := hid (show Blk w8 B8 43 #[.int .i64 5, .bool false, .int .i64 0, .string ⟨#[]⟩, .slice A2 k d2, .slice (some ⟨gk, ok, none⟩) vs.length kd] from hQ8)
     clear ho8 hg8 hat8 hQ8
     have y4 := HQ8.out.free 4
     have y4c : w8.cell? ⟨B8, 4, none⟩ = some (.slice A2 k d2) := HQ8.out.cell 4
     refine hK.out _ _ ?_ (fun hHeld => ?_)
     · exact HSL.out _ (fun j hj => HB8n.out j (by omega) (by omega))
     clear hK K0
     try simp only [Act.put, sqa, sqb, sqc, sqd, sqe, sqf]
     refine wpAnyH_take (i := 10) (v := ?_) rfl (by kernel_rfl) (by kernel_rfl) (by kernel_rfl) (fun _ _ _ h => h) (Or.inl ⟨by rfl, ?_⟩) (by assumption) ?_
     rotate_left
     ·
      intro wq hSw
      try dsimp only at hSw
      go_simp
      try (with_reducible rfl)
     try simp only [Act.put, sqa, sqb, sqc, sqd, sqe, sqf]
     refine wpAnyH_ready (rs := [11]) (by kernel_rfl) (by simp) ?_
     refine AllReadyH.cons rfl (fun K0 hK => ?_) ?_
     rotate_left
     · exact AllReadyH.nil
     go_simp
     refine hK.out _ _ ?_ (fun hHeld => ?_)
     · exact HSL.out _ (fun j hj => (Below.heap_setCell w8 ⟨B8, 4, none⟩ _ j (by show j ≠ B8; omega)).trans (HB8n.out j (by omega) (by omega)))
     clear hK K0
     try simp only [Act.put, sqa, sqb, sqc, sqd, sqe, sqf]
     refine wpAnyH_done (by kernel_rfl) ?_ _
     go_wp2_with fail
     go_roundw
     case rel =>
      refine ⟨k + 1, A3, d3, xs ++ (x.cs A c A' c').toList, hlt, by go_num, ?_, HQ8.out.set_ 4 _, ?_⟩
      ·
       rw [T.take_snoc Hx.out]
       exact HEND.out.set (HXb.out) _
      · exact ⟨HG8.out.os.trans Hbel.out.os, HG8.out.tape.trans Hbel.out.tape, HG8.out.output.trans Hbel.out.output, by rw [setCell_size]; exact Nat.le_trans Hbel.out.size HG8.out.size, fun j hj => (Below.heap_setCell w8 ⟨B8, 4, none⟩ _ j (by show j ≠ B8; omega)).trans ((HG8.out.block j (by have := Hbel.out.size; omega) hj).trans (Hbel.out.block j hj))⟩
     case measure => simp [intOf]; omega
   ·
    obtain rfl : vs.length = k := by omega
    have HTK := hid (show its.take vs.length = its from by rw [List.take_of_length_le (by rw [Hitl.out]; exact Nat.le_refl _)])
    rw [HTK.out] at Hcoll
    have c0 : wr.cell? ⟨B8, 0, none⟩ = some (.int .i64 5) := Hbb.out.cell 0
    have c1' : wr.cell? ⟨B8, 1, none⟩ = some (.bool false) := Hbb.out.cell 1
    have c2 : wr.cell? ⟨B8, 2, none⟩ = some (.int .i64 0) := Hbb.out.cell 2
    have c3 : wr.cell? ⟨B8, 3, none⟩ = some (.string ⟨#[]⟩) := Hbb.out.cell 3
    have c5 : wr.cell? ⟨B8, 5, none⟩ = some (.slice K vs.length kd) := Hbb.out.cell 5
    have u1 : decide (vs.length < vs.length) = false := decide_eq_false (Nat.lt_irrefl _)
    have HBy := hid (show Blk wr G 43 #[.int .i64 0, .bool false, .int .i64 0, .string ⟨#[]⟩, .slice none 0 0, .slice none 0 0] from (Hbel.out.block G (by omega)).trans ((HW5.out.block G (by omega)).trans HBx.out))
    have HAr := hid (show Aside b w wr from HA.out.trans_ (Aside.of ⟨Hbel.out.os.trans HW5.out.os, Hbel.out.tape.trans HW5.out.tape, Hbel.out.output.trans HW5.out.output, Nat.le_trans HW5.out.size hsr, fun j hj => (Hbel.out.block j (by omega)).trans (HW5.out.block j hj)⟩))
    have HLr := hid (show Lx wr b s fin from (Hbel.out.block b (by omega)).trans ((HW5.out.block b (by omega)).trans HLf.out))
    have HVR := hid Hcoll.out.vreads
    have HTV := hid (show TV wr (fun j => w.heap.size ≤ j ∧ j < wr.heap.size ∧ j ≠ G) (Rd.Ob m) A2 d2 K kd from by
     have hG' := HG.out
     refine TV.of ?_ ?_ (fun hn' => ?_) ?_
     ·
      rw [Rd.Ob_eq]
      show ((srt (m.map Prod.fst)).map (Rd.lk m)).length ≤ d2
      rw [← Hits.out, Hitl.out]; exact HVR.out.2.1
     ·
      rw [Rd.Ob_eq]
      show (srt (m.map Prod.fst)).length ≤ kd
      rw [srt_len, List.length_map, ← HVL.out]; exact hkd
     ·
      have hx : (Rd.Ob m).items = its := by rw [Rd.Ob_eq, Hits.out]; rfl
      rw [hx] at hn' ⊢
      refine (VReads.wide HVR.out.2.2 (fun j hj => ?_)) hn'
      have h1 : ¬ j < G := fun h => hj.2 (by rw [HX.out]; exact .inl h)
      exact ⟨by omega, hj.1, fun e => hj.2 (by rw [HX.out]; exact .inr (.inr (.inl (e ▸ hYG))))⟩
     ·
      have hx : (Rd.Ob m).keys = srt (vs.map Prod.fst) := by rw [Rd.Ob_eq, HJ2.out.fst]; rfl
      rw [hx]
      exact (HSK.out.keep fun j hj => Hbel.out.block j (by omega)).wide fun j hj => ⟨by omega, by omega, by omega⟩)
    have HBx := HBy
    have q0 : wr.cell? ⟨G, 0, none⟩ = some (.int .i64 0) := HBy.out.cell 0
    have q1 : wr.cell? ⟨G, 1, none⟩ = some (.bool false) := HBy.out.cell 1
    have q2 : wr.cell? ⟨G, 2, none⟩ = some (.int .i64 0) := HBy.out.cell 2
    have q3 : wr.cell? ⟨G, 3, none⟩ = some (.string ⟨#[]⟩) := HBy.out.cell 3
    have q4 : wr.cell? ⟨G, 4, none⟩ = some (.slice none 0 0) := HBy.out.cell 4
    have q5 : wr.cell? ⟨G, 5, none⟩ = some (.slice none 0 0) := HBy.out.cell 5
    have xq0 := HBy.out.free 0
    have xq1 := HBy.out.free 1
    have xq2 := HBy.out.free 2
    have xq3 := HBy.out.free 3
    have xq4 := HBy.out.free 4
    have xq5 := HBy.out.free 5
    go_wp2_with fail
    have HZ := hid (show FromGives (.val (Rd.Ob m) fin) b s w (.returned (.tuple #[(Rd.Ob m).agg A2 d2 K kd, .int .i64 0, .int .i64 0])) ((((((wr.setCell ⟨G, 0, none⟩ (.int .i64 5)).setCell ⟨G, 1, none⟩ (.bool false)).setCell ⟨G, 2, none⟩ (.int .i64 0)).setCell ⟨G, 3, none⟩ (.string ⟨#[]⟩)).setCell ⟨G, 4, none⟩ (.slice A2 vs.length d2)).setCell ⟨G, 5, none⟩ (.slice K vs.length kd)) from ⟨A2, d2, K, kd, rfl, box_put HTV.out, HAr.out.put6 (by have := HG.out; omega) _ _ _ _ _ _, (putv_heap (by omega)).trans HLr.out⟩)
    have hF : Blk ((((((wr.setCell ⟨G, 0, none⟩ (.int .i64 5)).setCell ⟨G, 1, none⟩ (.bool false)).setCell ⟨G, 2, none⟩ (.int .i64 0)).setCell ⟨G, 3, none⟩ (.string ⟨#[]⟩)).setCell ⟨G, 4, none⟩ (.slice A2 vs.length d2)).setCell ⟨G, 5, none⟩ (.slice K vs.length kd)) G 43 #[.int .i64 5, .bool false, .int .i64 0, .string ⟨#[]⟩, .slice A2 vs.length d2, .slice K vs.length kd] := (((((HBy.out.set_ 0 _).set_ 1 _).set_ 2 _).set_ 3 _).set_ 4 _).set_ 5 _
    generalize ((((((wr.setCell ⟨G, 0, none⟩ (.int .i64 5)).setCell ⟨G, 1, none⟩ (.bool false)).setCell ⟨G, 2, none⟩ (.int .i64 0)).setCell ⟨G, 3, none⟩ (.string ⟨#[]⟩)).setCell ⟨G, 4, none⟩ (.slice A2 vs.length d2)).setCell ⟨G, 5, none⟩ (.slice K vs.length kd)) = V9 at *
    have m0 : V9.cell? ⟨G, 0, none⟩ = some (.int .i64 5) := hF.cell 0
    have m1 : V9.cell? ⟨G, 1, none⟩ = some (.bool false) := hF.cell 1
    have m2 : V9.cell? ⟨G, 2, none⟩ = some (.int .i64 0) := hF.cell 2
    have m3 : V9.cell? ⟨G, 3, none⟩ = some (.string ⟨#[]⟩) := hF.cell 3
    have m4 : V9.cell? ⟨G, 4, none⟩ = some (.slice A2 vs.length d2) := hF.cell 4
    have m5 : V9.cell? ⟨G, 5, none⟩ = some (.slice K vs.length kd) := hF.cell 5
    refine bodyPost_ret (v := .tuple #[.agg #[.int .i64 5, .bool false, .int .i64 0, .string ⟨#[]⟩, .slice A2 vs.length d2, .slice K vs.length kd], .int .i64 0, .int .i64 0]) (by simp [results, Tryz.results83, go_sem, m0, m1, m2, m3, m4, m5]) rfl ?_
    rw [hres]
    have hagg : (Rd.Ob m).agg A2 d2 K kd = .agg #[.int .i64 5, .bool false, .int .i64 0, .string ⟨#[]⟩, .slice A2 vs.length d2, .slice K vs.length kd] := by
     rw [Rd.Ob_eq]
     simp only [T.agg, T.kind, T.tr, T.num, T.str, T.items, T.keys, List.length_map, srt_len, HVL.out]
    have hz := HZ.out
    rw [hagg] at hz
    exact hz
end Go.Proofs.YtgblenoaeanogaaGreatDoor
