/- DrawLongs: a text of as many draws as may be is a sequence's, and not of one more. No conditions: any truth and any byte; the library's variables are tied to the program's own text. -/
import Derived.Test.YtgblenoaeanogaaGreatDoorCards
import Derived.Test.YtgblenoaeanogaaGreatDoorTie
import Derived.WalkKit
import Derived.ProofKit
import Derived.OpenShut
import Derived.ChangeOld
import Derived.ShutString
import Derived.Below
import Derived.LaidMore
import Derived.Lib.LaidTab
import Derived.Stop.Joined
import Derived.Stop.LaidErr
import Derived.SevenTiedAt
import Derived.Lay
import Derived.Test.YtgblenoaeanogaaGreatDoorDD
import Derived.Test.YtgblenoaeanogaaGreatDoorOA
set_option linter.unusedVariables false
set_option maxRecDepth 100000
set_option maxHeartbeats 8000000
open Go.Lib (hid)
namespace Go.Proofs.YtgblenoaeanogaaGreatDoor.drawLongs
open Go.ChangeShapes Go.WideShapes Go.ChangeAt Go.RowKit
open Go.ChangeMaps (open_string shut_string)
open Tk Pl
theorem own : ownKnob Tryz.prog.godebug = none := by kernel_rfl
theorem laidOut : laidOutB Tryz.prog = true := by kernel_rfl
theorem gRange : Tryz.prog.globalNamed "strconv.ErrRange" = some 7 := by kernel_rfl
theorem star : "*" ++ "errors.errorString" = "*errors.errorString" := by decide
theorem rowPtr (u : TypeId) (h : Tryz.prog.typeName? 3 u = some "*errors.errorString") : u = 253 :=
 typeName_ptr_named (nm := "errors.errorString") (by rw [star]; kernel_rfl) (by kernel_rfl) (by decide) u (by rw [star]; exact h)
theorem errs {W : World} (h : laidMetH Tryz.prog Rows.drawLongsRow.laid W) : RangeErr W := by
 have h' : laidMet Tryz.prog Rows.drawLongsRow.laid W := h
 obtain ⟨a, s, hv, _⟩ := laid_sentinel h'.tail.tail.tail.tail gRange (by kernel_rfl) Tryz.underlying116 rowPtr Tryz.underlying253 Tryz.underlying255 rfl rfl Tryz.underlying9 (by kernel_rfl) (by kernel_rfl)
 exact ⟨_, _, hv⟩
theorem gPow5 : Tryz.prog.globalNamed "internal/strconv.uint64pow10" = some 0 := by kernel_rfl
theorem table {W : World} (h : laidMetH Tryz.prog Rows.drawLongsRow.laid W) : Lib.TabIs Tryz.prog W "internal/strconv.uint64pow10" .u64 Lib.pow10Tab := by
 have h' : laidMet Tryz.prog Rows.drawLongsRow.laid W := h
 exact Lib.tabIs_of_head (rest := _) gPow5 (by kernel_rfl) Tryz.underlying203 Tryz.underlying70 (by kernel_rfl) (by kernel_rfl) h'.tail.tail
def rep (n : Nat) (d : Nat) : List Int := List.replicate n (d : Int)
theorem rep_succ (n d : Nat) : rep (n + 1) d = rep n d ++ [(d : Int)] := List.replicate_succ'
theorem itoa_one {d : Nat} (h : d < 10) : Lib.itoa (d : Int) = [UInt8.ofNat (48 + d)] := by
 rcases (by omega : d = 0 ∨ d = 1 ∨ d = 2 ∨ d = 3 ∨ d = 4 ∨ d = 5 ∨ d = 6 ∨ d = 7 ∨ d = 8 ∨ d = 9) with rfl | rfl | rfl | rfl | rfl | rfl | rfl | rfl | rfl | rfl <;> decide +kernel
def tx (n d : Nat) : List UInt8 := 91 :: T.txts [] ((rep n d).map Rd.numT) 0
theorem tx_succ {n d : Nat} (h : d < 10) : tx (n + 1) d = tx n d ++ (comma n ++ [UInt8.ofNat (48 + d)]) := by
 unfold tx
 rw [rep_succ, seq_snoc, itoa_one h, show (rep n d).length = n from List.length_replicate]
 rfl
theorem tx_len {n d : Nat} (h : d < 10) : (tx n d).length ≤ 2 * n + 1 := by
 induction n with
 | zero => show (1 : Nat) ≤ 1; decide
 | succ n ih =>
  rw [tx_succ h, List.length_append, List.length_append]
  have := comma_len n
  simp only [List.length_singleton]
  omega
theorem rep_in (n d : Nat) (h : d < 10) : ∀ x ∈ rep n d, In64 x := by
 intro x hx
 unfold rep at hx
 rw [List.mem_replicate] at hx
 rw [hx.2]
 unfold In64
 omega
theorem rep_good {n d : Nat} (h : d < 10) (hn : n ≤ 4096) : goodD (rep n d) = true := by
 unfold goodD
 have h1 : (rep n d).any (fun n => !isD n) = false := by
  rw [List.any_eq_false]
  intro x hx
  unfold rep at hx
  rw [List.mem_replicate] at hx
  rw [hx.2]
  simp [isD]
  omega
 rw [h1, show (rep n d).length = n from List.length_replicate, decide_eq_true hn]
 rfl
theorem rep_read {n d : Nat} (h : d < 10) (hn : n ≤ 4097) : ansD (Rd.parseR ⟨(tx n d ++ [93]).toArray⟩ 1) = if 4096 < n then ([], 0, 7) else (rep n d, 0, 0) := by
 have hl := tx_len (n := n) h
 have := seq_read (s := ⟨(tx n d ++ [93]).toArray⟩) (l := rep n d) (rep_in n d h) (by
  rw [seq_txt]
  unfold tx
  rfl) (by
  show (tx n d ++ [93]).toArray.size ≤ 16384
  simp
  omega)
 rw [this, show (rep n d).length = n from List.length_replicate]
 by_cases h4 : 4096 < n
 · rw [if_pos h4, if_pos h4]
 · rw [if_neg h4, if_neg h4, if_pos (rep_good h (by omega))]
theorem own_slice {w : World} {base : Nat} {e : TypeId} {size n : Nat} {v : Value} {xs : List Value} (h : w.ownsRow base e size v n xs) : ∃ A c, v = .slice A n c := by
 rcases h.2 with ⟨rfl, h0⟩ | ⟨g, cap, cur, rfl, _⟩
 · subst h0; exact ⟨_, _, rfl⟩
 · exact ⟨_, _, rfl⟩
theorem app_u8v {ops : Array Oper} {rest : List Oper} {o : Oper} {a : Act} {Q : Exit → Act → World → Prop} {w : World} (hgd : o.guard = none) (s x : Operand)
 (ho : o.op = .call { callee := .builtin .append, args := #[s, x], argTypes := #[33, 33] })
 (base : Nat) (A : Option Addr) (c : Nat) (l l2 : List UInt8) (y : UInt8) (z : Int) (hz : z = (y.toNat : Int)) (hl2 : l ++ [y] = l2) (hs : a.eval s = .slice A l.length c) (hx : a.eval x = .slice (some ⟨w.heap.size, 0, none⟩) 1 1)
 (hown : w.ownsRow base 5 1 (.slice A l.length c) l.length (Lib.byteCells l)) (hn : l.length ≤ 1000000) (hbase : base ≤ w.heap.size)
 (h : ∀ (A' : Option Addr) (c' : Nat) (w' : World), w'.ownsRow base 5 1 (.slice A' l2.length c') l2.length (Lib.byteCells l2) → Below base w w' → wpList Tryz.prog ops Q rest (a.put o.dst (.slice A' l2.length c')) w') :
 wpList Tryz.prog ops Q (o :: rest) a (w.alloc (.cells #[.int .u8 z] 5)) := by
 subst hl2
 refine app_u8 hgd s x ho base _ l y z hz hs hx hown hn hbase ?_
 intro v' w' h1 h2
 obtain ⟨A', c', rfl⟩ := own_slice h1
 exact h A' c' w' h1 (h2 w (Below.refl base w))
theorem walk (
 more : Bool) (m : Int) (w : World) (h0 : 0 ≤ m) (h1 : m ≤ 255) (hr : RangeErr w) (htb : Lib.TabIs Tryz.prog w "internal/strconv.uint64pow10" .u64 Lib.pow10Tab) :
 Calls Tryz.prog 5 #[.bool more, .int .u8 m] w fun e w' => e = .returned (.bool true) ∧ Below w.heap.size w w' := by
 clear htb
 have HRE := hid hr
 clear hr
 obtain ⟨d, hm, hd⟩ : ∃ d : Nat, m.tmod 10 = d ∧ d < 10 := ⟨(m % 10).toNat, by rw [Int.tmod_eq_emod_of_nonneg h0]; omega, by omega⟩
 have HGO : ∀ (N : Nat), N = (if more then 4097 else 4096) → Calls Tryz.prog 5 #[.bool more, .int .u8 m] w fun e w' => e = .returned (.bool true) ∧ Below w.heap.size w w' := by
  intro N hN
  have hN2 : N = 4096 ∨ N = 4097 := by cases more <;> simp_all
  have HD := hid (rep_read (n := N) hd (by omega))
  have HTX := hid (fun k => tx_succ (n := k) hd)
  have HTL := hid (fun k => tx_len (n := k) hd)
  have HLEN := hid (show ∀ k, (rep k d).length = k from fun k => List.length_replicate)
  have hfs : ((48 : Int) + (d : Int)) = ((UInt8.ofNat (48 + d)).toNat : Int) := by
   rw [UInt8.toNat_ofNat_of_lt' (by show 48 + d < 256; omega)]; omega
  have HF := hid hfs
  clear hfs
  have HOD := hid (show tx 0 d = [91] from rfl)
  generalize UInt8.ofNat (48 + d) = dg at *
  cases more
  ·
   obtain rfl : N = 4096 := by simpa using hN
   clear hN hN2
   have HBW := hid (Below.refl w.heap.size w)
   go_enter Tryz.func5, Tryz.ntmps5
   go_wp2_with fail
   refine (awake12_any _).mono ?_
   rintro e w1 ⟨rfl, hb⟩
   have HB1 := hid hb
   clear hb
   go_wp2_with fail
   have HO := hid (show (w1.alloc (.cells #[.int .u8 91] 5)).ownsRow w1.heap.size 5 1 (.slice (some ⟨w1.heap.size, 0, none⟩) 1 1) (tx 0 d).length (Lib.byteCells (tx 0 d)) from World.ownsRow_lit (base := w1.heap.size) (size := 1) (e := 5) w1 #[.int .u8 91] 1 (Nat.le_refl _) (by decide) rfl)
   have HB2 := hid (HB1.out.alloc HB1.out.size (.cells #[.int .u8 91] 5))
   have hw1 : w.heap.size ≤ w1.heap.size := HB1.out.size
   have HBS := hid (show w1.heap.size ≤ (w1.alloc (.cells #[.int .u8 91] 5)).heap.size by simp)
   generalize (w1.alloc (.cells #[.int .u8 91] 5)) = w2 at *
   generalize w1.heap.size = bs at *
   go_loopw [6, 7, 18] (fun v0 _ i wr => ∃ (k : Nat) (A : Option Addr) (c : Nat), v0 = .slice A (tx k d).length c ∧ k ≤ 4096 ∧ i = .int .i64 k ∧ wr.ownsRow bs 5 1 (.slice A (tx k d).length c) (tx k d).length (Lib.byteCells (tx k d)) ∧ Below w.heap.size w wr ∧ bs ≤ wr.heap.size) (fun _ _ i _ => 4096 - (intOf i).toNat)
   case atStart => exact ⟨0, _, _, rfl, Nat.zero_le _, rfl, HO.out, HB2.out, HBS.out⟩
   case round =>
    obtain ⟨k, A, c, rfl, hk, rfl, hown, hbel, hbs⟩ := hrel
    have KO := hid hown
    have KB := hid hbel
    have hl := HTL.out k
    have HX := hid (HTX.out k)
    clear hown hbel
    by_cases hlt : k < 4096
    ·
     have u1 : decide (k < 4096) = true := decide_eq_true hlt
     have u2 : decide ((k : Int) < 4096) = true := decide_eq_true (by omega)
     generalize hL : tx k d = L at *
     have HL := hid hL
     clear hL
     by_cases hk0 : k = 0
     ·
      have v1 : decide (0 < k) = false := decide_eq_false (by omega)
      have v2 : decide ((0 : Int) < (k : Int)) = false := decide_eq_false (by omega)
      have HY := hid (show L ++ [dg] = tx (k + 1) d by rw [HX.out, hk0]; rfl)
      clear hk0
      generalize hL2 : tx (k + 1) d = L2 at *
      have HL2 := hid hL2
      clear hL2
      go_wp2_with (at_builtin; refine app_u8v rfl _ _ rfl bs A c L L2 dg (48 + d) HF.out HY.out rfl rfl KO.out (by omega) hbs ?_)
      intro A3 c3 w3 h1 h3
      have KO3 := hid h1
      have KB3 := hid (KB.out.trans (h3.mono hw1))
      have HS3 := hid (Nat.le_trans hbs h3.size)
      clear h1 h3
      go_wp2_with fail
      go_roundw
      case rel => exact ⟨k + 1, A3, c3, by rw [HL2.out], by omega, by go_num, by rw [HL2.out]; exact KO3.out, KB3.out, HS3.out⟩
      case measure => simp [intOf]; omega
     ·
      have v1 : decide (0 < k) = true := decide_eq_true (by omega)
      have v2 : decide ((0 : Int) < (k : Int)) = true := decide_eq_true (by omega)
      have HY := hid (show (L ++ [44]) ++ [dg] = tx (k + 1) d by
       rw [HX.out, List.append_assoc]
       congr 1
       unfold comma
       rw [if_neg hk0])
      clear hk0
      generalize hL2 : tx (k + 1) d = L2 at *
      have HL2 := hid hL2
      have hl3 : (L ++ [(44 : UInt8)]).length ≤ 20000 := by rw [List.length_append, List.length_singleton]; omega
      generalize hL3 : L ++ [(44 : UInt8)] = L3 at *
      have HL3 := hid hL3
      clear hL2 hL3
      go_wp2_with (at_builtin; refine app_u8v rfl _ _ rfl bs A c L L3 44 44 rfl HL3.out rfl rfl KO.out (by omega) hbs ?_)
      intro A3 c3 w3 h1 h3
      have KO3 := hid h1
      have KB3 := hid (KB.out.trans (h3.mono hw1))
      have hs3 := Nat.le_trans hbs h3.size
      clear h1 h3
      go_wp2_with (at_builtin; refine app_u8v rfl _ _ rfl bs A3 c3 L3 L2 dg (48 + d) HF.out HY.out rfl rfl KO3.out (by omega) hs3 ?_)
      intro A5 c5 w5 h1 h3
      have KO5 := hid h1
      have KB5 := hid (KB3.out.trans (h3.mono hw1))
      have HS5 := hid (Nat.le_trans hs3 h3.size)
      clear h1 h3
      go_wp2_with fail
      go_roundw
      case rel => exact ⟨k + 1, A5, c5, by rw [HL2.out], by omega, by go_num, by rw [HL2.out]; exact KO5.out, KB5.out, HS5.out⟩
      case measure => simp [intOf]; omega
    ·
     obtain rfl : k = 4096 := by omega
     clear HX HTX HTL hk hlt
     generalize tx 4096 d = L at *
     generalize hL2 : L ++ [(93 : UInt8)] = L2 at *
     have HL2 := hid hL2
     clear hL2
     go_wp2_with (at_builtin; refine app_u8v rfl _ _ rfl bs A c L L2 93 93 rfl HL2.out rfl rfl KO.out (by omega) hbs ?_)
     intro A3 c3 w3 h1 h3
     have KB3 := hid (KB.out.trans (h3.mono hw1))
     have hcv := conv_owned h1
     clear h1 h3
     go_wp2_with fail
     refine (dparse_any ⟨L2.toArray⟩ _ (HRE.out.on KB3.out)).mono ?_
     rw [HD.out]
     rintro e w4 ⟨B, c4, rfl, hri, hb4⟩
     have H4 := hid (KB3.out.trans (hb4.mono KB3.out.size))
     have HRI := hid hri
     clear hri hb4 hcv
     have hlen : (rep 4096 d).length = 4096 := HLEN.out 4096
     obtain ⟨b9, o9, rfl, _, c9⟩ := HRI.out.at_ (k := 4095) (by rw [show ((if 4096 < 4096 then (([] : List Int), (0 : Int), (7 : Int)) else (rep 4096 d, 0, 0))).1 = rep 4096 d from rfl, hlen]; decide)
     have e9 : w4.cell? ⟨b9, o9 + 4095, none⟩ = some (.int .i64 d) := by
      have := c9 4095 (by rw [show ((if 4096 < 4096 then (([] : List Int), (0 : Int), (7 : Int)) else (rep 4096 d, 0, 0))).1 = rep 4096 d from rfl, hlen]; decide)
      rw [this]
      congr 2
     clear c9
     rw [show (if 4096 < 4096 then (([] : List Int), (0 : Int), (7 : Int)) else (rep 4096 d, 0, 0)) = (rep 4096 d, 0, 0) from rfl]
     go_wp2_with fail
     go_ret
     exact ⟨rfl, H4.out⟩
  ·
   obtain rfl : N = 4097 := by simpa using hN
   clear hN hN2
   have HBW := hid (Below.refl w.heap.size w)
   go_enter Tryz.func5, Tryz.ntmps5
   go_wp2_with fail
   refine (awake12_any _).mono ?_
   rintro e w1 ⟨rfl, hb⟩
   have HB1 := hid hb
   clear hb
   go_wp2_with fail
   have HO := hid (show (w1.alloc (.cells #[.int .u8 91] 5)).ownsRow w1.heap.size 5 1 (.slice (some ⟨w1.heap.size, 0, none⟩) 1 1) (tx 0 d).length (Lib.byteCells (tx 0 d)) from World.ownsRow_lit (base := w1.heap.size) (size := 1) (e := 5) w1 #[.int .u8 91] 1 (Nat.le_refl _) (by decide) rfl)
   have HB2 := hid (HB1.out.alloc HB1.out.size (.cells #[.int .u8 91] 5))
   have hw1 : w.heap.size ≤ w1.heap.size := HB1.out.size
   have HBS := hid (show w1.heap.size ≤ (w1.alloc (.cells #[.int .u8 91] 5)).heap.size by simp)
   generalize (w1.alloc (.cells #[.int .u8 91] 5)) = w2 at *
   generalize w1.heap.size = bs at *
   go_loopw [6, 7, 18] (fun v0 _ i wr => ∃ (k : Nat) (A : Option Addr) (c : Nat), v0 = .slice A (tx k d).length c ∧ k ≤ 4097 ∧ i = .int .i64 k ∧ wr.ownsRow bs 5 1 (.slice A (tx k d).length c) (tx k d).length (Lib.byteCells (tx k d)) ∧ Below w.heap.size w wr ∧ bs ≤ wr.heap.size) (fun _ _ i _ => 4097 - (intOf i).toNat)
   case atStart => exact ⟨0, _, _, rfl, Nat.zero_le _, rfl, HO.out, HB2.out, HBS.out⟩
   case round =>
    obtain ⟨k, A, c, rfl, hk, rfl, hown, hbel, hbs⟩ := hrel
    have KO := hid hown
    have KB := hid hbel
    have hl := HTL.out k
    have HX := hid (HTX.out k)
    clear hown hbel
    by_cases hlt : k < 4097
    ·
     have u1 : decide (k < 4097) = true := decide_eq_true hlt
     have u2 : decide ((k : Int) < 4097) = true := decide_eq_true (by omega)
     generalize hL : tx k d = L at *
     have HL := hid hL
     clear hL
     by_cases hk0 : k = 0
     ·
      have v1 : decide (0 < k) = false := decide_eq_false (by omega)
      have v2 : decide ((0 : Int) < (k : Int)) = false := decide_eq_false (by omega)
      have HY := hid (show L ++ [dg] = tx (k + 1) d by rw [HX.out, hk0]; rfl)
      clear hk0
      generalize hL2 : tx (k + 1) d = L2 at *
      have HL2 := hid hL2
      clear hL2
      go_wp2_with (at_builtin; refine app_u8v rfl _ _ rfl bs A c L L2 dg (48 + d) HF.out HY.out rfl rfl KO.out (by omega) hbs ?_)
      intro A3 c3 w3 h1 h3
      have KO3 := hid h1
      have KB3 := hid (KB.out.trans (h3.mono hw1))
      have HS3 := hid (Nat.le_trans hbs h3.size)
      clear h1 h3
      go_wp2_with fail
      go_roundw
      case rel => exact ⟨k + 1, A3, c3, by rw [HL2.out], by omega, by go_num, by rw [HL2.out]; exact KO3.out, KB3.out, HS3.out⟩
      case measure => simp [intOf]; omega
     ·
      have v1 : decide (0 < k) = true := decide_eq_true (by omega)
      have v2 : decide ((0 : Int) < (k : Int)) = true := decide_eq_true (by omega)
      have HY := hid (show (L ++ [44]) ++ [dg] = tx (k + 1) d by
       rw [HX.out, List.append_assoc]
       congr 1
       unfold comma
       rw [if_neg hk0])
      clear hk0
      generalize hL2 : tx (k + 1) d = L2 at *
      have HL2 := hid hL2
      have hl3 : (L ++ [(44 : UInt8)]).length ≤ 20000 := by rw [List.length_append, List.length_singleton]; omega
      generalize hL3 : L ++ [(44 : UInt8)] = L3 at *
      have HL3 := hid hL3
      clear hL2 hL3
      go_wp2_with (at_builtin; refine app_u8v rfl _ _ rfl bs A c L L3 44 44 rfl HL3.out rfl rfl KO.out (by omega) hbs ?_)
      intro A3 c3 w3 h1 h3
      have KO3 := hid h1
      have KB3 := hid (KB.out.trans (h3.mono hw1))
      have hs3 := Nat.le_trans hbs h3.size
      clear h1 h3
      go_wp2_with (at_builtin; refine app_u8v rfl _ _ rfl bs A3 c3 L3 L2 dg (48 + d) HF.out HY.out rfl rfl KO3.out (by omega) hs3 ?_)
      intro A5 c5 w5 h1 h3
      have KO5 := hid h1
      have KB5 := hid (KB3.out.trans (h3.mono hw1))
      have HS5 := hid (Nat.le_trans hs3 h3.size)
      clear h1 h3
      go_wp2_with fail
      go_roundw
      case rel => exact ⟨k + 1, A5, c5, by rw [HL2.out], by omega, by go_num, by rw [HL2.out]; exact KO5.out, KB5.out, HS5.out⟩
      case measure => simp [intOf]; omega
    ·
     obtain rfl : k = 4097 := by omega
     clear HX HTX HTL hk hlt
     generalize tx 4097 d = L at *
     generalize hL2 : L ++ [(93 : UInt8)] = L2 at *
     have HL2 := hid hL2
     clear hL2
     go_wp2_with (at_builtin; refine app_u8v rfl _ _ rfl bs A c L L2 93 93 rfl HL2.out rfl rfl KO.out (by omega) hbs ?_)
     intro A3 c3 w3 h1 h3
     have KB3 := hid (KB.out.trans (h3.mono hw1))
     have hcv := conv_owned h1
     clear h1 h3
     go_wp2_with fail
     refine (dparse_any ⟨L2.toArray⟩ _ (HRE.out.on KB3.out)).mono ?_
     rw [HD.out]
     rintro e w4 ⟨B, c4, rfl, hri, hb4⟩
     have H4 := hid (KB3.out.trans (hb4.mono KB3.out.size))
     have HRI := hid hri
     clear hri hb4 hcv
     go_wp2_with fail
     go_ret
     exact ⟨rfl, H4.out⟩
 exact HGO _ rfl
theorem lifted (os : Os) (started : os.Started) (H : Type) (enc : TypeId × Value → H) :
 ReturnsInHanded {} Tryz.checked os 5 .any (fun w args => (Rows.drawLongsSpec.pre enc Tryz.prog Tryz.f5 [] false w args ∧ laidMetH Tryz.prog Rows.drawLongsRow.laid w) ∧ sizedMet enc Tryz.prog Tryz.f5 (OpenSpec.ofChange Rows.drawLongsSpec) false w args)
  (Rows.drawLongsSpec.post enc Tryz.prog Tryz.f5 false true false false) := by
 refine returnsInHanded_of_change_and (C := Tryz.checked) (X := fun w _ => laidMetH Tryz.prog Rows.drawLongsRow.laid w) (fun _ _ _ hh h => h.of_heap hh) own started (by kernel_rfl) Tryz.func5
  (ChangeSpec.witness_shaped (enc := enc) (C := Tryz.checked) (os := os) (X := fun w _ => laidMetH Tryz.prog Rows.drawLongsRow.laid w) false (World.laidAll Tryz.prog os Rows.drawLongsRow.laid) #[.bool false, .int .u8 0] 8 (World.laidAll_os _ _ _) (World.shaped_of_ZipB (by kernel_rfl) (by kernel_rfl)) (by kernel_rfl) (by kernel_rfl) (by kernel_rfl) (by rw [MakeChecks.laidMetH_plain _ _ _ (by kernel_rfl)]; exact laidMet_laidAll _ (by kernel_rfl) (by kernel_rfl))) ?_
 intro W base args ds gs before hval0 hW _ _ hL _
 have hval : ∀ (j : Nat) t v, Tryz.f5.params[j]? = some t → args[j]? = some v → Value.okWide Tryz.prog W .any base t v := hval0
 have hW' := hW
 obtain ⟨p, q, hA0, hV, rfl, hfz, hnd⟩ := hW
 have hA : DataW.TrodAll enc Tryz.prog W 0 (fun _ => true) true Tryz.f5.params.toList args.toList ds p := hA0
 rw [Tryz.params5] at hA hval
 obtain ⟨v0, vs0, d0, ds0, p0, q0, hargs, rfl, rfl, h0, r0⟩ := trodAll_cons hA
 obtain ⟨v1, vs1, d1, ds1, p1, q1, rfl, rfl, rfl, h1, r1⟩ := trodAll_cons r0
 obtain ⟨rfl, rfl, rfl⟩ := trodAll_nil r1
 obtain rfl : args = #[v0, v1] := by cases args; simp_all
 obtain ⟨rfl, rfl⟩ := trodVars_none hV
 obtain ⟨x0, rfl, rfl, rfl⟩ := open_bool Tryz.underlying4 (hval 0 4 v0 rfl rfl) h0
 obtain ⟨x1, rfl, rfl, rfl, w1⟩ := open_int Tryz.underlying5 (hval 1 5 v1 rfl rfl) h1
 have b1 := w1
 simp only [Lit.wf, decide_eq_true_eq, Bool.and_eq_true] at b1
 have eu8a : IntKind.u8.min = 0 := rfl
 have eu8b : IntKind.u8.max = 255 := rfl
 have ei64a : IntKind.i64.min = -9223372036854775808 := rfl
 have ei64b : IntKind.i64.max = 9223372036854775807 := rfl
 have eu32a : IntKind.u32.min = 0 := rfl
 have eu32b : IntKind.u32.max = 4294967295 := rfl
 clear hA0 hval0
 refine (walk x0 x1 W (by omega) (by omega) (errs hL) (table hL)).mono fun e W' ⟨he, bel⟩ => ?_
 subst he
 exact ⟨_, rfl, _, _, _, [], _, [], hW', trodAll_mk1 (shut_bool Tryz.underlying4 _), (trodAll_cons_mk (shut_bool Tryz.underlying4 _) (trodAll_cons_mk (shut_int Tryz.underlying5 w1) trodAll_mk0)), rfl, bel.frame _, fun h => by cases h⟩
theorem said : Rows.DrawLongsSaid :=
 OpenClaim.holds_of_wide 5 Tryz.f5 rfl rfl rfl rfl rfl rfl rfl ⟨rfl, rfl, rfl, rfl, rfl⟩ rfl rfl rfl rfl rfl (by kernel_rfl) Tryz.func5 (by kernel_rfl)
  (of_decide_eq_true (by kernel_rfl)) (by unfold Func.isWrapper; first | (rw [if_pos (by decide +kernel)]; kernel_rfl) | (rw [if_neg (by decide +kernel)]; exact ⟨rfl, rfl⟩))
  (fun os started H enc _ => lifted os started H enc)
theorem plain (f : FuncId) (fn : Func) (hf : Tryz.pinned.checked.prog.funcNamed "cheval/chevallaw12.DrawLongs" = some f) (hfn : Tryz.pinned.checked.prog.funcs[f]? = some fn) :
 true = Tryz.pinned.checked.prog.looks [] ∧ ∀ (j : Nat) t, fn.params[j]? = some t → Tryz.pinned.checked.prog.wantsStandIn t = false := by
 obtain rfl : f = 5 := Option.some.inj ((show Tryz.prog.funcNamed "cheval/chevallaw12.DrawLongs" = some 5 by kernel_rfl).symm.trans hf) |>.symm
 obtain rfl : fn = Tryz.f5 := (Option.some.inj (Tryz.func5.symm.trans hfn)).symm
 refine ⟨by kernel_rfl, fun j t ht => ?_⟩
 rw [Tryz.params5] at ht
 have hm := Array.mem_of_getElem? ht
 simp only [List.mem_toArray, List.mem_cons, List.not_mem_nil, or_false] at hm
 rcases hm with rfl | rfl
 · exact (show Tryz.prog.wantsStandIn 4 = false by kernel_rfl)
 · exact (show Tryz.prog.wantsStandIn 5 = false by kernel_rfl)
theorem card : Rows.DrawLongsCardSaid :=
 Claim7.holds_tied_plain_at .later [] _ _ _ _ said (fun _ h => by cases h) (by kernel_rfl) (fun _ h => by cases h) drawLongs_row_tie rfl ⟨rfl, rfl⟩ (by kernel_rfl) rfl plain (by kernel_rfl)
end Go.Proofs.YtgblenoaeanogaaGreatDoor.drawLongs
