/- Contracts of package disk: the refusals, what may be reached, what may be written. -/
import Derived.Test.YtkkjbljhehnmjaaGreatDoorProg
import Derived.Test.YtkkjbljhehnmjaaGreatDoorShelf
import Derived.Test.YtkkjbljhehnmjaaGreatDoorMem
import Derived.WalkKit
import Derived.Deep.QuietTactic
import Derived.BigQuiet
import Derived.Lib.ItoaLen
namespace Go.Proofs.YtkkjbljhehnmjaaGreatDoor
open Go.RowKit

/-- The library's table of powers of ten stands as it was laid. -/
def Tab (w : World) : Prop := Lib.TabIs Tryz.prog w "internal/strconv.uint64pow10" .u64 Lib.pow10Tab
theorem globPow : Tryz.prog.globalNamed "internal/strconv.uint64pow10" = some 2 := by kernel_rfl
theorem Kp.tab0 {f : List Nat} {w w2 : World} (h : Kp f w w2) (ht : Tab w) (hf : 2 ∉ f) : Tab w2 := h.tab globPow ht hf

/-- An error of the disk, of number 'why'. -/
def IsRef (why : Int) (v : Value) : Prop := ∃ s, v = .iface 140 (.agg #[.string s, .int .i64 why])

/-- What a call that only refuses comes to. -/
def Refused (why : Int) (w : World) (e : Ending) (w2 : World) : Prop := ∃ v, e = .returned v ∧ IsRef why v ∧ Kp [] w w2

theorem itoa_any (n : Int) (h0 : -9223372036854775808 ≤ n) (h1 : n ≤ 9223372036854775807) (w : World) (ht : Tab w) :
    Calls Tryz.prog 102 #[.int .i64 n] w fun e w2 => ∃ t : ByteArray, e = .returned (.string t) ∧ t.size ≤ 21 ∧ Kp [] w w2 := by
  refine (Tryz.strconv_Itoa n h0 h1 _ ht).mono ?_
  rintro e w2 ⟨rfl, k, os, rfl⟩
  refine ⟨_, rfl, ?_, ((Kp.refl [] w).drewN k).grow os⟩
  have := Lib.itoa_length_le n h0 h1
  simpa [ByteArray.size] using this
theorem refuse_any (s : ByteArray) (hs : s.size ≤ 1000) (n : Int) (why : Int) (h0 : -9223372036854775808 ≤ n) (h1 : n ≤ 9223372036854775807) (w : World) (ht : Tab w) :
    Calls Tryz.prog 84 #[.string s, .int .i64 n, .int .i64 why] w (Refused why w) := by
  have H := Lib.hid ht
  clear ht
  have hs1 : ¬ 9223372036854775807 < s.size + 1 := by omega
  have hs2 : ∀ t : ByteArray, t.size ≤ 21 → ¬ 9223372036854775807 < s.size + 1 + t.size := by omega
  have hs3 := Lib.hid hs2
  clear hs2
  go_enter Tryz.func84, Tryz.ntmps84
  go_wp2_with (go_at_call 102; refine (itoa_any n h0 h1 _ H.out).mono ?_; rintro e w' ⟨t, rfl, hts, hk⟩; have hs4 := hs3.out t hts)
  go_ret
  exact ⟨_, rfl, ⟨_, rfl⟩, hk⟩

theorem len_any (b n c : Nat) (a : Option Addr) (w : World) (h1 : w.cell? ⟨b, 1, none⟩ = some (.slice a n c)) :
    Calls Tryz.prog 64 #[.pointer (some ⟨b, 0, none⟩)] w fun e w' => e = .returned (.int .i64 n) ∧ w = w' := by
  go_enter Tryz.func64, Tryz.ntmps64
  go_wp2
  go_ret
  exact ⟨rfl, rfl⟩
theorem writes_any (b : Nat) (n : Int) (w : World) (h1 : w.cell? ⟨b, 3, none⟩ = some (.int .i64 n)) :
    Calls Tryz.prog 26 #[.pointer (some ⟨b, 0, none⟩)] w fun e w' => e = .returned (.int .i64 n) ∧ w = w' := by
  go_enter Tryz.func26, Tryz.ntmps26
  go_wp2
  go_ret
  exact ⟨rfl, rfl⟩
theorem reach_ok (b n c : Nat) (s : ByteArray) (p : Int) (a : Option Addr) (w : World) (h4 : w.cell? ⟨b, 4, none⟩ = some (.bool false))
    (h1 : w.cell? ⟨b, 1, none⟩ = some (.slice a n c)) (hl : 0 ≤ p) (hu : p < n) :
    Calls Tryz.prog 57 #[.pointer (some ⟨b, 0, none⟩), .string s, .int .i64 p] w fun e w' => e = .returned .nilIface ∧ w = w' := by
  have hd : decide (p < 0) = false := by simpa using hl
  have hd2 : decide ((n : Int) ≤ p) = false := by simpa using hu
  go_enter Tryz.func57, Tryz.ntmps57
  go_wp2
  go_ret
  exact ⟨rfl, rfl⟩
theorem reach_dead (b : Nat) (s : ByteArray) (hs : s.size ≤ 1000) (p : Int) (w : World) (h4 : w.cell? ⟨b, 4, none⟩ = some (.bool true)) (ht : Tab w)
    (h0 : -9223372036854775808 ≤ p) (hm : p ≤ 9223372036854775807) :
    Calls Tryz.prog 57 #[.pointer (some ⟨b, 0, none⟩), .string s, .int .i64 p] w (Refused 25 w) := by
  have H := Lib.hid ht
  clear ht
  go_enter Tryz.func57, Tryz.ntmps57
  go_wp2_with (go_at_call 84; refine (refuse_any _ hs _ _ h0 hm _ H.out).mono ?_; rintro e w' ⟨v, rfl, hv, hk⟩)
  go_ret
  exact ⟨_, rfl, hv, hk⟩
theorem reach_full (b n c : Nat) (s : ByteArray) (hs : s.size ≤ 1000) (p : Int) (a : Option Addr) (w : World) (h4 : w.cell? ⟨b, 4, none⟩ = some (.bool false))
    (h1 : w.cell? ⟨b, 1, none⟩ = some (.slice a n c)) (hu : p < 0 ∨ (n : Int) ≤ p) (ht : Tab w)
    (h0 : -9223372036854775808 ≤ p) (hm : p ≤ 9223372036854775807) :
    Calls Tryz.prog 57 #[.pointer (some ⟨b, 0, none⟩), .string s, .int .i64 p] w (Refused 14 w) := by
  have H := Lib.hid ht
  clear ht
  by_cases hl : p < 0
  · have hd : decide (p < 0) = true := by simpa using hl
    clear hu
    go_enter Tryz.func57, Tryz.ntmps57
    go_wp2_with (go_at_call 84; refine (refuse_any _ hs _ _ h0 hm _ H.out).mono ?_; rintro e w' ⟨v, rfl, hv, hk⟩)
    go_ret
    exact ⟨_, rfl, hv, hk⟩
  · have hu2 : (n : Int) ≤ p := by omega
    have hd : decide (p < 0) = false := by simpa using hl
    have hd2 : decide ((n : Int) ≤ p) = true := by simpa using hu2
    clear hu
    go_enter Tryz.func57, Tryz.ntmps57
    go_wp2_with (go_at_call 84; refine (refuse_any _ hs _ _ h0 hm _ H.out).mono ?_; rintro e w' ⟨v, rfl, hv, hk⟩)
    go_ret
    exact ⟨_, rfl, hv, hk⟩
end Go.Proofs.YtkkjbljhehnmjaaGreatDoor
