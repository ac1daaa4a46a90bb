/- Contracts of package disk: the refusals, what may be reached, what may be written. -/
import Derived.Test.YtggnljfcdohkaaaGreatDoorProg
import Derived.Test.YtggnljfcdohkaaaGreatDoorShelf
import Derived.Test.YtggnljfcdohkaaaGreatDoorMem
import Derived.WalkKit
import Derived.Deep.QuietTactic
import Derived.BigQuiet
import Derived.Lib.ItoaLen
namespace Go.Proofs.YtggnljfcdohkaaaGreatDoor
open Go.RowKit

/-- The library's table of powers of ten stands as it was laid. -/
def Tab (w : World) : Prop := Lib.TabIs Tryz.prog w "internal/strconv.uint64pow10" .u64 Lib.pow10Tab
theorem globPow : Tryz.prog.globalNamed "internal/strconv.uint64pow10" = some 2 := by kernel_rfl
theorem Kp.tab0 {f : List Nat} {w w2 : World} (h : Kp f w w2) (ht : Tab w) (hf : 2 ∉ f) : Tab w2 := h.tab globPow ht hf

/-- An error of the disk, of number 'why'. -/
def IsRef (why : Int) (v : Value) : Prop := ∃ s, v = .iface 134 (.agg #[.string s, .int .i64 why])

/-- What a call that only refuses comes to. -/
def Refused (why : Int) (w : World) (e : Ending) (w2 : World) : Prop := ∃ v, e = .returned v ∧ IsRef why v ∧ Kp [] w w2

theorem itoa_any (n : Int) (h0 : -9223372036854775808 ≤ n) (h1 : n ≤ 9223372036854775807) (w : World) (ht : Tab w) :
    Calls Tryz.prog 97 #[.int .i64 n] w fun e w2 => ∃ t : ByteArray, e = .returned (.string t) ∧ t.size ≤ 21 ∧ Kp [] w w2 := by
  refine (Tryz.strconv_Itoa n h0 h1 _ ht).mono ?_
  rintro e w2 ⟨rfl, k, os, rfl⟩
  refine ⟨_, rfl, ?_, ((Kp.refl [] w).drewN k).grow os⟩
  have := Lib.itoa_length_le n h0 h1
  simpa [ByteArray.size] using this
theorem refuse_any (s : ByteArray) (hs : s.size ≤ 1000) (n : Int) (why : Int) (h0 : -9223372036854775808 ≤ n) (h1 : n ≤ 9223372036854775807) (w : World) (ht : Tab w) :
    Calls Tryz.prog 79 #[.string s, .int .i64 n, .int .i64 why] w (Refused why w) := by
  have H := Lib.hid ht
  clear ht
  have hs1 : ¬ 9223372036854775807 < s.size + 1 := by omega
  have hs2 : ∀ t : ByteArray, t.size ≤ 21 → ¬ 9223372036854775807 < s.size + 1 + t.size := by omega
  have hs3 := Lib.hid hs2
  clear hs2
  go_enter Tryz.func79, Tryz.ntmps79
  go_wp2_with (go_at_call 97; refine (itoa_any n h0 h1 _ H.out).mono ?_; rintro e w' ⟨t, rfl, hts, hk⟩; have hs4 := hs3.out t hts)
  go_ret
  exact ⟨_, rfl, ⟨_, rfl⟩, hk⟩

theorem len_any (b n c : Nat) (a : Option Addr) (w : World) (h1 : w.cell? ⟨b, 1, none⟩ = some (.slice a n c)) :
    Calls Tryz.prog 59 #[.pointer (some ⟨b, 0, none⟩)] w fun e w' => e = .returned (.int .i64 n) ∧ w = w' := by
  go_enter Tryz.func59, Tryz.ntmps59
  go_wp2
  go_ret
  exact ⟨rfl, rfl⟩
theorem writes_any (b : Nat) (n : Int) (w : World) (h1 : w.cell? ⟨b, 3, none⟩ = some (.int .i64 n)) :
    Calls Tryz.prog 24 #[.pointer (some ⟨b, 0, none⟩)] w fun e w' => e = .returned (.int .i64 n) ∧ w = w' := by
  go_enter Tryz.func24, Tryz.ntmps24
  go_wp2
  go_ret
  exact ⟨rfl, rfl⟩
theorem reach_ok (b n c : Nat) (s : ByteArray) (p : Int) (a : Option Addr) (w : World) (h4 : w.cell? ⟨b, 4, none⟩ = some (.bool false))
    (h1 : w.cell? ⟨b, 1, none⟩ = some (.slice a n c)) (hl : 0 ≤ p) (hu : p < n) :
    Calls Tryz.prog 52 #[.pointer (some ⟨b, 0, none⟩), .string s, .int .i64 p] w fun e w' => e = .returned .nilIface ∧ w = w' := by
  have hd : decide (p < 0) = false := by simpa using hl
  have hd2 : decide ((n : Int) ≤ p) = false := by simpa using hu
  go_enter Tryz.func52, Tryz.ntmps52
  go_wp2
  go_ret
  exact ⟨rfl, rfl⟩
theorem reach_dead (b : Nat) (s : ByteArray) (hs : s.size ≤ 1000) (p : Int) (w : World) (h4 : w.cell? ⟨b, 4, none⟩ = some (.bool true)) (ht : Tab w)
    (h0 : -9223372036854775808 ≤ p) (hm : p ≤ 9223372036854775807) :
    Calls Tryz.prog 52 #[.pointer (some ⟨b, 0, none⟩), .string s, .int .i64 p] w (Refused 25 w) := by
  have H := Lib.hid ht
  clear ht
  go_enter Tryz.func52, Tryz.ntmps52
  go_wp2_with (go_at_call 79; refine (refuse_any _ hs _ _ h0 hm _ H.out).mono ?_; rintro e w' ⟨v, rfl, hv, hk⟩)
  go_ret
  exact ⟨_, rfl, hv, hk⟩
theorem reach_full (b n c : Nat) (s : ByteArray) (hs : s.size ≤ 1000) (p : Int) (a : Option Addr) (w : World) (h4 : w.cell? ⟨b, 4, none⟩ = some (.bool false))
    (h1 : w.cell? ⟨b, 1, none⟩ = some (.slice a n c)) (hu : p < 0 ∨ (n : Int) ≤ p) (ht : Tab w)
    (h0 : -9223372036854775808 ≤ p) (hm : p ≤ 9223372036854775807) :
    Calls Tryz.prog 52 #[.pointer (some ⟨b, 0, none⟩), .string s, .int .i64 p] w (Refused 14 w) := by
  have H := Lib.hid ht
  clear ht
  by_cases hl : p < 0
  · have hd : decide (p < 0) = true := by simpa using hl
    clear hu
    go_enter Tryz.func52, Tryz.ntmps52
    go_wp2_with (go_at_call 79; refine (refuse_any _ hs _ _ h0 hm _ H.out).mono ?_; rintro e w' ⟨v, rfl, hv, hk⟩)
    go_ret
    exact ⟨_, rfl, hv, hk⟩
  · have hu2 : (n : Int) ≤ p := by omega
    have hd : decide (p < 0) = false := by simpa using hl
    have hd2 : decide ((n : Int) ≤ p) = true := by simpa using hu2
    clear hu
    go_enter Tryz.func52, Tryz.ntmps52
    go_wp2_with (go_at_call 79; refine (refuse_any _ hs _ _ h0 hm _ H.out).mono ?_; rintro e w' ⟨v, rfl, hv, hk⟩)
    go_ret
    exact ⟨_, rfl, hv, hk⟩
end Go.Proofs.YtggnljfcdohkaaaGreatDoor
/- Contracts of package disk: what may be written (mayWrite), by what the disk's own cells hold. -/
namespace Go.Proofs.YtggnljfcdohkaaaGreatDoor
open Go.RowKit

theorem may_dead (b : Nat) (p z : Int) (w : World) (h4 : w.cell? ⟨b, 4, none⟩ = some (.bool true)) (ht : Tab w)
    (h0 : -9223372036854775808 ≤ p) (hm : p ≤ 9223372036854775807) :
    Calls Tryz.prog 82 #[.pointer (some ⟨b, 0, none⟩), .int .i64 p, .int .i64 z] w (Refused 25 w) := by
  have H := Lib.hid ht
  clear ht
  go_enter Tryz.func82, Tryz.ntmps82
  go_wp2_with (go_at_call 52; refine (reach_dead b _ (by decide) p _ h4 H.out h0 hm).mono ?_; rintro e w' ⟨v, rfl, ⟨s, rfl⟩, hk⟩)
  go_ret
  exact ⟨_, rfl, ⟨s, rfl⟩, hk⟩
theorem may_full (b n c : Nat) (p z : Int) (a : Option Addr) (w : World) (h4 : w.cell? ⟨b, 4, none⟩ = some (.bool false))
    (h1 : w.cell? ⟨b, 1, none⟩ = some (.slice a n c)) (hu : p < 0 ∨ (n : Int) ≤ p) (ht : Tab w)
    (h0 : -9223372036854775808 ≤ p) (hm : p ≤ 9223372036854775807) :
    Calls Tryz.prog 82 #[.pointer (some ⟨b, 0, none⟩), .int .i64 p, .int .i64 z] w (Refused 14 w) := by
  have H := Lib.hid ht
  have Hu := Lib.hid hu
  clear ht hu
  go_enter Tryz.func82, Tryz.ntmps82
  go_wp2_with (go_at_call 52; refine (reach_full b n c _ (by decide) p a _ h4 h1 Hu.out H.out h0 hm).mono ?_; rintro e w' ⟨v, rfl, ⟨s, rfl⟩, hk⟩)
  go_ret
  exact ⟨_, rfl, ⟨s, rfl⟩, hk⟩
theorem may_large (b n c : Nat) (p z : Int) (a : Option Addr) (w : World) (h4 : w.cell? ⟨b, 4, none⟩ = some (.bool false))
    (h1 : w.cell? ⟨b, 1, none⟩ = some (.slice a n c)) (hl : 0 ≤ p) (hu : p < n) (hz : 64 < z) (ht : Tab w)
    (h0 : -9223372036854775808 ≤ p) (hm : p ≤ 9223372036854775807) :
    Calls Tryz.prog 82 #[.pointer (some ⟨b, 0, none⟩), .int .i64 p, .int .i64 z] w (Refused 13 w) := by
  have H := Lib.hid ht
  clear ht
  have hd : decide (64 < z) = true := by simpa using hz
  go_enter Tryz.func82, Tryz.ntmps82
  go_wp2_with (first | (go_at_call 52; refine (reach_ok b n c _ p a _ h4 h1 hl hu).mono ?_; rintro e w' ⟨rfl, rfl⟩) | (go_at_call 79; refine (refuse_any _ (by decide) _ _ h0 hm _ H.out).mono ?_; rintro e w' ⟨v, rfl, ⟨s, rfl⟩, hk⟩))
  go_ret
  exact ⟨_, rfl, ⟨s, rfl⟩, hk⟩
theorem may_cut (b n c : Nat) (p z : Int) (a : Option Addr) (w : World) (h4 : w.cell? ⟨b, 4, none⟩ = some (.bool false))
    (h1 : w.cell? ⟨b, 1, none⟩ = some (.slice a n c)) (hl : 0 ≤ p) (hu : p < n) (hz : z ≤ 64) (ht : Tab w)
    (h5 : w.cell? ⟨b, 5, none⟩ = some (.bool true)) (h6 : w.cell? ⟨b, 6, none⟩ = some (.int .i64 0))
    (h0 : -9223372036854775808 ≤ p) (hm : p ≤ 9223372036854775807) :
    Calls Tryz.prog 82 #[.pointer (some ⟨b, 0, none⟩), .int .i64 p, .int .i64 z] w (Refused 25 w) := by
  have H := Lib.hid ht
  clear ht
  have hd : decide (64 < z) = false := by simpa using hz
  go_enter Tryz.func82, Tryz.ntmps82
  go_wp2_with (first | (go_at_call 52; refine (reach_ok b n c _ p a _ h4 h1 hl hu).mono ?_; rintro e w' ⟨rfl, rfl⟩) | (go_at_call 79; refine (refuse_any _ (by decide) _ _ h0 hm _ H.out).mono ?_; rintro e w' ⟨v, rfl, ⟨s, rfl⟩, hk⟩))
  go_ret
  exact ⟨_, rfl, ⟨s, rfl⟩, hk⟩
theorem may_ok (b n c : Nat) (p z : Int) (a : Option Addr) (cut : Bool) (left : Nat) (w : World) (h4 : w.cell? ⟨b, 4, none⟩ = some (.bool false))
    (h1 : w.cell? ⟨b, 1, none⟩ = some (.slice a n c)) (hl : 0 ≤ p) (hu : p < n) (hz : z ≤ 64)
    (h5 : w.cell? ⟨b, 5, none⟩ = some (.bool cut)) (h6 : w.cell? ⟨b, 6, none⟩ = some (.int .i64 left)) (hc : cut = false ∨ 0 < left) :
    Calls Tryz.prog 82 #[.pointer (some ⟨b, 0, none⟩), .int .i64 p, .int .i64 z] w fun e w' => e = .returned .nilIface ∧ w = w' := by
  have hd : decide (64 < z) = false := by simpa using hz
  cases cut with
  | false =>
    clear hc
    go_enter Tryz.func82, Tryz.ntmps82
    go_wp2_with (go_at_call 52; refine (reach_ok b n c _ p a _ h4 h1 hl hu).mono ?_; rintro e w' ⟨rfl, rfl⟩)
    go_ret
    exact ⟨rfl, rfl⟩
  | true =>
    have hp : 0 < left := by rcases hc with h | h; cases h; exact h
    clear hc
    have hq : ((left : Int) == 0) = false := by
      rw [beq_eq_false_iff_ne]; omega
    go_enter Tryz.func82, Tryz.ntmps82
    go_wp2_with (go_at_call 52; refine (reach_ok b n c _ p a _ h4 h1 hl hu).mono ?_; rintro e w' ⟨rfl, rfl⟩)
    go_ret
    exact ⟨rfl, rfl⟩
end Go.Proofs.YtggnljfcdohkaaaGreatDoor
