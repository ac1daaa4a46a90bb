/- Contracts of package disk: what may be written (mayWrite), by what the disk's own cells hold. -/
import Derived.Test.YtkkjbljhehnmjaaGreatDoorDkA
namespace Go.Proofs.YtkkjbljhehnmjaaGreatDoor
open Go.RowKit

theorem may_dead (b : Nat) (p z : Int) (w : World) (h4 : w.cell? ⟨b, 4, none⟩ = some (.bool true)) (ht : Tab w)
    (h0 : -9223372036854775808 ≤ p) (hm : p ≤ 9223372036854775807) :
    Calls Tryz.prog 87 #[.pointer (some ⟨b, 0, none⟩), .int .i64 p, .int .i64 z] w (Refused 25 w) := by
  have H := Lib.hid ht
  clear ht
  go_enter Tryz.func87, Tryz.ntmps87
  go_wp2_with (go_at_call 57; refine (reach_dead b _ (by decide) p _ h4 H.out h0 hm).mono ?_; rintro e w' ⟨v, rfl, ⟨s, rfl⟩, hk⟩)
  go_ret
  exact ⟨_, rfl, ⟨s, rfl⟩, hk⟩
theorem may_full (b n c : Nat) (p z : Int) (a : Option Addr) (w : World) (h4 : w.cell? ⟨b, 4, none⟩ = some (.bool false))
    (h1 : w.cell? ⟨b, 1, none⟩ = some (.slice a n c)) (hu : p < 0 ∨ (n : Int) ≤ p) (ht : Tab w)
    (h0 : -9223372036854775808 ≤ p) (hm : p ≤ 9223372036854775807) :
    Calls Tryz.prog 87 #[.pointer (some ⟨b, 0, none⟩), .int .i64 p, .int .i64 z] w (Refused 14 w) := by
  have H := Lib.hid ht
  have Hu := Lib.hid hu
  clear ht hu
  go_enter Tryz.func87, Tryz.ntmps87
  go_wp2_with (go_at_call 57; refine (reach_full b n c _ (by decide) p a _ h4 h1 Hu.out H.out h0 hm).mono ?_; rintro e w' ⟨v, rfl, ⟨s, rfl⟩, hk⟩)
  go_ret
  exact ⟨_, rfl, ⟨s, rfl⟩, hk⟩
theorem may_large (b n c : Nat) (p z : Int) (a : Option Addr) (w : World) (h4 : w.cell? ⟨b, 4, none⟩ = some (.bool false))
    (h1 : w.cell? ⟨b, 1, none⟩ = some (.slice a n c)) (hl : 0 ≤ p) (hu : p < n) (hz : 64 < z) (ht : Tab w)
    (h0 : -9223372036854775808 ≤ p) (hm : p ≤ 9223372036854775807) :
    Calls Tryz.prog 87 #[.pointer (some ⟨b, 0, none⟩), .int .i64 p, .int .i64 z] w (Refused 13 w) := by
  have H := Lib.hid ht
  clear ht
  have hd : decide (64 < z) = true := by simpa using hz
  go_enter Tryz.func87, Tryz.ntmps87
  go_wp2_with (first | (go_at_call 57; refine (reach_ok b n c _ p a _ h4 h1 hl hu).mono ?_; rintro e w' ⟨rfl, rfl⟩) | (go_at_call 84; refine (refuse_any _ (by decide) _ _ h0 hm _ H.out).mono ?_; rintro e w' ⟨v, rfl, ⟨s, rfl⟩, hk⟩))
  go_ret
  exact ⟨_, rfl, ⟨s, rfl⟩, hk⟩
theorem may_cut (b n c : Nat) (p z : Int) (a : Option Addr) (w : World) (h4 : w.cell? ⟨b, 4, none⟩ = some (.bool false))
    (h1 : w.cell? ⟨b, 1, none⟩ = some (.slice a n c)) (hl : 0 ≤ p) (hu : p < n) (hz : z ≤ 64) (ht : Tab w)
    (h5 : w.cell? ⟨b, 5, none⟩ = some (.bool true)) (h6 : w.cell? ⟨b, 6, none⟩ = some (.int .i64 0))
    (h0 : -9223372036854775808 ≤ p) (hm : p ≤ 9223372036854775807) :
    Calls Tryz.prog 87 #[.pointer (some ⟨b, 0, none⟩), .int .i64 p, .int .i64 z] w (Refused 25 w) := by
  have H := Lib.hid ht
  clear ht
  have hd : decide (64 < z) = false := by simpa using hz
  go_enter Tryz.func87, Tryz.ntmps87
  go_wp2_with (first | (go_at_call 57; refine (reach_ok b n c _ p a _ h4 h1 hl hu).mono ?_; rintro e w' ⟨rfl, rfl⟩) | (go_at_call 84; refine (refuse_any _ (by decide) _ _ h0 hm _ H.out).mono ?_; rintro e w' ⟨v, rfl, ⟨s, rfl⟩, hk⟩))
  go_ret
  exact ⟨_, rfl, ⟨s, rfl⟩, hk⟩
theorem may_ok (b n c : Nat) (p z : Int) (a : Option Addr) (cut : Bool) (left : Nat) (w : World) (h4 : w.cell? ⟨b, 4, none⟩ = some (.bool false))
    (h1 : w.cell? ⟨b, 1, none⟩ = some (.slice a n c)) (hl : 0 ≤ p) (hu : p < n) (hz : z ≤ 64)
    (h5 : w.cell? ⟨b, 5, none⟩ = some (.bool cut)) (h6 : w.cell? ⟨b, 6, none⟩ = some (.int .i64 left)) (hc : cut = false ∨ 0 < left) :
    Calls Tryz.prog 87 #[.pointer (some ⟨b, 0, none⟩), .int .i64 p, .int .i64 z] w fun e w' => e = .returned .nilIface ∧ w = w' := by
  have hd : decide (64 < z) = false := by simpa using hz
  cases cut with
  | false =>
    clear hc
    go_enter Tryz.func87, Tryz.ntmps87
    go_wp2_with (go_at_call 57; refine (reach_ok b n c _ p a _ h4 h1 hl hu).mono ?_; rintro e w' ⟨rfl, rfl⟩)
    go_ret
    exact ⟨rfl, rfl⟩
  | true =>
    have hp : 0 < left := by rcases hc with h | h; cases h; exact h
    clear hc
    have hq : ((left : Int) == 0) = false := by
      rw [beq_eq_false_iff_ne]; omega
    go_enter Tryz.func87, Tryz.ntmps87
    go_wp2_with (go_at_call 57; refine (reach_ok b n c _ p a _ h4 h1 hl hu).mono ?_; rintro e w' ⟨rfl, rfl⟩)
    go_ret
    exact ⟨rfl, rfl⟩
end Go.Proofs.YtkkjbljhehnmjaaGreatDoor
