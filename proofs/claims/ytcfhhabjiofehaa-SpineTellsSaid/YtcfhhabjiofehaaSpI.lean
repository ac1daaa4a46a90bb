/- Contracts of the iterators slices.All, slices.Backward at rows of terms. -/
import Derived.Test.YtcfhhabjiofehaaSpV
import Derived.RangeFuncNested
import Derived.RangeFuncBound
import Derived.RangeFuncCalls
import Derived.RangeFuncLeaves
import Derived.Shelf.Abstract
import Derived.Shelf.RegionOpen
import Derived.WalkKit
import Derived.OwnWalkIn
import Derived.TacticsInMore
import Derived.LoopNIn
import Derived.LoopIn
namespace Go.Proofs.Ytcfhhabjiofehaa
open Go.RowKit Go.Shelf
attribute [local go_sem] Oper.semAt_some

/-- An iterator hands over N times what encs tells, and keeps whatever its rounds keep, if they keep what lay below n₀. -/
def IterOf (g : Nat) (lb : Array Value) (encs : Nat → Array Value) (N n₀ : Nat) (w0 : World) : Prop :=
  ∀ (n l : Nat) (J : Nat → World → Prop) (W : World), Below n₀ w0 W →
    (∀ k W1, k < N → J k W1 → YieldAt Fence.wide (n - 1) Try.prog l (encs k) W1 fun e W' => e = .returned (.bool true) ∧ J (k + 1) W' ∧ Below n₀ W1 W') →
    J 0 W → CallsIn Fence.wide n Try.prog g (#[.func (.yield l) #[] #[]] ++ lb) W fun e W' => (∃ v, e = .returned v) ∧ J N W'
/-- A row of pointers, below n₀. -/
def PtrsAt (w : World) (n₀ : Nat) (a : Option Addr) (ps : List (Option Addr)) : Prop := ∀ (i : Nat) (q : Option Addr), ps[i]? = some q → ∃ g o, a = some ⟨g, o, none⟩ ∧ g < n₀ ∧ w.cell? ⟨g, o + i, none⟩ = some (.pointer q)
theorem PtrsAt.below {w w2 : World} {n₀ : Nat} {a : Option Addr} {ps : List (Option Addr)} (h : PtrsAt w n₀ a ps) (hb : Below n₀ w w2) : PtrsAt w2 n₀ a ps := fun i q hq => by
  obtain ⟨g, o, h1, h2, h3⟩ := h i q hq
  exact ⟨g, o, h1, h2, (hb.cell (p := ⟨g, o + i, none⟩) h2).trans h3⟩
set_option maxRecDepth 100000 in
set_option maxHeartbeats 4000000 in
theorem all_iter {w0 : World} {n₀ Bs c : Nat} {a : Option Addr} {ps : List (Option Addr)} (hreach : ps.length ≤ 1000000000000) (hp : PtrsAt w0 n₀ a ps) (hB : Bs < n₀) (hc : w0.cell? ⟨Bs, 0, none⟩ = some (.slice a ps.length c)) :
    IterOf 41 #[.pointer (some ⟨Bs, 0, none⟩)] (fun k => #[.int .i64 (k : Int), .pointer (ps.getD k none)]) ps.length n₀ w0 := by
  intro n l J W hW hY h0
  have hcW : W.cell? ⟨Bs, 0, none⟩ = some (.slice a ps.length c) := (hW.cell (p := ⟨Bs, 0, none⟩) hB).trans hc
  have hpW := hp.below hW
  obtain ⟨N, hN⟩ : ∃ N, N = ps.length := ⟨_, rfl⟩
  rw [← hN] at hcW hreach hY ⊢
  clear hp hc hW
  refine callsIn_of_wp Try.func41 rfl trivial ?_ rfl
  simp only [Try.ntmps41, List.size_toArray, List.length_cons, List.length_nil, Nat.reduceAdd, Nat.reduceSub, Array.replicate_succ, Array.replicate_zero, List.push_toArray, List.append_toArray, List.nil_append, List.cons_append]
  gi_wp2
  gi_loopw [7] (fun i wr => ∃ k : Nat, k ≤ N ∧ i = .int .i64 k ∧ J k wr ∧ Below n₀ W wr) (fun i _ => N - (intOf i).toNat)
  case atStart => exact ⟨0, Nat.zero_le _, rfl, h0, Below.refl _ _⟩
  case round =>
    obtain ⟨k, hk, rfl, hJ, hb⟩ := hrel
    by_cases hlt : k < N
    · obtain ⟨q, hq⟩ : ∃ q, ps[k]? = some q := ⟨ps[k]'(by omega), List.getElem?_eq_getElem _⟩
      obtain ⟨g, o, rfl, hg, hcell⟩ := (hpW.below hb) k q hq
      obtain ⟨fn, tmps, assign, body, hy, hR⟩ := hY k wr hlt hJ
      have hd : ps.getD k none = q := by rw [List.getD_eq_getElem?_getD, hq]; rfl
      rw [hd] at hy
      gi_wp2
      refine ⟨fun h => (by cases h), hR.mono ?_⟩
      rintro e W3 ⟨rfl, hJ3, hk3⟩
      gi_wp2
      go_roundw
      case rel => exact ⟨k + 1, by omega, by simp, hJ3, hb.trans hk3⟩
      case measure => simp [intOf]; omega
    · obtain rfl : k = N := by omega
      gi_wp2
      go_end0
      exact ⟨⟨_, rfl⟩, hJ⟩
set_option maxRecDepth 100000 in
set_option maxHeartbeats 4000000 in
theorem back_iter {w0 : World} {n₀ Bs c : Nat} {a : Option Addr} {ps : List (Option Addr)} (hreach : ps.length ≤ 1000000000000) (hp : PtrsAt w0 n₀ a ps) (hB : Bs < n₀) (hc : w0.cell? ⟨Bs, 0, none⟩ = some (.slice a ps.length c)) :
    IterOf 42 #[.pointer (some ⟨Bs, 0, none⟩)] (fun k => #[.int .i64 ((ps.length : Int) - 1 - (k : Int)), .pointer (ps.reverse.getD k none)]) ps.length n₀ w0 := by
  intro n l J W hW hY h0
  have hcW : W.cell? ⟨Bs, 0, none⟩ = some (.slice a ps.length c) := (hW.cell (p := ⟨Bs, 0, none⟩) hB).trans hc
  have hpW := hp.below hW
  obtain ⟨N, hN⟩ : ∃ N, N = ps.length := ⟨_, rfl⟩
  rw [← hN] at hcW hreach hY ⊢
  clear hp hc hW
  refine callsIn_of_wp Try.func42 rfl trivial ?_ rfl
  simp only [Try.ntmps42, List.size_toArray, List.length_cons, List.length_nil, Nat.reduceAdd, Nat.reduceSub, Array.replicate_succ, Array.replicate_zero, List.push_toArray, List.append_toArray, List.nil_append, List.cons_append]
  gi_wp2
  gi_loopw [3] (fun i wr => ∃ k : Nat, k ≤ N ∧ i = .int .i64 ((N : Int) - 1 - (k : Int)) ∧ J k wr ∧ Below n₀ W wr) (fun i _ => (intOf i + 1).toNat)
  case atStart => exact ⟨0, Nat.zero_le _, by go_num, h0, Below.refl _ _⟩
  case round =>
    obtain ⟨k, hk, rfl, hJ, hb⟩ := hrel
    by_cases hlt : k < N
    · obtain ⟨j, hj⟩ : ∃ j : Nat, j + 1 + k = N := ⟨N - 1 - k, by omega⟩
      obtain ⟨q, hq⟩ : ∃ q, ps[j]? = some q := ⟨ps[j]'(by omega), List.getElem?_eq_getElem _⟩
      obtain ⟨g, o, rfl, hg, hcell⟩ := (hpW.below hb) j q hq
      obtain ⟨fn, tmps, assign, body, hy, hR⟩ := hY k wr hlt hJ
      have hd : ps.reverse.getD k none = q := by
        rw [List.getD_eq_getElem?_getD, List.getElem?_reverse (by omega), show ps.length - 1 - k = j by omega, hq]; rfl
      have ej : (N : Int) - 1 - (k : Int) = (j : Int) := by omega
      have hcb : wr.cell? ⟨Bs, 0, none⟩ = some (.slice (some ⟨g, o, none⟩) N c) := (hb.cell (p := ⟨Bs, 0, none⟩) hB).trans hcW
      have l1 : decide ((0 : Int) ≤ (j : Int)) = true := by simp
      have hjN : j < N := by omega
      rw [hd, ej] at hy
      rw [ej]
      gi_wp2
      refine ⟨fun h => (by cases h), hR.mono ?_⟩
      rintro e W3 ⟨rfl, hJ3, hk3⟩
      gi_wp2
      go_roundw
      case rel => exact ⟨k + 1, by omega, by go_num, hJ3, hb.trans hk3⟩
      case measure => simp [intOf]
    · obtain rfl : k = N := by omega
      have ej : (k : Int) - 1 - (k : Int) = -1 := by omega
      rw [ej]
      gi_wp2
      go_end0
      exact ⟨⟨_, rfl⟩, hJ⟩
theorem all_new (a : Option Addr) (n c : Nat) (w : World) : Calls Try.prog 35 #[.slice a n c] w fun e w2 => e = .returned (.func (.func 41) #[] #[.pointer (some ⟨w.heap.size, 0, none⟩)]) ∧ w2 = w.alloc (.cells #[.slice a n c] 26) := by
  go_enter Try.func35, Try.ntmps35
  go_wp2_with fail
  go_ret
  exact ⟨rfl, rfl⟩
theorem back_new (a : Option Addr) (n c : Nat) (w : World) : Calls Try.prog 36 #[.slice a n c] w fun e w2 => e = .returned (.func (.func 42) #[] #[.pointer (some ⟨w.heap.size, 0, none⟩)]) ∧ w2 = w.alloc (.cells #[.slice a n c] 26) := by
  go_enter Try.func36, Try.ntmps36
  go_wp2_with fail
  go_ret
  exact ⟨rfl, rfl⟩
end Go.Proofs.Ytcfhhabjiofehaa
