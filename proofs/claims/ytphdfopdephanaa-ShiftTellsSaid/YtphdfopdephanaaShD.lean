/- Contracts of package shift: isBound, isMoved, put, within, moveAt. -/
import Derived.Test.YtphdfopdephanaaShC
namespace Go.Proofs.Ytphdfopdephanaa
open Go.RowKit

theorem wrap_ok {a b : Int} (h : a = b) (h1 : -1000000000000000 ≤ b) (h2 : b ≤ 1000000000000000) : IntKind.i64.wrap a = b := by
  rw [IntKind.wrap_i64]; omega
/-- A move that lies at b: its plain numbers. -/
def MovAt (w : World) (b : Nat) (fr by' : Int) (tv : Value) (bd : Bool) (nm : ByteArray) : Prop :=
  w.heap[b]? = some (.cells #[.int .i64 fr, .int .i64 by', tv, .bool bd, .string nm] 48 (0, 0))
theorem MovAt.lt {w : World} {b : Nat} {fr by' : Int} {tv : Value} {bd : Bool} {nm : ByteArray} (h : MovAt w b fr by' tv bd nm) : b < w.heap.size := (Array.getElem?_eq_some_iff.1 h).1
theorem MovAt.cells {w : World} {b : Nat} {fr by' : Int} {tv : Value} {bd : Bool} {nm : ByteArray} (h : MovAt w b fr by' tv bd nm) :
    w.cell? ⟨b, 0, none⟩ = some (.int .i64 fr) ∧ w.cell? ⟨b, 1, none⟩ = some (.int .i64 by') ∧ w.cell? ⟨b, 2, none⟩ = some tv ∧ w.cell? ⟨b, 3, none⟩ = some (.bool bd) ∧ w.cell? ⟨b, 4, none⟩ = some (.string nm) :=
  ⟨cell_of h 0, cell_of h 1, cell_of h 2, cell_of h 3, cell_of h 4⟩
theorem MovAt.kp {F : List Nat} {w w2 : World} {b : Nat} {fr by' : Int} {tv : Value} {bd : Bool} {nm : ByteArray} (h : MovAt w b fr by' tv bd nm) (K : Kp F w w2) (hb : b ∉ F) : MovAt w2 b fr by' tv bd nm := (K.block b h.lt hb).trans h

set_option maxHeartbeats 3200000 in
theorem isBound_any {w : World} {b g : Nat} {fr by' : Int} {tv : Value} {bd : Bool} {nm : ByteArray} (M : MovAt w b fr by' tv bd nm) {k n : Int} {s : ByteArray} {pa pb pc : Option Addr} (N : NdAt w g k n s pa pb pc) :
    Calls Try.prog 45 #[.pointer (some ⟨b, 0, none⟩), .pointer (some ⟨g, 0, none⟩)] w fun e w2 => e = .returned (.bool (bd && decide (k = 3) && decide (s = nm) && decide (n = 0))) ∧ ∃ m, w2 = w.drewN m := by
  obtain ⟨x0, x1, x2, _, _, _⟩ := N.cells
  obtain ⟨_, _, _, y3, y4⟩ := M.cells
  have hs := eq_toList s nm
  clear M N
  cases bd with
  | false =>
    simp only [Bool.false_and]
    go_enter Try.func45, Try.ntmps45
    go_wp2_with fail
    go_quiet (fail)
    go_wp2_with fail
    go_ret
    exact ⟨rfl, _, rfl⟩
  | true =>
    simp only [Bool.true_and]
    by_cases e0 : k = 3
    · have h0 : (k == 3) = true := by simpa using e0
      rw [decide_eq_true e0]
      clear e0
      simp only [Bool.true_and]
      by_cases e1 : s = nm
      · rw [decide_eq_true e1] at hs ⊢
        clear e1
        simp only [Bool.true_and]
        have h2 : (n == 0) = decide (n = 0) := by by_cases h : n = 0 <;> simp [h]
        generalize decide (n = 0) = r at h2 ⊢
        go_enter Try.func45, Try.ntmps45
        go_wp2_with fail
        go_quiet (fail)
        go_wp2_with fail
        go_ret
        exact ⟨rfl, _, rfl⟩
      · rw [decide_eq_false e1] at hs ⊢
        clear e1
        simp only [Bool.false_and]
        go_enter Try.func45, Try.ntmps45
        go_wp2_with fail
        go_quiet (fail)
        go_wp2_with fail
        go_ret
        exact ⟨rfl, _, rfl⟩
    · have h0 : (k == 3) = false := by simpa using e0
      rw [decide_eq_false e0]
      clear e0
      simp only [Bool.false_and]
      go_enter Try.func45, Try.ntmps45
      go_wp2_with fail
      go_quiet (fail)
      go_wp2_with fail
      go_ret
      exact ⟨rfl, _, rfl⟩
set_option maxHeartbeats 3200000 in
theorem isMoved_any {w : World} {b g : Nat} {fr by' : Int} {tv : Value} {bd : Bool} {nm : ByteArray} (M : MovAt w b fr by' tv bd nm) {k n : Int} {s : ByteArray} {pa pb pc : Option Addr} (N : NdAt w g k n s pa pb pc)
    (d : Int) (hd0 : 0 ≤ d) (hd1 : d ≤ 1000000000000) (hn0 : k = 2 → -1000000000000 ≤ n) (hn1 : k = 2 → n ≤ 100000000000000) :
    Calls Try.prog 46 #[.pointer (some ⟨b, 0, none⟩), .pointer (some ⟨g, 0, none⟩), .int .i64 d] w fun e w2 => e = .returned (.bool (decide (k = 2) && decide (fr ≤ n - d))) ∧ ∃ m, w2 = w.drewN m := by
  obtain ⟨x0, x1, x2, _, _, _⟩ := N.cells
  obtain ⟨y0, _, _, _, _⟩ := M.cells
  clear M N
  by_cases e0 : k = 2
  · have h0 : (k == 2) = true := by simpa using e0
    have hn0 := hn0 e0
    have hn1 := hn1 e0
    rw [decide_eq_true e0]
    clear e0
    simp only [Bool.true_and]
    obtain ⟨z, hz⟩ : ∃ z, z = n - d := ⟨_, rfl⟩
    have e1 : IntKind.i64.wrap (n - d) = z := wrap_ok hz.symm (by omega) (by omega)
    obtain ⟨y, hy⟩ : ∃ y : Int, y = -9223372036854775808 + d := ⟨_, rfl⟩
    have e2 : IntKind.i64.wrap (-9223372036854775808 + d) = y := by rw [IntKind.wrap_i64]; omega
    have e3 : decide (y ≤ n) = true := by simp; omega
    rw [← hz]
    obtain ⟨r, hr⟩ : ∃ r, r = decide (fr ≤ z) := ⟨_, rfl⟩
    have e4 : decide (fr ≤ z) = r := hr.symm
    rw [e4]
    clear hz hy hr hd0 hd1 hn0 hn1
    go_enter Try.func46, Try.ntmps46
    go_wp2_with fail
    go_quiet (fail)
    go_wp2_with fail
    go_ret
    exact ⟨rfl, _, rfl⟩
  · have h0 : (k == 2) = false := by simpa using e0
    rw [decide_eq_false e0]
    clear e0 hd0 hd1 hn0 hn1
    simp only [Bool.false_and]
    go_enter Try.func46, Try.ntmps46
    go_wp2_with fail
    go_quiet (fail)
    go_wp2_with fail
    go_ret
    exact ⟨rfl, _, rfl⟩
set_option maxHeartbeats 3200000 in
theorem within_any (k d : Int) (pp : Option Addr) (li : Int) (hd0 : 0 ≤ d) (hd1 : d ≤ 1000000000000) (w : World) :
    Calls Try.prog 53 #[.agg #[.pointer pp, .int .i64 d, .int .i64 li], .int .i64 k] w fun e w2 => e = .returned (.tuple #[.int .i64 (d + hB k), .int .i64 (d + hC k)]) ∧ Kp [] w w2 := by
  obtain ⟨b1, hb1⟩ : ∃ b1, b1 = d + hB k := ⟨_, rfl⟩
  obtain ⟨c1, hc1⟩ : ∃ c1, c1 = d + hC k := ⟨_, rfl⟩
  rw [← hb1, ← hc1]
  have e1 : IntKind.i64.wrap (d + 1) = d + 1 := wrap_ok rfl (by omega) (by omega)
  clear hd0 hd1
  by_cases h4 : k = 4
  · subst h4
    obtain rfl : b1 = d + 1 := hb1
    obtain rfl : c1 = d + 1 := hc1
    go_enter Try.func53, Try.ntmps53
    go_wp2_with fail
    go_quiet (fail)
    go_wp2_with fail
    exact bodyPost_ret (v := .tuple #[_, _]) (by simp [results, Try.results53, go_sem]) rfl ⟨rfl, ((Kp.refl [] w).alloc _).drewN _⟩
  have b4 : (k == 4) = false := by simpa using h4
  by_cases h5 : k = 5
  · subst h5
    obtain rfl : b1 = d + 1 := hb1
    obtain rfl : c1 = d + 1 := hc1
    go_enter Try.func53, Try.ntmps53
    go_wp2_with fail
    go_quiet (fail)
    go_wp2_with fail
    exact bodyPost_ret (v := .tuple #[_, _]) (by simp [results, Try.results53, go_sem]) rfl ⟨rfl, ((Kp.refl [] w).alloc _).drewN _⟩
  have b5 : (k == 5) = false := by simpa using h5
  have hB0 : hB k = 0 := if_neg (by omega)
  rw [hB0, Int.add_zero] at hb1
  by_cases h7 : k = 7
  · subst h7
    obtain rfl : b1 = d := hb1
    obtain rfl : c1 = b1 + 1 := hc1
    go_enter Try.func53, Try.ntmps53
    go_wp2_with fail
    go_quiet (fail)
    go_wp2_with fail
    exact bodyPost_ret (v := .tuple #[_, _]) (by simp [results, Try.results53, go_sem]) rfl ⟨rfl, ((Kp.refl [] w).alloc _).drewN _⟩
  have b7 : (k == 7) = false := by simpa using h7
  have hC0 : hC k = 0 := if_neg (by omega)
  rw [hC0, Int.add_zero] at hc1
  obtain rfl : b1 = d := hb1
  obtain rfl : c1 = b1 := hc1
  clear h4 h5 h7 hB0 hC0
  go_enter Try.func53, Try.ntmps53
  go_wp2_with fail
  go_quiet (fail)
  go_wp2_with fail
  exact bodyPost_ret (v := .tuple #[_, _]) (by simp [results, Try.results53, go_sem]) rfl ⟨rfl, ((Kp.refl [] w).alloc _).drewN _⟩
/-- A row of pointers. -/
def PtrsAt (w : World) (a : Option Addr) (ps : List (Option Addr)) : Prop := ∀ i q, ps[i]? = some q → ∃ g o, a = some ⟨g, o, none⟩ ∧ w.cell? ⟨g, o + i, none⟩ = some (.pointer q)
theorem PtrsAt.kp {F : List Nat} {w w2 : World} {a : Option Addr} {ps : List (Option Addr)} (h : PtrsAt w a ps) (K : Kp F w w2) (hF : ∀ g ∈ F, NoPtr w g) : PtrsAt w2 a ps := fun i q hq => by
  obtain ⟨g, o, h1, h2⟩ := h i q hq
  refine ⟨g, o, h1, ?_⟩
  have hlt : g < w.heap.size := World.block_lt_of_cell? w _ h2
  rw [K.cell (p := ⟨g, o + i, none⟩) hlt (fun hm => hF g hm _ _ h2)]
  exact h2
set_option maxHeartbeats 3200000 in
/-- No term is put in for what is too far above. -/
theorem put_no {w : World} {b g : Nat} {fr by' : Int} {ta : Option Addr} {tn tc : Nat} {bd : Bool} {nm : ByteArray} (M : MovAt w b fr by' (.slice ta tn tc) bd nm) {k n : Int} {s : ByteArray} {pa pb pc : Option Addr} (N : NdAt w g k n s pa pb pc)
    (d : Int) (hd0 : 0 ≤ d) (hd1 : d ≤ 1000000000000) (hn0 : -1000000000000 ≤ n) (hn1 : n ≤ 100000000000000) (hf0 : 0 ≤ fr) (hf1 : fr ≤ 1000000000000) (hm : fr ≤ n - d) (htn : tn ≤ 100000) (hh : (tn : Int) ≤ n - d - fr) :
    Calls Try.prog 47 #[.pointer (some ⟨b, 0, none⟩), .pointer (some ⟨g, 0, none⟩), .int .i64 d] w fun e w2 => e = .returned (.tuple #[.pointer none, .bool false]) ∧ ∃ m, w2 = w.drewN m := by
  obtain ⟨x0, x1, x2, _, _, _⟩ := N.cells
  obtain ⟨y0, _, y2, _, _⟩ := M.cells
  clear M N
  go_enter Try.func47, Try.ntmps47
  go_wp2_with fail
  go_quiet (fail)
  have hd9 : decide ((tn : Int) ≤ n - d - fr) = true := by simpa using hh
  go_wp2_with fail
  exact bodyPost_ret (v := .tuple #[_, _]) (by simp [results, Try.results47, go_sem]) rfl ⟨rfl, _, rfl⟩
set_option maxHeartbeats 3200000 in
theorem put_yes {w : World} {b g : Nat} {fr by' : Int} {tb to tn tc : Nat} {bd : Bool} {nm : ByteArray} (M : MovAt w b fr by' (.slice (some ⟨tb, to, none⟩) tn tc) bd nm) {k n : Int} {s : ByteArray} {pa pb pc : Option Addr} (N : NdAt w g k n s pa pb pc)
    (d : Int) (hd0 : 0 ≤ d) (hd1 : d ≤ 1000000000000) (hn0 : -1000000000000 ≤ n) (hn1 : n ≤ 100000000000000) (hf0 : 0 ≤ fr) (hf1 : fr ≤ 1000000000000) (hm : fr ≤ n - d) (htn : tn ≤ 100000) (j : Nat) (hh : (j : Int) + 1 + (n - d - fr) = tn) (q : Option Addr) (hc : w.cell? ⟨tb, to + j, none⟩ = some (.pointer q)) :
    Calls Try.prog 47 #[.pointer (some ⟨b, 0, none⟩), .pointer (some ⟨g, 0, none⟩), .int .i64 d] w fun e w2 => e = .returned (.tuple #[.pointer q, .bool true]) ∧ ∃ m, w2 = w.drewN m := by
  obtain ⟨x0, x1, x2, _, _, _⟩ := N.cells
  obtain ⟨y0, _, y2, _, _⟩ := M.cells
  clear M N
  go_enter Try.func47, Try.ntmps47
  go_wp2_with fail
  go_quiet (fail)
  have hd9 : decide ((tn : Int) ≤ n - d - fr) = false := by simp; omega
  go_wp2_with fail
  have f1 : IntKind.i64.wrap ((tn : Int) - 1) = (tn : Int) - 1 := wrap_ok rfl (by omega) (by omega)
  have f2 : IntKind.i64.wrap (n - d - fr) = n - d - fr := wrap_ok rfl (by omega) (by omega)
  have f3 : IntKind.i64.wrap ((tn : Int) - 1 - (n - d - fr)) = (j : Int) := wrap_ok (by omega) (by omega) (by omega)
  have f4 : j < tn := by omega
  clear hd0 hd1 hn0 hn1 hf0 hf1 hm htn hh hd9
  go_quiet (fail)
  go_wp2_with fail
  exact bodyPost_ret (v := .tuple #[_, _]) (by simp [results, Try.results47, go_sem]) rfl ⟨rfl, _, World.drewN_drewN _ _ _⟩
end Go.Proofs.Ytphdfopdephanaa
