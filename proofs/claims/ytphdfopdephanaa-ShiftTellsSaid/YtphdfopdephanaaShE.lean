/- Contracts of package shift: moveAt; a map of places: its runs. -/
import Derived.Test.YtphdfopdephanaaShD
import Derived.LaidEql
import Derived.Laws.StructEq
import Derived.Maps.OwnOps
import Derived.Deep.Cut
namespace Go.Proofs.Ytphdfopdephanaa
open Go.RowKit

theorem size_alloc' (w : World) (o : Obj) : (w.alloc o).heap.size = w.heap.size + 1 := by simp
/-- An answer that lies at A. -/
def AnsAt (w : World) (A : Nat) (fr by' : Int) (tv : Value) (bd : Bool) (nm : ByteArray) (nodes : Int) (M : Option Nat) : Prop :=
  w.heap[A]? = some (.cells #[.int .i64 fr, .int .i64 by', tv, .bool bd, .string nm, .int .i64 nodes, .map M] 63 (0, 0))
theorem AnsAt.lt {w : World} {b : Nat} {fr by' : Int} {tv : Value} {bd : Bool} {nm : ByteArray} {nd : Int} {M : Option Nat} (h : AnsAt w b fr by' tv bd nm nd M) : b < w.heap.size := (Array.getElem?_eq_some_iff.1 h).1
theorem AnsAt.cells {w : World} {b : Nat} {fr by' : Int} {tv : Value} {bd : Bool} {nm : ByteArray} {nd : Int} {M : Option Nat} (h : AnsAt w b fr by' tv bd nm nd M) :
    w.cell? ⟨b, 0, none⟩ = some (.int .i64 fr) ∧ w.cell? ⟨b, 1, none⟩ = some (.int .i64 by') ∧ w.cell? ⟨b, 2, none⟩ = some tv ∧ w.cell? ⟨b, 3, none⟩ = some (.bool bd) ∧ w.cell? ⟨b, 4, none⟩ = some (.string nm) ∧ w.cell? ⟨b, 5, none⟩ = some (.int .i64 nd) ∧ w.cell? ⟨b, 6, none⟩ = some (.map M) :=
  ⟨cell_of h 0, cell_of h 1, cell_of h 2, cell_of h 3, cell_of h 4, cell_of h 5, cell_of h 6⟩
theorem AnsAt.kp {F : List Nat} {w w2 : World} {b : Nat} {fr by' : Int} {tv : Value} {bd : Bool} {nm : ByteArray} {nd : Int} {M : Option Nat} (h : AnsAt w b fr by' tv bd nm nd M) (K : Kp F w w2) (hb : b ∉ F) : AnsAt w2 b fr by' tv bd nm nd M := (K.block b h.lt hb).trans h
theorem AnsAt.noPtr {w : World} {b : Nat} {fr by' : Int} {ta : Option Addr} {tn tc : Nat} {bd : Bool} {nm : ByteArray} {nd : Int} {M : Option Nat} (h : AnsAt w b fr by' (.slice ta tn tc) bd nm nd M) : NoPtr w b := fun o q hc => by
  rw [cell_of h o] at hc
  match o with
  | 0 => cases hc
  | 1 => cases hc
  | 2 => cases hc
  | 3 => cases hc
  | 4 => cases hc
  | 5 => cases hc
  | 6 => cases hc
  | o + 7 => simp at hc
def movO (fr by' : Int) (tv : Value) (bd : Bool) (nm : ByteArray) : Value := .agg #[.int .i64 fr, .int .i64 by', tv, .bool bd, .string nm]
theorem ma_ret {P : Ending → World → Prop} {w : World} {c : Act} {X : Nat} {fr by' : Int} {tv : Value} {bd : Bool} {nm : ByteArray} (s : MovAt w X fr by' tv bd nm) (h4 : c.tmps.getD 4 undef = .pointer (some ⟨X, 0, none⟩)) (hd : c.defers = []) (hP : P (.returned (movO fr by' tv bd nm)) w) :
    bodyPost Try.prog Try.f44 P .ret c w := by
  obtain ⟨c0, c1, c2, c3, c4⟩ := s.cells
  refine bodyPost_ret (v := movO fr by' tv bd nm) ?_ hd hP
  unfold movO
  simp [results, Try.results44, go_sem] at *
  simp [h4, go_sem, c0, c1, c2, c3, c4]
def plO (pp : Option Addr) (ar li : Int) : Obj := .cells #[.pointer pp, .int .i64 ar, .int .i64 li] 66
def mvO (fr by' : Int) (tv : Value) (bd : Bool) (nm : ByteArray) : Obj := .cells #[.int .i64 fr, .int .i64 by', tv, .bool bd, .string nm] 48
theorem MovAt.new (w : World) (fr by' : Int) (tv : Value) (bd : Bool) (nm : ByteArray) : MovAt (w.alloc (mvO fr by' tv bd nm)) w.heap.size fr by' tv bd nm := (MapKept.heap_alloc w _).1
theorem heap_set {w : World} {b i : Nat} {cs : Array Value} {T : TypeId} (h : w.heap[b]? = some (.cells cs T (0, 0))) (v : Value) : (w.setCell ⟨b, i, none⟩ v).heap[b]? = some (.cells (cs.setIfInBounds i v) T (0, 0)) := by
  rw [World.setCell, Array.getElem?_modify, if_pos rfl, h]
  rfl
theorem MovAt.set {w : World} {b : Nat} {fr by' : Int} {tv : Value} {bd : Bool} {nm : ByteArray} (h : MovAt w b fr by' tv bd nm) (fr2 by2 : Int) (tv2 : Value) (bd2 : Bool) (nm2 : ByteArray) :
    MovAt (((((w.setCell ⟨b, 0, none⟩ (.int .i64 fr2)).setCell ⟨b, 1, none⟩ (.int .i64 by2)).setCell ⟨b, 2, none⟩ tv2).setCell ⟨b, 3, none⟩ (.bool bd2)).setCell ⟨b, 4, none⟩ (.string nm2)) b fr2 by2 tv2 bd2 nm2 :=
  (heap_set (heap_set (heap_set (heap_set (heap_set h _) _) _) _) _)
theorem MovAt.cellsF {w : World} {b : Nat} {fr by' : Int} {tv : Value} {bd : Bool} {nm : ByteArray} (h : MovAt w b fr by' tv bd nm) (o : Nat) : w.frozen? ⟨b, o, none⟩ = false := frozen_of h o
set_option maxHeartbeats 3200000 in
theorem moveAt_main {w : World} {A : Nat} {fr by' : Int} {ta : Option Addr} {tn tc : Nat} {bd : Bool} {nm : ByteArray} {nd : Int} {M : Option Nat} (h : AnsAt w A fr by' (.slice ta tn tc) bd nm nd M) (pp : Option Addr) (ar : Int) :
    Calls Try.prog 44 #[.pointer (some ⟨A, 0, none⟩), .agg #[.pointer pp, .int .i64 ar, .int .i64 (-1)]] w fun e w2 => e = .returned (movO fr by' (.slice ta tn tc) bd nm) ∧ Kp [] w w2 := by
  obtain ⟨T3, h3⟩ : ∃ T, T = w.heap.size := ⟨_, rfl⟩
  obtain ⟨T4, h4⟩ : ∃ T, T = T3 + 1 := ⟨_, rfl⟩
  obtain ⟨y, hy⟩ : ∃ y, y = (w.alloc (plO pp ar (-1))).alloc (mvO 0 0 (.slice none 0 0) false ⟨#[]⟩) := ⟨_, rfl⟩
  have K0 : Hid (Kp [] w y) := by rw [hy]; exact ((Kp.refl [] w).alloc _).alloc _
  have V0 : Hid (MovAt y T4 0 0 (.slice none 0 0) false ⟨#[]⟩) := by
    rw [hy, h4, h3, ← size_alloc' w (plO pp ar (-1))]; exact MovAt.new _ _ _ _ _ _
  have HT : Hid (w.heap.size ≤ T4) := by rw [h4, h3]; exact Nat.le_succ _
  have c3 : y.cell? ⟨T3, 2, none⟩ = some (.int .i64 (-1)) := by
    rw [hy, h3, cell_of (g := w.heap.size) (cs := #[.pointer pp, .int .i64 ar, .int .i64 (-1)]) (T := 66) (fr := (0, 0)) ?_]
    · rfl
    · rw [Below.heap_alloc _ _ _ (by simp)]; exact (MapKept.heap_alloc w _).1
  obtain ⟨x0, x1, x2, x3, x4, _, _⟩ := (h.kp K0.out (by simp)).cells
  obtain ⟨v0, v1, v2, v3, v4⟩ := V0.out.cells
  have g0 := V0.out.cellsF 0
  have g1 := V0.out.cellsF 1
  have g2 := V0.out.cellsF 2
  have g3 := V0.out.cellsF 3
  have g4 := V0.out.cellsF 4
  have HE := Lib.hid (And.intro h3 (And.intro h4 hy))
  clear h h3 h4 hy
  go_enter Try.func44, Try.ntmps44
  go_upto_region 1 with fail
  have hy := HE.out.2.2
  unfold plO mvO at hy
  rw [← hy, ← HE.out.1, ← HE.out.2.1]
  clear hy
  go_wp2_with fail
  refine ma_ret (V0.out.set fr by' (.slice ta tn tc) bd nm) rfl rfl ?_
  exact ⟨rfl, ((((K0.out.setCell (.inr HT.out) _).setCell (.inr HT.out) _).setCell (.inr HT.out) _).setCell (.inr HT.out) _).setCell (.inr HT.out) _⟩
set_option maxHeartbeats 3200000 in
theorem moveAt_lift {w : World} (A : Nat) (pp : Option Addr) (ar li : Int) (hl : 0 ≤ li) :
    Calls Try.prog 44 #[.pointer (some ⟨A, 0, none⟩), .agg #[.pointer pp, .int .i64 ar, .int .i64 li]] w fun e w2 => e = .returned (movO 0 li (.slice none 0 0) false ⟨#[]⟩) ∧ Kp [] w w2 := by
  obtain ⟨T3, h3⟩ : ∃ T, T = w.heap.size := ⟨_, rfl⟩
  obtain ⟨T4, h4⟩ : ∃ T, T = T3 + 1 := ⟨_, rfl⟩
  obtain ⟨y, hy⟩ : ∃ y, y = (w.alloc (plO pp ar li)).alloc (mvO 0 0 (.slice none 0 0) false ⟨#[]⟩) := ⟨_, rfl⟩
  have K0 : Hid (Kp [] w y) := by rw [hy]; exact ((Kp.refl [] w).alloc _).alloc _
  have V0 : Hid (MovAt y T4 0 0 (.slice none 0 0) false ⟨#[]⟩) := by
    rw [hy, h4, h3, ← size_alloc' w (plO pp ar li)]; exact MovAt.new _ _ _ _ _ _
  have HT : Hid (w.heap.size ≤ T4) := by rw [h4, h3]; exact Nat.le_succ _
  have c3 : y.cell? ⟨T3, 2, none⟩ = some (.int .i64 li) := by
    rw [hy, h3, cell_of (g := w.heap.size) (cs := #[.pointer pp, .int .i64 ar, .int .i64 li]) (T := 66) (fr := (0, 0)) ?_]
    · rfl
    · rw [Below.heap_alloc _ _ _ (by simp)]; exact (MapKept.heap_alloc w _).1
  obtain ⟨v0, v1, v2, v3, v4⟩ := V0.out.cells
  have g0 := V0.out.cellsF 0
  have g1 := V0.out.cellsF 1
  have g2 := V0.out.cellsF 2
  have g3 := V0.out.cellsF 3
  have g4 := V0.out.cellsF 4
  have l1 : (li == -1) = false := by simp; omega
  have HE := Lib.hid (And.intro h3 (And.intro h4 hy))
  clear h3 h4 hy hl
  go_enter Try.func44, Try.ntmps44
  go_upto_region 1 with fail
  have hy := HE.out.2.2
  unfold plO mvO at hy
  rw [← hy, ← HE.out.1, ← HE.out.2.1]
  clear hy
  go_wp2_with fail
  refine ma_ret (V0.out.set 0 li (.slice none 0 0) false ⟨#[]⟩) rfl rfl ?_
  exact ⟨rfl, ((((K0.out.setCell (.inr HT.out) _).setCell (.inr HT.out) _).setCell (.inr HT.out) _).setCell (.inr HT.out) _).setCell (.inr HT.out) _⟩
end Go.Proofs.Ytphdfopdephanaa
