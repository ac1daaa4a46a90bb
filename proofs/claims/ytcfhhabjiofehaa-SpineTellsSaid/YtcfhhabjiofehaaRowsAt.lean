/- Rows that are handed over, as walks read them: strings, bools, numbers; no program. -/
import Derived.Test.YtcfhhabjiofehaaMem
import Derived.WalkKit
namespace Go.Proofs.Ytcfhhabjiofehaa
open Go.RowKit

/-- A []string that is handed over: what it holds, in blocks below B. -/
def StrsAt (w : World) (B : Nat) (a : Option Addr) (n : Nat) (sx : Nat → ByteArray) : Prop :=
  ∀ i, i < n → ∃ g o, a = some ⟨g, o, none⟩ ∧ g < B ∧ w.cell? ⟨g, o + i, none⟩ = some (.string (sx i))
theorem StrsAt.kp {B : Nat} {w w2 : World} {a : Option Addr} {n : Nat} {sx : Nat → ByteArray} (h : StrsAt w B a n sx) (k : Kp [] w w2) (hB : B ≤ w.heap.size) : StrsAt w2 B a n sx := fun i hi => by
  obtain ⟨g, o, h1, h2, h3⟩ := h i hi
  exact ⟨g, o, h1, h2, by rw [k.cell0 (by omega)]; exact h3⟩
/-- A []bool that is handed over. -/
def BoolsAt (w : World) (B : Nat) (a : Option Addr) (ks : List Bool) : Prop :=
  ∀ i, i < ks.length → ∃ g o, a = some ⟨g, o, none⟩ ∧ g < B ∧ w.cell? ⟨g, o + i, none⟩ = some (.bool (ks.getD i false))
theorem BoolsAt.kp {B : Nat} {w w2 : World} {a : Option Addr} {ks : List Bool} (h : BoolsAt w B a ks) (k : Kp [] w w2) (hB : B ≤ w.heap.size) : BoolsAt w2 B a ks := fun i hi => by
  obtain ⟨g, o, h1, h2, h3⟩ := h i hi
  exact ⟨g, o, h1, h2, by rw [k.cell0 (by omega)]; exact h3⟩
/-- A row of numbers that are not below 0. -/
def NatsAt (w : World) (B : Nat) (k : IntKind) (a : Option Addr) (n : Nat) (z : Nat → Nat) : Prop :=
  ∀ i, i < n → (Lit.int k (z i : Int)).wf = true ∧ ∃ g o, a = some ⟨g, o, none⟩ ∧ g < B ∧ w.cell? ⟨g, o + i, none⟩ = some (.int k (z i : Int))
theorem NatsAt.kp {B : Nat} {w w2 : World} {kd : IntKind} {a : Option Addr} {n : Nat} {z : Nat → Nat} (h : NatsAt w B kd a n z) (k : Kp [] w w2) (hB : B ≤ w.heap.size) : NatsAt w2 B kd a n z := fun i hi => by
  obtain ⟨h0, g, o, h1, h2, h3⟩ := h i hi
  exact ⟨h0, g, o, h1, h2, by rw [k.cell0 (by omega)]; exact h3⟩
/-- A row of numbers. -/
def IntsAt (w : World) (B : Nat) (k : IntKind) (a : Option Addr) (n : Nat) (z : Nat → Int) : Prop :=
  ∀ i, i < n → (Lit.int k (z i)).wf = true ∧ ∃ g o, a = some ⟨g, o, none⟩ ∧ g < B ∧ w.cell? ⟨g, o + i, none⟩ = some (.int k (z i))
theorem IntsAt.kp {B : Nat} {w w2 : World} {kd : IntKind} {a : Option Addr} {n : Nat} {z : Nat → Int} (h : IntsAt w B kd a n z) (k : Kp [] w w2) (hB : B ≤ w.heap.size) : IntsAt w2 B kd a n z := fun i hi => by
  obtain ⟨h0, g, o, h1, h2, h3⟩ := h i hi
  exact ⟨h0, g, o, h1, h2, by rw [k.cell0 (by omega)]; exact h3⟩
end Go.Proofs.Ytcfhhabjiofehaa
