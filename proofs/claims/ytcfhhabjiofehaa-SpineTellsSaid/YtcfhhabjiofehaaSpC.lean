/- Terms that lie in memory; contracts of the reference's calls on them. -/
import Derived.Test.YtcfhhabjiofehaaProg
import Derived.Test.YtcfhhabjiofehaaSpA
import Derived.Test.YtcfhhabjiofehaaMem
import Derived.WalkKit
import Derived.Deep.QuietTactic
import Derived.Deep.RegionWith
import Derived.Deep.RegionHeld3
import Derived.BigQuiet
import Derived.Lib.Hide
import Derived.Laws.Cover1
import Derived.Lib.MinMax
import Derived.Lib.BufferMore
namespace Go.Proofs.Ytcfhhabjiofehaa
open Go.RowKit

/-- A node that lies at g. -/
def NdAt (w : World) (g : Nat) (k n : Int) (s : ByteArray) (pa pb pc : Option Addr) : Prop :=
  w.heap[g]? = some (.cells #[.int .i64 k, .int .i64 n, .string s, .pointer pa, .pointer pb, .pointer pc] 40 (0, 0))
theorem NdAt.lt {w : World} {g : Nat} {k n : Int} {s : ByteArray} {pa pb pc : Option Addr} (h : NdAt w g k n s pa pb pc) : g < w.heap.size := (Array.getElem?_eq_some_iff.1 h).1
theorem cell_of {w : World} {g : Nat} {cs : Array Value} {T : TypeId} {fr : Nat × Nat} (h : w.heap[g]? = some (.cells cs T fr)) (i : Nat) : w.cell? ⟨g, i, none⟩ = cs[i]? := by
  simp [World.cell?, h]
theorem frozen_of {w : World} {g : Nat} {cs : Array Value} {T : TypeId} (h : w.heap[g]? = some (.cells cs T (0, 0))) (i : Nat) : w.frozen? ⟨g, i, none⟩ = false := by
  simp [World.frozen?, h]
theorem NdAt.cells {w : World} {g : Nat} {k n : Int} {s : ByteArray} {pa pb pc : Option Addr} (h : NdAt w g k n s pa pb pc) :
    w.cell? ⟨g, 0, none⟩ = some (.int .i64 k) ∧ w.cell? ⟨g, 1, none⟩ = some (.int .i64 n) ∧ w.cell? ⟨g, 2, none⟩ = some (.string s) ∧ w.cell? ⟨g, 3, none⟩ = some (.pointer pa) ∧ w.cell? ⟨g, 4, none⟩ = some (.pointer pb) ∧ w.cell? ⟨g, 5, none⟩ = some (.pointer pc) :=
  ⟨cell_of h 0, cell_of h 1, cell_of h 2, cell_of h 3, cell_of h 4, cell_of h 5⟩
theorem NdAt.kp {F : List Nat} {w w2 : World} {g : Nat} {k n : Int} {s : ByteArray} {pa pb pc : Option Addr} (h : NdAt w g k n s pa pb pc) (K : Kp F w w2) (hg : g ∉ F) : NdAt w2 g k n s pa pb pc :=
  (K.block g h.lt hg).trans h
theorem NdAt.kp0 {w w2 : World} {g : Nat} {k n : Int} {s : ByteArray} {pa pb pc : Option Addr} (h : NdAt w g k n s pa pb pc) (K : Kp [] w w2) : NdAt w2 g k n s pa pb pc := h.kp K (by simp)
/-- No cell of a block is a pointer. -/
def NoPtr (w : World) (g : Nat) : Prop := ∀ o q, w.cell? ⟨g, o, none⟩ ≠ some (.pointer q)
/-- A term that lies there, in blocks of which P. -/
def TmP (w : World) (P : Nat → Prop) : Tm → Option Addr → Prop
  | .nil, p => p = none
  | .node k n s a b c, p => ∃ g pa pb pc, p = some ⟨g, 0, none⟩ ∧ P g ∧ NdAt w g k n s pa pb pc ∧ TmP w P a pa ∧ TmP w P b pb ∧ TmP w P c pc
theorem TmP.kp {F : List Nat} {w w2 : World} {P Q : Nat → Prop} (K : Kp F w w2) (hF : ∀ g ∈ F, NoPtr w g ∨ ¬ P g) (hQ : ∀ g, g < w.heap.size → P g → Q g) : ∀ {t : Tm} {p : Option Addr}, TmP w P t p → TmP w2 Q t p
  | .nil, _, h => h
  | .node _ _ _ _ _ _, _, ⟨g, pa, pb, pc, h1, h2, h3, h4, h5, h6⟩ => by
    have hg : g ∉ F := fun hm => by
      rcases hF g hm with h | h
      · exact h 5 pc h3.cells.2.2.2.2.2
      · exact h h2
    exact ⟨g, pa, pb, pc, h1, hQ g h3.lt h2, h3.kp K hg, h4.kp K hF hQ, h5.kp K hF hQ, h6.kp K hF hQ⟩
theorem TmP.kp0 {w w2 : World} {P : Nat → Prop} (K : Kp [] w w2) {t : Tm} {p : Option Addr} (h : TmP w P t p) : TmP w2 P t p := h.kp K (fun _ h => by cases h) (fun _ _ h => h)
theorem TmP.mono {w : World} {P Q : Nat → Prop} (hQ : ∀ g, g < w.heap.size → P g → Q g) {t : Tm} {p : Option Addr} (h : TmP w P t p) : TmP w Q t p := h.kp (Kp.refl [] w) (fun _ h => by cases h) hQ
/-- In whatever blocks. -/
def TmAt (w : World) (t : Tm) (p : Option Addr) : Prop := TmP w (fun _ => True) t p
theorem TmP.at {w : World} {P : Nat → Prop} {t : Tm} {p : Option Addr} (h : TmP w P t p) : TmAt w t p := h.mono (fun _ _ _ => trivial)
theorem TmAt.kp {w w2 : World} (K : Kp [] w w2) {t : Tm} {p : Option Addr} (h : TmAt w t p) : TmAt w2 t p := TmP.kp0 K h
/-- What lies there is one term. -/
theorem TmP.one {w : World} {P Q : Nat → Prop} : ∀ {t u : Tm} {p : Option Addr}, TmP w P t p → TmP w Q u p → t = u
  | .nil, .nil, _, _, _ => rfl
  | .nil, .node _ _ _ _ _ _, _, h, ⟨_, _, _, _, h1, _⟩ => by rw [show _ = none from h] at h1; cases h1
  | .node _ _ _ _ _ _, .nil, _, ⟨_, _, _, _, h1, _⟩, h => by rw [show _ = none from h] at h1; cases h1
  | .node k n s a b c, .node k2 n2 s2 a2 b2 c2, _, ⟨g, pa, pb, pc, h1, _, h3, h4, h5, h6⟩, ⟨g', pa', pb', pc', h1', _, h3', h4', h5', h6'⟩ => by
    rw [h1] at h1'
    injection h1' with h1'
    injection h1' with h1'
    subst h1'
    unfold NdAt at h3 h3'
    rw [h3] at h3'
    injection h3' with h
    injection h with h
    simp only [Array.mk.injEq, List.cons.injEq, Value.int.injEq, Value.string.injEq, Value.pointer.injEq, and_true, true_and] at h
    obtain ⟨rfl, rfl, rfl, rfl, rfl, rfl⟩ := h
    rw [h4.one h4', h5.one h5', h6.one h6']
theorem TmAt.nil {w : World} : TmAt w .nil none := rfl
/-- A node's new block. -/
theorem NdAt.new (w : World) (k n : Int) (s : ByteArray) (pa pb pc : Option Addr) :
    NdAt (w.alloc (.cells #[.int .i64 k, .int .i64 n, .string s, .pointer pa, .pointer pb, .pointer pc] 40)) w.heap.size k n s pa pb pc :=
  (MapKept.heap_alloc w _).1
theorem TmP.new {w : World} {P : Nat → Prop} {k n : Int} {s : ByteArray} {pa pb pc : Option Addr} {a b c : Tm} (hP : P w.heap.size) (ha : TmP w P a pa) (hb : TmP w P b pb) (hc : TmP w P c pc) :
    TmP (w.alloc (.cells #[.int .i64 k, .int .i64 n, .string s, .pointer pa, .pointer pb, .pointer pc] 40)) P (.node k n s a b c) (some ⟨w.heap.size, 0, none⟩) :=
  have K := (Kp.refl [] w).alloc _
  ⟨_, _, _, _, rfl, hP, NdAt.new w k n s pa pb pc, ha.kp0 K, hb.kp0 K, hc.kp0 K⟩

theorem ba_ext {a b : ByteArray} (h : a.data.toList = b.data.toList) : a = b := by
  obtain ⟨⟨x⟩⟩ := a
  obtain ⟨⟨y⟩⟩ := b
  exact congrArg (fun l => (⟨⟨l⟩⟩ : ByteArray)) h
theorem eq_toList (a b : ByteArray) : (a.toList == b.toList) = decide (a = b) := by
  rw [ByteArray.toList_eq, ByteArray.toList_eq]
  by_cases h : a = b
  · subst h; simp
  · have : a.data.toList ≠ b.data.toList := fun e => h (ba_ext e)
    rw [decide_eq_false h]
    exact beq_eq_false_iff_ne.2 this
/-- Nothing has changed but how much was drawn. -/
def Drew (w w2 : World) : Prop := ∃ n, w2 = w.drewN n
theorem Drew.kp {w w2 : World} (h : Drew w w2) : Kp [] w w2 := by obtain ⟨n, rfl⟩ := h; exact (Kp.refl [] w).drewN n
end Go.Proofs.Ytcfhhabjiofehaa
