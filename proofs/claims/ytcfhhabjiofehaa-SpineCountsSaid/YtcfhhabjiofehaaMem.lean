/- Frames of memory, told by the blocks that a call may change: no program, no statement. -/
import Derived.WalkKit
import Derived.Deep.MidRow
import Derived.Sort.Grow
import Derived.Lib.LaidTab
import Derived.Deep.Draws
namespace Go.Proofs.Ytcfhhabjiofehaa
open Go.RowKit

/-- Nothing but the blocks on the list, and blocks that are new, has changed from 'w' to 'w2'. -/
structure Kp (foot : List Nat) (w w2 : World) : Prop where
  os : w2.os = w.os
  tape : w2.tape = w.tape
  output : w2.output = w.output
  size : w.heap.size ≤ w2.heap.size
  block : ∀ k, k < w.heap.size → k ∉ foot → w2.heap[k]? = w.heap[k]?

theorem Kp.refl (f : List Nat) (w : World) : Kp f w w := ⟨rfl, rfl, rfl, Nat.le_refl _, fun _ _ _ => rfl⟩
theorem Kp.trans {f : List Nat} {a b c : World} (h : Kp f a b) (k : Kp f b c) : Kp f a c :=
  ⟨k.os.trans h.os, k.tape.trans h.tape, k.output.trans h.output, Nat.le_trans h.size k.size, fun i hi hn => (k.block i (Nat.lt_of_lt_of_le hi h.size) hn).trans (h.block i hi hn)⟩
theorem Kp.mono {f g : List Nat} {w w2 : World} (h : Kp f w w2) (hs : ∀ x ∈ f, x ∈ g) : Kp g w w2 :=
  ⟨h.os, h.tape, h.output, h.size, fun k hk hn => h.block k hk (fun hm => hn (hs k hm))⟩
/-- Two steps, where what the second one may change is on the first one's list or was new behind it. -/
theorem Kp.trans2 {f g : List Nat} {a b c : World} (h : Kp f a b) (k : Kp g b c) (hg : ∀ x ∈ g, x ∈ f ∨ a.heap.size ≤ x) : Kp f a c :=
  ⟨k.os.trans h.os, k.tape.trans h.tape, k.output.trans h.output, Nat.le_trans h.size k.size, fun i hi hn =>
    (k.block i (Nat.lt_of_lt_of_le hi h.size) (fun hm => by rcases hg i hm with h1 | h1; exact hn h1; omega)).trans (h.block i hi hn)⟩
theorem Kp.drew {f : List Nat} {a w : World} (h : Kp f a w) : Kp f a w.drew := ⟨h.os, h.tape, h.output, h.size, h.block⟩
theorem Kp.drewN {f : List Nat} {a w : World} (h : Kp f a w) (n : Nat) : Kp f a (w.drewN n) := ⟨h.os, h.tape, h.output, h.size, h.block⟩
theorem Kp.alloc {f : List Nat} {a w : World} (h : Kp f a w) (o : Obj) : Kp f a (w.alloc o) :=
  h.trans ⟨rfl, rfl, rfl, by simp, fun k hk _ => Below.heap_alloc _ _ _ hk⟩
theorem Kp.setCell {f : List Nat} {a w : World} (h : Kp f a w) {p : Addr} (hp : p.block ∈ f ∨ a.heap.size ≤ p.block) (u : Value) : Kp f a (w.setCell p u) :=
  h.trans2 (g := [p.block]) ⟨rfl, rfl, rfl, by simp [World.setCell], fun k _ hn => Below.heap_setCell _ _ _ _ (by simpa using hn)⟩ (by simpa using hp)
theorem Kp.grown {f : List Nat} {a w w2 : World} {row : Option Nat} (h : Kp f a w) (hg : w.grownBy w2 row) (hr : ∀ k, row = some k → k ∈ f ∨ a.heap.size ≤ k) : Kp f a w2 :=
  h.trans2 (g := row.toList) ⟨hg.os, hg.tape, hg.output, hg.size, fun k hk hn => hg.block k hk (fun e => hn (by simp [← e]))⟩ (fun x hx => hr x (by simpa using hx))
theorem Kp.grow {f : List Nat} {a w : World} (h : Kp f a w) (os : Array Obj) : Kp f a (Sort.grow w os) :=
  h.trans ⟨rfl, rfl, rfl, by simp [Sort.grow], fun k hk _ => by
    show (w.heap ++ os)[k]? = _
    rw [Array.getElem?_append_left hk]⟩
theorem heap_setCells (b : Nat) : ∀ (vs : List Value) (o : Nat) (w : World) (k : Nat), k ≠ b → (w.setCells b o vs).heap[k]? = w.heap[k]?
  | [], _, _, _, _ => rfl
  | v :: r, o, w, k, h => (heap_setCells b r (o + 1) (w.setCell ⟨b, o, none⟩ v) k h).trans (Below.heap_setCell _ _ _ _ h)
theorem size_setCells (b : Nat) : ∀ (vs : List Value) (o : Nat) (w : World), (w.setCells b o vs).heap.size = w.heap.size
  | [], _, _ => rfl
  | v :: r, o, w => (size_setCells b r (o + 1) (w.setCell ⟨b, o, none⟩ v)).trans (by simp [World.setCell])
theorem os_setCells (b : Nat) : ∀ (vs : List Value) (o : Nat) (w : World), (w.setCells b o vs).os = w.os ∧ (w.setCells b o vs).tape = w.tape ∧ (w.setCells b o vs).output = w.output
  | [], _, _ => ⟨rfl, rfl, rfl⟩
  | v :: r, o, w => os_setCells b r (o + 1) (w.setCell ⟨b, o, none⟩ v)
theorem Kp.setCells {f : List Nat} {a w : World} (h : Kp f a w) {b : Nat} (hp : b ∈ f ∨ a.heap.size ≤ b) (o : Nat) (vs : List Value) : Kp f a (w.setCells b o vs) :=
  h.trans2 (g := [b]) ⟨(os_setCells b vs o w).1, (os_setCells b vs o w).2.1, (os_setCells b vs o w).2.2, Nat.le_of_eq (size_setCells b vs o w).symm, fun k _ hn => heap_setCells b vs o w k (by simpa using hn)⟩ (by simpa using hp)
/-- What is told of blocks that all are new is 'Below'. -/
theorem Kp.below {f : List Nat} {w w2 : World} {B : Nat} (h : Kp f w w2) (hB : B ≤ w.heap.size) (hf : ∀ x ∈ f, B ≤ x) : Below B w w2 :=
  ⟨h.os, h.tape, h.output, h.size, fun k hk => h.block k (Nat.lt_of_lt_of_le hk hB) (fun hm => by have := hf k hm; omega)⟩
theorem Kp.of_below {w w2 : World} (h : Below w.heap.size w w2) (f : List Nat) : Kp f w w2 := ⟨h.os, h.tape, h.output, h.size, fun k hk _ => h.block k hk⟩
/-- New blocks alone: nothing on the list was there. -/
theorem Kp.new {f : List Nat} {w w2 : World} (h : Kp f w w2) (hf : ∀ x ∈ f, w.heap.size ≤ x) (g : List Nat) : Kp g w w2 :=
  ⟨h.os, h.tape, h.output, h.size, fun k hk _ => h.block k hk (fun hm => by have := hf k hm; omega)⟩

theorem Kp.cell {f : List Nat} {w w2 : World} (h : Kp f w w2) {p : Addr} (hl : p.block < w.heap.size) (hp : p.block ∉ f) : w2.cell? p = w.cell? p := World.cell?_of_block (w := w) (h.block p.block hl hp)
theorem Kp.frozen {f : List Nat} {w w2 : World} (h : Kp f w w2) {p : Addr} (hl : p.block < w.heap.size) (hp : p.block ∉ f) : w2.frozen? p = w.frozen? p := World.frozen?_of_block (w := w) (h.block p.block hl hp)
theorem Kp.lt {f : List Nat} {w w2 : World} (h : Kp f w w2) {b : Nat} (hl : b < w.heap.size) : b < w2.heap.size := Nat.lt_of_lt_of_le hl h.size
theorem Kp.cell0 {w w2 : World} (h : Kp [] w w2) {b o : Nat} (hl : b < w.heap.size) : w2.cell? ⟨b, o, none⟩ = w.cell? ⟨b, o, none⟩ := h.cell (p := ⟨b, o, none⟩) hl (fun hm => by cases hm)
theorem Kp.frozen0 {w w2 : World} (h : Kp [] w w2) {b o : Nat} (hl : b < w.heap.size) : w2.frozen? ⟨b, o, none⟩ = w.frozen? ⟨b, o, none⟩ := h.frozen (p := ⟨b, o, none⟩) hl (fun hm => by cases hm)
theorem Kp.range {f : List Nat} {w w2 : World} (h : Kp f w w2) {b o : Nat} {cs : List Value} (hr : w.rangeAt b o cs) (hl : b < w.heap.size) (hp : b ∉ f) : w2.rangeAt b o cs := fun j v hv => by
  rw [h.cell (p := ⟨b, o + j, none⟩) hl hp]; exact hr j v hv
theorem Kp.there {f : List Nat} {w w2 : World} (h : Kp f w w2) {b o n : Nat} (hr : w.there b o n) (hl : b < w.heap.size) (hp : b ∉ f) : w2.there b o n := fun j hj => by
  rw [h.cell (p := ⟨b, o + j, none⟩) hl hp, h.frozen (p := ⟨b, o + j, none⟩) hl hp]; exact hr j hj
theorem Kp.owns {f : List Nat} {w w2 : World} (h : Kp f w w2) {base e size n : Nat} {v : Value} {xs : List Value} (hr : w.ownsRow base e size v n xs) (hp : ∀ g, v.ownBlock = some g → g ∉ f) : w2.ownsRow base e size v n xs := by
  obtain ⟨h1, h2⟩ := hr
  refine ⟨h1, ?_⟩
  rcases h2 with h2 | ⟨g, cap, cur, hv, hb, hg, r⟩
  · exact .inl h2
  · refine .inr ⟨g, cap, cur, hv, hb, ?_, r⟩
    have hlt : g < w.heap.size := by
      rcases Nat.lt_or_ge g w.heap.size with hlt | hge
      · exact hlt
      · rw [Array.getElem?_eq_none hge] at hg; cases hg
    rw [h.block g hlt (hp g (by rw [hv]; rfl))]; exact hg
theorem Kp.tab {P : Program} {f : List Nat} {w w2 : World} {g : Nat} {n : String} {k : IntKind} {zs : List Int} (h : Kp f w w2) (hg : P.globalNamed n = some g) (ht : Lib.TabIs P w n k zs) (hf : g ∉ f) : Lib.TabIs P w2 n k zs := by
  unfold Lib.TabIs World.var? at *
  rw [hg] at ht ⊢
  simp only [Option.bind_some] at ht ⊢
  have hlt : g < w.heap.size := by
    rcases Nat.lt_or_ge g w.heap.size with hlt | hge
    · exact hlt
    · rw [Array.getElem?_eq_none hge] at ht; cases ht
  rw [h.block g hlt hf]; exact ht

theorem cell_setCells_far (w : World) (g o : Nat) (vs : List Value) (b i : Nat) (h : b ≠ g) : (w.setCells g o vs).cell? ⟨b, i, none⟩ = w.cell? ⟨b, i, none⟩ := World.cell?_of_block (w := w) (heap_setCells g vs o w b h)
/-- The cells of bytes. -/
def bytesV (l : List UInt8) : List Value := l.map fun x => Value.int .u8 (x.toNat : Int)
@[simp] theorem bytesV_length (l : List UInt8) : (bytesV l).length = l.length := by simp [bytesV]
theorem bytesV_append (a b : List UInt8) : bytesV (a ++ b) = bytesV a ++ bytesV b := by simp [bytesV]
theorem bytesV_one (l : List UInt8) : ∀ v ∈ bytesV l, v.oneCell' = true := by
  intro v hv
  obtain ⟨x, _, rfl⟩ := List.mem_map.1 hv
  rfl
end Go.Proofs.Ytcfhhabjiofehaa
