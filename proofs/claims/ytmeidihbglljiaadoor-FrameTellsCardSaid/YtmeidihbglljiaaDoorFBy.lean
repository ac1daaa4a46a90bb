/- Bytes of a string, laid in a row of their own, changed, and made a string again. -/
import Derived.Test.YtmeidihbglljiaaDoorFrK
import Derived.OpenShut
import Derived.Lib.ConvBytes
namespace Go.Proofs.YtmeidihbglljiaaDoor
open Go.RowKit

/-- A row of bytes of its own that a call made. -/
structure BytesNew (w w2 : World) (b : Nat) (l : List UInt8) : Prop where
  kp : Kp [] w w2
  at_ : b = w.heap.size
  size : w2.heap.size = w.heap.size + 1
  cell : ∀ j, j < l.length → w2.cell? ⟨b, j, none⟩ = some (.int .u8 ((l.getD j 0).toNat : Int))
  free : ∀ j, j < l.length → w2.frozen? ⟨b, j, none⟩ = false
theorem conv_bytes (s : ByteArray) (w : World) : ∃ cap w2, (convert 9 35 (.string s)).run Tryd.prog w = .ok (.slice (some ⟨w.heap.size, 0, none⟩) s.size cap) w2 ∧ BytesNew w w2 w.heap.size s.data.toList := by
  refine ⟨_, _, Lib.run_convert_string_bytes w 9 35 5 s Tryd.underlying9 Tryd.underlying35 Tryd.underlying5, ⟨⟨?_, ?_, ?_, ?_, ?_⟩, rfl, ?_, ?_, ?_⟩⟩
  · simp [Lib.bytesWorld, World.freeze, World.alloc, World.drew, -World.alloc_eq, -World.drew_eq]
  · simp [Lib.bytesWorld, World.freeze, World.alloc, World.drew, -World.alloc_eq, -World.drew_eq]
  · simp [Lib.bytesWorld, World.freeze, World.alloc, World.drew, -World.alloc_eq, -World.drew_eq]
  · rw [Lib.bytesWorld_size]; omega
  · intro k hk _; exact Lib.bytesWorld_at_old w _ s k hk
  · exact Lib.bytesWorld_size w _ s
  · intro j hj; exact Lib.bytesWorld_cell w _ s j (by rw [Array.length_toList] at hj; exact hj)
  · intro j hj
    have h1 : j < (Lib.bytesCells w 5 s).size := by
      rw [Array.length_toList] at hj
      simp only [Lib.bytesCells, Array.size_append, Array.size_map]
      exact Nat.lt_of_lt_of_le hj (Nat.le_add_right _ _)
    simp [World.frozen?, Lib.bytesWorld_at_new]
    omega
/-- The bytes that lie in a row. -/
def BytesAt (w : World) (b : Nat) (l : List UInt8) : Prop := ∀ j, j < l.length → w.cell? ⟨b, j, none⟩ = some (.int .u8 ((l.getD j 0).toNat : Int))
theorem BytesAt.drewN {w : World} {b : Nat} {l : List UInt8} (h : BytesAt w b l) (n : Nat) : BytesAt (w.drewN n) b l := h
theorem BytesAt.kp {w w2 : World} {b : Nat} {l : List UInt8} (h : BytesAt w b l) (k : Kp [] w w2) (hb : b < w.heap.size) : BytesAt w2 b l := fun j hj => by rw [k.cell0 hb]; exact h j hj
theorem BytesAt.far {w : World} {b g o : Nat} {l : List UInt8} (h : BytesAt w b l) (hne : b ≠ g) (v : Value) : BytesAt (w.setCell ⟨g, o, none⟩ v) b l := fun j hj => by
  rw [show w.setCell ⟨g, o, none⟩ v = w.setCells g o [v] from rfl, cell_setCells_far _ _ _ _ _ _ hne]; exact h j hj
theorem BytesAt.set {w : World} {b k : Nat} {l : List UInt8} (h : BytesAt w b l) (hk : k < l.length) (v : Nat) (hv : v < 256) : BytesAt (w.setCell ⟨b, k, none⟩ (.int .u8 (v : Int))) b (l.set k (UInt8.ofNat v)) := fun j hj => by
  rw [List.length_set] at hj
  have hc := h k hk
  by_cases e : j = k
  · subst e
    rw [World.cell?_setCell_same _ _ _ hc]
    simp [List.getD, hk]
    omega
  · rw [World.cell?_setCell_other _ _ _ _ (by simp; try omega)]
    rw [h j hj]
    simp [List.getD, Ne.symm e]
theorem BytesAt.conv {w : World} {b : Nat} {l : List UInt8} (h : BytesAt w b l) (n : Nat) (hn : l.length = n) (cap : Nat) :
    (convert 35 9 (.slice (some ⟨b, 0, none⟩) n cap)).run Tryd.prog w = .ok (.string ⟨l.toArray⟩) w := by
  subst hn
  refine run_convert_bytes_back (P := Tryd.prog) w 35 9 5 ⟨b, 0, none⟩ cap l Tryd.underlying35 Tryd.underlying5 Tryd.underlying9 (fun j hj => ?_)
  rw [Addr.add_mid, Nat.zero_add, h j hj]
  simp [List.getD, hj]
theorem sum_quiet (s : ByteArray) (hs : s.size ≤ 9223372036854775) (x : Nat) (hx : x = sumL s.data.toList) (w : World) :
    Calls Tryd.prog 10 #[.string s] w fun e w2 => e = .returned (.int .u32 (x : Int)) ∧ w2 = w := by
  rw [hx]
  exact (sum_any s hs w).mono fun _ _ ⟨h1, h2⟩ => ⟨h1, h2.symm⟩
end Go.Proofs.YtmeidihbglljiaaDoor
