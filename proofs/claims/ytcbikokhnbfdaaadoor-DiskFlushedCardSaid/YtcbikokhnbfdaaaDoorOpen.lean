/- How rows of strings and of bools that are handed over are read, as the walks want them. -/
import Derived.Test.YtcbikokhnbfdaaaDoorFull
import Derived.Deep.Strs
import Derived.Deep.Grids
import Derived.Carry
import Derived.ProofKit
import Derived.OpenShut
namespace Go.Proofs.YtcbikokhnbfdaaaDoor
open Go Go.ChangeShapes Go.WideShapes Go.ChangeAt Go.RowKit Go.Deep

theorem laidOut : laidOutB Tryd.prog = true := by kernel_rfl
theorem cellsString : Tryd.prog.cellsOf 9 = 1 := by kernel_rfl
theorem cellsBool : Tryd.prog.cellsOf 4 = 1 := by kernel_rfl
theorem addr_plain {w : World} {a : Addr} {v : Value} (h : w.cell? a = some v) : a = ⟨a.block, a.off, none⟩ := by
  have := World.cell?_spot h
  obtain ⟨b, o, s⟩ := a
  simp only at this
  rw [this]
theorem strs_at {H : Type} {enc : TypeId × Value → H} {W : World} {a : Option Addr} {n c : Nat} {d : DataW H} {p : List MemPlace}
    (h : DataW.Trod enc Tryd.prog W 0 (fun _ => true) true 40 (.slice a n c) d p) : ∃ sx, StrsAt W W.heap.size a n sx := by
  obtain ⟨fuel, hf⟩ := h
  rcases open_strs Tryd.underlying40 Tryd.underlying9 cellsString hf with ⟨hcs, _⟩ | ⟨x, len, cap, m, Sx, hcs, _, hl, _, hm, _, hcell⟩
  · simp [Value.cells] at hcs
    obtain ⟨rfl, rfl, rfl⟩ := hcs
    exact ⟨fun _ => ByteArray.empty, fun i hi => by omega⟩
  · simp [Value.cells] at hcs
    obtain ⟨rfl, rfl, rfl⟩ := hcs
    simp only [if_true] at hm
    refine ⟨Sx, fun i hi => ?_⟩
    have h0 := (hcell 0 (by omega)).1
    have hx : x = ⟨x.block, x.off, none⟩ := by
      have e0 : x.add 0 = x := rfl
      rw [e0] at h0
      exact addr_plain h0
    have hi2 := (hcell i (by omega)).1
    rw [hx, Addr.add_mid] at hi2
    exact ⟨x.block, x.off, by rw [hx], World.block_lt_of_cell? W _ h0, hi2⟩
theorem bools_at {H : Type} {enc : TypeId × Value → H} {W : World} {a : Option Addr} {n c : Nat} {d : DataW H} {p : List MemPlace}
    (h : DataW.Trod enc Tryd.prog W 0 (fun _ => true) true 28 (.slice a n c) d p) : ∃ ks : List Bool, ks.length = n ∧ BoolsAt W W.heap.size a ks := by
  obtain ⟨fuel, hf⟩ := h
  rcases open_bools Tryd.underlying28 Tryd.underlying4 cellsBool hf with ⟨hcs, _⟩ | ⟨x, len, cap, Bx, hcs, _, hl, _, _, hcell⟩
  · simp [Value.cells] at hcs
    obtain ⟨rfl, rfl, rfl⟩ := hcs
    exact ⟨[], rfl, fun i hi => by simp at hi⟩
  · simp [Value.cells] at hcs
    obtain ⟨rfl, rfl, rfl⟩ := hcs
    refine ⟨(List.range n).map Bx, by simp, fun i hi => ?_⟩
    simp only [List.length_map, List.length_range] at hi
    have h0 := hcell 0 (by omega)
    have hx : x = ⟨x.block, x.off, none⟩ := by
      have e0 : x.add 0 = x := rfl
      rw [e0] at h0
      exact addr_plain h0
    have hi2 := hcell i (by omega)
    rw [hx, Addr.add_mid] at hi2
    refine ⟨x.block, x.off, by rw [hx], World.block_lt_of_cell? W _ h0, ?_⟩
    rw [hi2]
    simp [List.getD_eq_getElem?_getD, hi]
end Go.Proofs.YtcbikokhnbfdaaaDoor
