/- How rows of strings that are handed over are read, as the walks want them. -/
import Derived.Test.YtcfhhabjiofehaaProg
import Derived.Test.YtcfhhabjiofehaaRowsAt
import Derived.Deep.Strs
import Derived.Carry
import Derived.ProofKit
import Derived.OpenShut
import Derived.ChangeSlices
import Derived.KernelRfl
namespace Go.Proofs.Ytcfhhabjiofehaa
open Go Go.ChangeShapes Go.WideShapes Go.ChangeAt Go.RowKit Go.Deep

theorem laidOut : laidOutB Try.prog = true := by kernel_rfl
theorem cellsString : Try.prog.cellsOf 9 = 1 := by kernel_rfl
theorem addr_plain {w : World} {a : Addr} {v : Value} (h : w.cell? a = some v) : a = ⟨a.block, a.off, none⟩ := by
  have := World.cell?_spot h
  obtain ⟨b, o, s⟩ := a
  simp only at this
  rw [this]
theorem strs_at {H : Type} {enc : TypeId × Value → H} {W : World} {a : Option Addr} {n c : Nat} {d : DataW H} {p : List MemPlace}
    (h : DataW.Trod enc Try.prog W 0 (fun _ => true) true 22 (.slice a n c) d p) : ∃ sx, StrsAt W W.heap.size a n sx := by
  obtain ⟨fuel, hf⟩ := h
  rcases open_strs Try.underlying22 Try.underlying9 cellsString hf with ⟨hcs, _⟩ | ⟨x, len, cap, m, Sx, hcs, _, hl, _, hm, _, hcell⟩
  · simp [Value.cells] at hcs
    obtain ⟨rfl, rfl, rfl⟩ := hcs
    exact ⟨fun _ => ByteArray.empty, fun i hi => by omega⟩
  · simp [Value.cells] at hcs
    obtain ⟨rfl, rfl, rfl⟩ := hcs
    simp only [if_true] at hm
    refine ⟨Sx, fun i hi => ?_⟩
    have h0 := (hcell 0 (by omega)).1
    have hx : x = ⟨x.block, x.off, none⟩ := by
      have e0 : x.add 0 = x := rfl
      rw [e0] at h0
      exact addr_plain h0
    have hi2 := (hcell i (by omega)).1
    rw [hx, Addr.add_mid] at hi2
    exact ⟨x.block, x.off, by rw [hx], World.block_lt_of_cell? W _ h0, hi2⟩
end Go.Proofs.Ytcfhhabjiofehaa
