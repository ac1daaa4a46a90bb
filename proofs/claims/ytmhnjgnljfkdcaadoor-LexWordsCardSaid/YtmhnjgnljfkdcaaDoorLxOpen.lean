/- How rows of bytes that are handed over are read, as the walk wants them. -/
import Derived.Test.YtmhnjgnljfkdcaaDoorProg
import Derived.Test.YtmhnjgnljfkdcaaDoorRowsAt
import Derived.Deep.Strs
import Derived.Deep.Grids
import Derived.Carry
import Derived.ProofKit
import Derived.OpenShut
import Derived.ChangeSlices
import Derived.KernelRfl
namespace Go.Proofs.YtmhnjgnljfkdcaaDoor
open Go Go.ChangeShapes Go.WideShapes Go.ChangeAt Go.RowKit Go.Deep

theorem laidOut : laidOutB Tryd.prog = true := by kernel_rfl
theorem cellsString : Tryd.prog.cellsOf 9 = 1 := by kernel_rfl
theorem cellsU8 : Tryd.prog.cellsOf 5 = 1 := by kernel_rfl
theorem addr_plain {w : World} {a : Addr} {v : Value} (h : w.cell? a = some v) : a = ⟨a.block, a.off, none⟩ := by
  have := World.cell?_spot h
  obtain ⟨b, o, s⟩ := a
  simp only at this
  rw [this]
theorem uint8s_at {H : Type} {enc : TypeId × Value → H} {W : World} {a : Option Addr} {n c : Nat} {d : DataW H} {p : List MemPlace}
    (h : DataW.Trod enc Tryd.prog W 0 (fun _ => true) true 33 (.slice a n c) d p) : ∃ z, NatsAt W W.heap.size .u8 a n z := by
  obtain ⟨fuel, hf⟩ := h
  rcases open_ints Tryd.underlying33 Tryd.underlying5 cellsU8 hf with ⟨hcs, _⟩ | ⟨x, len, cap, zs, hcs, _, hl, _, hm, _, hcell, hwf⟩
  · simp [Value.cells] at hcs
    obtain ⟨rfl, rfl, rfl⟩ := hcs
    exact ⟨fun _ => 0, fun i hi => by omega⟩
  · simp [Value.cells] at hcs
    obtain ⟨rfl, rfl, rfl⟩ := hcs
    simp only [if_true] at hm
    refine ⟨fun i => (zs.getD i 0).toNat, fun i hi => ?_⟩
    have h0 := hcell 0 (by omega)
    have hx : x = ⟨x.block, x.off, none⟩ := by
      have e0 : x.add 0 = x := rfl
      rw [e0] at h0
      exact addr_plain h0
    have hi2 := hcell i (by omega)
    rw [hx, Addr.add_mid] at hi2
    have hw : (Lit.int .u8 (zs.getD i 0)).wf = true := hwf _ (by rw [List.getD_eq_getElem?_getD, List.getElem?_eq_getElem (show i < zs.length by omega)]; exact List.getElem_mem _)
    have h1 := bounds_u8 hw
    have h2 : (((zs.getD i 0).toNat : Nat) : Int) = zs.getD i 0 := Int.toNat_of_nonneg h1.1
    refine ⟨by rw [h2]; exact hw, x.block, x.off, by rw [hx], World.block_lt_of_cell? W _ h0, by rw [h2]; exact hi2⟩
end Go.Proofs.YtmhnjgnljfkdcaaDoor
