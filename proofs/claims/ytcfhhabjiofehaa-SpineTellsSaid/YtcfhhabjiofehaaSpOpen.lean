/- How a row of strings that is handed over is read, with what the reach says of it. -/
import Derived.Test.YtcfhhabjiofehaaRows
import Derived.Test.YtcfhhabjiofehaaStOpen
import Derived.ProofKit
import Derived.OpenShut
import Derived.Carry
import Derived.ChangeMaps5
import Derived.SizedLaws
import Derived.Deep.Strs
namespace Go.Proofs.Ytcfhhabjiofehaa
open Go Go.ChangeMaps Go.ChangeShapes Go.WideShapes Go.ChangeAt Go.RowKit Go.Deep

theorem mem_weightsAll {H : Type} {P : Program} {e : TypeId} {x : Nat} : ∀ {l : List (DataW H)} {d : DataW H}, d ∈ l → x ∈ DataW.weights P e d → x ∈ DataW.weightsAll P e l
  | y :: l, d, hd, hx => by
    rw [DataW.weightsAll]
    rcases List.mem_cons.1 hd with rfl | hd
    · exact List.mem_append_left _ hx
    · exact List.mem_append_right _ (mem_weightsAll hd hx)
theorem bytesString : Try.prog.bytesOf 9 = 16 := by kernel_rfl
theorem strs_at3 {H : Type} {enc : TypeId × Value → H} {W : World} {a : Option Addr} {n c : Nat} {d : DataW H} {p : List MemPlace}
    (h : DataW.Trod enc Try.prog W 0 (fun _ => true) true 22 (.slice a n c) d p) (hw : ∀ x ∈ DataW.weights Try.prog 22 d, x ≤ reachBytes) : ∃ sx, StrsAt W W.heap.size a n sx ∧ (∀ i, i < n → (sx i).size ≤ 1000000000000000) ∧ n ≤ 10000000000000 := by
  obtain ⟨fuel, hf⟩ := h
  rcases open_strs Try.underlying22 Try.underlying9 cellsString hf with ⟨hcs, _⟩ | ⟨x, len, cap, m, Sx, hcs, _, hl, _, hm, hd, hcell⟩
  · simp [Value.cells] at hcs
    obtain ⟨rfl, rfl, rfl⟩ := hcs
    exact ⟨fun _ => ByteArray.empty, fun i hi => absurd hi (Nat.not_lt_zero _), fun i hi => absurd hi (Nat.not_lt_zero _), Nat.zero_le _⟩
  · simp [Value.cells] at hcs
    obtain ⟨rfl, rfl, rfl⟩ := hcs
    simp only [if_true] at hm
    simp only [Prod.mk.injEq] at hd
    rw [hd.1] at hw
    refine ⟨Sx, fun i hi => ?_, fun i hi => ?_, ?_⟩
    · have h0 := (hcell 0 (by omega)).1
      have hx : x = ⟨x.block, x.off, none⟩ := by
        have e0 : x.add 0 = x := rfl
        rw [e0] at h0
        exact addr_plain h0
      have hi2 := (hcell i (by omega)).1
      rw [hx, Addr.add_mid] at hi2
      exact ⟨x.block, x.off, by rw [hx], World.block_lt_of_cell? W _ h0, hi2⟩
    · have hmem : (Sx i).data.toList.length ∈ DataW.weights Try.prog 22 (DataW.slice ((List.range n).map fun i => DataW.lit (Lit.string (Sx i).data.toList)) ((List.range (m - n)).map fun j => DataW.lit (Lit.string (Sx (n + j)).data.toList)) : DataW H) := by
        rw [DataW.weights]
        simp only [Try.underlying22]
        refine List.mem_cons_of_mem _ (List.mem_append_left _ (mem_weightsAll (d := DataW.lit (Lit.string (Sx i).data.toList)) (List.mem_map.2 ⟨i, List.mem_range.2 hi, rfl⟩) ?_))
        rw [DataW.weights]
        exact List.mem_singleton.2 rfl
      exact Nat.le_trans (hw _ hmem) (by decide)
    · have hmem : (((List.range n).map fun i => (DataW.lit (Lit.string (Sx i).data.toList) : DataW H)).length + ((List.range (m - n)).map fun j => (DataW.lit (Lit.string (Sx (n + j)).data.toList) : DataW H)).length) * Try.prog.bytesOf 9 ∈ DataW.weights Try.prog 22 (DataW.slice ((List.range n).map fun i => DataW.lit (Lit.string (Sx i).data.toList)) ((List.range (m - n)).map fun j => DataW.lit (Lit.string (Sx (n + j)).data.toList)) : DataW H) := by
        rw [DataW.weights]
        simp only [Try.underlying22]
        exact List.mem_cons_self
      have h9 := hw _ hmem
      rw [bytesString, List.length_map, List.length_range, List.length_map, List.length_range] at h9
      have h10 : reachBytes = 140737488351232 := by decide
      omega
end Go.Proofs.Ytcfhhabjiofehaa
