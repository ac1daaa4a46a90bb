/- How a row of steps that is handed over is read, as the walk of DiskPlays wants it. -/
import Derived.Test.YtiglipiofclmfaaDoorPlW
import Derived.Deep.Strs
import Derived.Deep.Grids
import Derived.Deep.Slices
import Derived.Carry
import Derived.ProofKit
import Derived.OpenShut
namespace Go.Proofs.YtiglipiofclmfaaDoor
open Go Go.ChangeShapes Go.WideShapes Go.ChangeAt Go.RowKit Go.Deep

theorem laidOut : laidOutB Tryd.prog = true := by kernel_rfl
theorem cellsBool : Tryd.prog.cellsOf 4 = 1 := by kernel_rfl
theorem cellsStep : Tryd.prog.cellsOf 30 = 4 := by kernel_rfl
theorem cellsInt1 : Tryd.prog.cellsOf 3 = 1 := by kernel_rfl
theorem cellsStr1 : Tryd.prog.cellsOf 9 = 1 := by kernel_rfl
theorem cellsSl1 : Tryd.prog.cellsOf 28 = 1 := by kernel_rfl
theorem addr_plain {w : World} {a : Addr} {v : Value} (h : w.cell? a = some v) : a = ⟨a.block, a.off, none⟩ := by
  have := World.cell?_spot h
  obtain ⟨b, o, s⟩ := a
  simp only at this
  rw [this]
theorem keep_at {H : Type} {enc : TypeId × Value → H} {W : World} {fuel : Nat} {v : Value} {x : DataW H × List MemPlace}
    (hf : DataW.trod enc Tryd.prog W 0 (fun _ => true) true fuel 28 [v] = some x) : ∃ a c, ∃ ks : List Bool, v = .slice a ks.length c ∧ ks.length ≤ maxLen ∧ KeepP (fun x => x < W.heap.size) W a ks := by
  rcases open_bools Tryd.underlying28 Tryd.underlying4 cellsBool hf with ⟨hcs, _⟩ | ⟨x, len, cap, Bx, hcs, _, hl, hmx, _, hcell⟩
  · obtain rfl : v = .slice none 0 0 := by simpa using hcs
    exact ⟨none, 0, [], rfl, Nat.zero_le _, fun i hi => by simp at hi⟩
  · obtain rfl : v = .slice (some x) len cap := by simpa using hcs
    refine ⟨some x, cap, (List.range len).map Bx, by simp, by simp; omega, fun i hi => ?_⟩
    simp only [List.length_map, List.length_range] at hi
    have h0 := hcell 0 (by omega)
    have hx : x = ⟨x.block, x.off, none⟩ := by
      have e0 : x.add 0 = x := rfl
      rw [e0] at h0
      exact addr_plain h0
    have hi2 := hcell i (by omega)
    rw [hx, Addr.add_mid] at hi2
    refine ⟨x.block, x.off, by rw [hx], World.block_lt_of_cell? W _ h0, ?_⟩
    rw [hi2]
    simp [List.getD_eq_getElem?_getD, hi]
theorem four_of {cs : List Value} (h : cs.length = 4) : ∃ a b c d, cs = [a, b, c, d] := by
  match cs, h with
  | [a, b, c, d], _ => exact ⟨a, b, c, d, rfl⟩
/-- One step of a row. -/
def StepAt (W : World) (g o i : Nat) (x : StepV) : Prop :=
  (W.cell? ⟨g, o + i * 4, none⟩ = some (.int .i64 x.what) ∧ W.cell? ⟨g, o + i * 4 + 1, none⟩ = some (.int .i64 x.at_) ∧ W.cell? ⟨g, o + i * 4 + 2, none⟩ = some (.string x.b) ∧ W.cell? ⟨g, o + i * 4 + 3, none⟩ = some (.slice x.ka x.ks.length x.kc))
    ∧ KeepP (fun x => x < W.heap.size) W x.ka x.ks ∧ -9223372036854775808 ≤ x.what ∧ x.what ≤ 9223372036854775807 ∧ -9223372036854775808 ≤ x.at_ ∧ x.at_ ≤ 9223372036854775807 ∧ x.ks.length ≤ 9223372036854775807
theorem steps_at {H : Type} {enc : TypeId × Value → H} {W : World} {a : Option Addr} {n c : Nat} {d : DataW H} {p : List MemPlace}
    (h : DataW.Trod enc Tryd.prog W 0 (fun _ => true) true 22 (.slice a n c) d p) : ∃ st, StepsAt (fun x => x < W.heap.size) W a n st := by
  obtain ⟨fuel, hf⟩ := h
  rcases open_slice Tryd.underlying22 hf with ⟨hcs, _⟩ | ⟨x, len, cap, m, nn, D, Pl, hcs, _, hl, _, hm, _, hi⟩
  · simp [Value.cells] at hcs
    obtain ⟨rfl, rfl, rfl⟩ := hcs
    exact ⟨fun _ => ⟨0, 0, ByteArray.empty, none, 0, []⟩, fun i hi => by omega⟩
  · simp [Value.cells] at hcs
    obtain ⟨rfl, rfl, rfl⟩ := hcs
    simp only [if_true] at hm
    rw [cellsStep] at hi
    have hx : 0 < n → x = ⟨x.block, x.off, none⟩ ∧ x.block < W.heap.size := fun h0 => by
      obtain ⟨cs', hc, _⟩ := hi 0 (by omega)
      obtain ⟨_, hcl, hat⟩ := World.cells?_some hc
      obtain ⟨a0, a1, a2, a3, rfl⟩ := four_of hcl
      have h1 := hat 0 (by omega)
      have e0 : (x.add (0 * 4)).add 0 = x := rfl
      rw [e0] at h1
      exact ⟨addr_plain h1, World.block_lt_of_cell? W _ h1⟩
    have each : ∀ i, i < n → ∃ sv : StepV, StepAt W x.block x.off i sv := fun i hin => by
      obtain ⟨hxe, hxl⟩ := hx (by omega)
      obtain ⟨cs', hc, ht⟩ := hi i (by omega)
      obtain ⟨_, hcl, hat⟩ := World.cells?_some hc
      obtain ⟨a0, a1, a2, a3, rfl⟩ := four_of hcl
      obtain ⟨xs, n', _, _, _, hxs, hfld⟩ := DataW.trod_struct Tryd.underlying30 ht
      have g0 : DataW.trod enc Tryd.prog W 0 (fun _ => true) true n' 3 ((([a0, a1, a2, a3] : List Value).drop 0).take (Tryd.prog.cellsOf 3)) = xs[0]? := hfld 0 _ rfl
      rw [cellsInt1] at g0
      have f0 : DataW.trod enc Tryd.prog W 0 (fun _ => true) true n' 3 [a0] = xs[0]? := g0
      have g1 : DataW.trod enc Tryd.prog W 0 (fun _ => true) true n' 3 ((([a0, a1, a2, a3] : List Value).drop 1).take (Tryd.prog.cellsOf 3)) = xs[1]? := hfld 1 _ rfl
      rw [cellsInt1] at g1
      have f1 : DataW.trod enc Tryd.prog W 0 (fun _ => true) true n' 3 [a1] = xs[1]? := g1
      have g2 : DataW.trod enc Tryd.prog W 0 (fun _ => true) true n' 9 ((([a0, a1, a2, a3] : List Value).drop 2).take (Tryd.prog.cellsOf 9)) = xs[2]? := hfld 2 _ rfl
      rw [cellsStr1] at g2
      have f2 : DataW.trod enc Tryd.prog W 0 (fun _ => true) true n' 9 [a2] = xs[2]? := g2
      have g3 : DataW.trod enc Tryd.prog W 0 (fun _ => true) true n' 28 ((([a0, a1, a2, a3] : List Value).drop 3).take (Tryd.prog.cellsOf 28)) = xs[3]? := hfld 3 _ rfl
      rw [cellsSl1] at g3
      have f3 : DataW.trod enc Tryd.prog W 0 (fun _ => true) true n' 28 [a3] = xs[3]? := g3
      clear g0 g1 g2 g3
      have hlen : xs.length = 4 := hxs
      obtain ⟨y0, hy0⟩ : ∃ y, xs[0]? = some y := ⟨_, List.getElem?_eq_getElem (by omega)⟩
      obtain ⟨y1, hy1⟩ : ∃ y, xs[1]? = some y := ⟨_, List.getElem?_eq_getElem (by omega)⟩
      obtain ⟨y2, hy2⟩ : ∃ y, xs[2]? = some y := ⟨_, List.getElem?_eq_getElem (by omega)⟩
      obtain ⟨y3, hy3⟩ : ∃ y, xs[3]? = some y := ⟨_, List.getElem?_eq_getElem (by omega)⟩
      rw [hy0] at f0
      rw [hy1] at f1
      rw [hy2] at f2
      rw [hy3] at f3
      obtain ⟨v, hv, _, wv⟩ := DataW.trod_int Tryd.underlying3 f0
      obtain ⟨q, hq, _, wq⟩ := DataW.trod_int Tryd.underlying3 f1
      obtain ⟨s, hs, _, _⟩ := DataW.trod_string Tryd.underlying9 f2
      obtain ⟨ka, kc, ks, hk, hkl, hkk⟩ := keep_at f3
      obtain rfl : a0 = .int .i64 v := by simpa using hv
      obtain rfl : a1 = .int .i64 q := by simpa using hq
      obtain rfl : a2 = .string s := by simpa using hs
      subst hk
      have bv := bounds_i64 wv
      have bq := bounds_i64 wq
      have g0 := hat 0 (by omega)
      have g1 := hat 1 (by omega)
      have g2 := hat 2 (by omega)
      have g3 := hat 3 (by omega)
      rw [hxe, Addr.add_mid, Addr.add_mid] at g0 g1 g2 g3
      exact ⟨⟨v, q, s, ka, kc, ks⟩, ⟨g0, g1, g2, g3⟩, hkk, bv.1, bv.2, bq.1, bq.2, by unfold maxLen at hkl; omega⟩
    refine ⟨fun i => if h : i < n then Classical.choose (each i h) else ⟨0, 0, ByteArray.empty, none, 0, []⟩, fun i hin => ?_⟩
    obtain ⟨hxe, hxl⟩ := hx (by omega)
    have hs := Classical.choose_spec (each i hin)
    refine ⟨x.block, x.off, by rw [← hxe], hxl, ?_⟩
    simp only [dif_pos hin]
    exact ⟨hs.1, hs.2⟩
end Go.Proofs.YtiglipiofclmfaaDoor
