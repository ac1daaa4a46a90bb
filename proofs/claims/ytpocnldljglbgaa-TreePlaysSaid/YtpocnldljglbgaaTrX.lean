/- How a row of steps that is handed over is read, as the walk of TreePlays wants it. -/
import Derived.Test.YtpocnldljglbgaaTrW
import Derived.Deep.Strs
import Derived.Deep.Grids
import Derived.Deep.Slices
import Derived.Carry
import Derived.ProofKit
import Derived.OpenShut
namespace Go.Proofs.Ytpocnldljglbgaa
open Go Go.ChangeShapes Go.WideShapes Go.ChangeAt Go.RowKit Go.Deep

theorem laidOut : laidOutB Try.prog = true := by kernel_rfl
theorem cellsBool : Try.prog.cellsOf 4 = 1 := by kernel_rfl
theorem cellsStep : Try.prog.cellsOf 33 = 3 := by kernel_rfl
theorem cellsInt1 : Try.prog.cellsOf 3 = 1 := by kernel_rfl
theorem cellsStr1 : Try.prog.cellsOf 9 = 1 := by kernel_rfl
theorem addr_plain {w : World} {a : Addr} {v : Value} (h : w.cell? a = some v) : a = ⟨a.block, a.off, none⟩ := by
  have := World.cell?_spot h
  obtain ⟨b, o, s⟩ := a
  simp only at this
  rw [this]
theorem three_of {cs : List Value} (h : cs.length = 3) : ∃ a b c, cs = [a, b, c] := by
  match cs, h with
  | [a, b, c], _ => exact ⟨a, b, c, rfl⟩
/-- One step of a row. -/
def StepAt (W : World) (g o i : Nat) (x : StepT) : Prop :=
  W.cell? ⟨g, o + i * 3, none⟩ = some (.string x.key) ∧ W.cell? ⟨g, o + i * 3 + 1, none⟩ = some (.int .i64 x.n) ∧ W.cell? ⟨g, o + i * 3 + 2, none⟩ = some (.bool x.del)
theorem steps_at {H : Type} {enc : TypeId × Value → H} {W : World} {a : Option Addr} {n c : Nat} {d : DataW H} {p : List MemPlace}
    (h : DataW.Trod enc Try.prog W 0 (fun _ => true) true 22 (.slice a n c) d p) : ∃ st, StepsT W a n st := by
  obtain ⟨fuel, hf⟩ := h
  rcases open_slice Try.underlying22 hf with ⟨hcs, _⟩ | ⟨x, len, cap, m, nn, D, Pl, hcs, _, hl, _, hm, _, hi⟩
  · simp [Value.cells] at hcs
    obtain ⟨rfl, rfl, rfl⟩ := hcs
    exact ⟨fun _ => ⟨ByteArray.empty, 0, false⟩, fun i hi => by omega⟩
  · simp [Value.cells] at hcs
    obtain ⟨rfl, rfl, rfl⟩ := hcs
    simp only [if_true] at hm
    rw [cellsStep] at hi
    have hx : 0 < n → x = ⟨x.block, x.off, none⟩ ∧ x.block < W.heap.size := fun h0 => by
      obtain ⟨cs', hc, _⟩ := hi 0 (by omega)
      obtain ⟨_, hcl, hat⟩ := World.cells?_some hc
      obtain ⟨a0, a1, a2, rfl⟩ := three_of hcl
      have h1 := hat 0 (by omega)
      have e0 : (x.add (0 * 3)).add 0 = x := rfl
      rw [e0] at h1
      exact ⟨addr_plain h1, World.block_lt_of_cell? W _ h1⟩
    have each : ∀ i, i < n → ∃ sv : StepT, StepAt W x.block x.off i sv := fun i hin => by
      obtain ⟨hxe, hxl⟩ := hx (by omega)
      obtain ⟨cs', hc, ht⟩ := hi i (by omega)
      obtain ⟨_, hcl, hat⟩ := World.cells?_some hc
      obtain ⟨a0, a1, a2, rfl⟩ := three_of hcl
      obtain ⟨xs, n', _, _, _, hxs, hfld⟩ := DataW.trod_struct Try.underlying33 ht
      have g0 : DataW.trod enc Try.prog W 0 (fun _ => true) true n' 9 ((([a0, a1, a2] : List Value).drop 0).take (Try.prog.cellsOf 9)) = xs[0]? := hfld 0 _ rfl
      rw [cellsStr1] at g0
      have f0 : DataW.trod enc Try.prog W 0 (fun _ => true) true n' 9 [a0] = xs[0]? := g0
      have g1 : DataW.trod enc Try.prog W 0 (fun _ => true) true n' 3 ((([a0, a1, a2] : List Value).drop 1).take (Try.prog.cellsOf 3)) = xs[1]? := hfld 1 _ rfl
      rw [cellsInt1] at g1
      have f1 : DataW.trod enc Try.prog W 0 (fun _ => true) true n' 3 [a1] = xs[1]? := g1
      have g2 : DataW.trod enc Try.prog W 0 (fun _ => true) true n' 4 ((([a0, a1, a2] : List Value).drop 2).take (Try.prog.cellsOf 4)) = xs[2]? := hfld 2 _ rfl
      rw [cellsBool] at g2
      have f2 : DataW.trod enc Try.prog W 0 (fun _ => true) true n' 4 [a2] = xs[2]? := g2
      clear g0 g1 g2
      have hlen : xs.length = 3 := hxs
      obtain ⟨y0, hy0⟩ : ∃ y, xs[0]? = some y := ⟨_, List.getElem?_eq_getElem (by omega)⟩
      obtain ⟨y1, hy1⟩ : ∃ y, xs[1]? = some y := ⟨_, List.getElem?_eq_getElem (by omega)⟩
      obtain ⟨y2, hy2⟩ : ∃ y, xs[2]? = some y := ⟨_, List.getElem?_eq_getElem (by omega)⟩
      rw [hy0] at f0
      rw [hy1] at f1
      rw [hy2] at f2
      obtain ⟨s, hs, _, _⟩ := DataW.trod_string Try.underlying9 f0
      obtain ⟨q, hq, _, _⟩ := DataW.trod_int Try.underlying3 f1
      obtain ⟨b, hb, _⟩ := DataW.trod_bool Try.underlying4 f2
      obtain rfl : a0 = .string s := by simpa using hs
      obtain rfl : a1 = .int .i64 q := by simpa using hq
      obtain rfl : a2 = .bool b := by simpa using hb
      have g0 := hat 0 (by omega)
      have g1 := hat 1 (by omega)
      have g2 := hat 2 (by omega)
      rw [hxe, Addr.add_mid, Addr.add_mid] at g0 g1 g2
      exact ⟨⟨s, q, b⟩, g0, g1, g2⟩
    refine ⟨fun i => if h : i < n then Classical.choose (each i h) else ⟨ByteArray.empty, 0, false⟩, fun i hin => ?_⟩
    obtain ⟨hxe, hxl⟩ := hx (by omega)
    have hs := Classical.choose_spec (each i hin)
    refine ⟨x.block, x.off, by rw [← hxe], hxl, ?_⟩
    simp only [dif_pos hin]
    exact hs
end Go.Proofs.Ytpocnldljglbgaa
