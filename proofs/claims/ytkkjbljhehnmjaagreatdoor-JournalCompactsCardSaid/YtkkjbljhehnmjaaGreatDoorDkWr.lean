/- Contract of (*disk.Disk).Write where the Write is done. -/
import Derived.Test.YtkkjbljhehnmjaaGreatDoorDkNew
import Derived.Deep.RegionHeld3
import Derived.Deep.WholeRow
import Derived.Lib.BufferWrite
namespace Go.Proofs.YtkkjbljhehnmjaaGreatDoor
open Go.RowKit

/-- Bytes filled up to a sector. -/
def fillUp (s : ByteArray) : List UInt8 := s.data.toList ++ List.replicate (64 - s.size) 0
theorem fillUp_length (s : ByteArray) (h : s.size ≤ 64) : (fillUp s).length = 64 := by
  have : s.data.toList.length = s.size := rfl
  simp only [fillUp, List.length_append, List.length_replicate, this]; omega
/-- A loose Write in a block of its own. -/
def wBlk (k : Nat) (l : List UInt8) : Obj := .cells (cellsW (k, l)).toArray 97
theorem zeroW (k : Nat) : Tryz.zeroCells97.setIfInBounds 0 (.int .i64 (k : Int)) = (cellsW (k, zSec)).toArray := by kernel_rfl
theorem infoWrite : (Tryz.prog.info? 97).map (fun i => (i.zero, i.size, i.bytes)) = some (some (.agg Tryz.zeroCells97), 65, 72) := by kernel_rfl
theorem cellsW_one (k : Nat) (l : List UInt8) : ∀ v ∈ cellsW (k, l), v.oneCell' = true := by
  intro v hv
  rcases List.mem_cons.1 hv with rfl | hv
  · rfl
  · exact bytesV_one l v hv
theorem size_zeroW : Tryz.zeroCells97.size = 65 := by kernel_rfl
theorem store_w (k : Nat) (w : World) : (storeCells ⟨w.heap.size, 0, none⟩ (Tryz.zeroCells97.toList.set 0 (.int .i64 (k : Int)))).run Tryz.prog (w.alloc (.cells Tryz.zeroCells97 97)) = .ok () (w.alloc (wBlk k zSec)) := by
  have hz := zeroW k
  have hl : (cellsW (k, zSec)).toArray.size = 65 := by simp [cellsW, zSec]
  have := run_storeCells_new (P := Tryz.prog) w 97 Tryz.zeroCells97 (cellsW (k, zSec)).toArray (by
    obtain ⟨i, hi, hx⟩ := Option.map_eq_some_iff.1 infoWrite
    simp only [Prod.mk.injEq] at hx
    rw [hi, Option.map_some, hx.2.1, hl]) (by rw [size_zeroW, hl]) (all_oneCell_toArray (cellsW_one k zSec))
  rw [← hz] at this
  rw [Array.toList_setIfInBounds] at this
  rw [hz] at this
  exact this
set_option maxRecDepth 20000 in
theorem copy_w (k : Nat) (s : ByteArray) (hs : s.size ≤ 64) (w : World) : (Builtin.copy_ #[100, 9] 3 #[.slice (some ⟨w.heap.size, 1, none⟩) 64 64, .string s]).run Tryz.prog (w.alloc (wBlk k zSec)) = .ok (goInt s.size) (w.alloc (wBlk k (fillUp s))) := by
  have hg : (w.alloc (wBlk k zSec)).heap[w.heap.size]? = some (.cells (cellsW (k, zSec)).toArray 97 (0, 0)) := by
    show (w.heap.push _)[w.heap.size]? = _
    rw [Array.getElem?_push, if_pos rfl]; rfl
  have hl : (cellsW (k, zSec)).length = 65 := by simp [cellsW, zSec]
  have := Lib.run_copy_row_string (P := Tryz.prog) (w.alloc (wBlk k zSec)) 100 9 3 5 w.heap.size 1 64 64 s _ 97 Tryz.underlying100 (by kernel_rfl) hg hs (by simp only [List.size_toArray, hl]; omega)
  rw [this]
  have h2 : (((cellsW (k, zSec)).toArray.toList.take 1 ++ Lib.byteCells s.data.toList ++ (cellsW (k, zSec)).toArray.toList.drop (1 + s.size)).toArray) = (cellsW (k, fillUp s)).toArray := by
    congr 1
    show (cellsW (k, zSec)).take 1 ++ bytesV s.data.toList ++ (cellsW (k, zSec)).drop (1 + s.size) = _
    rw [Nat.add_comm 1 s.size]
    simp only [cellsW, List.take_succ_cons, List.take_zero, List.drop_succ_cons, fillUp, bytesV_append, List.cons_append, List.nil_append]
    congr 2
    unfold zSec bytesV
    rw [List.map_replicate, List.map_replicate, List.drop_replicate]
  rw [h2]
  exact congrArg (Result.ok (goInt s.size)) (World.setRow_alloc_new w (cellsW (k, zSec)).toArray (cellsW (k, fillUp s)).toArray 97)
/-- A pointer to so many cells that lie there, and what they hold. -/
def ptrRow (w : World) (v : Value) (n : Nat) : Prop := ∃ b o cs, v = .pointer (some ⟨b, o, none⟩) ∧ w.rangeAt b o cs ∧ cs.length = n
def ptrCells (w : World) (v : Value) (n : Nat) : Array Value :=
  ((List.range n).map fun j => match v with
    | .pointer (some ⟨b, o, _⟩) => (w.cell? ⟨b, o + j, none⟩).getD (.bool false)
    | _ => .bool false).toArray
theorem ptrCells_of {w : World} {b o n : Nat} {cs : List Value} (h : w.rangeAt b o cs) (hl : cs.length = n) : ptrCells w (.pointer (some ⟨b, o, none⟩)) n = cs.toArray := by
  unfold ptrCells
  congr 1
  apply List.ext_getElem
  · simp [hl]
  · intro j h1 h2
    simp only [List.getElem_map, List.getElem_range]
    rw [h j _ (List.getElem?_eq_getElem h2)]
    rfl
/-- A load of a whole loose Write: taken as one step. -/
theorem wp_load_write {dst : Option Tmp} {x : Operand} {ty : TypeId} {pos : String} {after : Array Edge} {guard : Option (Nat × Bool)} {a : Act} {w : World} {K : Act → World → Prop} {Q : Exit → Act → World → Prop}
    (h : ptrRow w (a.eval x) 65) : Oper.wp Tryz.prog { dst := dst, op := .load 97 x, type := ty, pos := pos, after := after, guard := guard } a w K Q = K (a.put dst (.agg (ptrCells w (a.eval x) 65))) w := by
  obtain ⟨b, o, cs, hv, hr, hl⟩ := h
  rw [hv, ptrCells_of hr hl]
  unfold Oper.wp execOp
  simp only [hv, Instr.loadAt, Instr.sureAddr, Sem.run_bind, Sem.run_pure, Result.andThen_ok, run_loadVar_mid w b o 97 cs _ hr Tryz.underlying97 rfl (by rw [hl]; kernel_rfl)]
  rfl
/-- A value of as many cells as a loose Write has. -/
def rowVal (v : Value) : Prop := ∃ c, v = .agg c ∧ c.size = 65
def rowOf : Value → Array Value
  | .agg c => c
  | _ => #[]
theorem set_all (c : List Value) : ∀ (pre : List Value) (rest : Array Value), rest.toList.take pre.length = pre → rest.size = pre.length + c.length →
    ((c.zipIdx pre.length).foldl (fun (cs : Array Value) x => cs.setIfInBounds x.2 x.1) rest) = (pre ++ c).toArray := by
  induction c with
  | nil =>
    intro pre rest h1 h2
    simp only [List.zipIdx_nil, List.foldl_nil, List.append_nil]
    apply Array.ext'
    rw [← h1, List.take_of_length_le (by simp at h2 ⊢; omega)]
  | cons v r ih =>
    intro pre rest h1 h2
    simp only [List.zipIdx_cons, List.foldl_cons]
    have hl : pre.length < rest.size := by simp at h2; omega
    have := ih (pre ++ [v]) (rest.setIfInBounds pre.length v) (by
      rw [Array.toList_setIfInBounds, List.length_append, List.length_singleton, List.take_add_one]
      rw [List.take_set_of_le (Nat.le_refl _), h1, List.getElem?_set_self (by simpa using hl)]
      rfl) (by simp at h2 ⊢; omega)
    rw [List.length_append, List.length_singleton] at this
    rw [this]
    simp
theorem run_buildSlice_write (w : World) (cw : List Value) (hc : cw.length = 65) : (Instr.buildSlice 71 1 #[(0, .agg cw.toArray)]).run Tryz.prog w = .ok (.slice (some ⟨w.heap.size, 0, none⟩) 1 1) (w.alloc (.cells cw.toArray 97)) := by
  have hs := Tryz.sizeOf97
  have hz := Tryz.zeroValue97
  have hu := run_underlying (P := Tryz.prog) Tryz.underlying71
  have hf : Instr.fill (fun i => some (i * 65, 65)) ((Array.range (1 * 65)).map (Tryz.zeroCells97[· % Tryz.zeroCells97.size]!)) [(0, Value.agg cw.toArray)] = some cw.toArray := by
    have h0 := set_all cw [] ((Array.range (1 * 65)).map (Tryz.zeroCells97[· % Tryz.zeroCells97.size]!)) (by simp) (by simp; omega)
    have hZ : ((Array.range (1 * 65)).map (Tryz.zeroCells97[· % Tryz.zeroCells97.size]!)).size = 65 := by simp
    generalize (Array.range (1 * 65)).map (Tryz.zeroCells97[· % Tryz.zeroCells97.size]!) = Z at h0 hZ ⊢
    simp only [List.length_nil, List.nil_append] at h0
    simp [Instr.fill, Value.cells, hc]
    exact ⟨by omega, h0⟩
  unfold Instr.buildSlice
  have h1 : ¬ (1 * 65 > 2 ^ 24) := by decide
  have h2 : ¬ (1 * 65 = 0) := by decide
  simp only [Sem.run_bind, hu, hs, Value.cells, Result.andThen_ok, if_neg h1, if_neg h2, Sem.run_pure, hz, hf, newRow]
  rfl
/-- The making of a row of one loose Write: taken as one step. -/
theorem wp_buildSlice_write {dst : Option Tmp} {x : Operand} {ty : TypeId} {pos : String} {after : Array Edge} {guard : Option (Nat × Bool)} {a : Act} {w : World} {K : Act → World → Prop} {Q : Exit → Act → World → Prop}
    (h : rowVal (a.eval x)) : Oper.wp Tryz.prog { dst := dst, op := .buildSlice 71 1 #[(0, x)], type := ty, pos := pos, after := after, guard := guard } a w K Q = K (a.put dst (.slice (some ⟨w.heap.size, 0, none⟩) 1 1)) (w.alloc (.cells (rowOf (a.eval x)) 97)) := by
  obtain ⟨c, hv, hl⟩ := h
  rw [hv]
  obtain ⟨cw, rfl⟩ : ∃ cw : List Value, c = cw.toArray := ⟨c.toList, by simp⟩
  unfold Oper.wp execOp
  simp only [hv, List.map_toArray, List.map_cons, List.map_nil, Sem.run_bind, run_buildSlice_write w cw (by simpa using hl), Result.andThen_ok]
  rfl
@[simp] theorem rowOf_agg (c : Array Value) : rowOf (.agg c) = c := rfl
theorem cell_wBlk {w : World} {T k : Nat} {l : List UInt8} (h : w.heap[T]? = some (wBlk k l)) (j : Nat) : w.cell? ⟨T, j, none⟩ = (cellsW (k, l))[j]? := by
  simp [World.cell?, h, wBlk]
theorem range_wBlk {w : World} {T k : Nat} {l : List UInt8} (h : w.heap[T]? = some (wBlk k l)) : w.rangeAt T 0 (cellsW (k, l)) ∧ w.rangeAt T 1 (bytesV l) := by
  refine ⟨fun j v hv => by rw [Nat.zero_add, cell_wBlk h]; exact hv, fun j v hv => ?_⟩
  rw [cell_wBlk h, Nat.add_comm 1 j]
  exact hv
end Go.Proofs.YtkkjbljhehnmjaaGreatDoor
