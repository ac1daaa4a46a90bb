/- Contract of disk.New: so many sectors of bytes 0, nothing loose. -/
import Derived.Test.YtkkjbljhehnmjaaGreatDoorDk
import Derived.RegionTactic
import Derived.Laws.MakeOwn
namespace Go.Proofs.YtkkjbljhehnmjaaGreatDoor
open Go.RowKit

/-- A zero sector's cells. -/
def zSec : List UInt8 := List.replicate 64 0
def zVal : Value := .agg (List.replicate 64 (Value.int .u8 0)).toArray
/-- The block of a new row of sectors. -/
def newSecs (m : Nat) : Obj := .cells (madeCells zVal.cells (m * 64)) 95
theorem infoSector : (Tryz.prog.info? 95).map (fun i => (i.size, i.bytes, i.zero)) = some (64, 64, some zVal) := by kernel_rfl
theorem make_sectors (m : Nat) (hm : m ≤ 2000) (w : World) : (Instr.makeSlice 70 (.int .i64 (m : Int)) (.int .i64 (m : Int))).run Tryz.prog w = .ok (.slice (some ⟨w.heap.size, 0, none⟩) m m) (w.alloc (newSecs m)) := by
  obtain ⟨i, hi, hx⟩ := Option.map_eq_some_iff.1 infoSector
  simp only [Prod.mk.injEq] at hx
  obtain ⟨h1, h2, h3⟩ := hx
  have := run_make (P := Tryz.prog) w 70 95 i zVal Tryz.underlying70 hi h3 .i64 .i64 m m (by omega) (by omega) (by rw [h2]; omega) (by omega)
  rw [this, h1]
  simp [newSecs]
theorem newSecs_cell (m k : Nat) (hk : k < m * 64) : (madeCells zVal.cells (m * 64))[k]? = some (Value.int .u8 0) := by
  unfold madeCells
  rw [Array.getElem?_map, Array.getElem?_range]
  simp only [hk, if_true, Option.map_some, Option.some.injEq]
  have hz : zVal.cells = (List.replicate 64 (Value.int .u8 0)).toArray := rfl
  have hs : zVal.cells.size = 64 := by rw [hz]; simp
  rw [hs]
  have hl : k % 64 < zVal.cells.size := by rw [hs]; omega
  rw [getElem!_pos zVal.cells (k % 64) hl]
  simp only [hz]
  rw [List.getElem_toArray, List.getElem_replicate]
theorem newSecs_secs (w : World) (g m : Nat) (hg : w.heap[g]? = some (newSecs m)) : Secs w g m (fun _ => zSec) := by
  intro k hk
  have hcell : ∀ j, j < 64 → w.cell? ⟨g, k * 64 + j, none⟩ = some (Value.int .u8 0) := by
    intro j hj
    simp only [World.cell?, hg, newSecs]
    exact newSecs_cell m _ (by omega)
  refine ⟨by simp [zSec], ?_, ?_⟩
  · intro j v hv
    have hz : bytesV zSec = List.replicate 64 (Value.int .u8 0) := by unfold bytesV zSec; rw [List.map_replicate]; rfl
    have hj : j < 64 := by
      have := (List.getElem?_eq_some_iff.1 hv).1
      rwa [hz, List.length_replicate] at this
    rw [hcell j hj, ← hv]
    show _ = (bytesV zSec)[j]?
    rw [hz, List.getElem?_replicate, if_pos hj]
  · intro j hj
    refine ⟨by rw [hcell j hj]; rfl, ?_⟩
    simp [World.frozen?, hg, newSecs]

/-- A new disk. -/
def Dk.new (m : Nat) : Dk := { n := m, F := fun _ => zSec, C := fun _ => zSec, L := [], writes := 0, dead := false, cut := false, left := 0 }
/-- How many sectors a new disk has. -/
def clampN (z : Int) : Nat := (min (max z 1) 2000).toNat
theorem clampN_le (z : Int) : 1 ≤ clampN z ∧ clampN z ≤ 2000 := by unfold clampN; omega

/-- What New comes to. -/
def Made (m : Nat) (w : World) (e : Ending) (w2 : World) : Prop :=
  ∃ b bf bc, e = .returned (.pointer (some ⟨b, 0, none⟩)) ∧ DkAt w2 b bf bc (.slice none 0 0) (Dk.new m) ∧ Kp [] w w2 ∧ w.heap.size ≤ b ∧ w.heap.size ≤ bf ∧ w.heap.size ≤ bc ∧ b < w2.heap.size ∧ bf < w2.heap.size ∧ bc < w2.heap.size

theorem made_of (w : World) (hg : 7 ≤ w.heap.size) (m : Nat) (h1 : 1 ≤ m) (h2 : m ≤ 2000) (bf bc : Nat) (hb : (bf = w.heap.size ∧ bc = w.heap.size + 1) ∨ (bf = w.heap.size + 1 ∧ bc = w.heap.size)) :
    Made m w (.returned (.pointer (some ⟨w.heap.size + 1 + 1, 0, none⟩))) (((w.alloc (newSecs m)).alloc (newSecs m)).alloc (Obj.cells
          #[Value.slice (some ⟨bf, 0, none⟩) m m, Value.slice (some ⟨bc, 0, none⟩) m m, Value.slice none 0 0,
            Value.int IntKind.i64 0, Value.bool false, Value.bool false, Value.int IntKind.i64 0] 73)).drew := by
  have hsz : (((w.alloc (newSecs m)).alloc (newSecs m)).alloc (Obj.cells
          #[Value.slice (some ⟨bf, 0, none⟩) m m, Value.slice (some ⟨bc, 0, none⟩) m m, Value.slice none 0 0,
            Value.int IntKind.i64 0, Value.bool false, Value.bool false, Value.int IntKind.i64 0] 73)).drew.heap.size = w.heap.size + 3 := by simp [World.drew]
  have h0 : (((w.alloc (newSecs m)).alloc (newSecs m)).alloc (Obj.cells
          #[Value.slice (some ⟨bf, 0, none⟩) m m, Value.slice (some ⟨bc, 0, none⟩) m m, Value.slice none 0 0,
            Value.int IntKind.i64 0, Value.bool false, Value.bool false, Value.int IntKind.i64 0] 73)).drew.heap[w.heap.size]? = some (newSecs m) := by
    show (((w.heap.push _).push _).push _)[w.heap.size]? = _
    rw [Array.getElem?_push, if_neg (by simp only [Array.size_push]; omega), Array.getElem?_push, if_neg (by simp only [Array.size_push]; omega), Array.getElem?_push, if_pos rfl]
  have h1' : (((w.alloc (newSecs m)).alloc (newSecs m)).alloc (Obj.cells
          #[Value.slice (some ⟨bf, 0, none⟩) m m, Value.slice (some ⟨bc, 0, none⟩) m m, Value.slice none 0 0,
            Value.int IntKind.i64 0, Value.bool false, Value.bool false, Value.int IntKind.i64 0] 73)).drew.heap[w.heap.size + 1]? = some (newSecs m) := by
    show (((w.heap.push _).push _).push _)[w.heap.size + 1]? = _
    rw [Array.getElem?_push, if_neg (by simp only [Array.size_push]; omega), Array.getElem?_push, if_pos (by simp only [Array.size_push])]
  have h2' : (((w.alloc (newSecs m)).alloc (newSecs m)).alloc (Obj.cells
          #[Value.slice (some ⟨bf, 0, none⟩) m m, Value.slice (some ⟨bc, 0, none⟩) m m, Value.slice none 0 0,
            Value.int IntKind.i64 0, Value.bool false, Value.bool false, Value.int IntKind.i64 0] 73)).drew.heap[w.heap.size + 1 + 1]? = some (Obj.cells
          #[Value.slice (some ⟨bf, 0, none⟩) m m, Value.slice (some ⟨bc, 0, none⟩) m m, Value.slice none 0 0,
            Value.int IntKind.i64 0, Value.bool false, Value.bool false, Value.int IntKind.i64 0] 73) := by
    show (((w.heap.push _).push _).push _)[w.heap.size + 1 + 1]? = _
    rw [Array.getElem?_push, if_pos (by simp only [Array.size_push])]
  have hk := ((((Kp.refl [] w).alloc (newSecs m)).alloc (newSecs m)).alloc (Obj.cells
          #[Value.slice (some ⟨bf, 0, none⟩) m m, Value.slice (some ⟨bc, 0, none⟩) m m, Value.slice none 0 0,
            Value.int IntKind.i64 0, Value.bool false, Value.bool false, Value.int IntKind.i64 0] 73)).drew
  generalize (((w.alloc (newSecs m)).alloc (newSecs m)).alloc (Obj.cells
          #[Value.slice (some ⟨bf, 0, none⟩) m m, Value.slice (some ⟨bc, 0, none⟩) m m, Value.slice none 0 0,
            Value.int IntKind.i64 0, Value.bool false, Value.bool false, Value.int IntKind.i64 0] 73)).drew = W at hsz h0 h1' h2' hk ⊢
  refine ⟨_, bf, bc, rfl, ?_, hk, by omega, by omega, by omega, by omega, by omega, by omega⟩
  have hF : W.heap[bf]? = some (newSecs m) := by rcases hb with ⟨rfl, rfl⟩ | ⟨rfl, rfl⟩ <;> assumption
  have hC : W.heap[bc]? = some (newSecs m) := by rcases hb with ⟨rfl, rfl⟩ | ⟨rfl, rfl⟩ <;> assumption
  exact {
    n1 := h1
    n2 := h2
    ne1 := by omega
    ne2 := by omega
    ne3 := by omega
    nl := fun g hg => by cases hg
    hb := by omega
    hf := by omega
    hc := by omega
    c0 := by simp [World.cell?, h2', Dk.new]
    c1 := by simp [World.cell?, h2', Dk.new]
    c2 := by simp [World.cell?, h2']
    c3 := by simp [World.cell?, h2', Dk.new]
    c4 := by simp [World.cell?, h2', Dk.new]
    c5 := by simp [World.cell?, h2', Dk.new]
    c6 := by simp [World.cell?, h2', Dk.new]
    fr := fun o => by simp [World.frozen?, h2']
    fs := newSecs_secs W bf m hF
    cs := newSecs_secs W bc m hC
    ls := ⟨by simp [Dk.new, cellsL], .inl ⟨rfl, rfl⟩⟩
    lok := fun x hx => by cases hx }

theorem new_any (z : Int) (w : World) (hg : 7 ≤ w.heap.size) :
    Calls Tryz.prog 7 #[.int .i64 z] w (Made (clampN z) w) := by
  have hm : min (max z 1) 2000 = (clampN z : Int) := by unfold clampN; omega
  have hle := clampN_le z
  generalize clampN z = m at hm hle
  have hmk := make_sectors m hle.2
  go_enter Tryz.func7, Tryz.ntmps7
  go_wp2
  go_region
  all_goals (go_wp2; go_ret)
  · exact made_of w hg m hle.1 hle.2 _ _ (.inl ⟨rfl, rfl⟩)
  · exact made_of w hg m hle.1 hle.2 _ _ (.inr ⟨rfl, rfl⟩)
end Go.Proofs.YtkkjbljhehnmjaaGreatDoor
