/- What a disk of package disk is in memory: its cells, its sectors, what is loose. -/
import Derived.Test.YtggnljfcdohkaaaGreatDoorDkB
import Derived.Deep.AppendLies
import Derived.RegionTactic
import Derived.Laws.MakeOwn
import Derived.Deep.RegionHeld3
import Derived.Deep.WholeRow
import Derived.Lib.BufferWrite
namespace Go.Proofs.YtggnljfcdohkaaaGreatDoor
open Go.RowKit

/-- A disk, as the chapter tells it: so many sectors; what lasts; what is read; what is loose, in order. -/
structure Dk where
  n : Nat
  F : Nat → List UInt8
  C : Nat → List UInt8
  L : List (Nat × List UInt8)
  writes : Nat
  dead : Bool
  cut : Bool
  left : Nat

/-- The cells of a loose Write. -/
def cellsW (x : Nat × List UInt8) : List Value := .int .i64 (x.1 : Int) :: bytesV x.2
def cellsL (L : List (Nat × List UInt8)) : List Value := L.flatMap cellsW

/-- So many sectors lie in block 'g'. -/
def Secs (w : World) (g n : Nat) (F : Nat → List UInt8) : Prop := ∀ k, k < n → (F k).length = 64 ∧ w.rangeAt g (k * 64) (bytesV (F k)) ∧ w.there g (k * 64) 64

structure DkAt (w : World) (b bf bc : Nat) (lv : Value) (S : Dk) : Prop where
  n1 : 1 ≤ S.n
  n2 : S.n ≤ 2000
  ne1 : bf ≠ b
  ne2 : bc ≠ b
  ne3 : bf ≠ bc
  nl : ∀ g, lv.ownBlock = some g → g ≠ b ∧ g ≠ bf ∧ g ≠ bc
  hb : 7 ≤ b
  hf : 7 ≤ bf
  hc : 7 ≤ bc
  c0 : w.cell? ⟨b, 0, none⟩ = some (.slice (some ⟨bf, 0, none⟩) S.n S.n)
  c1 : w.cell? ⟨b, 1, none⟩ = some (.slice (some ⟨bc, 0, none⟩) S.n S.n)
  c2 : w.cell? ⟨b, 2, none⟩ = some lv
  c3 : w.cell? ⟨b, 3, none⟩ = some (.int .i64 (S.writes : Int))
  c4 : w.cell? ⟨b, 4, none⟩ = some (.bool S.dead)
  c5 : w.cell? ⟨b, 5, none⟩ = some (.bool S.cut)
  c6 : w.cell? ⟨b, 6, none⟩ = some (.int .i64 (S.left : Int))
  fr : ∀ o, w.frozen? ⟨b, o, none⟩ = false
  fs : Secs w bf S.n S.F
  cs : Secs w bc S.n S.C
  ls : w.ownsRow 7 91 65 lv S.L.length (cellsL S.L)
  lok : ∀ x ∈ S.L, x.1 < S.n ∧ x.2.length = 64

/-- The blocks of a disk. -/
def foot (b bf bc : Nat) (lv : Value) : List Nat := b :: bf :: bc :: lv.ownBlock.toList

theorem lt_of_cell {w : World} {a : Addr} {v : Value} (h : w.cell? a = some v) : a.block < w.heap.size := World.block_lt_of_cell? w a h
theorem lt_of_range {w : World} {b o : Nat} {cs : List Value} (h : w.rangeAt b o cs) (hp : 0 < cs.length) : b < w.heap.size := by
  have := h 0 _ (List.getElem?_eq_getElem hp)
  exact lt_of_cell this
theorem DkAt.lb {w : World} {b bf bc : Nat} {lv : Value} {S : Dk} (h : DkAt w b bf bc lv S) : b < w.heap.size := lt_of_cell h.c0
theorem DkAt.lf {w : World} {b bf bc : Nat} {lv : Value} {S : Dk} (h : DkAt w b bf bc lv S) : bf < w.heap.size := by
  have h0 := h.fs 0 h.n1
  exact lt_of_range h0.2.1 (by simp [h0.1])
theorem DkAt.lc {w : World} {b bf bc : Nat} {lv : Value} {S : Dk} (h : DkAt w b bf bc lv S) : bc < w.heap.size := by
  have h0 := h.cs 0 h.n1
  exact lt_of_range h0.2.1 (by simp [h0.1])
theorem DkAt.ll {w : World} {b bf bc : Nat} {lv : Value} {S : Dk} (h : DkAt w b bf bc lv S) : ∀ g, lv.ownBlock = some g → 7 ≤ g ∧ g < w.heap.size := by
  intro g hg
  rcases h.ls.2 with ⟨rfl, _⟩ | ⟨g2, cap, cur, rfl, hb, hh, _⟩
  · cases hg
  · obtain rfl : g2 = g := by simpa [Value.ownBlock] using hg
    refine ⟨hb, ?_⟩
    rcases Nat.lt_or_ge g2 w.heap.size with hlt | hge
    · exact hlt
    · rw [Array.getElem?_eq_none hge] at hh; cases hh
/-- The loose row's value. -/
theorem DkAt.form {w : World} {b bf bc : Nat} {lv : Value} {S : Dk} (h : DkAt w b bf bc lv S) : ∃ a cap, lv = .slice a S.L.length cap := by
  rcases h.ls.2 with ⟨rfl, h0⟩ | ⟨g2, cap, cur, rfl, hb, hh, _⟩
  · exact ⟨none, 0, by rw [h0]⟩
  · exact ⟨_, cap, rfl⟩
theorem Kp.secs {f : List Nat} {w w2 : World} (h : Kp f w w2) {g n : Nat} {F : Nat → List UInt8} (hs : Secs w g n F) (hp : g ∉ f) : Secs w2 g n F := fun k hk => by
  obtain ⟨h1, h2, h3⟩ := hs k hk
  have hl := lt_of_range h2 (by simp [h1])
  exact ⟨h1, h.range h2 hl hp, h.there h3 hl hp⟩
/-- Where none of the disk's blocks may have changed, the disk is as it was. -/
theorem DkAt.keep {f : List Nat} {w w2 : World} {b bf bc : Nat} {lv : Value} {S : Dk} (h : DkAt w b bf bc lv S) (k : Kp f w w2) (hd : ∀ x ∈ foot b bf bc lv, x ∉ f) : DkAt w2 b bf bc lv S := by
  have hb : b ∉ f := hd b (by simp [foot])
  have hbf : bf ∉ f := hd bf (by simp [foot])
  have hbc : bc ∉ f := hd bc (by simp [foot])
  have lb := h.lb
  exact { h with
    c0 := by rw [k.cell (p := ⟨b, 0, none⟩) lb hb]; exact h.c0
    c1 := by rw [k.cell (p := ⟨b, 1, none⟩) lb hb]; exact h.c1
    c2 := by rw [k.cell (p := ⟨b, 2, none⟩) lb hb]; exact h.c2
    c3 := by rw [k.cell (p := ⟨b, 3, none⟩) lb hb]; exact h.c3
    c4 := by rw [k.cell (p := ⟨b, 4, none⟩) lb hb]; exact h.c4
    c5 := by rw [k.cell (p := ⟨b, 5, none⟩) lb hb]; exact h.c5
    c6 := by rw [k.cell (p := ⟨b, 6, none⟩) lb hb]; exact h.c6
    fr := fun o => by rw [k.frozen (p := ⟨b, o, none⟩) lb hb]; exact h.fr o
    fs := k.secs h.fs hbf
    cs := k.secs h.cs hbc
    ls := k.owns h.ls (fun g hg => hd g (by simp [foot, hg])) }
theorem DkAt.new {w w2 : World} {b bf bc : Nat} {lv : Value} {S : Dk} (h : DkAt w b bf bc lv S) (k : Kp [] w w2) : DkAt w2 b bf bc lv S := h.keep k (by simp)

/-- The sector that Read tells. -/
def Dk.read (S : Dk) (k : Nat) : ByteArray := ⟨(S.C k).toArray⟩

set_option maxHeartbeats 800000 in
theorem read_ok {w : World} {b bf bc : Nat} {lv : Value} {S : Dk} (h : DkAt w b bf bc lv S) (hd : S.dead = false) (k : Nat) (hk : k < S.n) :
    Calls Tryz.prog 25 #[.pointer (some ⟨b, 0, none⟩), .int .i64 (k : Int)] w fun e w2 => e = .returned (.tuple #[.string (S.read k), .nilIface]) ∧ w = w2 := by
  obtain ⟨hl, hr, _⟩ := h.cs k hk
  have h4 := h.c4
  rw [hd] at h4
  have h1 := h.c1
  have hn := h.n2
  have hcv : (convert 94 9 (.slice (some ⟨bc, k * 64, none⟩) 64 64)).run Tryz.prog w = .ok (.string (S.read k)) w := by
    have hq := run_convert_bytes_back (P := Tryz.prog) w 94 9 5 ⟨bc, k * 64, none⟩ 64 (S.C k) Tryz.underlying94 Tryz.underlying5 Tryz.underlying9 (fun j hj => by
      rw [Addr.add_mid]
      exact hr j _ (by rw [bytesV, List.getElem?_map, List.getElem?_eq_getElem hj]; rfl))
    rw [hl] at hq
    exact hq
  clear h hr hl hd
  have hk1 : (k : Int) < (S.n : Int) := by omega
  go_enter Tryz.func25, Tryz.ntmps25
  go_wp2_with (go_at_call 52; refine (reach_ok b S.n S.n _ k _ _ h4 h1 (by omega) (by omega)).mono ?_; rintro e w' ⟨rfl, rfl⟩)
  go_ret2
  exact ⟨rfl, rfl⟩
end Go.Proofs.YtggnljfcdohkaaaGreatDoor
/- Contract of disk.New: so many sectors of bytes 0, nothing loose. -/
namespace Go.Proofs.YtggnljfcdohkaaaGreatDoor
open Go.RowKit

/-- A zero sector's cells. -/
def zSec : List UInt8 := List.replicate 64 0
def zVal : Value := .agg (List.replicate 64 (Value.int .u8 0)).toArray
/-- The block of a new row of sectors. -/
def newSecs (m : Nat) : Obj := .cells (madeCells zVal.cells (m * 64)) 89
theorem infoSector : (Tryz.prog.info? 89).map (fun i => (i.size, i.bytes, i.zero)) = some (64, 64, some zVal) := by kernel_rfl
theorem make_sectors (m : Nat) (hm : m ≤ 2000) (w : World) : (Instr.makeSlice 64 (.int .i64 (m : Int)) (.int .i64 (m : Int))).run Tryz.prog w = .ok (.slice (some ⟨w.heap.size, 0, none⟩) m m) (w.alloc (newSecs m)) := by
  obtain ⟨i, hi, hx⟩ := Option.map_eq_some_iff.1 infoSector
  simp only [Prod.mk.injEq] at hx
  obtain ⟨h1, h2, h3⟩ := hx
  have := run_make (P := Tryz.prog) w 64 89 i zVal Tryz.underlying64 hi h3 .i64 .i64 m m (by omega) (by omega) (by rw [h2]; omega) (by omega)
  rw [this, h1]
  simp [newSecs]
theorem newSecs_cell (m k : Nat) (hk : k < m * 64) : (madeCells zVal.cells (m * 64))[k]? = some (Value.int .u8 0) := by
  unfold madeCells
  rw [Array.getElem?_map, Array.getElem?_range]
  simp only [hk, if_true, Option.map_some, Option.some.injEq]
  have hz : zVal.cells = (List.replicate 64 (Value.int .u8 0)).toArray := rfl
  have hs : zVal.cells.size = 64 := by rw [hz]; simp
  rw [hs]
  have hl : k % 64 < zVal.cells.size := by rw [hs]; omega
  rw [getElem!_pos zVal.cells (k % 64) hl]
  simp only [hz]
  rw [List.getElem_toArray, List.getElem_replicate]
theorem newSecs_secs (w : World) (g m : Nat) (hg : w.heap[g]? = some (newSecs m)) : Secs w g m (fun _ => zSec) := by
  intro k hk
  have hcell : ∀ j, j < 64 → w.cell? ⟨g, k * 64 + j, none⟩ = some (Value.int .u8 0) := by
    intro j hj
    simp only [World.cell?, hg, newSecs]
    exact newSecs_cell m _ (by omega)
  refine ⟨by simp [zSec], ?_, ?_⟩
  · intro j v hv
    have hz : bytesV zSec = List.replicate 64 (Value.int .u8 0) := by unfold bytesV zSec; rw [List.map_replicate]; rfl
    have hj : j < 64 := by
      have := (List.getElem?_eq_some_iff.1 hv).1
      rwa [hz, List.length_replicate] at this
    rw [hcell j hj, ← hv]
    show _ = (bytesV zSec)[j]?
    rw [hz, List.getElem?_replicate, if_pos hj]
  · intro j hj
    refine ⟨by rw [hcell j hj]; rfl, ?_⟩
    simp [World.frozen?, hg, newSecs]

/-- A new disk. -/
def Dk.new (m : Nat) : Dk := { n := m, F := fun _ => zSec, C := fun _ => zSec, L := [], writes := 0, dead := false, cut := false, left := 0 }
/-- How many sectors a new disk has. -/
def clampN (z : Int) : Nat := (min (max z 1) 2000).toNat
theorem clampN_le (z : Int) : 1 ≤ clampN z ∧ clampN z ≤ 2000 := by unfold clampN; omega

/-- What New comes to. -/
def Made (m : Nat) (w : World) (e : Ending) (w2 : World) : Prop :=
  ∃ b bf bc, e = .returned (.pointer (some ⟨b, 0, none⟩)) ∧ DkAt w2 b bf bc (.slice none 0 0) (Dk.new m) ∧ Kp [] w w2 ∧ w.heap.size ≤ b ∧ w.heap.size ≤ bf ∧ w.heap.size ≤ bc ∧ b < w2.heap.size ∧ bf < w2.heap.size ∧ bc < w2.heap.size

theorem made_of (w : World) (hg : 7 ≤ w.heap.size) (m : Nat) (h1 : 1 ≤ m) (h2 : m ≤ 2000) (bf bc : Nat) (hb : (bf = w.heap.size ∧ bc = w.heap.size + 1) ∨ (bf = w.heap.size + 1 ∧ bc = w.heap.size)) :
    Made m w (.returned (.pointer (some ⟨w.heap.size + 1 + 1, 0, none⟩))) (((w.alloc (newSecs m)).alloc (newSecs m)).alloc (Obj.cells
          #[Value.slice (some ⟨bf, 0, none⟩) m m, Value.slice (some ⟨bc, 0, none⟩) m m, Value.slice none 0 0,
            Value.int IntKind.i64 0, Value.bool false, Value.bool false, Value.int IntKind.i64 0] 67)).drew := by
  have hsz : (((w.alloc (newSecs m)).alloc (newSecs m)).alloc (Obj.cells
          #[Value.slice (some ⟨bf, 0, none⟩) m m, Value.slice (some ⟨bc, 0, none⟩) m m, Value.slice none 0 0,
            Value.int IntKind.i64 0, Value.bool false, Value.bool false, Value.int IntKind.i64 0] 67)).drew.heap.size = w.heap.size + 3 := by simp [World.drew]
  have h0 : (((w.alloc (newSecs m)).alloc (newSecs m)).alloc (Obj.cells
          #[Value.slice (some ⟨bf, 0, none⟩) m m, Value.slice (some ⟨bc, 0, none⟩) m m, Value.slice none 0 0,
            Value.int IntKind.i64 0, Value.bool false, Value.bool false, Value.int IntKind.i64 0] 67)).drew.heap[w.heap.size]? = some (newSecs m) := by
    show (((w.heap.push _).push _).push _)[w.heap.size]? = _
    rw [Array.getElem?_push, if_neg (by simp only [Array.size_push]; omega), Array.getElem?_push, if_neg (by simp only [Array.size_push]; omega), Array.getElem?_push, if_pos rfl]
  have h1' : (((w.alloc (newSecs m)).alloc (newSecs m)).alloc (Obj.cells
          #[Value.slice (some ⟨bf, 0, none⟩) m m, Value.slice (some ⟨bc, 0, none⟩) m m, Value.slice none 0 0,
            Value.int IntKind.i64 0, Value.bool false, Value.bool false, Value.int IntKind.i64 0] 67)).drew.heap[w.heap.size + 1]? = some (newSecs m) := by
    show (((w.heap.push _).push _).push _)[w.heap.size + 1]? = _
    rw [Array.getElem?_push, if_neg (by simp only [Array.size_push]; omega), Array.getElem?_push, if_pos (by simp only [Array.size_push])]
  have h2' : (((w.alloc (newSecs m)).alloc (newSecs m)).alloc (Obj.cells
          #[Value.slice (some ⟨bf, 0, none⟩) m m, Value.slice (some ⟨bc, 0, none⟩) m m, Value.slice none 0 0,
            Value.int IntKind.i64 0, Value.bool false, Value.bool false, Value.int IntKind.i64 0] 67)).drew.heap[w.heap.size + 1 + 1]? = some (Obj.cells
          #[Value.slice (some ⟨bf, 0, none⟩) m m, Value.slice (some ⟨bc, 0, none⟩) m m, Value.slice none 0 0,
            Value.int IntKind.i64 0, Value.bool false, Value.bool false, Value.int IntKind.i64 0] 67) := by
    show (((w.heap.push _).push _).push _)[w.heap.size + 1 + 1]? = _
    rw [Array.getElem?_push, if_pos (by simp only [Array.size_push])]
  have hk := ((((Kp.refl [] w).alloc (newSecs m)).alloc (newSecs m)).alloc (Obj.cells
          #[Value.slice (some ⟨bf, 0, none⟩) m m, Value.slice (some ⟨bc, 0, none⟩) m m, Value.slice none 0 0,
            Value.int IntKind.i64 0, Value.bool false, Value.bool false, Value.int IntKind.i64 0] 67)).drew
  generalize (((w.alloc (newSecs m)).alloc (newSecs m)).alloc (Obj.cells
          #[Value.slice (some ⟨bf, 0, none⟩) m m, Value.slice (some ⟨bc, 0, none⟩) m m, Value.slice none 0 0,
            Value.int IntKind.i64 0, Value.bool false, Value.bool false, Value.int IntKind.i64 0] 67)).drew = W at hsz h0 h1' h2' hk ⊢
  refine ⟨_, bf, bc, rfl, ?_, hk, by omega, by omega, by omega, by omega, by omega, by omega⟩
  have hF : W.heap[bf]? = some (newSecs m) := by rcases hb with ⟨rfl, rfl⟩ | ⟨rfl, rfl⟩ <;> assumption
  have hC : W.heap[bc]? = some (newSecs m) := by rcases hb with ⟨rfl, rfl⟩ | ⟨rfl, rfl⟩ <;> assumption
  exact {
    n1 := h1
    n2 := h2
    ne1 := by omega
    ne2 := by omega
    ne3 := by omega
    nl := fun g hg => by cases hg
    hb := by omega
    hf := by omega
    hc := by omega
    c0 := by simp [World.cell?, h2', Dk.new]
    c1 := by simp [World.cell?, h2', Dk.new]
    c2 := by simp [World.cell?, h2']
    c3 := by simp [World.cell?, h2', Dk.new]
    c4 := by simp [World.cell?, h2', Dk.new]
    c5 := by simp [World.cell?, h2', Dk.new]
    c6 := by simp [World.cell?, h2', Dk.new]
    fr := fun o => by simp [World.frozen?, h2']
    fs := newSecs_secs W bf m hF
    cs := newSecs_secs W bc m hC
    ls := ⟨by simp [Dk.new, cellsL], .inl ⟨rfl, rfl⟩⟩
    lok := fun x hx => by cases hx }

theorem new_any (z : Int) (w : World) (hg : 7 ≤ w.heap.size) :
    Calls Tryz.prog 5 #[.int .i64 z] w (Made (clampN z) w) := by
  have hm : min (max z 1) 2000 = (clampN z : Int) := by unfold clampN; omega
  have hle := clampN_le z
  generalize clampN z = m at hm hle
  have hmk := make_sectors m hle.2
  go_enter Tryz.func5, Tryz.ntmps5
  go_wp2
  go_region
  all_goals (go_wp2; go_ret)
  · exact made_of w hg m hle.1 hle.2 _ _ (.inl ⟨rfl, rfl⟩)
  · exact made_of w hg m hle.1 hle.2 _ _ (.inr ⟨rfl, rfl⟩)
end Go.Proofs.YtggnljfcdohkaaaGreatDoor
/- Contract of (*disk.Disk).Write where the Write is done. -/
namespace Go.Proofs.YtggnljfcdohkaaaGreatDoor
open Go.RowKit

/-- Bytes filled up to a sector. -/
def fillUp (s : ByteArray) : List UInt8 := s.data.toList ++ List.replicate (64 - s.size) 0
theorem fillUp_length (s : ByteArray) (h : s.size ≤ 64) : (fillUp s).length = 64 := by
  have : s.data.toList.length = s.size := rfl
  simp only [fillUp, List.length_append, List.length_replicate, this]; omega
/-- A loose Write in a block of its own. -/
def wBlk (k : Nat) (l : List UInt8) : Obj := .cells (cellsW (k, l)).toArray 91
theorem zeroW (k : Nat) : Tryz.zeroCells91.setIfInBounds 0 (.int .i64 (k : Int)) = (cellsW (k, zSec)).toArray := by kernel_rfl
theorem infoWrite : (Tryz.prog.info? 91).map (fun i => (i.zero, i.size, i.bytes)) = some (some (.agg Tryz.zeroCells91), 65, 72) := by kernel_rfl
theorem cellsW_one (k : Nat) (l : List UInt8) : ∀ v ∈ cellsW (k, l), v.oneCell' = true := by
  intro v hv
  rcases List.mem_cons.1 hv with rfl | hv
  · rfl
  · exact bytesV_one l v hv
theorem size_zeroW : Tryz.zeroCells91.size = 65 := by kernel_rfl
theorem store_w (k : Nat) (w : World) : (storeCells ⟨w.heap.size, 0, none⟩ (Tryz.zeroCells91.toList.set 0 (.int .i64 (k : Int)))).run Tryz.prog (w.alloc (.cells Tryz.zeroCells91 91)) = .ok () (w.alloc (wBlk k zSec)) := by
  have hz := zeroW k
  have hl : (cellsW (k, zSec)).toArray.size = 65 := by simp [cellsW, zSec]
  have := run_storeCells_new (P := Tryz.prog) w 91 Tryz.zeroCells91 (cellsW (k, zSec)).toArray (by
    obtain ⟨i, hi, hx⟩ := Option.map_eq_some_iff.1 infoWrite
    simp only [Prod.mk.injEq] at hx
    rw [hi, Option.map_some, hx.2.1, hl]) (by rw [size_zeroW, hl]) (all_oneCell_toArray (cellsW_one k zSec))
  rw [← hz] at this
  rw [Array.toList_setIfInBounds] at this
  rw [hz] at this
  exact this
set_option maxRecDepth 20000 in
theorem copy_w (k : Nat) (s : ByteArray) (hs : s.size ≤ 64) (w : World) : (Builtin.copy_ #[94, 9] 3 #[.slice (some ⟨w.heap.size, 1, none⟩) 64 64, .string s]).run Tryz.prog (w.alloc (wBlk k zSec)) = .ok (goInt s.size) (w.alloc (wBlk k (fillUp s))) := by
  have hg : (w.alloc (wBlk k zSec)).heap[w.heap.size]? = some (.cells (cellsW (k, zSec)).toArray 91 (0, 0)) := by
    show (w.heap.push _)[w.heap.size]? = _
    rw [Array.getElem?_push, if_pos rfl]; rfl
  have hl : (cellsW (k, zSec)).length = 65 := by simp [cellsW, zSec]
  have := Lib.run_copy_row_string (P := Tryz.prog) (w.alloc (wBlk k zSec)) 94 9 3 5 w.heap.size 1 64 64 s _ 91 Tryz.underlying94 (by kernel_rfl) hg hs (by simp only [List.size_toArray, hl]; omega)
  rw [this]
  have h2 : (((cellsW (k, zSec)).toArray.toList.take 1 ++ Lib.byteCells s.data.toList ++ (cellsW (k, zSec)).toArray.toList.drop (1 + s.size)).toArray) = (cellsW (k, fillUp s)).toArray := by
    congr 1
    show (cellsW (k, zSec)).take 1 ++ bytesV s.data.toList ++ (cellsW (k, zSec)).drop (1 + s.size) = _
    rw [Nat.add_comm 1 s.size]
    simp only [cellsW, List.take_succ_cons, List.take_zero, List.drop_succ_cons, fillUp, bytesV_append, List.cons_append, List.nil_append]
    congr 2
    unfold zSec bytesV
    rw [List.map_replicate, List.map_replicate, List.drop_replicate]
  rw [h2]
  exact congrArg (Result.ok (goInt s.size)) (World.setRow_alloc_new w (cellsW (k, zSec)).toArray (cellsW (k, fillUp s)).toArray 91)
/-- A pointer to so many cells that lie there, and what they hold. -/
def ptrRow (w : World) (v : Value) (n : Nat) : Prop := ∃ b o cs, v = .pointer (some ⟨b, o, none⟩) ∧ w.rangeAt b o cs ∧ cs.length = n
def ptrCells (w : World) (v : Value) (n : Nat) : Array Value :=
  ((List.range n).map fun j => match v with
    | .pointer (some ⟨b, o, _⟩) => (w.cell? ⟨b, o + j, none⟩).getD (.bool false)
    | _ => .bool false).toArray
theorem ptrCells_of {w : World} {b o n : Nat} {cs : List Value} (h : w.rangeAt b o cs) (hl : cs.length = n) : ptrCells w (.pointer (some ⟨b, o, none⟩)) n = cs.toArray := by
  unfold ptrCells
  congr 1
  apply List.ext_getElem
  · simp [hl]
  · intro j h1 h2
    simp only [List.getElem_map, List.getElem_range]
    rw [h j _ (List.getElem?_eq_getElem h2)]
    rfl
/-- A load of a whole loose Write: taken as one step. -/
theorem wp_load_write {dst : Option Tmp} {x : Operand} {ty : TypeId} {pos : String} {after : Array Edge} {guard : Option (Nat × Bool)} {a : Act} {w : World} {K : Act → World → Prop} {Q : Exit → Act → World → Prop}
    (h : ptrRow w (a.eval x) 65) : Oper.wp Tryz.prog { dst := dst, op := .load 91 x, type := ty, pos := pos, after := after, guard := guard } a w K Q = K (a.put dst (.agg (ptrCells w (a.eval x) 65))) w := by
  obtain ⟨b, o, cs, hv, hr, hl⟩ := h
  rw [hv, ptrCells_of hr hl]
  unfold Oper.wp execOp
  simp only [hv, Instr.loadAt, Instr.sureAddr, Sem.run_bind, Sem.run_pure, Result.andThen_ok, run_loadVar_mid w b o 91 cs _ hr Tryz.underlying91 rfl (by rw [hl]; kernel_rfl)]
  rfl
/-- A value of as many cells as a loose Write has. -/
def rowVal (v : Value) : Prop := ∃ c, v = .agg c ∧ c.size = 65
def rowOf : Value → Array Value
  | .agg c => c
  | _ => #[]
theorem set_all (c : List Value) : ∀ (pre : List Value) (rest : Array Value), rest.toList.take pre.length = pre → rest.size = pre.length + c.length →
    ((c.zipIdx pre.length).foldl (fun (cs : Array Value) x => cs.setIfInBounds x.2 x.1) rest) = (pre ++ c).toArray := by
  induction c with
  | nil =>
    intro pre rest h1 h2
    simp only [List.zipIdx_nil, List.foldl_nil, List.append_nil]
    apply Array.ext'
    rw [← h1, List.take_of_length_le (by simp at h2 ⊢; omega)]
  | cons v r ih =>
    intro pre rest h1 h2
    simp only [List.zipIdx_cons, List.foldl_cons]
    have hl : pre.length < rest.size := by simp at h2; omega
    have := ih (pre ++ [v]) (rest.setIfInBounds pre.length v) (by
      rw [Array.toList_setIfInBounds, List.length_append, List.length_singleton, List.take_add_one]
      rw [List.take_set_of_le (Nat.le_refl _), h1, List.getElem?_set_self (by simpa using hl)]
      rfl) (by simp at h2 ⊢; omega)
    rw [List.length_append, List.length_singleton] at this
    rw [this]
    simp
theorem run_buildSlice_write (w : World) (cw : List Value) (hc : cw.length = 65) : (Instr.buildSlice 65 1 #[(0, .agg cw.toArray)]).run Tryz.prog w = .ok (.slice (some ⟨w.heap.size, 0, none⟩) 1 1) (w.alloc (.cells cw.toArray 91)) := by
  have hs := Tryz.sizeOf91
  have hz := Tryz.zeroValue91
  have hu := run_underlying (P := Tryz.prog) Tryz.underlying65
  have hf : Instr.fill (fun i => some (i * 65, 65)) ((Array.range (1 * 65)).map (Tryz.zeroCells91[· % Tryz.zeroCells91.size]!)) [(0, Value.agg cw.toArray)] = some cw.toArray := by
    have h0 := set_all cw [] ((Array.range (1 * 65)).map (Tryz.zeroCells91[· % Tryz.zeroCells91.size]!)) (by simp) (by simp; omega)
    have hZ : ((Array.range (1 * 65)).map (Tryz.zeroCells91[· % Tryz.zeroCells91.size]!)).size = 65 := by simp
    generalize (Array.range (1 * 65)).map (Tryz.zeroCells91[· % Tryz.zeroCells91.size]!) = Z at h0 hZ ⊢
    simp only [List.length_nil, List.nil_append] at h0
    simp [Instr.fill, Value.cells, hc]
    exact ⟨by omega, h0⟩
  unfold Instr.buildSlice
  have h1 : ¬ (1 * 65 > 2 ^ 24) := by decide
  have h2 : ¬ (1 * 65 = 0) := by decide
  simp only [Sem.run_bind, hu, hs, Value.cells, Result.andThen_ok, if_neg h1, if_neg h2, Sem.run_pure, hz, hf, newRow]
  rfl
/-- The making of a row of one loose Write: taken as one step. -/
theorem wp_buildSlice_write {dst : Option Tmp} {x : Operand} {ty : TypeId} {pos : String} {after : Array Edge} {guard : Option (Nat × Bool)} {a : Act} {w : World} {K : Act → World → Prop} {Q : Exit → Act → World → Prop}
    (h : rowVal (a.eval x)) : Oper.wp Tryz.prog { dst := dst, op := .buildSlice 65 1 #[(0, x)], type := ty, pos := pos, after := after, guard := guard } a w K Q = K (a.put dst (.slice (some ⟨w.heap.size, 0, none⟩) 1 1)) (w.alloc (.cells (rowOf (a.eval x)) 91)) := by
  obtain ⟨c, hv, hl⟩ := h
  rw [hv]
  obtain ⟨cw, rfl⟩ : ∃ cw : List Value, c = cw.toArray := ⟨c.toList, by simp⟩
  unfold Oper.wp execOp
  simp only [hv, List.map_toArray, List.map_cons, List.map_nil, Sem.run_bind, run_buildSlice_write w cw (by simpa using hl), Result.andThen_ok]
  rfl
@[simp] theorem rowOf_agg (c : Array Value) : rowOf (.agg c) = c := rfl
theorem cell_wBlk {w : World} {T k : Nat} {l : List UInt8} (h : w.heap[T]? = some (wBlk k l)) (j : Nat) : w.cell? ⟨T, j, none⟩ = (cellsW (k, l))[j]? := by
  simp [World.cell?, h, wBlk]
theorem range_wBlk {w : World} {T k : Nat} {l : List UInt8} (h : w.heap[T]? = some (wBlk k l)) : w.rangeAt T 0 (cellsW (k, l)) ∧ w.rangeAt T 1 (bytesV l) := by
  refine ⟨fun j v hv => by rw [Nat.zero_add, cell_wBlk h]; exact hv, fun j v hv => ?_⟩
  rw [cell_wBlk h, Nat.add_comm 1 j]
  exact hv
end Go.Proofs.YtggnljfcdohkaaaGreatDoor
