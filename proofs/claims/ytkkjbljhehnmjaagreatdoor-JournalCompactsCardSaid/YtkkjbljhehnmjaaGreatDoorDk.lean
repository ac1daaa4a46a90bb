/- What a disk of package disk is in memory: its cells, its sectors, what is loose. -/
import Derived.Test.YtkkjbljhehnmjaaGreatDoorDkB
import Derived.Deep.AppendLies
namespace Go.Proofs.YtkkjbljhehnmjaaGreatDoor
open Go.RowKit

/-- A disk, as the chapter tells it: so many sectors; what lasts; what is read; what is loose, in order. -/
structure Dk where
  n : Nat
  F : Nat → List UInt8
  C : Nat → List UInt8
  L : List (Nat × List UInt8)
  writes : Nat
  dead : Bool
  cut : Bool
  left : Nat

/-- The cells of a loose Write. -/
def cellsW (x : Nat × List UInt8) : List Value := .int .i64 (x.1 : Int) :: bytesV x.2
def cellsL (L : List (Nat × List UInt8)) : List Value := L.flatMap cellsW

/-- So many sectors lie in block 'g'. -/
def Secs (w : World) (g n : Nat) (F : Nat → List UInt8) : Prop := ∀ k, k < n → (F k).length = 64 ∧ w.rangeAt g (k * 64) (bytesV (F k)) ∧ w.there g (k * 64) 64

structure DkAt (w : World) (b bf bc : Nat) (lv : Value) (S : Dk) : Prop where
  n1 : 1 ≤ S.n
  n2 : S.n ≤ 2000
  ne1 : bf ≠ b
  ne2 : bc ≠ b
  ne3 : bf ≠ bc
  nl : ∀ g, lv.ownBlock = some g → g ≠ b ∧ g ≠ bf ∧ g ≠ bc
  hb : 7 ≤ b
  hf : 7 ≤ bf
  hc : 7 ≤ bc
  c0 : w.cell? ⟨b, 0, none⟩ = some (.slice (some ⟨bf, 0, none⟩) S.n S.n)
  c1 : w.cell? ⟨b, 1, none⟩ = some (.slice (some ⟨bc, 0, none⟩) S.n S.n)
  c2 : w.cell? ⟨b, 2, none⟩ = some lv
  c3 : w.cell? ⟨b, 3, none⟩ = some (.int .i64 (S.writes : Int))
  c4 : w.cell? ⟨b, 4, none⟩ = some (.bool S.dead)
  c5 : w.cell? ⟨b, 5, none⟩ = some (.bool S.cut)
  c6 : w.cell? ⟨b, 6, none⟩ = some (.int .i64 (S.left : Int))
  fr : ∀ o, w.frozen? ⟨b, o, none⟩ = false
  fs : Secs w bf S.n S.F
  cs : Secs w bc S.n S.C
  ls : w.ownsRow 7 97 65 lv S.L.length (cellsL S.L)
  lok : ∀ x ∈ S.L, x.1 < S.n ∧ x.2.length = 64

/-- The blocks of a disk. -/
def foot (b bf bc : Nat) (lv : Value) : List Nat := b :: bf :: bc :: lv.ownBlock.toList

theorem lt_of_cell {w : World} {a : Addr} {v : Value} (h : w.cell? a = some v) : a.block < w.heap.size := World.block_lt_of_cell? w a h
theorem lt_of_range {w : World} {b o : Nat} {cs : List Value} (h : w.rangeAt b o cs) (hp : 0 < cs.length) : b < w.heap.size := by
  have := h 0 _ (List.getElem?_eq_getElem hp)
  exact lt_of_cell this
theorem DkAt.lb {w : World} {b bf bc : Nat} {lv : Value} {S : Dk} (h : DkAt w b bf bc lv S) : b < w.heap.size := lt_of_cell h.c0
theorem DkAt.lf {w : World} {b bf bc : Nat} {lv : Value} {S : Dk} (h : DkAt w b bf bc lv S) : bf < w.heap.size := by
  have h0 := h.fs 0 h.n1
  exact lt_of_range h0.2.1 (by simp [h0.1])
theorem DkAt.lc {w : World} {b bf bc : Nat} {lv : Value} {S : Dk} (h : DkAt w b bf bc lv S) : bc < w.heap.size := by
  have h0 := h.cs 0 h.n1
  exact lt_of_range h0.2.1 (by simp [h0.1])
theorem DkAt.ll {w : World} {b bf bc : Nat} {lv : Value} {S : Dk} (h : DkAt w b bf bc lv S) : ∀ g, lv.ownBlock = some g → 7 ≤ g ∧ g < w.heap.size := by
  intro g hg
  rcases h.ls.2 with ⟨rfl, _⟩ | ⟨g2, cap, cur, rfl, hb, hh, _⟩
  · cases hg
  · obtain rfl : g2 = g := by simpa [Value.ownBlock] using hg
    refine ⟨hb, ?_⟩
    rcases Nat.lt_or_ge g2 w.heap.size with hlt | hge
    · exact hlt
    · rw [Array.getElem?_eq_none hge] at hh; cases hh
/-- The loose row's value. -/
theorem DkAt.form {w : World} {b bf bc : Nat} {lv : Value} {S : Dk} (h : DkAt w b bf bc lv S) : ∃ a cap, lv = .slice a S.L.length cap := by
  rcases h.ls.2 with ⟨rfl, h0⟩ | ⟨g2, cap, cur, rfl, hb, hh, _⟩
  · exact ⟨none, 0, by rw [h0]⟩
  · exact ⟨_, cap, rfl⟩
theorem Kp.secs {f : List Nat} {w w2 : World} (h : Kp f w w2) {g n : Nat} {F : Nat → List UInt8} (hs : Secs w g n F) (hp : g ∉ f) : Secs w2 g n F := fun k hk => by
  obtain ⟨h1, h2, h3⟩ := hs k hk
  have hl := lt_of_range h2 (by simp [h1])
  exact ⟨h1, h.range h2 hl hp, h.there h3 hl hp⟩
/-- Where none of the disk's blocks may have changed, the disk is as it was. -/
theorem DkAt.keep {f : List Nat} {w w2 : World} {b bf bc : Nat} {lv : Value} {S : Dk} (h : DkAt w b bf bc lv S) (k : Kp f w w2) (hd : ∀ x ∈ foot b bf bc lv, x ∉ f) : DkAt w2 b bf bc lv S := by
  have hb : b ∉ f := hd b (by simp [foot])
  have hbf : bf ∉ f := hd bf (by simp [foot])
  have hbc : bc ∉ f := hd bc (by simp [foot])
  have lb := h.lb
  exact { h with
    c0 := by rw [k.cell (p := ⟨b, 0, none⟩) lb hb]; exact h.c0
    c1 := by rw [k.cell (p := ⟨b, 1, none⟩) lb hb]; exact h.c1
    c2 := by rw [k.cell (p := ⟨b, 2, none⟩) lb hb]; exact h.c2
    c3 := by rw [k.cell (p := ⟨b, 3, none⟩) lb hb]; exact h.c3
    c4 := by rw [k.cell (p := ⟨b, 4, none⟩) lb hb]; exact h.c4
    c5 := by rw [k.cell (p := ⟨b, 5, none⟩) lb hb]; exact h.c5
    c6 := by rw [k.cell (p := ⟨b, 6, none⟩) lb hb]; exact h.c6
    fr := fun o => by rw [k.frozen (p := ⟨b, o, none⟩) lb hb]; exact h.fr o
    fs := k.secs h.fs hbf
    cs := k.secs h.cs hbc
    ls := k.owns h.ls (fun g hg => hd g (by simp [foot, hg])) }
theorem DkAt.new {w w2 : World} {b bf bc : Nat} {lv : Value} {S : Dk} (h : DkAt w b bf bc lv S) (k : Kp [] w w2) : DkAt w2 b bf bc lv S := h.keep k (by simp)

/-- The sector that Read tells. -/
def Dk.read (S : Dk) (k : Nat) : ByteArray := ⟨(S.C k).toArray⟩

set_option maxHeartbeats 800000 in
theorem read_ok {w : World} {b bf bc : Nat} {lv : Value} {S : Dk} (h : DkAt w b bf bc lv S) (hd : S.dead = false) (k : Nat) (hk : k < S.n) :
    Calls Tryz.prog 27 #[.pointer (some ⟨b, 0, none⟩), .int .i64 (k : Int)] w fun e w2 => e = .returned (.tuple #[.string (S.read k), .nilIface]) ∧ w = w2 := by
  obtain ⟨hl, hr, _⟩ := h.cs k hk
  have h4 := h.c4
  rw [hd] at h4
  have h1 := h.c1
  have hn := h.n2
  have hcv : (convert 100 9 (.slice (some ⟨bc, k * 64, none⟩) 64 64)).run Tryz.prog w = .ok (.string (S.read k)) w := by
    have hq := run_convert_bytes_back (P := Tryz.prog) w 100 9 5 ⟨bc, k * 64, none⟩ 64 (S.C k) Tryz.underlying100 Tryz.underlying5 Tryz.underlying9 (fun j hj => by
      rw [Addr.add_mid]
      exact hr j _ (by rw [bytesV, List.getElem?_map, List.getElem?_eq_getElem hj]; rfl))
    rw [hl] at hq
    exact hq
  clear h hr hl hd
  have hk1 : (k : Int) < (S.n : Int) := by omega
  go_enter Tryz.func27, Tryz.ntmps27
  go_wp2_with (go_at_call 57; refine (reach_ok b S.n S.n _ k _ _ h4 h1 (by omega) (by omega)).mono ?_; rintro e w' ⟨rfl, rfl⟩)
  go_ret2
  exact ⟨rfl, rfl⟩
end Go.Proofs.YtkkjbljhehnmjaaGreatDoor
