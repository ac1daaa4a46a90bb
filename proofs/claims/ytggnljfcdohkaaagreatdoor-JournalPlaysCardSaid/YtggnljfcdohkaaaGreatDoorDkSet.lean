/- What becomes of a disk in memory when one of its cells, one of its sectors, its loose row is written. -/
import Derived.Test.YtggnljfcdohkaaaGreatDoorDkWr
namespace Go.Proofs.YtggnljfcdohkaaaGreatDoor
open Go.RowKit

theorem frozen_setCell (w : World) (a : Addr) (u : Value) (p : Addr) : (w.setCell a u).frozen? p = w.frozen? p := by simp

/-- Sector k replaced. -/
def upd (F : Nat → List UInt8) (k : Nat) (l : List UInt8) : Nat → List UInt8 := fun i => if i = k then l else F i

theorem Secs.set {w : World} {g n : Nat} {F : Nat → List UInt8} (h : Secs w g n F) {k : Nat} (hk : k < n) {l : List UInt8} (hl : l.length = 64) : Secs (w.setCells g (k * 64) (bytesV l)) g n (upd F k l) := by
  intro i hi
  obtain ⟨h1, h2, h3⟩ := h i hi
  by_cases e : i = k
  · subst e
    refine ⟨by simp [upd, hl], ?_, World.there_setCells h3 _ _ _⟩
    simp only [upd, if_true]
    exact World.rangeAt_setCells_same w g (i * 64) (bytesV l) (by rw [bytesV_length, hl]; exact h3)
  · refine ⟨by simp [upd, e, h1], ?_, World.there_setCells h3 _ _ _⟩
    simp only [upd, if_neg e]
    exact World.rangeAt_setCells_apart h2 g (k * 64) (bytesV l) (.inr (by simp only [bytesV_length, h1, hl]; omega))

variable {w : World} {b bf bc : Nat} {lv : Value} {S : Dk}
theorem DkAt.notfoot_b (h : DkAt w b bf bc lv S) : bf ∉ [b] ∧ bc ∉ [b] ∧ ∀ g, lv.ownBlock = some g → g ∉ [b] := by
  have := h.ne1; have := h.ne2
  refine ⟨by simpa using h.ne1, by simpa using h.ne2, fun g hg => by simpa using (h.nl g hg).1⟩

theorem Kp.set1 (w : World) (b o : Nat) (v : Value) : Kp [b] w (w.setCell ⟨b, o, none⟩ v) := (Kp.refl [b] w).setCell (p := ⟨b, o, none⟩) (.inl (by simp)) v

theorem cell_ne (w : World) (b i j : Nat) (v : Value) (h : i ≠ j) : (w.setCell ⟨b, i, none⟩ v).cell? ⟨b, j, none⟩ = w.cell? ⟨b, j, none⟩ := World.cell?_setCell_other _ _ _ _ (fun e => h (by injection e))
theorem cell_eq (w : World) (b i : Nat) (v u : Value) (h : w.cell? ⟨b, i, none⟩ = some u) : (w.setCell ⟨b, i, none⟩ v).cell? ⟨b, i, none⟩ = some v := World.cell?_setCell_same _ _ _ h

theorem DkAt.setC (h : DkAt w b bf bc lv S) {k : Nat} (hk : k < S.n) {l : List UInt8} (hl : l.length = 64) :
    DkAt (w.setCells bc (k * 64) (bytesV l)) b bf bc lv { S with C := upd S.C k l } := by
  have kp : Kp [bc] w (w.setCells bc (k * 64) (bytesV l)) := (Kp.refl [bc] w).setCells (.inl (by simp)) _ _
  have lb := h.lb
  have hb : b ∉ [bc] := by simpa using fun e => h.ne2 e.symm
  exact { h with
    c0 := by rw [kp.cell (p := ⟨b, 0, none⟩) lb hb]; exact h.c0
    c1 := by rw [kp.cell (p := ⟨b, 1, none⟩) lb hb]; exact h.c1
    c2 := by rw [kp.cell (p := ⟨b, 2, none⟩) lb hb]; exact h.c2
    c3 := by rw [kp.cell (p := ⟨b, 3, none⟩) lb hb]; exact h.c3
    c4 := by rw [kp.cell (p := ⟨b, 4, none⟩) lb hb]; exact h.c4
    c5 := by rw [kp.cell (p := ⟨b, 5, none⟩) lb hb]; exact h.c5
    c6 := by rw [kp.cell (p := ⟨b, 6, none⟩) lb hb]; exact h.c6
    fr := fun o => by rw [kp.frozen (p := ⟨b, o, none⟩) lb hb]; exact h.fr o
    fs := kp.secs h.fs (by simpa using h.ne3)
    cs := h.cs.set hk hl
    ls := kp.owns h.ls (fun g hg => by simpa using (h.nl g hg).2.2) }
theorem DkAt.setF (h : DkAt w b bf bc lv S) {k : Nat} (hk : k < S.n) {l : List UInt8} (hl : l.length = 64) :
    DkAt (w.setCells bf (k * 64) (bytesV l)) b bf bc lv { S with F := upd S.F k l } := by
  have kp : Kp [bf] w (w.setCells bf (k * 64) (bytesV l)) := (Kp.refl [bf] w).setCells (.inl (by simp)) _ _
  have lb := h.lb
  have hb : b ∉ [bf] := by simpa using fun e => h.ne1 e.symm
  exact { h with
    c0 := by rw [kp.cell (p := ⟨b, 0, none⟩) lb hb]; exact h.c0
    c1 := by rw [kp.cell (p := ⟨b, 1, none⟩) lb hb]; exact h.c1
    c2 := by rw [kp.cell (p := ⟨b, 2, none⟩) lb hb]; exact h.c2
    c3 := by rw [kp.cell (p := ⟨b, 3, none⟩) lb hb]; exact h.c3
    c4 := by rw [kp.cell (p := ⟨b, 4, none⟩) lb hb]; exact h.c4
    c5 := by rw [kp.cell (p := ⟨b, 5, none⟩) lb hb]; exact h.c5
    c6 := by rw [kp.cell (p := ⟨b, 6, none⟩) lb hb]; exact h.c6
    fr := fun o => by rw [kp.frozen (p := ⟨b, o, none⟩) lb hb]; exact h.fr o
    fs := h.fs.set hk hl
    cs := kp.secs h.cs (by simpa using fun e => h.ne3 e.symm)
    ls := kp.owns h.ls (fun g hg => by simpa using (h.nl g hg).2.1) }

theorem DkAt.set3 (h : DkAt w b bf bc lv S) (m : Nat) : DkAt (w.setCell ⟨b, 3, none⟩ (.int .i64 (m : Int))) b bf bc lv { S with writes := m } := by
  have kp := Kp.set1 w b 3 (.int .i64 (m : Int))
  obtain ⟨n1, n2, n3⟩ := h.notfoot_b
  exact { h with
    c0 := by rw [cell_ne _ _ _ _ _ (by decide)]; exact h.c0
    c1 := by rw [cell_ne _ _ _ _ _ (by decide)]; exact h.c1
    c2 := by rw [cell_ne _ _ _ _ _ (by decide)]; exact h.c2
    c3 := cell_eq _ _ _ _ _ h.c3
    c4 := by rw [cell_ne _ _ _ _ _ (by decide)]; exact h.c4
    c5 := by rw [cell_ne _ _ _ _ _ (by decide)]; exact h.c5
    c6 := by rw [cell_ne _ _ _ _ _ (by decide)]; exact h.c6
    fr := fun o => by rw [frozen_setCell]; exact h.fr o
    fs := kp.secs h.fs n1
    cs := kp.secs h.cs n2
    ls := kp.owns h.ls n3 }
theorem DkAt.set4 (h : DkAt w b bf bc lv S) (m : Bool) : DkAt (w.setCell ⟨b, 4, none⟩ (.bool m)) b bf bc lv { S with dead := m } := by
  have kp := Kp.set1 w b 4 (.bool m)
  obtain ⟨n1, n2, n3⟩ := h.notfoot_b
  exact { h with
    c0 := by rw [cell_ne _ _ _ _ _ (by decide)]; exact h.c0
    c1 := by rw [cell_ne _ _ _ _ _ (by decide)]; exact h.c1
    c2 := by rw [cell_ne _ _ _ _ _ (by decide)]; exact h.c2
    c3 := by rw [cell_ne _ _ _ _ _ (by decide)]; exact h.c3
    c4 := cell_eq _ _ _ _ _ h.c4
    c5 := by rw [cell_ne _ _ _ _ _ (by decide)]; exact h.c5
    c6 := by rw [cell_ne _ _ _ _ _ (by decide)]; exact h.c6
    fr := fun o => by rw [frozen_setCell]; exact h.fr o
    fs := kp.secs h.fs n1
    cs := kp.secs h.cs n2
    ls := kp.owns h.ls n3 }
theorem DkAt.set5 (h : DkAt w b bf bc lv S) (m : Bool) : DkAt (w.setCell ⟨b, 5, none⟩ (.bool m)) b bf bc lv { S with cut := m } := by
  have kp := Kp.set1 w b 5 (.bool m)
  obtain ⟨n1, n2, n3⟩ := h.notfoot_b
  exact { h with
    c0 := by rw [cell_ne _ _ _ _ _ (by decide)]; exact h.c0
    c1 := by rw [cell_ne _ _ _ _ _ (by decide)]; exact h.c1
    c2 := by rw [cell_ne _ _ _ _ _ (by decide)]; exact h.c2
    c3 := by rw [cell_ne _ _ _ _ _ (by decide)]; exact h.c3
    c4 := by rw [cell_ne _ _ _ _ _ (by decide)]; exact h.c4
    c5 := cell_eq _ _ _ _ _ h.c5
    c6 := by rw [cell_ne _ _ _ _ _ (by decide)]; exact h.c6
    fr := fun o => by rw [frozen_setCell]; exact h.fr o
    fs := kp.secs h.fs n1
    cs := kp.secs h.cs n2
    ls := kp.owns h.ls n3 }
theorem DkAt.set6 (h : DkAt w b bf bc lv S) (m : Nat) : DkAt (w.setCell ⟨b, 6, none⟩ (.int .i64 (m : Int))) b bf bc lv { S with left := m } := by
  have kp := Kp.set1 w b 6 (.int .i64 (m : Int))
  obtain ⟨n1, n2, n3⟩ := h.notfoot_b
  exact { h with
    c0 := by rw [cell_ne _ _ _ _ _ (by decide)]; exact h.c0
    c1 := by rw [cell_ne _ _ _ _ _ (by decide)]; exact h.c1
    c2 := by rw [cell_ne _ _ _ _ _ (by decide)]; exact h.c2
    c3 := by rw [cell_ne _ _ _ _ _ (by decide)]; exact h.c3
    c4 := by rw [cell_ne _ _ _ _ _ (by decide)]; exact h.c4
    c5 := by rw [cell_ne _ _ _ _ _ (by decide)]; exact h.c5
    c6 := cell_eq _ _ _ _ _ h.c6
    fr := fun o => by rw [frozen_setCell]; exact h.fr o
    fs := kp.secs h.fs n1
    cs := kp.secs h.cs n2
    ls := kp.owns h.ls n3 }
/-- The loose row is emptied. -/
theorem DkAt.clearL (h : DkAt w b bf bc lv S) : DkAt (w.setCell ⟨b, 2, none⟩ (.slice none 0 0)) b bf bc (.slice none 0 0) { S with L := [] } := by
  have kp := Kp.set1 w b 2 (.slice none 0 0)
  obtain ⟨n1, n2, n3⟩ := h.notfoot_b
  exact { h with
    nl := fun g hg => by cases hg
    c0 := by rw [cell_ne _ _ _ _ _ (by decide)]; exact h.c0
    c1 := by rw [cell_ne _ _ _ _ _ (by decide)]; exact h.c1
    c2 := cell_eq _ _ _ _ _ h.c2
    c3 := by rw [cell_ne _ _ _ _ _ (by decide)]; exact h.c3
    c4 := by rw [cell_ne _ _ _ _ _ (by decide)]; exact h.c4
    c5 := by rw [cell_ne _ _ _ _ _ (by decide)]; exact h.c5
    c6 := by rw [cell_ne _ _ _ _ _ (by decide)]; exact h.c6
    fr := fun o => by rw [frozen_setCell]; exact h.fr o
    fs := kp.secs h.fs n1
    cs := kp.secs h.cs n2
    ls := ⟨by simp [cellsL], .inl ⟨rfl, rfl⟩⟩
    lok := fun x hx => by cases hx }
theorem cellsL_snoc (L : List (Nat × List UInt8)) (x : Nat × List UInt8) : cellsL (L ++ [x]) = cellsL L ++ cellsW x := by simp [cellsL]
/-- The loose row has grown by one. -/
theorem DkAt.pushL {w1 : World} (h : DkAt w b bf bc lv S) {k : Nat} (hk : k < S.n) {l : List UInt8} (hl : l.length = 64) {g cap : Nat} (hg : w.grownBy w1 lv.ownBlock)
    (hat : lv.ownBlock = some g ∨ w.heap.size ≤ g)
    (hown : w1.ownsRow 7 91 65 (.slice (some ⟨g, 0, none⟩) (S.L.length + 1) cap) (S.L.length + 1) (cellsL S.L ++ cellsW (k, l))) :
    DkAt (w1.setCell ⟨b, 2, none⟩ (.slice (some ⟨g, 0, none⟩) (S.L.length + 1) cap)) b bf bc (.slice (some ⟨g, 0, none⟩) (S.L.length + 1) cap) { S with L := S.L ++ [(k, l)] } := by
  have lb := h.lb
  have lf := h.lf
  have lc := h.lc
  have k1 : Kp lv.ownBlock.toList w w1 := (Kp.refl _ w).grown hg (fun k hk => .inl (by simp [hk]))
  have hb : b ∉ lv.ownBlock.toList := fun hm => (h.nl b (by simpa using hm)).1 rfl
  have hbf : bf ∉ lv.ownBlock.toList := fun hm => (h.nl bf (by simpa using hm)).2.1 rfl
  have hbc : bc ∉ lv.ownBlock.toList := fun hm => (h.nl bc (by simpa using hm)).2.2 rfl
  have hgb : g ≠ b ∧ g ≠ bf ∧ g ≠ bc := by
    rcases hat with hat | hat
    · exact h.nl g hat
    · exact ⟨by omega, by omega, by omega⟩
  have c (o : Nat) : w1.cell? ⟨b, o, none⟩ = w.cell? ⟨b, o, none⟩ := k1.cell (p := ⟨b, o, none⟩) lb hb
  have k2 := Kp.set1 w1 b 2 (.slice (some ⟨g, 0, none⟩) (S.L.length + 1) cap)
  obtain ⟨n1, n2, n3⟩ := h.notfoot_b
  exact { h with
    nl := fun g2 hg2 => by
      obtain rfl : g = g2 := by simpa [Value.ownBlock] using hg2
      exact hgb
    c0 := by rw [cell_ne _ _ _ _ _ (by decide), c]; exact h.c0
    c1 := by rw [cell_ne _ _ _ _ _ (by decide), c]; exact h.c1
    c2 := cell_eq _ _ _ _ lv (by rw [c]; exact h.c2)
    c3 := by rw [cell_ne _ _ _ _ _ (by decide), c]; exact h.c3
    c4 := by rw [cell_ne _ _ _ _ _ (by decide), c]; exact h.c4
    c5 := by rw [cell_ne _ _ _ _ _ (by decide), c]; exact h.c5
    c6 := by rw [cell_ne _ _ _ _ _ (by decide), c]; exact h.c6
    fr := fun o => by rw [frozen_setCell, k1.frozen (p := ⟨b, o, none⟩) lb hb]; exact h.fr o
    fs := k2.secs (k1.secs h.fs hbf) n1
    cs := k2.secs (k1.secs h.cs hbc) n2
    ls := by
      have := k2.owns hown (fun g2 hg2 => by
        obtain rfl : g = g2 := by simpa [Value.ownBlock] using hg2
        simpa using hgb.1)
      rw [cellsL_snoc]
      simpa using this
    lok := fun x hx => by
      rcases List.mem_append.1 hx with hx | hx
      · exact h.lok x hx
      · obtain rfl := List.mem_singleton.1 hx
        exact ⟨hk, hl⟩ }
end Go.Proofs.YtggnljfcdohkaaaGreatDoor
