/- Contract of (*disk.Disk).land: a Write lasts, whole or its first half. -/
import Derived.Test.YtkkjbljhehnmjaaGreatDoorDkFl
namespace Go.Proofs.YtkkjbljhehnmjaaGreatDoor
open Go.RowKit

/-- What a sector holds behind a Write that lasts. -/
def torn (old l : List UInt8) (t : Bool) : List UInt8 := if t then l.take 32 ++ old.drop 32 else l
theorem torn_length {old l : List UInt8} (ho : old.length = 64) (hl : l.length = 64) (t : Bool) : (torn old l t).length = 64 := by
  unfold torn
  split
  · rw [List.length_append, List.length_take, List.length_drop, ho, hl]; rfl
  · exact hl

/-- At a step of a region that draws its order: copy between rows. -/
theorem step_copy_mid {P : Program} {ops : Array Oper} {o : Oper} {a : Act} {w : World} {K : Act → World → Prop} {Q : Exit → Act → World → Prop} {E : Prop} (hgd : o.guard = none)
    (d s : Operand) (dT sT : TypeId) (hop : o.op = .call { callee := .builtin .copy, args := #[d, s], argTypes := #[dT, sT] })
    (b off dLen dCap : Nat) (ad : Addr) (sLen sCap : Nat) (cs : List Value) (hd : a.eval d = .slice (some ⟨b, off, none⟩) dLen dCap) (hs : a.eval s = .slice (some ad) sLen sCap)
    (r : Value) (hrun : (Builtin.copy_ #[dT, sT] o.type #[.slice (some ⟨b, off, none⟩) dLen dCap, .slice (some ad) sLen sCap]).run P w = .ok r (w.setCells b off cs))
    (h : K (a.put o.dst r) (w.setCells b off cs)) : if Region.wanted o (yielded ops a.tmps) = true then Oper.wp P o a w K Q else E := by
  have hw : Region.wanted o (yielded ops a.tmps) = true := by simp [Region.wanted, hgd]
  rw [if_pos hw]
  unfold Oper.wp
  simp [execOp, hop, resolve, invoke, builtin, hd, hs, hrun, Result.andThen]
  exact h

theorem Secs.setHalf {w : World} {g n : Nat} {F : Nat → List UInt8} (h : Secs w g n F) {k : Nat} (hk : k < n) {l : List UInt8} (hl : l.length = 64) : Secs (w.setCells g (k * 64) (bytesV (l.take 32))) g n (upd F k (torn (F k) l true)) := by
  intro i hi
  obtain ⟨h1, h2, h3⟩ := h i hi
  have ht : (bytesV (l.take 32)).length = 32 := by simp [hl]
  by_cases e : i = k
  · subst e
    refine ⟨by simp only [upd, if_true]; exact torn_length h1 hl true, ?_, World.there_setCells h3 _ _ _⟩
    have hs : (w.setCells g (i * 64) (bytesV (l.take 32))).rangeAt g (i * 64) (bytesV (l.take 32)) :=
      World.rangeAt_setCells_same w g (i * 64) _ (by rw [ht]; exact fun j hj => h3 j (by omega))
    have ho : (w.setCells g (i * 64) (bytesV (l.take 32))).rangeAt g (i * 64 + 32) (bytesV ((F i).drop 32)) := by
      refine World.rangeAt_setCells_apart (fun j v hv => ?_) g (i * 64) _ (.inr (.inr (by rw [ht]; exact Nat.le_refl _)))
      have := h2 (32 + j) v (by
        unfold bytesV at hv ⊢
        rw [List.map_drop, List.getElem?_drop] at hv
        exact hv)
      rw [← Nat.add_assoc] at this
      exact this
    intro j v hv
    simp only [upd, if_true, torn, if_true] at hv
    rw [bytesV_append] at hv
    by_cases hj : j < 32
    · rw [List.getElem?_append_left (by rw [ht]; exact hj)] at hv
      exact hs j v hv
    · rw [List.getElem?_append_right (by rw [ht]; omega), ht] at hv
      have := ho (j - 32) v hv
      rw [show i * 64 + 32 + (j - 32) = i * 64 + j by omega] at this
      exact this
  · refine ⟨by simp [upd, e, h1], ?_, World.there_setCells h3 _ _ _⟩
    simp only [upd, if_neg e]
    exact World.rangeAt_setCells_apart h2 g (k * 64) _ (.inr (by simp only [bytesV_length, h1, ht]; omega))
theorem DkAt.setFhalf {w : World} {b bf bc : Nat} {lv : Value} {S : Dk} (h : DkAt w b bf bc lv S) {k : Nat} (hk : k < S.n) {l : List UInt8} (hl : l.length = 64) :
    DkAt (w.setCells bf (k * 64) (bytesV (l.take 32))) b bf bc lv { S with F := upd S.F k (torn (S.F k) l true) } := by
  have kp : Kp [bf] w (w.setCells bf (k * 64) (bytesV (l.take 32))) := (Kp.refl [bf] w).setCells (.inl (by simp)) _ _
  have lb := h.lb
  have hb : b ∉ [bf] := by simpa using fun e => h.ne1 e.symm
  exact { h with
    c0 := by rw [kp.cell (p := ⟨b, 0, none⟩) lb hb]; exact h.c0
    c1 := by rw [kp.cell (p := ⟨b, 1, none⟩) lb hb]; exact h.c1
    c2 := by rw [kp.cell (p := ⟨b, 2, none⟩) lb hb]; exact h.c2
    c3 := by rw [kp.cell (p := ⟨b, 3, none⟩) lb hb]; exact h.c3
    c4 := by rw [kp.cell (p := ⟨b, 4, none⟩) lb hb]; exact h.c4
    c5 := by rw [kp.cell (p := ⟨b, 5, none⟩) lb hb]; exact h.c5
    c6 := by rw [kp.cell (p := ⟨b, 6, none⟩) lb hb]; exact h.c6
    fr := fun o => by rw [kp.frozen (p := ⟨b, o, none⟩) lb hb]; exact h.fr o
    fs := h.fs.setHalf hk hl
    cs := kp.secs h.cs (by simpa using fun e => h.ne3 e.symm)
    ls := kp.owns h.ls (fun g hg => by simpa using (h.nl g hg).2.1) }

theorem copy_half {w : World} {T bf q : Nat} {l : List UInt8} (n : Nat) (hn : n ≤ 64) (hl : l.length = 64) (hr : w.rangeAt T 1 (bytesV l)) (ht : w.there bf (q * 64) 64) :
    (Builtin.copy_ #[100, 100] 3 #[.slice (some ⟨bf, q * 64, none⟩) n 64, .slice (some ⟨T, 1, none⟩) n 64]).run Tryz.prog w = .ok (goInt n) (w.setCells bf (q * 64) (bytesV (l.take n))) := by
  have hlen : (bytesV (l.take n)).length = n := by rw [bytesV_length, List.length_take, hl]; omega
  have := run_copy_cells (P := Tryz.prog) w 100 100 3 5 bf (q * 64) n 64 ⟨T, 1, none⟩ n 64 (bytesV (l.take n)) Tryz.underlying100 (by kernel_rfl) (by rw [hlen]; exact (Nat.min_self n).symm)
    (fun j v hv => by
      rw [Addr.add_mid]
      refine hr j v ?_
      unfold bytesV at hv ⊢
      rw [List.map_take, List.getElem?_take] at hv
      split at hv
      · exact hv
      · cases hv)
    (fun j hj => (ht j (by omega)).1) (fun j hj => (ht j (by omega)).2) (bytesV_one _)
  rw [hlen] at this
  exact this
set_option maxHeartbeats 1600000 in
set_option maxRecDepth 20000 in
theorem land_any {w : World} {b bf bc : Nat} {lv : Value} {S : Dk} (h : DkAt w b bf bc lv S) (q : Nat) (hq : q < S.n) (l : List UInt8) (hl : l.length = 64) (t : Bool) :
    Calls Tryz.prog 56 #[.pointer (some ⟨b, 0, none⟩), .agg (cellsW (q, l)).toArray, .bool t] w fun e w2 => e = .returned (.tuple #[]) ∧ DkAt w2 b bf bc lv { S with F := upd S.F q (torn (S.F q) l t) } ∧ Kp (foot b bf bc lv) w w2 := by
  have hTb : w.heap.size ≠ b := fun e => by have := h.lb; omega
  have hTf : w.heap.size ≠ bf := fun e => by have := h.lf; omega
  have hbf : b ≠ bf := fun e => h.ne1 e.symm
  have D1 : DkAt (w.alloc (wBlk q l)) b bf bc lv S := h.new ((Kp.refl [] w).alloc _)
  have K1 : Kp (foot b bf bc lv) w (w.alloc (wBlk q l)) := (Kp.refl _ w).alloc _
  have hblk : (w.alloc (wBlk q l)).heap[w.heap.size]? = some (wBlk q l) := heap_alloc_new w _
  have hwb : w.alloc (.cells (cellsW (q, l)).toArray 97) = w.alloc (wBlk q l) := rfl
  have hg1 : (q : Int) < (S.n : Int) := by omega
  have hg0 : (0 : Int) ≤ (q : Int) := by omega
  have HD1 := Lib.hid D1
  have HK1 := Lib.hid K1
  have Hblk := Lib.hid hblk
  clear h D1 K1 hblk
  cases t
  all_goals
    go_enter Tryz.func56, Tryz.ntmps56
    go_wp2
    have D2 := HD1.out
    have hb2 := Hblk.out
    have c0 := D2.c0
    obtain ⟨-, r2⟩ := range_wBlk hb2
    have c1 : (w.alloc (wBlk q l)).cell? ⟨w.heap.size, 0, none⟩ = some (.int .i64 (q : Int)) := by rw [cell_wBlk hb2]; rfl
    have th := (D2.fs q hq).2.2
    clear D2 hb2 hwb
    generalize w.heap.size = T at *
    generalize w.alloc (wBlk q l) = W2 at *
  ·
    go_region_held3 (fun w' => w'.cell? ⟨b, 0, none⟩ = some (.slice (some ⟨bf, 0, none⟩) S.n S.n) ∧ w'.cell? ⟨T, 0, none⟩ = some (.int .i64 (q : Int)) ∧ w'.rangeAt T 1 (bytesV l) ∧ w'.there bf (q * 64) 64) (first | go_keep_ranges | (go_split_ands; exact ⟨by (rw [cell_setCells_far _ _ _ _ _ _ hbf]; first | assumption | (simp; assumption)), by (rw [cell_setCells_far _ _ _ _ _ _ hTf]; first | assumption | (simp; assumption)), by (refine World.rangeAt_setCells_apart ?_ _ _ _ (.inl hTf); first | assumption | (simp; assumption)), by (refine World.there_setCells ?_ _ _ _; first | assumption | (simp; assumption))⟩)) ((refine step_copy_mid (by rfl) _ _ _ _ (by rfl) bf (q * 64) 64 64 ⟨T, 1, none⟩ 64 64 (bytesV (l.take 64)) (by rfl) (by rfl) (goInt 64) (by (go_split_ands; exact copy_half 64 (by decide) hl (by assumption) (by assumption))) ?_))
    go_wp2
    go_end0
    have D3 := (HD1.out.new (Kp.refl [] W2).drew).setF (k := q) hq hl
    rw [List.take_of_length_le (show l.length ≤ 64 by omega)]
    exact ⟨rfl, D3, (HK1.out.drew).setCells (.inl (by simp [foot])) _ _⟩
  ·
    go_region_held3 (fun w' => w'.cell? ⟨b, 0, none⟩ = some (.slice (some ⟨bf, 0, none⟩) S.n S.n) ∧ w'.cell? ⟨T, 0, none⟩ = some (.int .i64 (q : Int)) ∧ w'.rangeAt T 1 (bytesV l) ∧ w'.there bf (q * 64) 64) (first | go_keep_ranges | (go_split_ands; exact ⟨by (rw [cell_setCells_far _ _ _ _ _ _ hbf]; first | assumption | (simp; assumption)), by (rw [cell_setCells_far _ _ _ _ _ _ hTf]; first | assumption | (simp; assumption)), by (refine World.rangeAt_setCells_apart ?_ _ _ _ (.inl hTf); first | assumption | (simp; assumption)), by (refine World.there_setCells ?_ _ _ _; first | assumption | (simp; assumption))⟩)) ((refine step_copy_mid (by rfl) _ _ _ _ (by rfl) bf (q * 64) 32 64 ⟨T, 1, none⟩ 32 64 (bytesV (l.take 32)) (by rfl) (by rfl) (goInt 32) (by (go_split_ands; exact copy_half 32 (by decide) hl (by assumption) (by assumption))) ?_))
    go_wp2
    go_end0
    have D3 := (HD1.out.new (Kp.refl [] W2).drew).setFhalf (k := q) hq hl
    exact ⟨rfl, D3, (HK1.out.drew).setCells (.inl (by simp [foot])) _ _⟩
end Go.Proofs.YtkkjbljhehnmjaaGreatDoor
