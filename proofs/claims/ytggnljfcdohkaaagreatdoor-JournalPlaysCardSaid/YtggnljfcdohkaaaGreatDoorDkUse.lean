/- Contract of (*disk.Disk).land: a Write lasts, whole or its first half. -/
import Derived.Test.YtggnljfcdohkaaaGreatDoorDkFl
namespace Go.Proofs.YtggnljfcdohkaaaGreatDoor
open Go.RowKit

/-- What a sector holds behind a Write that lasts. -/
def torn (old l : List UInt8) (t : Bool) : List UInt8 := if t then l.take 32 ++ old.drop 32 else l
theorem torn_length {old l : List UInt8} (ho : old.length = 64) (hl : l.length = 64) (t : Bool) : (torn old l t).length = 64 := by
  unfold torn
  split
  · rw [List.length_append, List.length_take, List.length_drop, ho, hl]; rfl
  · exact hl

/-- At a step of a region that draws its order: copy between rows. -/
theorem step_copy_mid {P : Program} {ops : Array Oper} {o : Oper} {a : Act} {w : World} {K : Act → World → Prop} {Q : Exit → Act → World → Prop} {E : Prop} (hgd : o.guard = none)
    (d s : Operand) (dT sT : TypeId) (hop : o.op = .call { callee := .builtin .copy, args := #[d, s], argTypes := #[dT, sT] })
    (b off dLen dCap : Nat) (ad : Addr) (sLen sCap : Nat) (cs : List Value) (hd : a.eval d = .slice (some ⟨b, off, none⟩) dLen dCap) (hs : a.eval s = .slice (some ad) sLen sCap)
    (r : Value) (hrun : (Builtin.copy_ #[dT, sT] o.type #[.slice (some ⟨b, off, none⟩) dLen dCap, .slice (some ad) sLen sCap]).run P w = .ok r (w.setCells b off cs))
    (h : K (a.put o.dst r) (w.setCells b off cs)) : if Region.wanted o (yielded ops a.tmps) = true then Oper.wp P o a w K Q else E := by
  have hw : Region.wanted o (yielded ops a.tmps) = true := by simp [Region.wanted, hgd]
  rw [if_pos hw]
  unfold Oper.wp
  simp [execOp, hop, resolve, invoke, builtin, hd, hs, hrun, Result.andThen]
  exact h

theorem Secs.setHalf {w : World} {g n : Nat} {F : Nat → List UInt8} (h : Secs w g n F) {k : Nat} (hk : k < n) {l : List UInt8} (hl : l.length = 64) : Secs (w.setCells g (k * 64) (bytesV (l.take 32))) g n (upd F k (torn (F k) l true)) := by
  intro i hi
  obtain ⟨h1, h2, h3⟩ := h i hi
  have ht : (bytesV (l.take 32)).length = 32 := by simp [hl]
  by_cases e : i = k
  · subst e
    refine ⟨by simp only [upd, if_true]; exact torn_length h1 hl true, ?_, World.there_setCells h3 _ _ _⟩
    have hs : (w.setCells g (i * 64) (bytesV (l.take 32))).rangeAt g (i * 64) (bytesV (l.take 32)) :=
      World.rangeAt_setCells_same w g (i * 64) _ (by rw [ht]; exact fun j hj => h3 j (by omega))
    have ho : (w.setCells g (i * 64) (bytesV (l.take 32))).rangeAt g (i * 64 + 32) (bytesV ((F i).drop 32)) := by
      refine World.rangeAt_setCells_apart (fun j v hv => ?_) g (i * 64) _ (.inr (.inr (by rw [ht]; exact Nat.le_refl _)))
      have := h2 (32 + j) v (by
        unfold bytesV at hv ⊢
        rw [List.map_drop, List.getElem?_drop] at hv
        exact hv)
      rw [← Nat.add_assoc] at this
      exact this
    intro j v hv
    simp only [upd, if_true, torn, if_true] at hv
    rw [bytesV_append] at hv
    by_cases hj : j < 32
    · rw [List.getElem?_append_left (by rw [ht]; exact hj)] at hv
      exact hs j v hv
    · rw [List.getElem?_append_right (by rw [ht]; omega), ht] at hv
      have := ho (j - 32) v hv
      rw [show i * 64 + 32 + (j - 32) = i * 64 + j by omega] at this
      exact this
  · refine ⟨by simp [upd, e, h1], ?_, World.there_setCells h3 _ _ _⟩
    simp only [upd, if_neg e]
    exact World.rangeAt_setCells_apart h2 g (k * 64) _ (.inr (by simp only [bytesV_length, h1, ht]; omega))
theorem DkAt.setFhalf {w : World} {b bf bc : Nat} {lv : Value} {S : Dk} (h : DkAt w b bf bc lv S) {k : Nat} (hk : k < S.n) {l : List UInt8} (hl : l.length = 64) :
    DkAt (w.setCells bf (k * 64) (bytesV (l.take 32))) b bf bc lv { S with F := upd S.F k (torn (S.F k) l true) } := by
  have kp : Kp [bf] w (w.setCells bf (k * 64) (bytesV (l.take 32))) := (Kp.refl [bf] w).setCells (.inl (by simp)) _ _
  have lb := h.lb
  have hb : b ∉ [bf] := by simpa using fun e => h.ne1 e.symm
  exact { h with
    c0 := by rw [kp.cell (p := ⟨b, 0, none⟩) lb hb]; exact h.c0
    c1 := by rw [kp.cell (p := ⟨b, 1, none⟩) lb hb]; exact h.c1
    c2 := by rw [kp.cell (p := ⟨b, 2, none⟩) lb hb]; exact h.c2
    c3 := by rw [kp.cell (p := ⟨b, 3, none⟩) lb hb]; exact h.c3
    c4 := by rw [kp.cell (p := ⟨b, 4, none⟩) lb hb]; exact h.c4
    c5 := by rw [kp.cell (p := ⟨b, 5, none⟩) lb hb]; exact h.c5
    c6 := by rw [kp.cell (p := ⟨b, 6, none⟩) lb hb]; exact h.c6
    fr := fun o => by rw [kp.frozen (p := ⟨b, o, none⟩) lb hb]; exact h.fr o
    fs := h.fs.setHalf hk hl
    cs := kp.secs h.cs (by simpa using fun e => h.ne3 e.symm)
    ls := kp.owns h.ls (fun g hg => by simpa using (h.nl g hg).2.1) }

theorem copy_half {w : World} {T bf q : Nat} {l : List UInt8} (n : Nat) (hn : n ≤ 64) (hl : l.length = 64) (hr : w.rangeAt T 1 (bytesV l)) (ht : w.there bf (q * 64) 64) :
    (Builtin.copy_ #[94, 94] 3 #[.slice (some ⟨bf, q * 64, none⟩) n 64, .slice (some ⟨T, 1, none⟩) n 64]).run Tryz.prog w = .ok (goInt n) (w.setCells bf (q * 64) (bytesV (l.take n))) := by
  have hlen : (bytesV (l.take n)).length = n := by rw [bytesV_length, List.length_take, hl]; omega
  have := run_copy_cells (P := Tryz.prog) w 94 94 3 5 bf (q * 64) n 64 ⟨T, 1, none⟩ n 64 (bytesV (l.take n)) Tryz.underlying94 (by kernel_rfl) (by rw [hlen]; exact (Nat.min_self n).symm)
    (fun j v hv => by
      rw [Addr.add_mid]
      refine hr j v ?_
      unfold bytesV at hv ⊢
      rw [List.map_take, List.getElem?_take] at hv
      split at hv
      · exact hv
      · cases hv)
    (fun j hj => (ht j (by omega)).1) (fun j hj => (ht j (by omega)).2) (bytesV_one _)
  rw [hlen] at this
  exact this
set_option maxHeartbeats 1600000 in
set_option maxRecDepth 20000 in
theorem land_any {w : World} {b bf bc : Nat} {lv : Value} {S : Dk} (h : DkAt w b bf bc lv S) (q : Nat) (hq : q < S.n) (l : List UInt8) (hl : l.length = 64) (t : Bool) :
    Calls Tryz.prog 51 #[.pointer (some ⟨b, 0, none⟩), .agg (cellsW (q, l)).toArray, .bool t] w fun e w2 => e = .returned (.tuple #[]) ∧ DkAt w2 b bf bc lv { S with F := upd S.F q (torn (S.F q) l t) } ∧ Kp (foot b bf bc lv) w w2 := by
  have hTb : w.heap.size ≠ b := fun e => by have := h.lb; omega
  have hTf : w.heap.size ≠ bf := fun e => by have := h.lf; omega
  have hbf : b ≠ bf := fun e => h.ne1 e.symm
  have D1 : DkAt (w.alloc (wBlk q l)) b bf bc lv S := h.new ((Kp.refl [] w).alloc _)
  have K1 : Kp (foot b bf bc lv) w (w.alloc (wBlk q l)) := (Kp.refl _ w).alloc _
  have hblk : (w.alloc (wBlk q l)).heap[w.heap.size]? = some (wBlk q l) := heap_alloc_new w _
  have hwb : w.alloc (.cells (cellsW (q, l)).toArray 91) = w.alloc (wBlk q l) := rfl
  have hg1 : (q : Int) < (S.n : Int) := by omega
  have hg0 : (0 : Int) ≤ (q : Int) := by omega
  have HD1 := Lib.hid D1
  have HK1 := Lib.hid K1
  have Hblk := Lib.hid hblk
  clear h D1 K1 hblk
  cases t
  all_goals
    go_enter Tryz.func51, Tryz.ntmps51
    go_wp2
    have D2 := HD1.out
    have hb2 := Hblk.out
    have c0 := D2.c0
    obtain ⟨-, r2⟩ := range_wBlk hb2
    have c1 : (w.alloc (wBlk q l)).cell? ⟨w.heap.size, 0, none⟩ = some (.int .i64 (q : Int)) := by rw [cell_wBlk hb2]; rfl
    have th := (D2.fs q hq).2.2
    clear D2 hb2 hwb
    generalize w.heap.size = T at *
    generalize w.alloc (wBlk q l) = W2 at *
  ·
    go_region_held3 (fun w' => w'.cell? ⟨b, 0, none⟩ = some (.slice (some ⟨bf, 0, none⟩) S.n S.n) ∧ w'.cell? ⟨T, 0, none⟩ = some (.int .i64 (q : Int)) ∧ w'.rangeAt T 1 (bytesV l) ∧ w'.there bf (q * 64) 64) (first | go_keep_ranges | (go_split_ands; exact ⟨by (rw [cell_setCells_far _ _ _ _ _ _ hbf]; first | assumption | (simp; assumption)), by (rw [cell_setCells_far _ _ _ _ _ _ hTf]; first | assumption | (simp; assumption)), by (refine World.rangeAt_setCells_apart ?_ _ _ _ (.inl hTf); first | assumption | (simp; assumption)), by (refine World.there_setCells ?_ _ _ _; first | assumption | (simp; assumption))⟩)) ((refine step_copy_mid (by rfl) _ _ _ _ (by rfl) bf (q * 64) 64 64 ⟨T, 1, none⟩ 64 64 (bytesV (l.take 64)) (by rfl) (by rfl) (goInt 64) (by (go_split_ands; exact copy_half 64 (by decide) hl (by assumption) (by assumption))) ?_))
    go_wp2
    go_end0
    have D3 := (HD1.out.new (Kp.refl [] W2).drew).setF (k := q) hq hl
    rw [List.take_of_length_le (show l.length ≤ 64 by omega)]
    exact ⟨rfl, D3, (HK1.out.drew).setCells (.inl (by simp [foot])) _ _⟩
  ·
    go_region_held3 (fun w' => w'.cell? ⟨b, 0, none⟩ = some (.slice (some ⟨bf, 0, none⟩) S.n S.n) ∧ w'.cell? ⟨T, 0, none⟩ = some (.int .i64 (q : Int)) ∧ w'.rangeAt T 1 (bytesV l) ∧ w'.there bf (q * 64) 64) (first | go_keep_ranges | (go_split_ands; exact ⟨by (rw [cell_setCells_far _ _ _ _ _ _ hbf]; first | assumption | (simp; assumption)), by (rw [cell_setCells_far _ _ _ _ _ _ hTf]; first | assumption | (simp; assumption)), by (refine World.rangeAt_setCells_apart ?_ _ _ _ (.inl hTf); first | assumption | (simp; assumption)), by (refine World.there_setCells ?_ _ _ _; first | assumption | (simp; assumption))⟩)) ((refine step_copy_mid (by rfl) _ _ _ _ (by rfl) bf (q * 64) 32 64 ⟨T, 1, none⟩ 32 64 (bytesV (l.take 32)) (by rfl) (by rfl) (goInt 32) (by (go_split_ands; exact copy_half 32 (by decide) hl (by assumption) (by assumption))) ?_))
    go_wp2
    go_end0
    have D3 := (HD1.out.new (Kp.refl [] W2).drew).setFhalf (k := q) hq hl
    exact ⟨rfl, D3, (HK1.out.drew).setCells (.inl (by simp [foot])) _ _⟩
end Go.Proofs.YtggnljfcdohkaaaGreatDoor
/- Contract of (*disk.Disk).Crash. -/
namespace Go.Proofs.YtggnljfcdohkaaaGreatDoor
open Go.RowKit

/-- The sectors behind the loose Write number i of a crash. -/
def land1 (ks : List Bool) (tn : Int) (F : Nat → List UInt8) (i : Nat) (x : Nat × List UInt8) : Nat → List UInt8 :=
  if ks.getD i false = true then upd F x.1 (torn (F x.1) x.2 (decide ((i : Int) = tn))) else F
/-- The sectors behind the first k loose Writes of a crash. -/
def landN (ks : List Bool) (tn : Int) (F : Nat → List UInt8) (L : List (Nat × List UInt8)) (k : Nat) : Nat → List UInt8 :=
  ((L.zipIdx).take k).foldl (fun F p => land1 ks tn F p.2 p.1) F
theorem landN_zero (ks : List Bool) (tn : Int) (F : Nat → List UInt8) (L : List (Nat × List UInt8)) : landN ks tn F L 0 = F := rfl
theorem landN_succ (ks : List Bool) (tn : Int) (F : Nat → List UInt8) (L : List (Nat × List UInt8)) (k : Nat) (hk : k < L.length) : landN ks tn F L (k + 1) = land1 ks tn (landN ks tn F L k) k L[k] := by
  unfold landN
  rw [List.take_succ_eq_append_getElem (by simpa using hk), List.foldl_append]
  simp
/-- What is read behind a crash: the sectors of the loose Writes as they now are. -/
def reread (F C : Nat → List UInt8) (L : List (Nat × List UInt8)) : Nat → List UInt8 := L.foldl (fun C x => upd C x.1 (F x.1)) C
theorem reread_take (F C : Nat → List UInt8) (L : List (Nat × List UInt8)) (k : Nat) (hk : k < L.length) : reread F C (L.take (k + 1)) = upd (reread F C (L.take k)) L[k].1 (F L[k].1) := by
  unfold reread
  rw [List.take_succ_eq_append_getElem hk, List.foldl_append]
  rfl
/-- A []bool that is handed over: what it holds, apart from the blocks on the list. -/
def KeepAt (w : World) (f : List Nat) (a : Option Addr) (ks : List Bool) : Prop :=
  ∀ i, i < ks.length → ∃ kb ko, a = some ⟨kb, ko, none⟩ ∧ kb ∉ f ∧ kb < w.heap.size ∧ w.cell? ⟨kb, ko + i, none⟩ = some (.bool (ks.getD i false))
theorem KeepAt.keep {f : List Nat} {w w2 : World} {a : Option Addr} {ks : List Bool} (h : KeepAt w f a ks) (k : Kp f w w2) : KeepAt w2 f a ks := fun i hi => by
  obtain ⟨kb, ko, h1, h2, h3, h4⟩ := h i hi
  exact ⟨kb, ko, h1, h2, k.lt h3, by rw [k.cell (p := ⟨kb, ko + i, none⟩) h3 h2]; exact h4⟩

/-- The disk behind a crash. -/
def Dk.crash (S : Dk) (ks : List Bool) (tn : Int) : Dk :=
  { S with F := landN ks tn S.F S.L S.L.length, C := reread (landN ks tn S.F S.L S.L.length) S.C S.L, L := [], dead := false, cut := false, left := 0 }

attribute [local go_sem ↓] Go.wp_at_zero Go.wp_at_succ wp_load_write
set_option maxHeartbeats 3200000 in
set_option maxRecDepth 20000 in
theorem crash_any {w : World} {b bf bc : Nat} {lv : Value} {S : Dk} (h : DkAt w b bf bc lv S) (hL : S.L.length < 4294967296) (ka : Option Addr) (kc : Nat) (ks : List Bool)
    (hk : KeepAt w (foot b bf bc lv) ka ks) (tn : Int) :
    Calls Tryz.prog 18 #[.pointer (some ⟨b, 0, none⟩), .slice ka ks.length kc, .int .i64 tn] w fun e w2 => e = .returned (.tuple #[]) ∧ DkAt w2 b bf bc (.slice none 0 0) (S.crash ks tn) ∧ Kp (foot b bf bc lv) w w2 := by
  have h2 := h.c2
  obtain ⟨a, cap, rfl⟩ := h.form
  have HH := Lib.hid h
  have HKeep := Lib.hid hk
  clear h hk
  go_enter Tryz.func18, Tryz.ntmps18
  go_wp2
  go_loopw [15] (fun i wr => ∃ k : Nat, k ≤ S.L.length ∧ i = .int .i64 k ∧ DkAt wr b bf bc (.slice a S.L.length cap) { S with F := landN ks tn S.F S.L k } ∧ Kp (foot b bf bc (.slice a S.L.length cap)) w wr) (fun i _ => S.L.length - (intOf i).toNat)
  case atStart => exact ⟨0, Nat.zero_le _, rfl, HH.out, Kp.refl _ _⟩
  case round =>
    obtain ⟨k, hk, rfl, D, K⟩ := hrel
    by_cases hlt : k < S.L.length
    · have hkn : (k : Int) < (S.L.length : Int) := by omega
      have hk0 : (0 : Int) ≤ (k : Int) := by omega
      obtain ⟨g, rfl, hr⟩ := owns_range D.ls (fun x hx => (D.lok x hx).2) k hlt
      obtain ⟨hx1, hx2⟩ := D.lok _ (List.getElem_mem hlt)
      simp only at hr hx1 hx2
      have hcl : (cellsW S.L[k]).length = 65 := by simp [cellsW, hx2]
      have h1c : ∀ v ∈ cellsW S.L[k], v.oneCell' = true := cellsW_one _ _
      have hp : ptrRow wr (.pointer (some ⟨g, k * 65, none⟩)) 65 := ⟨g, k * 65, _, rfl, hr, hcl⟩
      have hpc : ptrCells wr (.pointer (some ⟨g, k * 65, none⟩)) 65 = (cellsW S.L[k]).toArray := ptrCells_of hr hcl
      have hst := store_new wr (cellsW S.L[k]) hcl h1c
      have D1 : DkAt (wr.alloc (wBlk S.L[k].1 S.L[k].2)) b bf bc _ _ := D.new ((Kp.refl [] wr).alloc _)
      have K1 : Kp (foot b bf bc (.slice (some ⟨g, 0, none⟩) S.L.length cap)) w (wr.alloc (wBlk S.L[k].1 S.L[k].2)) := K.alloc _
      have hblk : (wr.alloc (wBlk S.L[k].1 S.L[k].2)).heap[wr.heap.size]? = some (wBlk S.L[k].1 S.L[k].2) := heap_alloc_new wr _
      obtain ⟨r1, -⟩ := range_wBlk hblk
      have hp2 : ptrRow (wr.alloc (wBlk S.L[k].1 S.L[k].2)) (.pointer (some ⟨wr.heap.size, 0, none⟩)) 65 := ⟨_, 0, _, rfl, r1, hcl⟩
      have hpc2 : ptrCells (wr.alloc (wBlk S.L[k].1 S.L[k].2)) (.pointer (some ⟨wr.heap.size, 0, none⟩)) 65 = (cellsW S.L[k]).toArray := ptrCells_of r1 hcl
      have hwb : wr.alloc (.cells (cellsW S.L[k]).toArray 91) = wr.alloc (wBlk S.L[k].1 S.L[k].2) := rfl
      rw [hwb] at hst
      have HKeep1 := Lib.hid (HKeep.out.keep K1)
      have HD1 := Lib.hid D1
      have HK1 := Lib.hid K1
      have HK := Lib.hid K
      have HD := Lib.hid D
      have Hx1 := Lib.hid hx1
      have Hx2 := Lib.hid hx2
      clear D1 K1 hblk K D hwb hx1 hx2 hr r1
      by_cases hin : k < ks.length
      · obtain ⟨kb, ko, rfl, hkf, hkl, hkc⟩ := HKeep1.out k hin
        have hin2 : (k : Int) < (ks.length : Int) := by omega
        clear hkf hkl
        cases hkv : ks.getD k false
        · rw [hkv] at hkc
          have Hkv := Lib.hid hkv
          clear hkv
          go_wp2
          go_roundw
          case rel =>
            refine ⟨k + 1, by omega, by go_num, ?_, HK1.out⟩
            rw [landN_succ _ _ _ _ _ hlt]
            unfold land1
            rw [if_neg (by rw [Hkv.out]; decide)]
            exact HD1.out
          case measure => simp [intOf]; omega
        · rw [hkv] at hkc
          have Hkv := Lib.hid hkv
          clear hkv
          go_wp2_with (go_at_call 51; refine (land_any HD1.out S.L[k].1 Hx1.out S.L[k].2 Hx2.out _).mono ?_; rintro e w2 ⟨rfl, D2, K2⟩; have HD2 := Lib.hid D2; have HK2 := Lib.hid K2; clear D2 K2)
          go_roundw
          case rel =>
            refine ⟨k + 1, by omega, by go_num, ?_, HK1.out.trans HK2.out⟩
            rw [landN_succ _ _ _ _ _ hlt]
            unfold land1
            rw [if_pos Hkv.out]
            exact HD2.out
          case measure => simp [intOf]; omega
      · have hin2 : (ks.length : Int) ≤ (k : Int) := by omega
        go_wp2
        go_roundw
        case rel =>
          refine ⟨k + 1, by omega, by go_num, ?_, HK1.out⟩
          rw [landN_succ _ _ _ _ _ hlt]
          unfold land1
          rw [if_neg (by rw [List.getD_eq_getElem?_getD, List.getElem?_eq_none (by omega)]; decide)]
          exact HD1.out
        case measure => simp [intOf]; omega
    · have hkl : k = S.L.length := by omega
      subst hkl
      have g2 := D.c2
      have HD := Lib.hid D
      have HK := Lib.hid K
      clear D K h2
      generalize hFN : landN ks tn S.F S.L S.L.length = FN at *
      have HFN := Lib.hid hFN
      clear hFN
      go_wp2
      go_loopw [42] (fun i wr => ∃ k : Nat, k ≤ S.L.length ∧ i = .int .i64 k ∧ DkAt wr b bf bc (.slice a S.L.length cap) { S with F := FN, C := reread FN S.C (S.L.take k) } ∧ Kp (foot b bf bc (.slice a S.L.length cap)) w wr) (fun i _ => S.L.length - (intOf i).toNat)
      case atStart => exact ⟨0, Nat.zero_le _, rfl, HD.out, HK.out⟩
      case round =>
        clear HD HK hk g2 hlt
        obtain ⟨k, hk, rfl, D, K⟩ := hrel
        by_cases hlt : k < S.L.length
        · have hkn : (k : Int) < (S.L.length : Int) := by omega
          have hk0 : (0 : Int) ≤ (k : Int) := by omega
          obtain ⟨g, rfl, hr⟩ := owns_range D.ls (fun x hx => (D.lok x hx).2) k hlt
          obtain ⟨hx1, hx2⟩ := D.lok _ (List.getElem_mem hlt)
          simp only at hr hx1 hx2
          have hcl : (cellsW S.L[k]).length = 65 := by simp [cellsW, hx2]
          have h1c : ∀ v ∈ cellsW S.L[k], v.oneCell' = true := cellsW_one _ _
          have hp : ptrRow wr (.pointer (some ⟨g, k * 65, none⟩)) 65 := ⟨g, k * 65, _, rfl, hr, hcl⟩
          have hpc : ptrCells wr (.pointer (some ⟨g, k * 65, none⟩)) 65 = (cellsW S.L[k]).toArray := ptrCells_of hr hcl
          have hst := store_new wr (cellsW S.L[k]) hcl h1c
          have hTb : wr.heap.size ≠ b := fun e => by have := D.lb; omega
          have hTc : wr.heap.size ≠ bc := fun e => by have := D.lc; omega
          have hbc : b ≠ bc := fun e => D.ne2 e.symm
          have hfc : bf ≠ bc := D.ne3
          have D1 : DkAt (wr.alloc (wBlk S.L[k].1 S.L[k].2)) b bf bc _ _ := D.new ((Kp.refl [] wr).alloc _)
          have K1 : Kp (foot b bf bc (.slice (some ⟨g, 0, none⟩) S.L.length cap)) w (wr.alloc (wBlk S.L[k].1 S.L[k].2)) := K.alloc _
          have hblk : (wr.alloc (wBlk S.L[k].1 S.L[k].2)).heap[wr.heap.size]? = some (wBlk S.L[k].1 S.L[k].2) := heap_alloc_new wr _
          have c0 := D1.c0
          have c1 := D1.c1
          have cT : (wr.alloc (wBlk S.L[k].1 S.L[k].2)).cell? ⟨wr.heap.size, 0, none⟩ = some (.int .i64 (S.L[k].1 : Int)) := by rw [cell_wBlk hblk]; rfl
          obtain ⟨hl64, rF, -⟩ := D1.fs S.L[k].1 hx1
          have th := (D1.cs S.L[k].1 hx1).2.2
          simp only at c0 c1 hl64 rF
          have hwb : wr.alloc (.cells (cellsW S.L[k]).toArray 91) = wr.alloc (wBlk S.L[k].1 S.L[k].2) := rfl
          rw [hwb] at hst
          have hu65 := Tryz.underlying89
          have hi65 : (Tryz.prog.info? 89).map (·.size) = some (bytesV (FN S.L[k].1)).length := by rw [bytesV_length, hl64]; kernel_rfl
          have hlb : (bytesV (FN S.L[k].1)).length = 64 := by rw [bytesV_length, hl64]
          have h1d := bytesV_one (FN S.L[k].1)
          have hg1 : ((S.L[k].1 : Nat) : Int) < (S.n : Int) := by omega
          have hg0 : (0 : Int) ≤ ((S.L[k].1 : Nat) : Int) := by omega
          have Hl64 := Lib.hid hl64
          have HD1 := Lib.hid D1
          have HK1 := Lib.hid K1
          have Hx1 := Lib.hid hx1
          clear D1 K1 hblk K D hwb hx1 hx2 hr hl64
          generalize cellsW S.L[k] = cw at *
          generalize hcs : bytesV (FN S.L[k].1) = cs at *
          have Hcs := Lib.hid hcs
          clear hcs
          go_wp2
          clear hst hp hpc h1c hcl
          generalize wr.heap.size = T at *
          generalize wr.alloc (wBlk S.L[k].1 S.L[k].2) = W2 at *
          generalize hq : S.L[k].1 = q at *
          have Hq := Lib.hid hq
          clear hq
          go_region_held3 (fun w' => w'.cell? ⟨b, 1, none⟩ = some (.slice (some ⟨bc, 0, none⟩) S.n S.n) ∧ w'.cell? ⟨b, 0, none⟩ = some (.slice (some ⟨bf, 0, none⟩) S.n S.n) ∧ w'.cell? ⟨T, 0, none⟩ = some (.int .i64 (q : Int)) ∧ w'.rangeAt bf (q * 64) cs ∧ w'.there bc (q * 64) 64) (first | go_keep_ranges | (go_split_ands; exact ⟨by (rw [cell_setCells_far _ _ _ _ _ _ hbc]; first | assumption | (simp; assumption)), by (rw [cell_setCells_far _ _ _ _ _ _ hbc]; first | assumption | (simp; assumption)), by (rw [cell_setCells_far _ _ _ _ _ _ hTc]; first | assumption | (simp; assumption)), by (refine World.rangeAt_setCells_apart ?_ _ _ _ (.inl hfc); first | assumption | (simp; assumption)), by (refine World.there_setCells ?_ _ _ _; first | assumption | (simp; assumption))⟩)) (fail)
          go_wp2
          go_roundw
          case rel =>
            have D3 := (HD1.out.new (Kp.refl [] W2).drew).setC (k := q) Hx1.out Hl64.out
            rw [Hcs.out] at D3
            refine ⟨k + 1, by omega, by go_num, ?_, HK1.out.drew.setCells (.inl (by simp [foot])) _ _⟩
            rw [reread_take FN S.C S.L k hlt, Hq.out]
            exact D3
          case measure => simp [intOf]; omega
        · have hkl : k = S.L.length := by omega
          subst hkl
          have g2 := D.c2
          have f2 := D.fr 2
          have g4 := D.c4
          have f4 := D.fr 4
          have D4 := Lib.hid (D.clearL.set4 false)
          have HK := Lib.hid K
          have n2 : b ≠ bf := fun e => D.ne1 e.symm
          clear D K
          go_wp2_with (go_at_call 21; refine (cut_any D4.out (-1)).mono ?_; rintro e w2 ⟨rfl, D5, K5⟩; have HD5 := Lib.hid D5; have HK5 := Lib.hid K5; clear D5 K5)
          go_end0
          refine ⟨rfl, ?_, ?_⟩
          · have D := HD5.out
            rw [List.take_of_length_le (Nat.le_refl _), ← HFN.out] at D
            exact D
          · exact ((HK.out.setCell (.inl (by simp [foot])) _).setCell (.inl (by simp [foot])) _).trans (HK5.out.mono (by simp [foot, Value.ownBlock]))
end Go.Proofs.YtggnljfcdohkaaaGreatDoor
/- The contracts of package disk in the form that a caller uses: by what the number of the error is. -/
namespace Go.Proofs.YtggnljfcdohkaaaGreatDoor
open Go.RowKit

/-- Numbers that an int holds. -/
def Dk.Small (S : Dk) : Prop := S.writes < 4611686018427387904 ∧ S.left ≤ 9223372036854775807 ∧ S.L.length < 4294967296
/-- A disk in memory whose numbers an int holds; its blocks but for the head are not told. -/
def DkIn (B : Nat) (w : World) (b : Nat) (S : Dk) : Prop := S.Small ∧ ∃ bf bc lv, DkAt w b bf bc lv S ∧ ∀ x ∈ foot b bf bc lv, B ≤ x
theorem DkIn.kept {B : Nat} {w w2 : World} {b : Nat} {S : Dk} (h : DkIn B w b S) (k : Kp [] w w2) : DkIn B w2 b S := by
  obtain ⟨hs, bf, bc, lv, D, hB⟩ := h
  exact ⟨hs, bf, bc, lv, D.new k, hB⟩
/-- Blocks from B on may have changed. -/
def Up (B : Nat) (w w2 : World) : Prop := w.os = w2.os ∧ w.tape = w2.tape ∧ w.output = w2.output ∧ w.heap.size ≤ w2.heap.size ∧ ∀ k, k < B → k < w.heap.size → w2.heap[k]? = w.heap[k]?
theorem Up.refl (B : Nat) (w : World) : Up B w w := ⟨rfl, rfl, rfl, Nat.le_refl _, fun _ _ _ => rfl⟩
theorem Up.trans {B : Nat} {a b c : World} (h : Up B a b) (k : Up B b c) : Up B a c :=
  ⟨h.1.trans k.1, h.2.1.trans k.2.1, h.2.2.1.trans k.2.2.1, Nat.le_trans h.2.2.2.1 k.2.2.2.1, fun i hi hl => (k.2.2.2.2 i hi (Nat.lt_of_lt_of_le hl h.2.2.2.1)).trans (h.2.2.2.2 i hi hl)⟩
theorem Kp.up {f : List Nat} {w w2 : World} {B : Nat} (h : Kp f w w2) (hf : ∀ x ∈ f, B ≤ x) : Up B w w2 :=
  ⟨h.os.symm, h.tape.symm, h.output.symm, h.size, fun k hk hl => h.block k hl (fun hm => by have := hf k hm; omega)⟩
theorem Kp.up0 {w w2 : World} (h : Kp [] w w2) (B : Nat) : Up B w w2 := h.up (fun x hx => by cases hx)
theorem Up.below {B : Nat} {w w2 : World} (h : Up B w w2) (hB : B ≤ w.heap.size) : Below B w w2 :=
  ⟨h.1.symm, h.2.1.symm, h.2.2.1.symm, h.2.2.2.1, fun k hk => h.2.2.2.2 k hk (by omega)⟩
theorem Up.kp {B : Nat} {w w2 : World} (h : Up B w w2) (hB : w.heap.size ≤ B) : Kp [] w w2 :=
  ⟨h.1.symm, h.2.1.symm, h.2.2.1.symm, h.2.2.2.1, fun k hk _ => h.2.2.2.2 k (by omega) hk⟩
theorem Up.tab {B : Nat} {w w2 : World} (h : Up B w w2) (ht : Tab w) (hB : 7 ≤ B) : Tab w2 := by
  have hk : Kp ((List.range w.heap.size).filter (fun x => B ≤ x)) w w2 := ⟨h.1.symm, h.2.1.symm, h.2.2.1.symm, h.2.2.2.1, fun k hk hn => h.2.2.2.2 k (by
    rcases Nat.lt_or_ge k B with hl | hl
    · exact hl
    · exact absurd (List.mem_filter.2 ⟨List.mem_range.2 hk, by simpa using hl⟩) hn) hk⟩
  refine hk.tab0 ht (fun hm => ?_)
  have := (List.mem_filter.1 hm).2
  simp only [decide_eq_true_eq] at this
  omega

theorem DkIn.then {B : Nat} {w w2 : World} {b bf bc : Nat} {lv : Value} {S2 : Dk} (h : DkThen b bf bc lv S2 w w2) (hs : S2.Small) (hB : ∀ x ∈ foot b bf bc lv, B ≤ x) (hw : B ≤ w.heap.size) : DkIn B w2 b S2 ∧ Up B w w2 := by
  obtain ⟨lv2, D2, K2, hat⟩ := h
  refine ⟨⟨hs, bf, bc, lv2, D2, fun x hx => ?_⟩, K2.up hB⟩
  simp only [foot, List.mem_cons, Option.mem_toList] at hx
  rcases hx with rfl | rfl | rfl | hx
  · exact hB _ (by simp [foot])
  · exact hB _ (by simp [foot])
  · exact hB _ (by simp [foot])
  · rcases hat x hx with hx | hx
    · exact hB x (by simp [foot, hx])
    · omega

theorem use_new (z : Int) (B : Nat) (w : World) (hg : 7 ≤ w.heap.size) (hB : B ≤ w.heap.size) :
    Calls Tryz.prog 5 #[.int .i64 z] w fun e w2 => ∃ b, e = .returned (.pointer (some ⟨b, 0, none⟩)) ∧ DkIn B w2 b (Dk.new (clampN z)) ∧ Kp [] w w2 ∧ w.heap.size ≤ b := by
  refine (new_any z w hg).mono ?_
  rintro e w2 ⟨b, bf, bc, rfl, D, K, h1, h2, h3, _, _, _⟩
  refine ⟨b, rfl, ⟨⟨by simp [Dk.new], by simp [Dk.new], by simp [Dk.new]⟩, bf, bc, _, D, fun x hx => ?_⟩, K, h1⟩
  simp only [foot, Value.ownBlock, Option.toList_none, List.mem_cons, List.not_mem_nil, or_false] at hx
  rcases hx with rfl | rfl | rfl <;> omega
theorem use_write_yes {B : Nat} {w : World} {b : Nat} {S : Dk} (h : DkIn B w b S) (hw : B ≤ w.heap.size) (p : Int) (s : ByteArray) (h0 : -9223372036854775808 ≤ p) (h1 : p ≤ 9223372036854775807) (ht : Tab w)
    (he : S.werr p s.size = 0) (hs : (S.wrote p s).Small) :
    Calls Tryz.prog 60 #[.pointer (some ⟨b, 0, none⟩), .int .i64 p, .string s] w fun e w2 => e = .returned .nilIface ∧ DkIn B w2 b (S.wrote p s) ∧ Up B w w2 := by
  obtain ⟨⟨a1, a2, a3⟩, bf, bc, lv, D, hB⟩ := h
  refine (write_any w b bf bc lv S D p s h0 h1 ht a1 a2 a3).mono ?_
  rintro e w2 ⟨⟨v, rfl, hv⟩, hd⟩
  rw [he] at hv
  rcases hv with ⟨rfl, _⟩ | ⟨_, h0⟩
  · exact ⟨rfl, DkIn.then hd hs hB hw⟩
  · exact absurd rfl h0
theorem use_write_no {B : Nat} {w : World} {b : Nat} {S : Dk} (h : DkIn B w b S) (hw : B ≤ w.heap.size) (p : Int) (s : ByteArray) (h0 : -9223372036854775808 ≤ p) (h1 : p ≤ 9223372036854775807) (ht : Tab w)
    (why : Int) (he : S.werr p s.size = why) (hn : why ≠ 0) :
    Calls Tryz.prog 60 #[.pointer (some ⟨b, 0, none⟩), .int .i64 p, .string s] w fun e w2 => (∃ t, e = .returned (.iface 134 (.agg #[.string t, .int .i64 why]))) ∧ DkIn B w2 b { S with dead := decide (why = 25) } ∧ Up B w w2 := by
  obtain ⟨⟨a1, a2, a3⟩, bf, bc, lv, D, hB⟩ := h
  refine (write_any w b bf bc lv S D p s h0 h1 ht a1 a2 a3).mono ?_
  rintro e w2 ⟨⟨v, rfl, hv⟩, hd⟩
  rw [he] at hv
  rcases hv with ⟨_, h0⟩ | ⟨⟨t, rfl⟩, _⟩
  · exact absurd h0 hn
  · refine ⟨⟨t, rfl⟩, ?_⟩
    have : S.wrote p s = { S with dead := decide (why = 25) } := by
      unfold Dk.wrote
      rw [he, if_neg hn]
    rw [this] at hd
    exact DkIn.then hd ⟨a1, a2, a3⟩ hB hw
theorem use_read_yes {B : Nat} {w : World} {b : Nat} {S : Dk} (h : DkIn B w b S) (p : Int) (h0 : -9223372036854775808 ≤ p) (h1 : p ≤ 9223372036854775807) (ht : Tab w) (t : ByteArray) (he : S.rerr p = 0) (hb : S.rbytes p = t) :
    Calls Tryz.prog 25 #[.pointer (some ⟨b, 0, none⟩), .int .i64 p] w fun e w2 => e = .returned (.tuple #[.string t, .nilIface]) ∧ DkIn B w2 b S ∧ Kp [] w w2 := by
  obtain ⟨hs, bf, bc, lv, D, hB⟩ := h
  refine (read_any D p h0 h1 ht).mono ?_
  rintro e w2 ⟨⟨v, rfl, hv⟩, hk⟩
  rw [he] at hv
  rw [hb]
  rcases hv with ⟨rfl, _⟩ | ⟨_, h0⟩
  · exact ⟨rfl, DkIn.kept ⟨hs, bf, bc, lv, D, hB⟩ hk, hk⟩
  · exact absurd rfl h0
theorem use_read_no {B : Nat} {w : World} {b : Nat} {S : Dk} (h : DkIn B w b S) (p : Int) (h0 : -9223372036854775808 ≤ p) (h1 : p ≤ 9223372036854775807) (ht : Tab w) (why : Int) (he : S.rerr p = why) (hn : why ≠ 0) :
    Calls Tryz.prog 25 #[.pointer (some ⟨b, 0, none⟩), .int .i64 p] w fun e w2 => (∃ t, e = .returned (.tuple #[.string ⟨#[]⟩, .iface 134 (.agg #[.string t, .int .i64 why])])) ∧ DkIn B w2 b S ∧ Kp [] w w2 := by
  obtain ⟨hs, bf, bc, lv, D, hB⟩ := h
  refine (read_any D p h0 h1 ht).mono ?_
  rintro e w2 ⟨⟨v, rfl, hv⟩, hk⟩
  have hb : S.rbytes p = ⟨#[]⟩ := by
    unfold Dk.rbytes
    rw [he, if_neg hn]
  rw [he] at hv
  rw [hb]
  rcases hv with ⟨_, h0⟩ | ⟨⟨t, rfl⟩, _⟩
  · exact absurd h0 hn
  · exact ⟨⟨t, rfl⟩, DkIn.kept ⟨hs, bf, bc, lv, D, hB⟩ hk, hk⟩
theorem use_cut {B : Nat} {w : World} {b : Nat} {S : Dk} (h : DkIn B w b S) (p : Int) (h1 : p ≤ 9223372036854775807) :
    Calls Tryz.prog 21 #[.pointer (some ⟨b, 0, none⟩), .int .i64 p] w fun e w2 => e = .returned (.tuple #[]) ∧ DkIn B w2 b (S.cutAt p) ∧ Up B w w2 := by
  obtain ⟨⟨a1, a2, a3⟩, bf, bc, lv, D, hB⟩ := h
  refine (cut_any D p).mono ?_
  rintro e w2 ⟨rfl, D2, k2⟩
  exact ⟨rfl, ⟨⟨a1, by show (max p 0).toNat ≤ _; omega, a3⟩, bf, bc, lv, D2, hB⟩, k2.up hB⟩
theorem foot_nil {B b bf bc : Nat} {lv : Value} (hB : ∀ x ∈ foot b bf bc lv, B ≤ x) : ∀ x ∈ foot b bf bc (.slice none 0 0), B ≤ x := fun x hx => by
  simp only [foot, Value.ownBlock, Option.toList_none, List.mem_cons, List.not_mem_nil, or_false] at hx
  exact hB x (by simp only [foot, List.mem_cons]; rcases hx with rfl | rfl | rfl <;> simp)
theorem use_crash_nil {B : Nat} {w : World} {b : Nat} {S : Dk} (h : DkIn B w b S) (tn : Int) :
    Calls Tryz.prog 18 #[.pointer (some ⟨b, 0, none⟩), .slice none 0 0, .int .i64 tn] w fun e w2 => e = .returned (.tuple #[]) ∧ DkIn B w2 b (S.crash [] tn) ∧ Up B w w2 := by
  obtain ⟨⟨a1, a2, a3⟩, bf, bc, lv, D, hB⟩ := h
  refine (crash_any D a3 none 0 [] (fun i hi => by simp at hi) tn).mono ?_
  rintro e w2 ⟨rfl, D2, k2⟩
  exact ⟨rfl, ⟨⟨a1, by simp [Dk.crash], by simp [Dk.crash]⟩, bf, bc, _, D2, foot_nil hB⟩, k2.up hB⟩
theorem use_flush_yes {B : Nat} {w : World} {b : Nat} {S : Dk} (h : DkIn B w b S) (hd : S.dead = false) :
    Calls Tryz.prog 48 #[.pointer (some ⟨b, 0, none⟩)] w fun e w2 => e = .returned .nilIface ∧ DkIn B w2 b { S with F := lay S.F S.L, L := [] } ∧ Up B w w2 := by
  obtain ⟨⟨a1, a2, a3⟩, bf, bc, lv, D, hB⟩ := h
  refine (flush_ok D hd a3).mono ?_
  rintro e w2 ⟨rfl, D2, k2⟩
  exact ⟨rfl, ⟨⟨a1, a2, by simp⟩, bf, bc, _, D2, foot_nil hB⟩, k2.up hB⟩
theorem use_flush_no {B : Nat} {w : World} {b : Nat} {S : Dk} (h : DkIn B w b S) (hd : S.dead = true) :
    Calls Tryz.prog 48 #[.pointer (some ⟨b, 0, none⟩)] w fun e w2 => (∃ t, e = .returned (.iface 134 (.agg #[.string t, .int .i64 25]))) ∧ DkIn B w2 b S ∧ Kp [] w w2 := by
  obtain ⟨hs, bf, bc, lv, D, hB⟩ := h
  have h4 := D.c4
  rw [hd] at h4
  refine (flush_dead h4).mono ?_
  rintro e w2 ⟨⟨v, rfl, ⟨t, rfl⟩⟩, hk⟩
  exact ⟨⟨t, rfl⟩, DkIn.kept ⟨hs, bf, bc, lv, D, hB⟩ hk, hk⟩
theorem use_len {B : Nat} {w : World} {b : Nat} {S : Dk} (h : DkIn B w b S) :
    Calls Tryz.prog 59 #[.pointer (some ⟨b, 0, none⟩)] w fun e w2 => e = .returned (.int .i64 S.n) ∧ w = w2 := by
  obtain ⟨hs, bf, bc, lv, D, hB⟩ := h
  exact len_any b S.n S.n _ w D.c1
theorem use_writes {B : Nat} {w : World} {b : Nat} {S : Dk} (h : DkIn B w b S) :
    Calls Tryz.prog 24 #[.pointer (some ⟨b, 0, none⟩)] w fun e w2 => e = .returned (.int .i64 S.writes) ∧ w = w2 := by
  obtain ⟨hs, bf, bc, lv, D, hB⟩ := h
  exact writes_any b S.writes w D.c3
theorem use_is {t : ByteArray} {why c : Int} (hc : c ≠ 0) (w : World) :
    Calls Tryz.prog 27 #[.iface 134 (.agg #[.string t, .int .i64 why]), .iface 63 (.int .i64 c)] w fun e w2 => e = .returned (.bool (decide (why = c))) ∧ Kp [] w w2 :=
  DkE.is_any _ why c (.inr ⟨t, rfl⟩) hc w
end Go.Proofs.YtggnljfcdohkaaaGreatDoor
