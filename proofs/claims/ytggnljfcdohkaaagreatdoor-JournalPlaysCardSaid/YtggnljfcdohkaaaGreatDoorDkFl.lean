/- Contracts of Read where it is refused, of Cut, of Flush where there is no power; a row's elements. -/
import Derived.Test.YtggnljfcdohkaaaGreatDoorDkWrNo
namespace Go.Proofs.YtggnljfcdohkaaaGreatDoor
open Go.RowKit

theorem read_ref {w : World} {b : Nat} (p : Int) (why : Int)
    (hm : ∀ s : ByteArray, s.size ≤ 1000 → Calls Tryz.prog 52 #[.pointer (some ⟨b, 0, none⟩), .string s, .int .i64 p] w (Refused why w)) :
    Calls Tryz.prog 25 #[.pointer (some ⟨b, 0, none⟩), .int .i64 p] w fun e w2 => (∃ v, e = .returned (.tuple #[.string ⟨#[]⟩, v]) ∧ IsRef why v) ∧ Kp [] w w2 := by
  have Hm := Lib.hid hm
  clear hm
  go_enter Tryz.func25, Tryz.ntmps25
  go_wp2_with (go_at_call 52; refine (Hm.out _ (by decide)).mono ?_; rintro e w1 ⟨v, rfl, ⟨t, rfl⟩, k1⟩)
  go_ret2
  exact ⟨⟨_, rfl, ⟨t, rfl⟩⟩, k1⟩

/-- What Read tells: the bytes, the number of the error (0: none). -/
def Dk.rerr (S : Dk) (p : Int) : Int := if S.dead then 25 else if p < 0 ∨ (S.n : Int) ≤ p then 14 else 0
def Dk.rbytes (S : Dk) (p : Int) : ByteArray := if S.rerr p = 0 then S.read p.toNat else ⟨#[]⟩
theorem read_any {w : World} {b bf bc : Nat} {lv : Value} {S : Dk} (h : DkAt w b bf bc lv S) (p : Int) (h0 : -9223372036854775808 ≤ p) (h1 : p ≤ 9223372036854775807) (ht : Tab w) :
    Calls Tryz.prog 25 #[.pointer (some ⟨b, 0, none⟩), .int .i64 p] w fun e w2 => (∃ v, e = .returned (.tuple #[.string (S.rbytes p), v]) ∧ Answers (S.rerr p) v) ∧ Kp [] w w2 := by
  by_cases hd : S.dead = true
  · have h4 := h.c4
    rw [hd] at h4
    have hr : S.rerr p = 25 := by simp [Dk.rerr, hd]
    refine (read_ref p 25 (fun s hs => reach_dead b s hs p w h4 ht h0 h1)).mono ?_
    rintro e w2 ⟨⟨v, rfl, hv⟩, hk⟩
    refine ⟨⟨v, ?_, by rw [hr]; exact .inr ⟨hv, by decide⟩⟩, hk⟩
    unfold Dk.rbytes
    rw [hr, if_neg (by decide)]
  have hd : S.dead = false := by simpa using hd
  have h4 := h.c4
  rw [hd] at h4
  by_cases hr : p < 0 ∨ (S.n : Int) ≤ p
  · have hr2 : S.rerr p = 14 := by simp [Dk.rerr, hd, hr]
    refine (read_ref p 14 (fun s hs => reach_full b S.n S.n s hs p _ w h4 h.c1 hr ht h0 h1)).mono ?_
    rintro e w2 ⟨⟨v, rfl, hv⟩, hk⟩
    refine ⟨⟨v, ?_, by rw [hr2]; exact .inr ⟨hv, by decide⟩⟩, hk⟩
    unfold Dk.rbytes
    rw [hr2, if_neg (by decide)]
  have hr2 : S.rerr p = 0 := by simp [Dk.rerr, hd, hr]
  obtain ⟨k, rfl⟩ := Int.eq_ofNat_of_zero_le (show 0 ≤ p by omega)
  refine (read_ok h hd k (by omega)).mono ?_
  rintro e w2 ⟨rfl, rfl⟩
  refine ⟨⟨_, ?_, .inl ⟨rfl, hr2⟩⟩, Kp.refl _ _⟩
  unfold Dk.rbytes
  rw [if_pos hr2]
  rfl

/-- The disk behind a call of Cut. -/
def Dk.cutAt (S : Dk) (p : Int) : Dk := { S with cut := decide (0 ≤ p), left := (max p 0).toNat }
theorem cut_any {w : World} {b bf bc : Nat} {lv : Value} {S : Dk} (h : DkAt w b bf bc lv S) (p : Int) :
    Calls Tryz.prog 21 #[.pointer (some ⟨b, 0, none⟩), .int .i64 p] w fun e w2 => e = .returned (.tuple #[]) ∧ DkAt w2 b bf bc lv (S.cutAt p) ∧ Kp (foot b bf bc lv) w w2 := by
  have h5 := h.c5
  have h6 := h.c6
  have f5 := h.fr 5
  have f6 := h.fr 6
  have H := Lib.hid h
  clear h
  go_enter Tryz.func21, Tryz.ntmps21
  go_wp2
  go_end0
  refine ⟨rfl, ?_, ?_⟩
  · have D := (H.out.set5 (decide (0 ≤ p))).set6 (max p 0).toNat
    rw [setI (show max p 0 = (((max p 0).toNat : Nat) : Int) by omega)]
    exact D
  · exact ((Kp.refl _ w).setCell (.inl (by simp [foot])) _).setCell (.inl (by simp [foot])) _

theorem flush_dead {w : World} {b : Nat} (h4 : w.cell? ⟨b, 4, none⟩ = some (.bool true)) :
    Calls Tryz.prog 48 #[.pointer (some ⟨b, 0, none⟩)] w fun e w2 => (∃ v, e = .returned v ∧ IsRef 25 v) ∧ Kp [] w w2 := by
  go_enter Tryz.func48, Tryz.ntmps48
  go_wp2
  go_ret
  exact ⟨⟨_, rfl, ⟨_, rfl⟩⟩, Kp.refl _ _⟩

theorem cellsL_at (L : List (Nat × List UInt8)) (hl : ∀ x ∈ L, x.2.length = 64) (i : Nat) (hi : i < L.length) (j : Nat) (hj : j < 65) : (cellsL L)[i * 65 + j]? = (cellsW L[i])[j]? := by
  induction L generalizing i with
  | nil => simp at hi
  | cons x r ih =>
    have hx : (cellsW x).length = 65 := by simp [cellsW, hl x (by simp)]
    unfold cellsL at ih ⊢
    rw [List.flatMap_cons]
    cases i with
    | zero =>
      rw [Nat.zero_mul, Nat.zero_add, List.getElem?_append_left (by omega)]
      rfl
    | succ i =>
      rw [List.getElem?_append_right (by omega), hx]
      have := ih (fun y hy => hl y (by simp [hy])) i (by simpa using hi)
      rw [show (i + 1) * 65 + j - 65 = i * 65 + j by omega, this]
      rfl
/-- An element of the loose row, in memory. -/
theorem owns_range {w : World} {base e : Nat} {L : List (Nat × List UInt8)} {a : Option Addr} {cap : Nat} (h : w.ownsRow base e 65 (.slice a L.length cap) L.length (cellsL L)) (hl : ∀ x ∈ L, x.2.length = 64) (i : Nat) (hi : i < L.length) :
    ∃ g, a = some ⟨g, 0, none⟩ ∧ w.rangeAt g (i * 65) (cellsW L[i]) := by
  rcases h.2 with ⟨_, h0⟩ | ⟨g, cap2, cur, hv, hb, hg, h1, h2, h3, h4⟩
  · omega
  · injection hv with e1 e2 e3
    refine ⟨g, e1, fun j v hj => ?_⟩
    have hlen : (cellsW L[i]).length = 65 := by simp [cellsW, hl L[i] (List.getElem_mem hi)]
    have hjl : j < 65 := by
      have := (List.getElem?_eq_some_iff.1 hj).1
      omega
    have hc := cellsL_at L hl i hi j hjl
    rw [hj, ← h4, List.getElem?_take] at hc
    have hbnd : i * 65 + j < L.length * 65 := by
      have : (i + 1) * 65 ≤ L.length * 65 := Nat.mul_le_mul_right 65 hi
      omega
    rw [if_pos hbnd] at hc
    simp only [World.cell?, hg]
    simpa using hc
end Go.Proofs.YtggnljfcdohkaaaGreatDoor
/- Contract of (*disk.Disk).Flush with power: every loose Write goes down, in order. -/
namespace Go.Proofs.YtggnljfcdohkaaaGreatDoor
open Go.RowKit

/-- Sectors behind so many Writes that lasted. -/
def lay (F : Nat → List UInt8) (L : List (Nat × List UInt8)) : Nat → List UInt8 := L.foldl (fun F x => upd F x.1 x.2) F
theorem lay_take (F : Nat → List UInt8) (L : List (Nat × List UInt8)) (k : Nat) (hk : k < L.length) : lay F (L.take (k + 1)) = upd (lay F (L.take k)) L[k].1 L[k].2 := by
  unfold lay
  rw [List.take_succ_eq_append_getElem hk, List.foldl_append]
  rfl
theorem store_new (w : World) (cw : List Value) (hl : cw.length = 65) (h1 : ∀ v ∈ cw, v.oneCell' = true) : (storeCells ⟨w.heap.size, 0, none⟩ cw).run Tryz.prog (w.alloc (.cells Tryz.zeroCells91 91)) = .ok () (w.alloc (.cells cw.toArray 91)) := by
  have := run_storeCells_new (P := Tryz.prog) w 91 Tryz.zeroCells91 cw.toArray (by
    obtain ⟨i, hi, hx⟩ := Option.map_eq_some_iff.1 infoWrite
    simp only [Prod.mk.injEq] at hx
    rw [hi, Option.map_some, hx.2.1, List.size_toArray, hl]) (by rw [size_zeroW, List.size_toArray, hl]) (all_oneCell_toArray h1)
  exact this

attribute [local go_sem ↓] Go.wp_at_zero Go.wp_at_succ wp_load_write
set_option maxHeartbeats 1600000 in
set_option maxRecDepth 20000 in
theorem flush_ok {w : World} {b bf bc : Nat} {lv : Value} {S : Dk} (h : DkAt w b bf bc lv S) (hd : S.dead = false) (hL : S.L.length < 4294967296) :
    Calls Tryz.prog 48 #[.pointer (some ⟨b, 0, none⟩)] w fun e w2 => e = .returned .nilIface ∧ DkAt w2 b bf bc (.slice none 0 0) { S with F := lay S.F S.L, L := [] } ∧ Kp (foot b bf bc lv) w w2 := by
  have h4 := h.c4
  rw [hd] at h4
  have h2 := h.c2
  obtain ⟨a, cap, rfl⟩ := h.form
  have HH := Lib.hid h
  clear h hd
  go_enter Tryz.func48, Tryz.ntmps48
  go_wp2
  go_loopw [16] (fun i wr => ∃ k : Nat, k ≤ S.L.length ∧ i = .int .i64 k ∧ DkAt wr b bf bc (.slice a S.L.length cap) { S with F := lay S.F (S.L.take k) } ∧ Kp (foot b bf bc (.slice a S.L.length cap)) w wr) (fun i _ => S.L.length - (intOf i).toNat)
  case atStart => exact ⟨0, Nat.zero_le _, rfl, by simpa [lay] using HH.out, Kp.refl _ _⟩
  case round =>
    obtain ⟨k, hk, rfl, D, K⟩ := hrel
    by_cases hlt : k < S.L.length
    · have hkn : (k : Int) < (S.L.length : Int) := by omega
      have hk0 : (0 : Int) ≤ (k : Int) := by omega
      obtain ⟨g, rfl, hr⟩ := owns_range D.ls (fun x hx => (D.lok x hx).2) k hlt
      obtain ⟨hx1, hx2⟩ := D.lok _ (List.getElem_mem hlt)
      simp only at hr hx1 hx2
      have hcl : (cellsW S.L[k]).length = 65 := by simp [cellsW, hx2]
      have h1c : ∀ v ∈ cellsW S.L[k], v.oneCell' = true := cellsW_one _ _
      have hp : ptrRow wr (.pointer (some ⟨g, k * 65, none⟩)) 65 := ⟨g, k * 65, _, rfl, hr, hcl⟩
      have hpc : ptrCells wr (.pointer (some ⟨g, k * 65, none⟩)) 65 = (cellsW S.L[k]).toArray := ptrCells_of hr hcl
      have hst := store_new wr (cellsW S.L[k]) hcl h1c
      have hc0 := D.c0
      have hTb : wr.heap.size ≠ b := fun e => by have := D.lb; omega
      have hTf : wr.heap.size ≠ bf := fun e => by have := D.lf; omega
      have hbf : b ≠ bf := fun e => D.ne1 e.symm
      have D1 : DkAt (wr.alloc (wBlk S.L[k].1 S.L[k].2)) b bf bc _ _ := D.new ((Kp.refl [] wr).alloc _)
      have K1 : Kp [] wr (wr.alloc (wBlk S.L[k].1 S.L[k].2)) := (Kp.refl [] wr).alloc _
      have hblk : (wr.alloc (wBlk S.L[k].1 S.L[k].2)).heap[wr.heap.size]? = some (wBlk S.L[k].1 S.L[k].2) := heap_alloc_new wr _
      have hwb : wr.alloc (.cells (cellsW S.L[k]).toArray 91) = wr.alloc (wBlk S.L[k].1 S.L[k].2) := rfl
      rw [hwb] at hst
      have HD1 := Lib.hid D1
      have HK1 := Lib.hid K1
      have Hblk := Lib.hid hblk
      have HK := Lib.hid K
      have HD := Lib.hid D
      have Hx1 := Lib.hid hx1
      have Hx2 := Lib.hid hx2
      clear D1 K1 hblk K D hwb hx1 hx2 hr
      generalize cellsW S.L[k] = cw at *
      go_wp2
      have D1 := HD1.out
      have hblk := Hblk.out
      have c0 := D1.c0
      have hgx := Hx1.out
      obtain ⟨-, r2⟩ := range_wBlk hblk
      have c1 : (wr.alloc (wBlk S.L[k].1 S.L[k].2)).cell? ⟨wr.heap.size, 0, none⟩ = some (.int .i64 (S.L[k].1 : Int)) := by rw [cell_wBlk hblk]; rfl
      have th := (D1.fs S.L[k].1 hgx).2.2
      have hu65 := Tryz.underlying89
      have hi65 : (Tryz.prog.info? 89).map (·.size) = some (bytesV S.L[k].2).length := by rw [bytesV_length, Hx2.out]; kernel_rfl
      have hlb : (bytesV S.L[k].2).length = 64 := by rw [bytesV_length, Hx2.out]
      have h1d := bytesV_one S.L[k].2
      have hg1 : ((S.L[k].1 : Nat) : Int) < (S.n : Int) := by omega
      have hg0 : (0 : Int) ≤ ((S.L[k].1 : Nat) : Int) := by omega
      clear D1 hblk hc0 hst hp hpc hgx h1c hcl
      generalize wr.heap.size = T at *
      generalize wr.alloc (wBlk S.L[k].1 S.L[k].2) = W2 at *
      generalize hcs : bytesV S.L[k].2 = cs at *
      have Hcs := Lib.hid hcs
      clear hcs
      generalize hq : S.L[k].1 = q at *
      have Hq := Lib.hid hq
      clear hq
      simp only at c0
      go_region_held3 (fun w' => w'.cell? ⟨b, 0, none⟩ = some (.slice (some ⟨bf, 0, none⟩) S.n S.n) ∧ w'.cell? ⟨T, 0, none⟩ = some (.int .i64 (q : Int)) ∧ w'.rangeAt T 1 cs ∧ w'.there bf (q * 64) 64) (first | go_keep_ranges | (go_split_ands; exact ⟨by (rw [cell_setCells_far _ _ _ _ _ _ hbf]; first | assumption | (simp; assumption)), by (rw [cell_setCells_far _ _ _ _ _ _ hTf]; first | assumption | (simp; assumption)), by (refine World.rangeAt_setCells_apart ?_ _ _ _ (.inl hTf); first | assumption | (simp; assumption)), by (refine World.there_setCells ?_ _ _ _; first | assumption | (simp; assumption))⟩)) (fail)
      go_wp2
      go_roundw
      case rel =>
        have D3 := (HD1.out.new (Kp.refl [] W2).drew).setF (k := q) (by have := Hx1.out; omega) Hx2.out
        rw [Hcs.out] at D3
        refine ⟨k + 1, by omega, by go_num, ?_, ?_⟩
        · rw [lay_take S.F S.L k hlt, Hq.out]
          exact D3
        · exact ((HK.out.trans (HK1.out.mono (by simp))).drew).setCells (.inl (by simp [foot])) _ _
      case measure => simp [intOf]; omega
    · have hkl : k = S.L.length := by omega
      subst hkl
      have g2 := D.c2
      have f2 := D.fr 2
      have HD := Lib.hid D
      have HK := Lib.hid K
      clear D K
      go_wp2
      go_ret
      refine ⟨rfl, ?_, HK.out.setCell (.inl (by simp [foot])) _⟩
      have := HD.out.clearL
      rw [List.take_of_length_le (Nat.le_refl _)] at this
      exact this
end Go.Proofs.YtggnljfcdohkaaaGreatDoor
