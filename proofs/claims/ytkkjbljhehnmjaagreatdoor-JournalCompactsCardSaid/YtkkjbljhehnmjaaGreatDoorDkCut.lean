/- Contracts of Read where it is refused, of Cut, of Flush where there is no power; a row's elements. -/
import Derived.Test.YtkkjbljhehnmjaaGreatDoorDkWrNo
namespace Go.Proofs.YtkkjbljhehnmjaaGreatDoor
open Go.RowKit

theorem read_ref {w : World} {b : Nat} (p : Int) (why : Int)
    (hm : ∀ s : ByteArray, s.size ≤ 1000 → Calls Tryz.prog 57 #[.pointer (some ⟨b, 0, none⟩), .string s, .int .i64 p] w (Refused why w)) :
    Calls Tryz.prog 27 #[.pointer (some ⟨b, 0, none⟩), .int .i64 p] w fun e w2 => (∃ v, e = .returned (.tuple #[.string ⟨#[]⟩, v]) ∧ IsRef why v) ∧ Kp [] w w2 := by
  have Hm := Lib.hid hm
  clear hm
  go_enter Tryz.func27, Tryz.ntmps27
  go_wp2_with (go_at_call 57; refine (Hm.out _ (by decide)).mono ?_; rintro e w1 ⟨v, rfl, ⟨t, rfl⟩, k1⟩)
  go_ret2
  exact ⟨⟨_, rfl, ⟨t, rfl⟩⟩, k1⟩

/-- What Read tells: the bytes, the number of the error (0: none). -/
def Dk.rerr (S : Dk) (p : Int) : Int := if S.dead then 25 else if p < 0 ∨ (S.n : Int) ≤ p then 14 else 0
def Dk.rbytes (S : Dk) (p : Int) : ByteArray := if S.rerr p = 0 then S.read p.toNat else ⟨#[]⟩
theorem read_any {w : World} {b bf bc : Nat} {lv : Value} {S : Dk} (h : DkAt w b bf bc lv S) (p : Int) (h0 : -9223372036854775808 ≤ p) (h1 : p ≤ 9223372036854775807) (ht : Tab w) :
    Calls Tryz.prog 27 #[.pointer (some ⟨b, 0, none⟩), .int .i64 p] w fun e w2 => (∃ v, e = .returned (.tuple #[.string (S.rbytes p), v]) ∧ Answers (S.rerr p) v) ∧ Kp [] w w2 := by
  by_cases hd : S.dead = true
  · have h4 := h.c4
    rw [hd] at h4
    have hr : S.rerr p = 25 := by simp [Dk.rerr, hd]
    refine (read_ref p 25 (fun s hs => reach_dead b s hs p w h4 ht h0 h1)).mono ?_
    rintro e w2 ⟨⟨v, rfl, hv⟩, hk⟩
    refine ⟨⟨v, ?_, by rw [hr]; exact .inr ⟨hv, by decide⟩⟩, hk⟩
    unfold Dk.rbytes
    rw [hr, if_neg (by decide)]
  have hd : S.dead = false := by simpa using hd
  have h4 := h.c4
  rw [hd] at h4
  by_cases hr : p < 0 ∨ (S.n : Int) ≤ p
  · have hr2 : S.rerr p = 14 := by simp [Dk.rerr, hd, hr]
    refine (read_ref p 14 (fun s hs => reach_full b S.n S.n s hs p _ w h4 h.c1 hr ht h0 h1)).mono ?_
    rintro e w2 ⟨⟨v, rfl, hv⟩, hk⟩
    refine ⟨⟨v, ?_, by rw [hr2]; exact .inr ⟨hv, by decide⟩⟩, hk⟩
    unfold Dk.rbytes
    rw [hr2, if_neg (by decide)]
  have hr2 : S.rerr p = 0 := by simp [Dk.rerr, hd, hr]
  obtain ⟨k, rfl⟩ := Int.eq_ofNat_of_zero_le (show 0 ≤ p by omega)
  refine (read_ok h hd k (by omega)).mono ?_
  rintro e w2 ⟨rfl, rfl⟩
  refine ⟨⟨_, ?_, .inl ⟨rfl, hr2⟩⟩, Kp.refl _ _⟩
  unfold Dk.rbytes
  rw [if_pos hr2]
  rfl

/-- The disk behind a call of Cut. -/
def Dk.cutAt (S : Dk) (p : Int) : Dk := { S with cut := decide (0 ≤ p), left := (max p 0).toNat }
theorem cut_any {w : World} {b bf bc : Nat} {lv : Value} {S : Dk} (h : DkAt w b bf bc lv S) (p : Int) :
    Calls Tryz.prog 23 #[.pointer (some ⟨b, 0, none⟩), .int .i64 p] w fun e w2 => e = .returned (.tuple #[]) ∧ DkAt w2 b bf bc lv (S.cutAt p) ∧ Kp (foot b bf bc lv) w w2 := by
  have h5 := h.c5
  have h6 := h.c6
  have f5 := h.fr 5
  have f6 := h.fr 6
  have H := Lib.hid h
  clear h
  go_enter Tryz.func23, Tryz.ntmps23
  go_wp2
  go_end0
  refine ⟨rfl, ?_, ?_⟩
  · have D := (H.out.set5 (decide (0 ≤ p))).set6 (max p 0).toNat
    rw [setI (show max p 0 = (((max p 0).toNat : Nat) : Int) by omega)]
    exact D
  · exact ((Kp.refl _ w).setCell (.inl (by simp [foot])) _).setCell (.inl (by simp [foot])) _

theorem flush_dead {w : World} {b : Nat} (h4 : w.cell? ⟨b, 4, none⟩ = some (.bool true)) :
    Calls Tryz.prog 53 #[.pointer (some ⟨b, 0, none⟩)] w fun e w2 => (∃ v, e = .returned v ∧ IsRef 25 v) ∧ Kp [] w w2 := by
  go_enter Tryz.func53, Tryz.ntmps53
  go_wp2
  go_ret
  exact ⟨⟨_, rfl, ⟨_, rfl⟩⟩, Kp.refl _ _⟩

theorem cellsL_at (L : List (Nat × List UInt8)) (hl : ∀ x ∈ L, x.2.length = 64) (i : Nat) (hi : i < L.length) (j : Nat) (hj : j < 65) : (cellsL L)[i * 65 + j]? = (cellsW L[i])[j]? := by
  induction L generalizing i with
  | nil => simp at hi
  | cons x r ih =>
    have hx : (cellsW x).length = 65 := by simp [cellsW, hl x (by simp)]
    unfold cellsL at ih ⊢
    rw [List.flatMap_cons]
    cases i with
    | zero =>
      rw [Nat.zero_mul, Nat.zero_add, List.getElem?_append_left (by omega)]
      rfl
    | succ i =>
      rw [List.getElem?_append_right (by omega), hx]
      have := ih (fun y hy => hl y (by simp [hy])) i (by simpa using hi)
      rw [show (i + 1) * 65 + j - 65 = i * 65 + j by omega, this]
      rfl
/-- An element of the loose row, in memory. -/
theorem owns_range {w : World} {base e : Nat} {L : List (Nat × List UInt8)} {a : Option Addr} {cap : Nat} (h : w.ownsRow base e 65 (.slice a L.length cap) L.length (cellsL L)) (hl : ∀ x ∈ L, x.2.length = 64) (i : Nat) (hi : i < L.length) :
    ∃ g, a = some ⟨g, 0, none⟩ ∧ w.rangeAt g (i * 65) (cellsW L[i]) := by
  rcases h.2 with ⟨_, h0⟩ | ⟨g, cap2, cur, hv, hb, hg, h1, h2, h3, h4⟩
  · omega
  · injection hv with e1 e2 e3
    refine ⟨g, e1, fun j v hj => ?_⟩
    have hlen : (cellsW L[i]).length = 65 := by simp [cellsW, hl L[i] (List.getElem_mem hi)]
    have hjl : j < 65 := by
      have := (List.getElem?_eq_some_iff.1 hj).1
      omega
    have hc := cellsL_at L hl i hi j hjl
    rw [hj, ← h4, List.getElem?_take] at hc
    have hbnd : i * 65 + j < L.length * 65 := by
      have : (i + 1) * 65 ≤ L.length * 65 := Nat.mul_le_mul_right 65 hi
      omega
    rw [if_pos hbnd] at hc
    simp only [World.cell?, hg]
    simpa using hc
end Go.Proofs.YtkkjbljhehnmjaaGreatDoor
