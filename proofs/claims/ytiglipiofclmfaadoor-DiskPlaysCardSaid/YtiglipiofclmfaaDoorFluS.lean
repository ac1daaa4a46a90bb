/- The plain mathematics of the law DiskFlushed: the disk's states in the law's course. -/
import Derived.Test.YtiglipiofclmfaaDoorLim
namespace Go.Proofs.YtiglipiofclmfaaDoor
open Go.RowKit

/-- Sector k behind the first loop's Writes. -/
def fullA (na : Nat) (sa : Nat → ByteArray) (k : Nat) : List UInt8 := if k < na then fillUp (sa k) else zSec
def st1 (sa : Nat → ByteArray) (i : Nat) : Dk :=
  { n := 8, F := fun _ => zSec, C := fullA i sa, L := (List.range i).map fun j => (j, fillUp (sa j)), writes := i, dead := false, cut := false, left := 0 }
def st2 (na : Nat) (sa sb : Nat → ByteArray) (j : Nat) : Dk :=
  { n := 8, F := fullA na sa, C := fun k => if k ≤ 7 ∧ 7 - k < j then fillUp (sb (7 - k)) else fullA na sa k, L := (List.range j).map fun i => (7 - i, fillUp (sb i)), writes := na + j, dead := false, cut := false, left := 0 }
/-- Sector k behind the crash. -/
def after (na nb : Nat) (sa sb : Nat → ByteArray) (ks : List Bool) (tn : Int) (k : Nat) : List UInt8 :=
  if k ≤ 7 ∧ 7 - k < nb then (if ks.getD (7 - k) false = true then torn (fullA na sa k) (fillUp (sb (7 - k))) (decide (((7 - k : Nat) : Int) = tn)) else fullA na sa k) else fullA na sa k

theorem st1_zero (sa : Nat → ByteArray) : Dk.new 8 = st1 sa 0 := by
  unfold Dk.new st1
  congr 1
theorem st1_err (sa : Nat → ByteArray) (i : Nat) (hi : i < 8) (hs : (sa i).size ≤ 64) : (st1 sa i).werr (i : Int) (sa i).size = 0 := by
  have h1 : ¬ ((i : Int) < 0 ∨ (8 : Int) ≤ (i : Int)) := by omega
  have h2 : ¬ 64 < (sa i).size := by omega
  simp [Dk.werr, st1, h2]
  omega
theorem st1_next (sa : Nat → ByteArray) (i : Nat) (hi : i < 8) (hs : (sa i).size ≤ 64) : (st1 sa i).wrote (i : Int) (sa i) = st1 sa (i + 1) := by
  unfold Dk.wrote
  rw [if_pos (st1_err sa i hi hs)]
  unfold Dk.write st1
  simp only [Int.toNat_natCast]
  congr 1
  · funext k
    unfold upd fullA
    by_cases e : k = i
    · subst e; simp
    · rw [if_neg e]
      by_cases hk : k < i
      · rw [if_pos hk, if_pos (by omega)]
      · rw [if_neg hk, if_neg (by omega)]
  · rw [List.range_succ, List.map_append]; rfl
theorem st1_small (sa : Nat → ByteArray) (i : Nat) (hi : i ≤ 8) : (st1 sa i).Small := ⟨by show i < _; omega, by show 0 ≤ _; omega, by show ((List.range i).map _).length < _; simp; omega⟩
theorem lay_range (F : Nat → List UInt8) (f : Nat → List UInt8) (n : Nat) : lay F ((List.range n).map fun j => (j, f j)) = fun k => if k < n then f k else F k := by
  induction n with
  | zero => funext k; simp [lay]
  | succ n ih =>
    rw [List.range_succ, List.map_append]
    unfold lay at ih ⊢
    rw [List.foldl_append, ih]
    funext k
    simp only [List.map_cons, List.map_nil, List.foldl_cons, List.foldl_nil, upd]
    by_cases e : k = n
    · subst e; simp
    · rw [if_neg e]
      by_cases hk : k < n
      · rw [if_pos hk, if_pos (by omega)]
      · rw [if_neg hk, if_neg (by omega)]
theorem st1_flush (sa sb : Nat → ByteArray) (na : Nat) : { st1 sa na with F := lay (st1 sa na).F (st1 sa na).L, L := [] } = st2 na sa sb 0 := by
  unfold st1 st2
  simp only
  congr 1
  · rw [lay_range]
    funext k
    rfl
  · funext k
    rw [if_neg (by omega)]
theorem st2_err (na : Nat) (sa sb : Nat → ByteArray) (j : Nat) (hj : j < 8) (hs : (sb j).size ≤ 64) : (st2 na sa sb j).werr (7 - (j : Int)) (sb j).size = 0 := by
  have h2 : ¬ 64 < (sb j).size := by omega
  simp [Dk.werr, st2, h2]
  omega
theorem st2_next (na : Nat) (sa sb : Nat → ByteArray) (j : Nat) (hj : j < 8) (hs : (sb j).size ≤ 64) : (st2 na sa sb j).wrote (7 - (j : Int)) (sb j) = st2 na sa sb (j + 1) := by
  unfold Dk.wrote
  rw [if_pos (st2_err na sa sb j hj hs)]
  have e : (7 - (j : Int)).toNat = 7 - j := by omega
  rw [e]
  unfold Dk.write st2
  simp only
  congr 1
  · funext k
    unfold upd
    by_cases e : k = 7 - j
    · subst e
      rw [if_pos rfl, if_pos (by omega)]
      congr 2; omega
    · rw [if_neg e]
      show (if k ≤ 7 ∧ 7 - k < j then fillUp (sb (7 - k)) else fullA na sa k) = _
      by_cases hk : k ≤ 7 ∧ 7 - k < j
      · rw [if_pos hk, if_pos (by omega)]
      · rw [if_neg hk, if_neg (by omega)]
  · rw [List.range_succ, List.map_append]; rfl
theorem st2_small (na : Nat) (sa sb : Nat → ByteArray) (j : Nat) (hi : na ≤ 8) (hj : j ≤ 8) : (st2 na sa sb j).Small := ⟨by show na + j < _; omega, by show 0 ≤ _; omega, by show ((List.range j).map _).length < _; simp; omega⟩
theorem st2_len (na : Nat) (sa sb : Nat → ByteArray) (j : Nat) : (st2 na sa sb j).L.length = j := by show ((List.range j).map _).length = j; simp
theorem land_at (na nb : Nat) (sa sb : Nat → ByteArray) (ks : List Bool) (tn : Int) (hb : nb ≤ 8) : ∀ m, m ≤ nb → landN ks tn (fullA na sa) ((List.range nb).map fun i => (7 - i, fillUp (sb i))) m = after na m sa sb ks tn := by
  intro m
  induction m with
  | zero => intro _; funext k; simp [landN_zero, after]
  | succ m ih =>
    intro hm
    have hl : m < ((List.range nb).map fun i => (7 - i, fillUp (sb i))).length := by simp; omega
    rw [landN_succ _ _ _ _ _ hl, ih (by omega)]
    have hx : ((List.range nb).map fun i => (7 - i, fillUp (sb i)))[m] = (7 - m, fillUp (sb m)) := by simp
    rw [hx]
    unfold land1
    funext k
    by_cases hk : ks.getD m false = true
    · rw [if_pos hk]
      simp only [upd]
      by_cases e : k = 7 - m
      · subst e
        have e2 : 7 - (7 - m) = m := by omega
        simp only [if_true, after, e2, hk]
        rw [if_neg (by omega), if_pos (by omega)]
      · rw [if_neg e]
        unfold after
        by_cases h : k ≤ 7 ∧ 7 - k < m
        · rw [if_pos h, if_pos (show k ≤ 7 ∧ 7 - k < m + 1 by omega)]
        · rw [if_neg h, if_neg (show ¬ (k ≤ 7 ∧ 7 - k < m + 1) by omega)]
    · rw [if_neg hk]
      unfold after
      by_cases h : k ≤ 7 ∧ 7 - k < m
      · rw [if_pos h, if_pos (show k ≤ 7 ∧ 7 - k < m + 1 by omega)]
      · rw [if_neg h]
        by_cases h2 : k ≤ 7 ∧ 7 - k < m + 1
        · rw [if_pos h2, show 7 - k = m by omega, if_neg hk]
        · rw [if_neg h2]
theorem reread_at (F C : Nat → List UInt8) (g : Nat → Nat) (f : Nat → List UInt8) (n k : Nat) : reread F C ((List.range n).map fun i => (g i, f i)) k = if ∃ i, i < n ∧ g i = k then F k else C k := by
  induction n with
  | zero => simp [reread]
  | succ n ih =>
    rw [List.range_succ, List.map_append]
    unfold reread at ih ⊢
    rw [List.foldl_append]
    simp only [List.map_cons, List.map_nil, List.foldl_cons, List.foldl_nil, upd]
    by_cases e : k = g n
    · subst e
      rw [if_pos rfl, if_pos ⟨n, by omega, rfl⟩]
    · rw [if_neg e, ih]
      by_cases h : ∃ i, i < n ∧ g i = k
      · rw [if_pos h, if_pos (by obtain ⟨i, h1, h2⟩ := h; exact ⟨i, by omega, h2⟩)]
      · rw [if_neg h, if_neg (by
          rintro ⟨i, h1, h2⟩
          by_cases hi : i = n
          · subst hi; exact e h2.symm
          · exact h ⟨i, by omega, h2⟩)]
theorem st2_read (na nb : Nat) (sa sb : Nat → ByteArray) (ks : List Bool) (tn : Int) (hb : nb ≤ 8) (k : Nat) (hk : k < 8) :
    ((st2 na sa sb nb).crash ks tn).rerr (k : Int) = 0 ∧ ((st2 na sa sb nb).crash ks tn).rbytes (k : Int) = ⟨(after na nb sa sb ks tn k).toArray⟩ := by
  have he : ((st2 na sa sb nb).crash ks tn).rerr (k : Int) = 0 := by
    simp [Dk.rerr, Dk.crash, st2]
    omega
  refine ⟨he, ?_⟩
  unfold Dk.rbytes
  rw [if_pos he, Int.toNat_natCast]
  unfold Dk.read Dk.crash
  simp only
  rw [st2_len]
  have hland := land_at na nb sa sb ks tn hb nb (Nat.le_refl _)
  have h2 : landN ks tn (st2 na sa sb nb).F (st2 na sa sb nb).L nb = after na nb sa sb ks tn := hland
  rw [h2]
  have h3 : reread (after na nb sa sb ks tn) (st2 na sa sb nb).C (st2 na sa sb nb).L k = after na nb sa sb ks tn k := by
    have := reread_at (after na nb sa sb ks tn) (st2 na sa sb nb).C (fun i => 7 - i) (fun i => fillUp (sb i)) nb k
    refine Eq.trans this ?_
    split
    · rfl
    · rename_i hn
      have h4 : ¬ (k ≤ 7 ∧ 7 - k < nb) := fun h => hn ⟨7 - k, h.2, by omega⟩
      show (if k ≤ 7 ∧ 7 - k < nb then fillUp (sb (7 - k)) else fullA na sa k) = _
      unfold after
      rw [if_neg h4, if_neg h4]
  rw [h3]
theorem crash_small (na nb : Nat) (sa sb : Nat → ByteArray) (ks : List Bool) (tn : Int) (hi : na ≤ 8) (hj : nb ≤ 8) : ((st2 na sa sb nb).crash ks tn).Small := ⟨by show na + nb < _; omega, by show 0 ≤ _; omega, by show 0 < _; omega⟩
end Go.Proofs.YtiglipiofclmfaaDoor
