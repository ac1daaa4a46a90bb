/- Numbers as bytes: plain mathematics of layer 2 (no program). -/
import Derived.WalkKit
namespace Go.Proofs.YtggnljfcdohkaaaGreatDoor
open Go.RowKit

/-- A number's bytes: sevens of bits, the lowest first, each plus 128 but the last one. -/
def numL (n : Nat) : List UInt8 := if _h : n < 128 then [UInt8.ofNat n] else UInt8.ofNat (n % 128 + 128) :: numL (n / 128)
termination_by n
decreasing_by omega
theorem numL_lt {n : Nat} (h : n < 128) : numL n = [UInt8.ofNat n] := by rw [numL, dif_pos h]
theorem numL_ge {n : Nat} (h : 128 ≤ n) : numL n = UInt8.ofNat (n % 128 + 128) :: numL (n / 128) := by rw [numL, dif_neg (by omega)]
def numS (n : Nat) : ByteArray := ⟨(numL n).toArray⟩
theorem numS_size (n : Nat) : (numS n).size = (numL n).length := by simp [numS, ByteArray.size]
theorem numS_toList (n : Nat) : (numS n).data.toList = numL n := by simp [numS]
theorem numL_len : ∀ (k n : Nat), n < 128 ^ (k + 1) → (numL n).length ≤ k + 1
  | 0, n, h => by rw [numL_lt (by simpa using h)]; simp
  | k + 1, n, h => by
    rcases Nat.lt_or_ge n 128 with h1 | h1
    · rw [numL_lt h1]; simp
    · rw [numL_ge h1]
      have := numL_len k (n / 128) (by rw [Nat.div_lt_iff_lt_mul (by decide)]; rw [Nat.pow_succ] at h; exact h)
      simp only [List.length_cons]; omega
theorem numL_pos (n : Nat) : 1 ≤ (numL n).length := by
  rcases Nat.lt_or_ge n 128 with h1 | h1
  · rw [numL_lt h1]; simp
  · rw [numL_ge h1]; simp

/-- What taking a number from bytes comes to: 0 (and the number, how many bytes), 10 (and which byte), 11 (and how many). -/
def takeL (i n : Nat) : List UInt8 → Nat × Nat × Nat
  | [] => (11, 0, i)
  | b :: r => if (0 < i ∧ b.toNat = 0) ∨ (i = 7 ∧ 128 ≤ b.toNat) then (10, 0, i) else if b.toNat < 128 then (0, n + b.toNat * 128 ^ i, i + 1) else takeL (i + 1) (n + (b.toNat - 128) * 128 ^ i) r

theorem ofNat_small {k : Nat} (h : k < 256) : (UInt8.ofNat k).toNat = k := by simp; omega

theorem take_num : ∀ (m k i n : Nat) (r : List UInt8), k ≤ m → i ≤ 7 → k < 128 ^ (8 - i) → (i = 0 ∨ 0 < k) → takeL i n (numL k ++ r) = (0, n + k * 128 ^ i, i + (numL k).length) := by
  intro m
  induction m with
  | zero =>
    intro k i n r hk hi hb h0
    obtain rfl : k = 0 := by omega
    obtain rfl : i = 0 := by omega
    rw [numL_lt (by decide)]
    simp [takeL]
  | succ m ih =>
    intro k i n r hk hi hb h0
    rcases Nat.lt_or_ge k 128 with h1 | h1
    · rw [numL_lt h1]
      simp only [List.cons_append, List.nil_append, takeL, ofNat_small (show k < 256 by omega)]
      rw [if_neg (by omega), if_pos h1]
      rfl
    · rw [numL_ge h1]
      have hi7 : i < 7 := by
        rcases Nat.lt_or_ge i 7 with h | h
        · exact h
        · obtain rfl : i = 7 := by omega
          simp at hb; omega
      have e8 : 8 - i = (8 - (i + 1)) + 1 := by omega
      rw [e8, Nat.pow_succ] at hb
      have hd : k / 128 < 128 ^ (8 - (i + 1)) := by rw [Nat.div_lt_iff_lt_mul (by decide)]; exact hb
      have := ih (k / 128) (i + 1) (n + (k % 128) * 128 ^ i) r (by omega) (by omega) hd (by omega)
      simp only [List.cons_append, takeL, ofNat_small (show k % 128 + 128 < 256 by omega)]
      rw [if_neg (by omega), if_neg (by omega), Nat.add_sub_cancel, this]
      have hm : k = 128 * (k / 128) + k % 128 := (Nat.div_add_mod k 128).symm
      have e2 : n + k % 128 * 128 ^ i + k / 128 * 128 ^ (i + 1) = n + k * 128 ^ i := by
        have hx : k * 128 ^ i = (128 * (k / 128) + k % 128) * 128 ^ i := by rw [← hm]
        rw [hx, Nat.pow_succ, Nat.add_mul]
        have : k / 128 * (128 ^ i * 128) = 128 * (k / 128) * 128 ^ i := by
          rw [Nat.mul_comm (128 ^ i) 128, ← Nat.mul_assoc, Nat.mul_comm (k / 128) 128]
        rw [this]; omega
      rw [e2]
      simp only [List.length_cons]
      congr 2; omega

theorem take_cut : ∀ (m k i n c : Nat), k ≤ m → i ≤ 7 → k < 128 ^ (8 - i) → (i = 0 ∨ 0 < k) → c < (numL k).length → takeL i n ((numL k).take c) = (11, 0, i + c) := by
  intro m
  induction m with
  | zero =>
    intro k i n c hk hi hb h0 hc
    obtain rfl : k = 0 := by omega
    rw [numL_lt (by decide)] at hc ⊢
    obtain rfl : c = 0 := by simpa using hc
    simp [takeL]
  | succ m ih =>
    intro k i n c hk hi hb h0 hc
    rcases Nat.lt_or_ge k 128 with h1 | h1
    · rw [numL_lt h1] at hc ⊢
      obtain rfl : c = 0 := by simpa using hc
      simp [takeL]
    · rw [numL_ge h1] at hc ⊢
      rcases c with _ | c
      · simp [takeL]
      · have hi7 : i < 7 := by
          rcases Nat.lt_or_ge i 7 with h | h
          · exact h
          · obtain rfl : i = 7 := by omega
            simp at hb; omega
        have e8 : 8 - i = (8 - (i + 1)) + 1 := by omega
        rw [e8, Nat.pow_succ] at hb
        have hd : k / 128 < 128 ^ (8 - (i + 1)) := by rw [Nat.div_lt_iff_lt_mul (by decide)]; exact hb
        have := ih (k / 128) (i + 1) (n + (k % 128) * 128 ^ i) c (by omega) (by omega) hd (by omega) (by simpa using hc)
        simp only [List.take_succ_cons, takeL, ofNat_small (show k % 128 + 128 < 256 by omega)]
        rw [if_neg (by omega), if_neg (by omega), Nat.add_sub_cancel, this]
        congr 2; omega

/-- What is taken fits, and no more bytes than there are. -/
theorem takeL_fits : ∀ (l : List UInt8) (i n : Nat), n < 128 ^ i → i ≤ 7 → ∀ c k u, takeL i n l = (c, k, u) → (c = 0 ∧ k < 128 ^ 8 ∧ u ≤ i + l.length ∧ i < u) ∨ (c = 10 ∧ k = 0 ∧ u < 8 ∧ u < i + l.length) ∨ (c = 11 ∧ k = 0 ∧ u = i + l.length ∧ u < 8) := by
  intro l
  induction l with
  | nil =>
    intro i n hn hi c k u h
    simp only [takeL, Prod.mk.injEq] at h
    obtain ⟨rfl, rfl, rfl⟩ := h
    exact .inr (.inr ⟨rfl, rfl, by simp, by omega⟩)
  | cons b r ih =>
    intro i n hn hi c k u h
    simp only [takeL] at h
    have hb : b.toNat < 256 := b.toNat_lt
    split at h
    · simp only [Prod.mk.injEq] at h
      obtain ⟨rfl, rfl, rfl⟩ := h
      exact .inr (.inl ⟨rfl, rfl, by omega, by simp⟩)
    · next hno =>
      split at h
      · next hlt =>
        simp only [Prod.mk.injEq] at h
        obtain ⟨rfl, rfl, rfl⟩ := h
        refine .inl ⟨rfl, ?_, by simp, by omega⟩
        have h1 : n + b.toNat * 128 ^ i < 128 ^ (i + 1) := by
          rw [Nat.pow_succ]
          have : b.toNat * 128 ^ i ≤ 127 * 128 ^ i := Nat.mul_le_mul_right _ (by omega)
          omega
        exact Nat.lt_of_lt_of_le h1 (Nat.pow_le_pow_right (by decide) (by omega))
      · next hge =>
        have h1 : n + (b.toNat - 128) * 128 ^ i < 128 ^ (i + 1) := by
          rw [Nat.pow_succ]
          have : (b.toNat - 128) * 128 ^ i ≤ 127 * 128 ^ i := Nat.mul_le_mul_right _ (by omega)
          omega
        have := ih (i + 1) _ h1 (by omega) c k u h
        simp only [List.length_cons]
        rcases this with ⟨a, b, c, d⟩ | ⟨a, b, c, d⟩ | ⟨a, b, c, d⟩
        · exact .inl ⟨a, b, by omega, by omega⟩
        · exact .inr (.inl ⟨a, b, c, by omega⟩)
        · exact .inr (.inr ⟨a, b, by omega, d⟩)

/-- The answer of Take. -/
def tkVal (T : TypeId) (s : ByteArray) : Nat × Nat × Nat → Value
  | (0, k, u) => .tuple #[.int .i64 (k : Int), .string (s.extract u s.size), .nilIface]
  | (c, _, u) => .tuple #[.int .i64 0, .string s, .iface T (.agg #[.string ⟨#[110, 117, 109, 98, 101, 114]⟩, .int .i64 (u : Int), .int .i64 (c : Int)])]
def takeS (s : ByteArray) : Nat × Nat × Nat := takeL 0 0 s.data.toList
end Go.Proofs.YtggnljfcdohkaaaGreatDoor
