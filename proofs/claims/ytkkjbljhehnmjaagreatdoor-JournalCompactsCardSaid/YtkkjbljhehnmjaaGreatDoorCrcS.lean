/- CRC-32 of bytes: plain mathematics (no program): it is linear, it loses nothing; few changed bytes beside one another change it. -/
import Derived.WalkKit
namespace Go.Proofs.YtkkjbljhehnmjaaGreatDoor
open Go.RowKit

def crcP : Nat := 0xEDB88320
/-- One bit. -/
def cstep (c : Nat) : Nat := if c % 2 = 1 then (c / 2) ^^^ crcP else c / 2
/-- So many bits. -/
def csteps : Nat → Nat → Nat
  | 0, c => c
  | k + 1, c => csteps k (cstep c)
/-- One byte. -/
def cbyte (c b : Nat) : Nat := csteps 8 (c ^^^ b)
def crcL (c : Nat) (l : List UInt8) : Nat := l.foldl (fun c b => cbyte c b.toNat) c
/-- The sum of bytes. -/
def sumL (l : List UInt8) : Nat := crcL 4294967295 l ^^^ 4294967295

theorem crcP_lt : crcP < 2 ^ 32 := by decide
theorem xor_lt {a b : Nat} (ha : a < 4294967296) (hb : b < 4294967296) : a ^^^ b < 4294967296 := Nat.xor_lt_two_pow (n := 32) ha hb
theorem cstep_lt {c : Nat} (h : c < 4294967296) : cstep c < 4294967296 := by
  unfold cstep
  split
  · exact xor_lt (by omega) crcP_lt
  · omega
theorem csteps_lt : ∀ (k c : Nat), c < 4294967296 → csteps k c < 4294967296
  | 0, _, h => h
  | k + 1, _, h => csteps_lt k _ (cstep_lt h)
theorem cbyte_lt {c b : Nat} (hc : c < 4294967296) (hb : b < 256) : cbyte c b < 4294967296 := csteps_lt 8 _ (xor_lt hc (by omega))
theorem crcL_lt : ∀ (l : List UInt8) (c : Nat), c < 4294967296 → crcL c l < 4294967296
  | [], _, h => h
  | b :: l, _, h => crcL_lt l _ (cbyte_lt h b.toNat_lt)
theorem sumL_lt (l : List UInt8) : sumL l < 4294967296 := xor_lt (crcL_lt l _ (by decide)) (by decide)
theorem xor_half (a b : Nat) : (a ^^^ b) / 2 = (a / 2) ^^^ (b / 2) := by
  apply Nat.eq_of_testBit_eq
  intro i
  simp [Nat.testBit_div_two, Nat.testBit_xor]
theorem xor_odd (a b : Nat) : (a ^^^ b) % 2 = (a % 2 + b % 2) % 2 := by
  have h := Nat.testBit_xor a b 0
  simp only [Nat.testBit_zero] at h
  rcases Nat.mod_two_eq_zero_or_one a with ha | ha <;> rcases Nat.mod_two_eq_zero_or_one b with hb | hb <;> rcases Nat.mod_two_eq_zero_or_one (a ^^^ b) with hx | hx <;> simp_all
theorem cstep_xor (a b : Nat) : cstep (a ^^^ b) = cstep a ^^^ cstep b := by
  have h1 := xor_half a b
  have h2 := xor_odd a b
  unfold cstep
  rcases Nat.mod_two_eq_zero_or_one a with ha | ha <;> rcases Nat.mod_two_eq_zero_or_one b with hb | hb
  · rw [if_neg (by omega), if_neg (by omega), if_neg (by omega), h1]
  · rw [if_pos (by omega), if_neg (by omega), if_pos (by omega), h1, Nat.xor_assoc]
  · rw [if_pos (by omega), if_pos (by omega), if_neg (by omega), h1, Nat.xor_assoc, Nat.xor_assoc, Nat.xor_comm crcP]
  · rw [if_neg (by omega), if_pos (by omega), if_pos (by omega), h1, Nat.xor_assoc, ← Nat.xor_assoc crcP, Nat.xor_comm crcP (b / 2), Nat.xor_assoc (b / 2), Nat.xor_self, Nat.xor_zero]
theorem csteps_xor : ∀ (k a b : Nat), csteps k (a ^^^ b) = csteps k a ^^^ csteps k b
  | 0, _, _ => rfl
  | k + 1, a, b => by
    simp only [csteps]
    rw [cstep_xor, csteps_xor k]
theorem cbyte_xor (c d a b : Nat) : cbyte (c ^^^ d) (a ^^^ b) = cbyte c a ^^^ cbyte d b := by
  unfold cbyte
  rw [← csteps_xor]
  congr 1
  rw [Nat.xor_assoc, ← Nat.xor_assoc d, Nat.xor_comm d a, Nat.xor_assoc a, ← Nat.xor_assoc]
/-- Linear: over two rows of bytes that are as long. -/
theorem crcL_xor : ∀ (l m : List UInt8) (c d : Nat), l.length = m.length → crcL c l ^^^ crcL d m = crcL (c ^^^ d) (List.zipWith (· ^^^ ·) l m)
  | [], [], c, d, _ => rfl
  | a :: l, b :: m, c, d, h => by
    simp only [crcL, List.foldl_cons, List.zipWith_cons_cons]
    have := crcL_xor l m (cbyte c a.toNat) (cbyte d b.toNat) (by simpa using h)
    simp only [crcL] at this
    rw [this, ← cbyte_xor, UInt8.toNat_xor]
theorem cstep_zero {c : Nat} (hc : c < 4294967296) (h : cstep c = 0) : c = 0 := by
  unfold cstep at h
  split at h
  · have h2 : c / 2 = crcP := by
      have := congrArg (· ^^^ crcP) h
      simpa [Nat.xor_assoc] using this
    unfold crcP at h2
    omega
  · omega
theorem csteps_zero : ∀ (k c : Nat), c < 4294967296 → csteps k c = 0 → c = 0
  | 0, _, _, h => h
  | k + 1, _, hc, h => cstep_zero hc (csteps_zero k _ (cstep_lt hc) h)
theorem xor_eq_zero {a b : Nat} (h : a ^^^ b = 0) : a = b := by
  have := congrArg (· ^^^ b) h
  simpa [Nat.xor_assoc] using this
theorem csteps_inj {k a b : Nat} (ha : a < 4294967296) (hb : b < 4294967296) (h : csteps k a = csteps k b) : a = b := by
  refine xor_eq_zero (csteps_zero k _ (xor_lt ha hb) ?_)
  rw [csteps_xor, h, Nat.xor_self]
theorem csteps_shift : ∀ (k v : Nat), csteps k (v * 2 ^ k) = v
  | 0, v => by simp [csteps]
  | k + 1, v => by
    have h : cstep (v * 2 ^ (k + 1)) = v * 2 ^ k := by
      have e : v * 2 ^ (k + 1) = 2 * (v * 2 ^ k) := by rw [Nat.pow_succ, ← Nat.mul_assoc, Nat.mul_comm]
      rw [e]
      unfold cstep
      rw [if_neg (by omega)]
      omega
    simp only [csteps]
    rw [h, csteps_shift k]
/-- What comes to a small number was it, moved up. -/
theorem back8 {x v : Nat} (hx : x < 4294967296) (hv : v < 16777216) (h : csteps 8 x = v) : x = v * 256 :=
  csteps_inj hx (by omega) (h.trans (csteps_shift 8 v).symm)
theorem cbyte_zero {c : Nat} (hc : c < 4294967296) (h : cbyte c 0 = 0) : c = 0 := by
  unfold cbyte at h
  rw [Nat.xor_zero] at h
  exact csteps_zero 8 c hc h
theorem crcL_zeros : ∀ (n c : Nat), c < 4294967296 → crcL c (List.replicate n 0) = 0 → c = 0
  | 0, _, _, h => h
  | n + 1, _, hc, h => by
    simp only [List.replicate_succ, crcL, List.foldl_cons] at h
    exact cbyte_zero hc (crcL_zeros n _ (cbyte_lt hc (by decide)) h)
theorem crcL_append (c : Nat) (l m : List UInt8) : crcL c (l ++ m) = crcL (crcL c l) m := by
  unfold crcL
  rw [List.foldl_append]
theorem cbyte_00 : cbyte 0 0 = 0 := by decide
theorem crcL_00 : ∀ n : Nat, crcL 0 (List.replicate n 0) = 0
  | 0 => rfl
  | n + 1 => by
    simp only [List.replicate_succ, crcL, List.foldl_cons]
    have := crcL_00 n
    unfold crcL at this
    rw [show (0 : UInt8).toNat = 0 from rfl, cbyte_00]
    exact this
theorem xor_small {a b : Nat} (ha : a < 256) : (a ^^^ (b * 256)) = b * 256 + a := by
  have h := Nat.two_pow_add_eq_or_of_lt (i := 8) ha b
  have h2 : (b * 256) ^^^ a = (b * 256) ||| a := by
    apply Nat.eq_of_testBit_eq
    intro i
    rw [Nat.testBit_xor, Nat.testBit_or]
    rw [show b * 256 = 2 ^ 8 * b by rw [Nat.mul_comm], Nat.testBit_two_pow_mul]
    by_cases hi : 8 ≤ i
    · have : a.testBit i = false := Nat.testBit_lt_two_pow (Nat.lt_of_lt_of_le ha (Nat.pow_le_pow_right (n := 2) (by decide) hi))
      simp [this]
    · simp [hi]
  rw [Nat.xor_comm, h2, Nat.mul_comm b, ← h]
/-- Four bytes beside one another that come to nothing are 0. -/
theorem four_zero {a b c d : UInt8} (h : crcL 0 [a, b, c, d] = 0) : a = 0 ∧ b = 0 ∧ c = 0 ∧ d = 0 := by
  have ha := a.toNat_lt
  have hb := b.toNat_lt
  have hc := c.toNat_lt
  have hd := d.toNat_lt
  simp only [crcL, List.foldl_cons, List.foldl_nil] at h
  have x1 : cbyte 0 a.toNat < 4294967296 := cbyte_lt (by decide) ha
  have x2 := cbyte_lt x1 hb
  have x3 := cbyte_lt x2 hc
  -- the last byte
  have h3 : cbyte (cbyte (cbyte 0 a.toNat) b.toNat) c.toNat = d.toNat := xor_eq_zero (csteps_zero 8 _ (xor_lt x3 (by omega)) h)
  have h2 := back8 (xor_lt x2 (by omega)) (by omega) h3
  have h2' : cbyte (cbyte 0 a.toNat) b.toNat = d.toNat * 256 + c.toNat := by
    rw [← xor_small hc]
    apply xor_eq_zero
    rw [← Nat.xor_assoc, h2, Nat.xor_self]
  have h1 := back8 (xor_lt x1 (by omega)) (by omega) h2'
  have h1' : cbyte 0 a.toNat = (d.toNat * 256 + c.toNat) * 256 + b.toNat := by
    rw [← xor_small hb]
    apply xor_eq_zero
    rw [← Nat.xor_assoc, h1, Nat.xor_self]
  have h0 := back8 (x := 0 ^^^ a.toNat) (xor_lt (by decide) (by omega)) (by omega) h1'
  rw [Nat.zero_xor] at h0
  refine ⟨?_, ?_, ?_, ?_⟩ <;> apply UInt8.toNat_inj.1 <;> simp <;> omega
/-- As many bytes, unlike in the midst alone, the same sum: what is unlike comes to nothing. -/
theorem sum_mid (p q m m' : List UInt8) (hl : m.length = m'.length) (h : sumL (p ++ (m ++ q)) = sumL (p ++ (m' ++ q))) : crcL 0 (List.zipWith (· ^^^ ·) m m') = 0 := by
  unfold sumL at h
  have h1 : crcL 4294967295 (p ++ (m ++ q)) = crcL 4294967295 (p ++ (m' ++ q)) := by
    have := congrArg (· ^^^ 4294967295) h
    simpa [Nat.xor_assoc] using this
  rw [crcL_append _ p, crcL_append _ p] at h1
  generalize hX : crcL 4294967295 p = X at h1
  have h2 : crcL X (m ++ q) ^^^ crcL X (m' ++ q) = 0 := by rw [h1, Nat.xor_self]
  rw [crcL_xor _ _ _ _ (by simp [hl]), Nat.xor_self, List.zipWith_append hl] at h2
  have hq : List.zipWith (· ^^^ ·) q q = List.replicate q.length (0 : UInt8) := by
    clear h h1 h2 hX
    induction q with
    | nil => rfl
    | cons x q ih =>
      rw [List.zipWith_cons_cons, ih]
      simp [List.replicate_succ]
  rw [hq, crcL_append] at h2
  exact crcL_zeros _ _ (crcL_lt _ _ (by decide)) h2
theorem xor_u8 {x y : UInt8} (e : x ^^^ y = 0) : x = y := by
  apply UInt8.toNat_inj.1
  apply xor_eq_zero
  rw [← UInt8.toNat_xor, e]
  rfl
theorem sum_four (p q : List UInt8) (a b c d a' b' c' d' : UInt8) (h : sumL (p ++ ([a, b, c, d] ++ q)) = sumL (p ++ ([a', b', c', d'] ++ q))) : a = a' ∧ b = b' ∧ c = c' ∧ d = d' := by
  obtain ⟨e1, e2, e3, e4⟩ := four_zero (sum_mid p q [a, b, c, d] [a', b', c', d'] rfl h)
  exact ⟨xor_u8 e1, xor_u8 e2, xor_u8 e3, xor_u8 e4⟩
theorem sum_two (p q : List UInt8) (c d c' d' : UInt8) (h : sumL (p ++ ([c, d] ++ q)) = sumL (p ++ ([c', d'] ++ q))) : c = c' ∧ d = d' := by
  have h2 : crcL 0 ([0, 0] ++ [c ^^^ c', d ^^^ d']) = 0 := by
    rw [crcL_append, show crcL 0 [0, 0] = 0 from crcL_00 2]
    exact sum_mid p q [c, d] [c', d'] rfl h
  obtain ⟨_, _, e3, e4⟩ := four_zero h2
  exact ⟨xor_u8 e3, xor_u8 e4⟩
end Go.Proofs.YtkkjbljhehnmjaaGreatDoor
