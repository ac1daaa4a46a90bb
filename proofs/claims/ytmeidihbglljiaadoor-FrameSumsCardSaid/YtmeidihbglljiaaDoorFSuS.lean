/- Sums of bytes of which one is changed, or two beside one another are swapped: plain mathematics (no program). -/
import Derived.Test.YtmeidihbglljiaaDoorCrcS
namespace Go.Proofs.YtmeidihbglljiaaDoor
open Go.RowKit

theorem split2 (L : List UInt8) (k : Nat) (h : k + 1 < L.length) : ∃ p q, p.length = k ∧ L = p ++ ([L.getD k 0, L.getD (k + 1) 0] ++ q) := by
  refine ⟨L.take k, L.drop (k + 2), by rw [List.length_take]; omega, ?_⟩
  have h1 : L.drop k = L.getD k 0 :: L.getD (k + 1) 0 :: L.drop (k + 2) := by
    rw [List.drop_eq_getElem_cons (show k < L.length by omega), List.drop_eq_getElem_cons h]
    simp [List.getD, List.getElem?_eq_getElem h, List.getElem?_eq_getElem (show k < L.length by omega)]
  rw [List.cons_append, List.cons_append, List.nil_append, ← h1, List.take_append_drop]
theorem set_mid (p q : List UInt8) (a b v : UInt8) : (p ++ ([a, b] ++ q)).set p.length v = p ++ ([v, b] ++ q) := by
  rw [List.set_append_right _ _ (Nat.le_refl _), Nat.sub_self]; rfl
theorem set_mid2 (p q : List UInt8) (a b v : UInt8) : (p ++ ([a, b] ++ q)).set (p.length + 1) v = p ++ ([a, v] ++ q) := by
  rw [List.set_append_right _ _ (by omega), Nat.add_sub_cancel_left]; rfl
theorem ofNat_lt_small {k : Nat} (h : k < 256) : (UInt8.ofNat k).toNat = k := by simp; omega
theorem xor_ne {x y : UInt8} (h : y.toNat ≠ 0) : UInt8.ofNat (x.toNat ^^^ y.toNat) ≠ x := by
  intro e
  have hx := x.toNat_lt
  have hy := y.toNat_lt
  have h2 : x.toNat ^^^ y.toNat < 2 ^ 8 := Nat.xor_lt_two_pow (by omega) (by omega)
  have hv : (UInt8.ofNat (x.toNat ^^^ y.toNat)).toNat = x.toNat ^^^ y.toNat := ofNat_lt_small h2
  have h1 : x.toNat ^^^ y.toNat = x.toNat := hv.symm.trans (congrArg UInt8.toNat e)
  have h3 : x.toNat ^^^ (x.toNat ^^^ y.toNat) = y.toNat := by rw [← Nat.xor_assoc, Nat.xor_self, Nat.zero_xor]
  rw [h1, Nat.xor_self] at h3
  exact h h3.symm
/-- One byte changed. -/
theorem sum_set (L : List UInt8) (k : Nat) (h : k + 1 < L.length) (by_ : Nat) (hb : by_ < 256) : (sumL (L.set k (UInt8.ofNat ((L.getD k 0).toNat ^^^ by_))) = sumL L) ↔ by_ = 0 := by
  constructor
  · intro he
    obtain ⟨p, q, hp, hL⟩ := split2 L k h
    generalize L.getD k 0 = a at *
    generalize L.getD (k + 1) 0 = b at *
    subst hL hp
    rw [set_mid] at he
    have h1 := (sum_two p q _ _ _ _ he).1
    by_cases h0 : by_ = 0
    · exact h0
    · exfalso
      have h2 : (UInt8.ofNat by_).toNat = by_ := by simp; omega
      have := xor_ne (x := a) (y := UInt8.ofNat by_) (by rw [h2]; exact h0)
      rw [h2] at this
      exact this h1
  · intro h0
    subst h0
    rw [Nat.xor_zero, UInt8.ofNat_toNat]
    congr 1
    apply List.ext_getElem?
    intro i
    rw [List.getElem?_set]
    split
    · next e =>
      subst e
      rw [if_pos (by omega)]
      simp [List.getD, List.getElem?_eq_getElem (show k < L.length by omega)]
    · rfl
/-- Two swapped. -/
theorem sum_swap (L : List UInt8) (k : Nat) (h : k + 1 < L.length) : (sumL ((L.set k (L.getD (k + 1) 0)).set (k + 1) (L.getD k 0)) = sumL L) ↔ (L.getD k 0).toNat = (L.getD (k + 1) 0).toNat := by
  obtain ⟨p, q, hp, hL⟩ := split2 L k h
  generalize L.getD k 0 = a at *
  generalize L.getD (k + 1) 0 = b at *
  subst hL hp
  rw [set_mid, set_mid2]
  constructor
  · intro he
    rw [(sum_two p q _ _ _ _ he).1]
  · intro he
    rw [UInt8.toNat_inj.1 he]
end Go.Proofs.YtmeidihbglljiaaDoor
