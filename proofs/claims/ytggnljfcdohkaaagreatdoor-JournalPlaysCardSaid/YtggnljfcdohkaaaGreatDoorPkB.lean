/- Contracts of package pack: Take. -/
import Derived.Test.YtggnljfcdohkaaaGreatDoorPkA
namespace Go.Proofs.YtggnljfcdohkaaaGreatDoor
open Go.RowKit

theorem drop_at (s : ByteArray) (k : Nat) (h : k < s.size) : s.data.toList.drop k = s[k] :: s.data.toList.drop (k + 1) := by
  have h2 : k < s.data.toList.length := by rw [Array.length_toList]; exact h
  rw [List.drop_eq_getElem_cons h2]
  rfl
theorem tk_bad {s : ByteArray} {k acc b : Nat} (h : k < s.size) (hb : b = s[k].toNat) (HT : takeL k acc (s.data.toList.drop k) = takeS s) (hc : (0 < k ∧ b = 0) ∨ (k = 7 ∧ 128 ≤ b)) : takeS s = (10, 0, k) := by
  rw [← HT, drop_at s k h, takeL, if_pos (by rw [← hb]; exact hc)]
theorem tk_ok {s : ByteArray} {k acc b : Nat} (h : k < s.size) (hb : b = s[k].toNat) (HT : takeL k acc (s.data.toList.drop k) = takeS s) (hc : ¬ ((0 < k ∧ b = 0) ∨ (k = 7 ∧ 128 ≤ b))) (h2 : b < 128) : takeS s = (0, acc + b * 128 ^ k, k + 1) := by
  rw [← HT, drop_at s k h, takeL, if_neg (by rw [← hb]; exact hc), if_pos (by rw [← hb]; exact h2), ← hb]
theorem tk_more {s : ByteArray} {k acc b : Nat} (h : k < s.size) (hb : b = s[k].toNat) (HT : takeL k acc (s.data.toList.drop k) = takeS s) (hc : ¬ ((0 < k ∧ b = 0) ∨ (k = 7 ∧ 128 ≤ b))) (h2 : 128 ≤ b) : takeL (k + 1) (acc + (b - 128) * 128 ^ k) (s.data.toList.drop (k + 1)) = takeS s := by
  rw [← HT, drop_at s k h, takeL, if_neg (by rw [← hb]; exact hc), if_neg (by rw [← hb]; omega), ← hb]
theorem tk_end {s : ByteArray} {k acc : Nat} (h : ¬ k < s.size) (hk : k ≤ s.size) (HT : takeL k acc (s.data.toList.drop k) = takeS s) : takeS s = (11, 0, s.size) := by
  have hk2 : k = s.size := by omega
  rw [← HT, hk2, List.drop_of_length_le (by rw [Array.length_toList]; exact Nat.le_refl _)]
  rfl
theorem pow7 (k : Nat) : (2 : Nat) ^ (7 * k) = 128 ^ k := by rw [Nat.pow_mul]
theorem pow_le7 {k : Nat} (h : k ≤ 7) : 128 ^ k ≤ 562949953421312 := Nat.le_trans (Nat.pow_le_pow_right (by decide) h) (by decide)
theorem shl7 (q k : Nat) (hq : q < 128) (hk : k ≤ 7) : wrap64 ((q : Int) * 2 ^ (7 * k)) = ((q * 128 ^ k : Nat) : Int) := by
  have h1 : ((q : Int) * 2 ^ (7 * k)) = ((q * 128 ^ k : Nat) : Int) := by rw [← pow7]; simp
  have h2 : q * 128 ^ k ≤ 127 * 562949953421312 := Nat.mul_le_mul (by omega) (pow_le7 hk)
  rw [h1]
  generalize q * 128 ^ k = z at *
  unfold wrap64
  omega
theorem or7 (acc q k : Nat) (ha : acc < 128 ^ k) (hq : q < 128) (hk : k ≤ 7) : bits .or .i64 (acc : Int) ((q * 128 ^ k : Nat) : Int) = ((acc + q * 128 ^ k : Nat) : Int) := by
  have hp := pow_le7 hk
  have h2 : q * 128 ^ k ≤ 127 * 562949953421312 := Nat.mul_le_mul (by omega) (pow_le7 hk)
  rw [(bits_nat .i64 63 (by decide) wraps_i64s acc (q * 128 ^ k) (by omega) (by omega)).2, ← pow7, Nat.or_comm, Nat.mul_comm q, ← Nat.two_pow_add_eq_or_of_lt (by rw [pow7]; exact ha), Nat.add_comm]

theorem tk_acc {acc q k : Nat} (ha : acc < 128 ^ k) (hq : q < 128) : acc + q * 128 ^ k < 128 ^ (k + 1) := by
  rw [Nat.pow_succ]
  have : q * 128 ^ k ≤ 127 * 128 ^ k := Nat.mul_le_mul_right _ (by omega)
  omega
/-- The three ways in which Take ends. -/
def TkPost (s : ByteArray) (w : World) (e : Ending) (w2 : World) : Prop := e = .returned (tkVal 186 s (takeS s)) ∧ Kp [] w w2
theorem take_ret {s : ByteArray} {w w2 : World} {a : Act} {v0 v1 v2 : Value} (hv : tkVal 186 s (takeS s) = .tuple #[v0, v1, v2]) (hk : Kp [] w w2) (h2 : a.tmps.getD 2 undef = v0) (h3 : a.tmps.getD 3 undef = v1) (h4 : a.tmps.getD 4 undef = v2) (hd : a.defers = []) :
    bodyPost Tryz.prog Tryz.f103 (TkPost s w) .ret a w2 := by
  exact bodyPost_ret (v := .tuple #[v0, v1, v2]) (by simp [results, Tryz.results103, go_sem]; simp at h2 h3 h4; exact ⟨h2, h3, h4⟩) hd ⟨by rw [hv], hk⟩
set_option maxRecDepth 100000 in
set_option maxHeartbeats 6400000 in
theorem take_any (s : ByteArray) (hs : s.size ≤ 9223372036854775) (w : World) :
    Calls Tryz.prog 103 #[.string s] w (TkPost s w) := by
  go_enter Tryz.func103, Tryz.ntmps103
  go_wp2
  all_goals
    go_loop [5, 11] (fun a i => ∃ (acc k : Nat), k ≤ s.size ∧ k ≤ 7 ∧ i = .int .i64 (k : Int) ∧ a = .int .i64 (acc : Int) ∧ acc < 128 ^ k ∧ Hid (takeL k acc (s.data.toList.drop k) = takeS s)) (fun _ i => s.size - (intOf i).toNat)
    case atStart => exact ⟨0, 0, by omega, by omega, rfl, rfl, by simp, rfl⟩
    case round =>
      obtain ⟨acc, k, hk, hk7, rfl, rfl, hacc, HT⟩ := hrel
      have Ha := Lib.hid hacc
      clear hacc
      by_cases hlt : k < s.size
      · have hk8 : k < 8 := by omega
        obtain ⟨b, hb⟩ : ∃ b : Nat, b = s[k].toNat := ⟨_, rfl⟩
        have hb8 : b < 256 := by rw [hb]; exact s[k].toNat_lt
        have hix : wrap64 (s[k].toNat : Int) = (b : Int) := by rw [← hb]; unfold wrap64; omega
        have Hb := Lib.hid hb
        clear hb
        obtain ⟨q, hq⟩ : ∃ q : Nat, q = b % 128 := ⟨_, rfl⟩
        have hq1 : q < 128 := by omega
        have hA : bits .and .i64 (b : Int) 127 = (q : Int) := by rw [and127 _ (by omega) (by omega)]; omega
        obtain ⟨z, hz⟩ : ∃ z : Nat, z = q * 128 ^ k := ⟨_, rfl⟩
        obtain ⟨y, hy⟩ : ∃ y : Nat, y = acc + q * 128 ^ k := ⟨_, rfl⟩
        have hS : wrap64 ((q : Int) * 2 ^ (7 * k)) = (z : Int) := by rw [shl7 q k hq1 hk7, hz]
        have hO : bits .or .i64 (acc : Int) (z : Int) = (y : Int) := by rw [hz, or7 acc q k Ha.out hq1 hk7, hy]
        have Hq := Lib.hid hq
        have Hy := Lib.hid hy
        clear hq hz hy
        by_cases h1 : 0 < k <;> by_cases h2 : b = 0 <;> by_cases h3 : k = 7 <;> by_cases h4 : 128 ≤ b
        all_goals try (exfalso; omega)
        all_goals
          have H := Lib.hid (And.intro h1 (And.intro h2 (And.intro h3 h4)))
          first | have d1 : decide (0 < k) = true := decide_eq_true h1 | have d1 : decide (0 < k) = false := decide_eq_false h1
          first | have d2 : ((b : Int) == 0) = true := by (simp; omega) | have d2 : ((b : Int) == 0) = false := by (simp; omega)
          first | have d3 : ((k : Int) == 7) = true := by (simp; omega) | have d3 : ((k : Int) == 7) = false := by (simp; omega)
          first | have d4 : decide ((128 : Int) ≤ (b : Int)) = true := by (simp; omega) | have d4 : decide ((128 : Int) ≤ (b : Int)) = false := by (simp; omega)
          first | have d5 : decide ((b : Int) < 128) = true := by (simp; omega) | have d5 : decide ((b : Int) < 128) = false := by (simp; omega)
          clear h1 h2 h3 h4
          go_wp2_with fail
          first
            | exact take_ret (by rw [tk_bad hlt Hb.out HT (by have := H.out; omega)]; rfl) (Kp.refl _ _) rfl rfl rfl rfl
            | (go_round
               case rel => exact ⟨y, k + 1, by omega, by have := H.out; omega, by go_num, rfl, by rw [Hy.out]; exact tk_acc Ha.out hq1, by have h5 := tk_more hlt Hb.out HT (by have := H.out; omega) H.out.2.2.2; rw [show b - 128 = q by have := Hq.out; have := H.out; omega, ← Hy.out] at h5; exact h5⟩
               case measure => simp [intOf]; omega)
            | (have h6 := tk_ok hlt Hb.out HT (by have := H.out; omega) (by have := H.out; omega)
               rw [show b = q by have := Hq.out; have := H.out; omega, ← Hy.out] at h6
               have H6 := Lib.hid h6
               clear h6
               go_quiet (fail)
               go_wp2_with fail
               refine take_ret (by rw [H6.out]; rfl) ((Kp.refl _ _).drewN _) rfl rfl rfl rfl)
      · first
          | (exfalso; omega)
          | (have h6 := tk_end hlt hk HT
             have H6 := Lib.hid h6
             clear h6
             go_wp2_with fail
             exact take_ret (by rw [H6.out]; rfl) (Kp.refl _ _) rfl rfl rfl rfl)
end Go.Proofs.YtggnljfcdohkaaaGreatDoor
