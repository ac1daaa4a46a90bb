/- Contracts of the reference of layers 2 and 3: Take, TakeText, Unwrap, Open. -/
import Derived.Test.YtmeidihbglljiaaDoorPkB
import Derived.Test.YtmeidihbglljiaaDoorRfA
import Derived.Test.YtmeidihbglljiaaDoorFrO
import Derived.Deep.Cut
namespace Go.Proofs.YtmeidihbglljiaaDoor
open Go.RowKit

/-- What the reference's Take answers. -/
def rtkVal (s : ByteArray) : Nat × Nat × Nat → Value
  | (0, k, u) => .tuple #[.int .i64 (k : Int), .string (s.extract u s.size), .int .i64 0]
  | (c + 1, _, _) => .tuple #[.int .i64 0, .string s, .int .i64 ((c + 1 : Nat) : Int)]
def RTkPost (s : ByteArray) (w : World) (e : Ending) (w2 : World) : Prop := e = .returned (rtkVal s (takeS s)) ∧ Kp [] w w2
theorem rtake_ret {s : ByteArray} {w w2 : World} {a : Act} {v0 v1 v2 : Value} (hv : rtkVal s (takeS s) = .tuple #[v0, v1, v2]) (hk : Kp [] w w2) (h2 : a.tmps.getD 2 undef = v0) (h3 : a.tmps.getD 3 undef = v1) (h4 : a.tmps.getD 4 undef = v2) (hd : a.defers = []) :
    bodyPost Tryd.prog Tryd.f31 (RTkPost s w) .ret a w2 := by
  exact bodyPost_ret (v := .tuple #[v0, v1, v2]) (by simp [results, Tryd.results31, go_sem]; simp at h2 h3 h4; exact ⟨h2, h3, h4⟩) hd ⟨by rw [hv], hk⟩
set_option maxRecDepth 100000 in
set_option maxHeartbeats 6400000 in
theorem rtake_any (s : ByteArray) (hs : s.size ≤ 9223372036854775) (w : World) :
    Calls Tryd.prog 31 #[.string s] w (RTkPost s w) := by
  go_enter Tryd.func31, Tryd.ntmps31
  go_wp2
  go_loop [5, 6, 7] (fun a t i => ∃ (acc k p : Nat), k ≤ s.size ∧ k ≤ 7 ∧ i = .int .i64 (k : Int) ∧ a = .int .i64 (acc : Int) ∧ t = .int .i64 (p : Int) ∧ p ≤ 562949953421312 ∧ Hid (p = 128 ^ k) ∧ acc < p ∧ Hid (takeL k acc (s.data.toList.drop k) = takeS s)) (fun _ _ i => s.size - (intOf i).toNat)
  case atStart => exact ⟨0, 0, 1, by omega, by omega, rfl, rfl, rfl, by omega, rfl, by omega, rfl⟩
  case round =>
    obtain ⟨acc, k, p, hk, hk7, rfl, rfl, rfl, hp, HP, hacc, HT⟩ := hrel
    have hacc' : acc < 128 ^ k := by rw [← HP.out]; exact hacc
    have Ha := Lib.hid hacc'
    clear hacc'
    by_cases hlt : k < s.size
    · have hk8 : k < 8 := by omega
      obtain ⟨b, hb⟩ : ∃ b : Nat, b = s[k].toNat := ⟨_, rfl⟩
      have hb8 : b < 256 := by rw [hb]; exact s[k].toNat_lt
      have hix : wrap64 (s[k].toNat : Int) = (b : Int) := by rw [← hb]; unfold wrap64; omega
      have Hb := Lib.hid hb
      clear hb
      obtain ⟨q, hq⟩ : ∃ q : Nat, q = b % 128 := ⟨_, rfl⟩
      have hq1 : q < 128 := by omega
      have hA : (b : Int) % 128 = (q : Int) := by omega
      obtain ⟨z, hz⟩ : ∃ z : Nat, z = q * p := ⟨_, rfl⟩
      have hzb : z ≤ 127 * 562949953421312 := by rw [hz]; exact Nat.mul_le_mul (by omega) hp
      obtain ⟨y, hy⟩ : ∃ y : Nat, y = acc + z := ⟨_, rfl⟩
      have hS0 : (q : Int) * (p : Int) = (z : Int) := by rw [hz]; simp
      have hS : wrap64 ((q : Int) * (p : Int)) = (z : Int) := by rw [hS0]; unfold wrap64; omega
      have hy2 : y = acc + q * 128 ^ k := by rw [hy, hz, HP.out]
      have Hyz := Lib.hid hy
      have Hq := Lib.hid hq
      have Hy := Lib.hid hy2
      have Hz := Lib.hid hz
      clear hq hz hy hy2 hS0
      by_cases h1 : 0 < k <;> by_cases h2 : b = 0 <;> by_cases h3 : k = 7 <;> by_cases h4 : 128 ≤ b
      all_goals try (exfalso; omega)
      all_goals
        have H := Lib.hid (And.intro h1 (And.intro h2 (And.intro h3 h4)))
        first | have d1 : decide (0 < k) = true := decide_eq_true h1 | have d1 : decide (0 < k) = false := decide_eq_false h1
        first | have d2 : ((b : Int) == 0) = true := by (simp; omega) | have d2 : ((b : Int) == 0) = false := by (simp; omega)
        first | have d3 : ((k : Int) == 7) = true := by (simp; omega) | have d3 : ((k : Int) == 7) = false := by (simp; omega)
        first | have d4 : decide ((127 : Int) < (b : Int)) = true := by (simp; omega) | have d4 : decide ((127 : Int) < (b : Int)) = false := by (simp; omega)
        first | have d5 : decide ((b : Int) < 128) = true := by (simp; omega) | have d5 : decide ((b : Int) < 128) = false := by (simp; omega)
        clear h1 h2 h3 h4
        go_wp2_with fail
        first
          | exact rtake_ret (by rw [tk_bad hlt Hb.out HT (by have := H.out; omega)]; rfl) (Kp.refl _ _) rfl rfl rfl rfl
          | (go_round
             case rel =>
               have h5 := tk_more hlt Hb.out HT (by have := H.out; omega) H.out.2.2.2
               rw [show b - 128 = q by have := Hq.out; have := H.out; omega, ← Hy.out, Hyz.out] at h5
               exact ⟨acc + z, k + 1, 128 ^ (k + 1), by omega, by have := H.out; omega, by go_num, by go_num, by rw [HP.out, Nat.pow_succ]; simp, by have h8 := pow_le7 (show k + 1 ≤ 7 by have := H.out; omega); exact h8, rfl, by have h9 := tk_acc Ha.out hq1; rw [← Hy.out, Hyz.out] at h9; exact h9, h5⟩
             case measure => simp [intOf]; omega)
          | (have h6 := tk_ok hlt Hb.out HT (by have := H.out; omega) (by have := H.out; omega)
             rw [show b = q by have := Hq.out; have := H.out; omega, ← Hy.out, Hyz.out] at h6
             have H6 := Lib.hid h6
             clear h6
             go_quiet (fail)
             go_wp2_with fail
             refine rtake_ret (by rw [H6.out]; rfl) ((Kp.refl _ _).drewN _) rfl rfl rfl rfl)
    · have h6 := tk_end hlt hk HT
      have H6 := Lib.hid h6
      clear h6
      go_wp2_with fail
      exact rtake_ret (by rw [H6.out]; rfl) (Kp.refl _ _) rfl rfl rfl rfl
end Go.Proofs.YtmeidihbglljiaaDoor
