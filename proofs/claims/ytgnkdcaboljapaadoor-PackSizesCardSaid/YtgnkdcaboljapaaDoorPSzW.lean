/- The walk of the law PackSizes. -/
import Derived.Test.YtgnkdcaboljapaaDoorPkK
namespace Go.Proofs.YtgnkdcaboljapaaDoor
open Go.RowKit

theorem numL_mono : ∀ (x n m : Nat), n ≤ x → m ≤ n → (numL m).length ≤ (numL n).length
  | 0, n, m, hx, h => by rw [show m = n by omega]; exact Nat.le_refl _
  | x + 1, n, m, hx, h => by
    rcases Nat.lt_or_ge m 128 with h1 | h1
    · rw [numL_lt h1]; exact numL_pos n
    · rw [numL_ge h1, numL_ge (show 128 ≤ n by omega)]
      simp only [List.length_cons]
      have := numL_mono x (n / 128) (m / 128) (by omega) (Nat.div_le_div_right h)
      omega
theorem numL_inj {n m : Nat} (hn : n < 128 ^ 8) (hm : m < 128 ^ 8) (h : numL n = numL m) : n = m := by
  have h1 := take_num n n 0 0 [] (Nat.le_refl _) (by omega) hn (.inl rfl)
  have h2 := take_num m m 0 0 [] (Nat.le_refl _) (by omega) hm (.inl rfl)
  rw [h, h2] at h1
  simp at h1
  omega
theorem numS_inj {n m : Nat} (hn : n < 128 ^ 8) (hm : m < 128 ^ 8) (h : numS n = numS m) : n = m := by
  refine numL_inj hn hm ?_
  rw [← numS_toList, h, numS_toList]
theorem tl_ne {a b : ByteArray} (h : a ≠ b) : (a.toList == b.toList) = false := by
  rw [beq_eq_false_iff_ne]
  intro hl
  apply h
  rw [ByteArray.toList_eq, ByteArray.toList_eq] at hl
  cases a; cases b
  simp only [ByteArray.mk.injEq]
  exact Array.toList_inj.1 hl
set_option maxHeartbeats 1600000 in
set_option maxRecDepth 20000 in
theorem sizes_any (n m : Nat) (hn : n < 4294967296) (hm : m < 4294967296) (w : World) :
    Calls Tryd.prog 5 #[.int .u32 (n : Int), .int .u32 (m : Int)] w fun e w2 => e = .returned (.bool true) ∧ Kp [] w w2 := by
  have H0 : Hid (Kp [] w w) := Kp.refl [] w
  have hln : (numL n).length ≤ 10 := numL_len 9 n (by omega)
  have Hln := Lib.hid hln
  have hin := fun h => numS_inj (n := n) (m := m) (by omega) (by omega) h
  have Hin := Lib.hid hin
  clear hln hin
  go_enter Tryd.func5, Tryd.ntmps5
  go_wp2_with fail
  refine (known_any _).mono ?_
  rintro e x1 ⟨rfl, K⟩
  have H1 := Kp.step H0 K
  clear K H0
  go_wp2_with fail
  refine (num_nat n (by omega) _).mono ?_
  rintro e x2 ⟨rfl, K⟩
  have H2 := Kp.step H1 K
  clear K H1
  go_wp2_with fail
  refine (num_nat m (by omega) _).mono ?_
  rintro e x3 ⟨rfl, K⟩
  have H3 := Kp.step H2 K
  clear K H2
  go_wp2_with fail
  go_loop [7, 8] (fun q i => ∃ (want k : Nat), k < 4294967296 ∧ i = .int .i64 (k : Int) ∧ q = .int .i64 (want : Int) ∧ Hid (want + (numL k).length = (numL n).length + 1)) (fun _ i => (intOf i).toNat)
  case atStart => exact ⟨1, n, hn, by go_num, rfl, Nat.add_comm _ _⟩
  case round =>
    obtain ⟨want, k, hk, rfl, rfl, HW⟩ := hrel
    have hw10 : want ≤ 10 := by have h1 := HW.out; have := numL_pos k; have := Hln.out; omega
    by_cases h : 128 ≤ k
    · have hd : decide ((128 : Int) ≤ (k : Int)) = true := by simp; omega
      go_wp2_with fail
      go_round
      case rel => exact ⟨want + 1, k / 128, by omega, by simp, by go_num, by have h1 := HW.out; rw [numL_ge h] at h1; simp only [List.length_cons] at h1; show _ = _; omega⟩
      case measure => simp [intOf]; omega
    · have hd : decide ((128 : Int) ≤ (k : Int)) = false := by simp; omega
      have hsz : (numS n).size = want := by have h1 := HW.out; rw [numL_lt (by omega)] at h1; rw [numS_size]; simp at h1; omega
      have e1 : (((numS n).size : Int) == (want : Int)) = true := by rw [hsz]; simp
      rcases Nat.lt_trichotomy n m with h2 | h2 | h2
      · have e2 : decide (n < m) = true := by simpa using h2
        have e3 : ((numS n).toList == (numS m).toList) = false := tl_ne (fun h => by have := Hin.out h; omega)
        have e4 : ((n : Int) == (m : Int)) = false := by simp; omega
        clear hsz
        go_wp2_with fail
        all_goals
          first
            | (exfalso; omega)
            | (go_ret
               exact ⟨by simp [h2, e2, e3, e4], H3⟩)
      · subst h2
        have e5 : decide ((numS n).size ≤ want) = true := by simp; omega
        have e6 : decide (want < (numS n).size) = false := by simp; omega
        clear hsz
        go_wp2_with fail
        go_ret
        exact ⟨rfl, H3⟩
      · have e7 : (numS m).size ≤ want := by rw [← hsz, numS_size, numS_size]; exact numL_mono n n m (Nat.le_refl _) (by omega)
        have e5 : decide ((numS m).size ≤ want) = true := by simpa using e7
        have e6 : decide (want < (numS m).size) = false := by simp; omega
        have e3 : ((numS n).toList == (numS m).toList) = false := tl_ne (fun h => by have := Hin.out h; omega)
        have e4 : ((n : Int) == (m : Int)) = false := by simp; omega
        have e8 : decide ((numS m).size ≤ (numS n).size) = true := by simp; omega
        have H7 := Lib.hid e7
        have HS := Lib.hid hsz
        clear hsz e7
        go_wp2_with fail
        all_goals
          first
            | (exfalso; have := H7.out; have := HS.out; omega)
            | (go_ret
               exact ⟨by simp [e3, e4, e8], H3⟩)
end Go.Proofs.YtgnkdcaboljapaaDoor
