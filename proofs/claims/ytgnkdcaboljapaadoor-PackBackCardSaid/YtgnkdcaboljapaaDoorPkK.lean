/- The law's 'known': package pack answers as it should at a few values. -/
import Derived.Test.YtgnkdcaboljapaaDoorPkT
namespace Go.Proofs.YtgnkdcaboljapaaDoor
open Go.RowKit

theorem numS128 : numS 128 = ⟨#[128, 1]⟩ := by
  unfold numS
  rw [numL_ge (by omega), numL_lt (by omega)]
  rfl
theorem numS_small (n : Nat) (h : n < 128) : numS n = ⟨#[UInt8.ofNat n]⟩ := by
  unfold numS
  rw [numL_lt h]
theorem k_num (w : World) : Calls Tryd.prog 7 #[.int .i64 128] w fun e w2 => e = .returned (.string ⟨#[128, 1]⟩) ∧ Kp [] w w2 := by
  rw [← numS128]
  exact num_nat 128 (by omega) w
theorem k_take (w : World) : Calls Tryd.prog 9 #[.string (⟨#[128, 1]⟩ ++ ⟨#[120]⟩)] w fun e w2 => e = .returned (.tuple #[.int .i64 128, .string ⟨#[120]⟩, .nilIface]) ∧ Kp [] w w2 := by
  have h1 : ((⟨#[128, 1]⟩ : ByteArray) ++ ⟨#[120]⟩).size ≤ 9223372036854775 := by decide +kernel
  have h2 : takeS ((⟨#[128, 1]⟩ : ByteArray) ++ ⟨#[120]⟩) = (0, 128, 2) := by decide +kernel
  refine Calls.mono (take_yes _ h1 128 2 h2 w) ?_
  rintro e w2 ⟨rfl, hk⟩
  refine ⟨?_, hk⟩
  rw [show ByteArray.extract ((⟨#[128, 1]⟩ : ByteArray) ++ ⟨#[120]⟩) 2 ((⟨#[128, 1]⟩ : ByteArray) ++ ⟨#[120]⟩).size = ⟨#[120]⟩ by kernel_rfl]
  rfl
theorem k_text (w : World) : Calls Tryd.prog 8 #[.string ⟨#[97, 98]⟩] w fun e w2 => e = .returned (.string ⟨#[2, 97, 98]⟩) ∧ Kp [] w w2 := by
  refine (text_any ⟨#[97, 98]⟩ (by decide) w).mono ?_
  rintro e w2 ⟨rfl, hk⟩
  rw [numS_small _ (by decide)]
  exact ⟨rfl, hk⟩
theorem k_text3 (w : World) : Calls Tryd.prog 8 #[.string ⟨#[97, 98, 99]⟩] w fun e w2 => e = .returned (.string ⟨#[3, 97, 98, 99]⟩) ∧ Kp [] w w2 := by
  refine (text_any ⟨#[97, 98, 99]⟩ (by decide) w).mono ?_
  rintro e w2 ⟨rfl, hk⟩
  rw [numS_small _ (by decide)]
  exact ⟨rfl, hk⟩
theorem k_ttext (w : World) : Calls Tryd.prog 10 #[.string (⟨#[2, 97, 98]⟩ ++ ⟨#[121]⟩), .int .i64 5] w fun e w2 => e = .returned (.tuple #[.string ⟨#[97, 98]⟩, .string ⟨#[121]⟩, .nilIface]) ∧ Kp [] w w2 := by
  have h1 : ((⟨#[2, 97, 98]⟩ : ByteArray) ++ ⟨#[121]⟩).size ≤ 9223372036854775 := by decide +kernel
  have h2 : takeS ((⟨#[2, 97, 98]⟩ : ByteArray) ++ ⟨#[121]⟩) = (0, 2, 1) := by decide +kernel
  have h3 : 2 ≤ (ByteArray.extract ((⟨#[2, 97, 98]⟩ : ByteArray) ++ ⟨#[121]⟩) 1 ((⟨#[2, 97, 98]⟩ : ByteArray) ++ ⟨#[121]⟩).size).size := by decide +kernel
  refine Calls.mono (ttext_yes _ h1 5 2 1 h2 (by decide) h3 w) ?_
  rintro e w2 ⟨rfl, hk⟩
  refine ⟨?_, hk⟩
  rw [show ByteArray.extract ((⟨#[2, 97, 98]⟩ : ByteArray) ++ ⟨#[121]⟩) 1 ((⟨#[2, 97, 98]⟩ : ByteArray) ++ ⟨#[121]⟩).size = ⟨#[97, 98, 121]⟩ by kernel_rfl]
  rfl
theorem k_take0 (w : World) : Calls Tryd.prog 9 #[.string ⟨#[]⟩] w fun e w2 => e = .returned (.tuple #[.int .i64 0, .string ⟨#[]⟩, pkErr sNumber 0 11]) ∧ Kp [] w w2 :=
  take_no ⟨#[]⟩ (by decide) 11 0 0 (by decide +kernel) (.inr rfl) w
theorem k_large (w : World) : Calls Tryd.prog 10 #[.string ⟨#[3, 97, 98, 99]⟩, .int .i64 2] w fun e w2 => e = .returned (.tuple #[.string ⟨#[]⟩, .string ⟨#[3, 97, 98, 99]⟩, pkErr sText 0 13]) ∧ Kp [] w w2 :=
  ttext_large ⟨#[3, 97, 98, 99]⟩ (by decide) 2 3 1 (by decide +kernel) (by decide) w
/-- One call more. -/
theorem Kp.step {a b c : World} (h : Hid (Kp [] a b)) (k : Kp [] b c) : Hid (Kp [] a c) := Kp.trans h k
set_option maxHeartbeats 1600000 in
set_option maxRecDepth 20000 in
theorem known_any (w : World) :
    Calls Tryd.prog 6 #[] w fun e w2 => e = .returned (.bool true) ∧ Kp [] w w2 := by
  have H0 : Hid (Kp [] w w) := Kp.refl [] w
  go_enter Tryd.func6, Tryd.ntmps6
  go_wp2_with fail
  refine (k_num _).mono ?_
  rintro e x1 ⟨rfl, K⟩
  have H1 := Kp.step H0 K
  clear K H0
  go_wp2_with fail
  refine (k_take _).mono ?_
  rintro e x2 ⟨rfl, K⟩
  have H2 := Kp.step H1 K
  clear K H1
  go_wp2_with fail
  refine (k_text _).mono ?_
  rintro e x3 ⟨rfl, K⟩
  have H3 := Kp.step H2 K
  clear K H2
  go_wp2_with fail
  refine (k_ttext _).mono ?_
  rintro e x4 ⟨rfl, K⟩
  have H4 := Kp.step H3 K
  clear K H3
  go_wp2_with fail
  refine (k_take0 _).mono ?_
  unfold pkErr
  rintro e x5 ⟨rfl, K⟩
  have H5 := Kp.step H4 K
  clear K H4
  go_wp2_with fail
  refine (k_text3 _).mono ?_
  rintro e x6 ⟨rfl, K⟩
  have H6 := Kp.step H5 K
  clear K H5
  go_wp2_with fail
  refine (k_large _).mono ?_
  unfold pkErr
  rintro e x7 ⟨rfl, K⟩
  have H7 := Kp.step H6 K
  clear K H6
  go_wp2_with fail
  refine (k_num _).mono ?_
  rintro e x8 ⟨rfl, K⟩
  have H8 := Kp.step H7 K
  clear K H7
  go_wp2_with fail
  refine (is_ref_yes sNumber 0 11 _).mono ?_
  rintro e x9 ⟨rfl, K⟩
  have H9 := Kp.step H8 K
  clear K H8
  go_wp2_with fail
  refine (is_ref_yes sText 0 13 _).mono ?_
  rintro e y1 ⟨rfl, K⟩
  have H10 := Kp.step H9 K
  clear K H9
  go_wp2_with fail
  go_ret
  exact ⟨rfl, H10⟩
end Go.Proofs.YtgnkdcaboljapaaDoor
