/- The walk of the law PackBack. -/
import Derived.Test.YtgnkdcaboljapaaDoorPBkS
namespace Go.Proofs.YtgnkdcaboljapaaDoor
open Go.RowKit

theorem back_text (s more ts : ByteArray) (h : ts = numS s.size ++ s) (hs : s.size ≤ 300) (hm : more.size ≤ 100) (w : World) :
    Calls Tryd.prog 10 #[.string (ts ++ more), .int .i64 300] w fun e w2 => e = .returned (.tuple #[.string s, .string more, .nilIface]) ∧ Kp [] w w2 := by
  rw [h]
  exact t_text s more hs (by omega) 300 (by omega) w
theorem back_cut (s ts : ByteArray) (h : ts = numS s.size ++ s) (hs : s.size ≤ 300) (c : Nat) (hc : c < ts.size) (w : World) (hE : EHas w) :
    Calls Tryd.prog 10 #[.string (ts.extract 0 c), .int .i64 300] w (CutPost (ts.extract 0 c) w) := by
  subst h
  exact t_textcut s hs c hc w hE
set_option maxHeartbeats 3200000 in
set_option maxRecDepth 100000 in
theorem back_any (n : Nat) (s more : ByteArray) (cut : Nat) (hn : n < 18446744073709551616) (hcut : cut < 256) (w : World) (hE : EHas w) :
    Calls Tryd.prog 3 #[.int .u64 (n : Int), .string s, .string more, .int .u8 (cut : Int)] w fun e w2 => e = .returned (.bool true) ∧ Kp [] w w2 := by
  have H0 : Hid (Kp [] w w) := Kp.refl [] w
  have HE := Lib.hid hE
  clear hE
  by_cases hs : s.size ≤ 300 ∧ more.size ≤ 100
  · obtain ⟨hs, hm⟩ := hs
    obtain ⟨k, hk⟩ : ∃ k : Nat, k = n / 512 := ⟨_, rfl⟩
    have hk8 : k < 36028797018963968 := by omega
    have hsh : (n : Int) / 512 = (k : Int) := by omega
    have Hk8 : Hid (k < 128 ^ 8) := by show k < 128 ^ 8; omega
    clear hk
    have d1 : decide ((300 : Int) < (s.size : Int)) = false := by simp; omega
    have d2 : decide ((100 : Int) < (more.size : Int)) = false := by simp; omega
    have hb8 := numS_le k Hk8.out
    have hb1 := numS_pos k
    have ht8 := numS_le s.size (by omega)
    have ht1 := numS_pos s.size
    obtain ⟨c, hc⟩ : ∃ c : Nat, (cut : Int) % ((numS k).size : Int) = (c : Int) := ⟨cut % (numS k).size, by simp⟩
    have hc1 : c < (numS k).size := by
      have := Int.emod_lt_of_pos (cut : Int) (show (0 : Int) < ((numS k).size : Int) by omega)
      omega
    obtain ⟨c2, hc2⟩ : ∃ c : Nat, (cut : Int) % ((numS s.size ++ s).size : Int) = (c : Int) := ⟨cut % (numS s.size ++ s).size, by simp⟩
    have hl : (numS s.size ++ s).size = (numS s.size).size + s.size := ByteArray.size_append
    have hc3 : c2 < (numS s.size ++ s).size := by
      have := Int.emod_lt_of_pos (cut : Int) (show (0 : Int) < ((numS s.size ++ s).size : Int) by omega)
      omega
    obtain ⟨ts, hts⟩ : ∃ ts : ByteArray, ts = numS s.size ++ s := ⟨_, rfl⟩
    have hl2 : 1 ≤ ts.size ∧ ts.size ≤ 308 := by rw [hts, hl]; omega
    rw [← hts] at hc2 hc3
    have HTS := Lib.hid hts
    have HC3 := Lib.hid hc3
    clear hl hts
    obtain ⟨hl2, hl3⟩ := hl2
    have z1 : (((numS k).size : Int) == 0) = false := by rw [beq_eq_false_iff_ne]; omega
    have z2 : ((ts.size : Int) == 0) = false := by rw [beq_eq_false_iff_ne]; omega
    go_enter Tryd.func3, Tryd.ntmps3
    go_wp2_with fail
    refine (known_any _).mono ?_
    rintro e x1 ⟨rfl, K⟩
    have H1 := Kp.step H0 K
    clear K H0
    go_wp2_with fail
    refine (num_nat k (by omega) _).mono ?_
    rintro e x2 ⟨rfl, K⟩
    have H2 := Kp.step H1 K
    clear K H1
    go_wp2_with fail
    refine (text_any s (by omega) _).mono ?_
    rw [← HTS.out]
    rintro e x3 ⟨rfl, K⟩
    have H3 := Kp.step H2 K
    clear K H2
    go_wp2_with fail
    refine (t_num k Hk8.out more (by omega) _).mono ?_
    rintro e x4 ⟨rfl, K⟩
    have H4 := Kp.step H3 K
    clear K H3
    go_wp2_with fail
    refine Calls.mono (back_text s more ts HTS.out hs hm _) ?_
    rintro e x5 ⟨rfl, K⟩
    have H5 := Kp.step H4 K
    clear K H4
    go_wp2_with fail
    refine Calls.mono (t_numcut k Hk8.out c hc1 _) ?_
    rintro e x6 ⟨rfl, K⟩
    have H6 := Kp.step H5 K
    clear K H5
    go_wp2_with fail
    refine Calls.mono (back_cut s ts HTS.out hs c2 HC3.out _ (HE.out.kept H6)) ?_
    rintro e x7 ⟨u, rfl, K⟩
    have H7 := Kp.step H6 K
    clear K H6
    go_wp2_with fail
    refine Calls.mono (is_ref_yes sNumber (c : Int) 11 _) ?_
    rintro e x8 ⟨rfl, K⟩
    have H8 := Kp.step H7 K
    clear K H7
    go_wp2_with fail
    refine Calls.mono (is_ref_yes sText u 11 _) ?_
    rintro e x9 ⟨rfl, K⟩
    have H9 := Kp.step H8 K
    clear K H8
    go_wp2_with fail
    refine Calls.mono (num_neg (-(k : Int) - 1) (by omega) (by omega) _) ?_
    rintro e y1 ⟨rfl, K⟩
    have H10 := Kp.step H9 K
    clear K H9
    go_wp2_with fail
    refine Calls.mono (num_nat 0 (by omega) _) ?_
    rintro e y2 ⟨rfl, K⟩
    have H11 := Kp.step H10 K
    clear K H10
    go_wp2_with fail
    go_ret
    exact ⟨rfl, H11⟩
  · by_cases hs1 : s.size ≤ 300
    · have hm : ¬ more.size ≤ 100 := fun h => hs ⟨hs1, h⟩
      have d1 : decide ((300 : Int) < (s.size : Int)) = false := by simp; omega
      have d2 : decide ((100 : Int) < (more.size : Int)) = true := by simp; omega
      clear hs
      go_enter Tryd.func3, Tryd.ntmps3
      go_wp2_with fail
      refine (known_any _).mono ?_
      rintro e x1 ⟨rfl, K⟩
      have H1 := Kp.step H0 K
      clear K H0
      go_wp2_with fail
      go_ret
      exact ⟨rfl, H1⟩
    · have d1 : decide ((300 : Int) < (s.size : Int)) = true := by simp; omega
      clear hs
      go_enter Tryd.func3, Tryd.ntmps3
      go_wp2_with fail
      refine (known_any _).mono ?_
      rintro e x1 ⟨rfl, K⟩
      have H1 := Kp.step H0 K
      clear K H0
      go_wp2_with fail
      go_ret
      exact ⟨rfl, H1⟩
end Go.Proofs.YtgnkdcaboljapaaDoor
