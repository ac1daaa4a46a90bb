/- The law TreeShares, walked. -/
import Derived.Test.YtpocnldljglbgaaTrK
import Derived.Test.YtpocnldljglbgaaTrL
namespace Go.Proofs.Ytpocnldljglbgaa
open Go.RowKit Tr

set_option maxHeartbeats 6400000 in
set_option maxRecDepth 20000 in
theorem shares_any (la : Option Addr) (n c : Nat) (sx : Nat → ByteArray) (q : Nat) (hq : q < 256) (w : World) (hR : StrsAt w w.heap.size la n sx) :
    Calls Try.prog 5 #[.slice la n c, .int .u8 (q : Int)] w fun e w2 => e = .returned (.bool true) ∧ Kp [] w w2 := by
  have HR := Lib.hid hR
  clear hR
  by_cases h0 : n = 0
  · subst h0
    clear hq HR
    go_enter Try.func5, Try.ntmps5
    go_wp2_with fail
    refine Calls.mono (known_any _) ?_
    rintro e x1 ⟨rfl, K⟩
    have H1 := Lib.hid K
    clear K
    go_wp2_with fail
    go_ret
    exact ⟨rfl, H1.out⟩
  have d0 : ((n : Int) == 0) = false := by rw [beq_eq_false_iff_ne]; omega
  by_cases h1 : 30 < n
  · have d1 : decide ((30 : Int) < (n : Int)) = true := by simp; omega
    clear hq h0 HR h1
    go_enter Try.func5, Try.ntmps5
    go_wp2_with fail
    refine Calls.mono (known_any _) ?_
    rintro e x1 ⟨rfl, K⟩
    have H1 := Lib.hid K
    clear K
    go_wp2_with fail
    go_ret
    exact ⟨rfl, H1.out⟩
  have d1 : decide ((30 : Int) < (n : Int)) = false := by simp; omega
  have hn : n ≤ 30 := by omega
  have hn0 : 0 < n := by omega
  clear h0 h1
  go_enter Try.func5, Try.ntmps5
  go_wp2_with fail
  refine Calls.mono (known_any _) ?_
  rintro e x1 ⟨rfl, K⟩
  have H1 := Lib.hid K
  clear K
  go_wp2_with fail
  refine Calls.mono (new_any _) ?_
  rintro e x2 ⟨a0, rfl, K, M0⟩
  have H2 := Lib.hid (H1.out.trans K)
  have HM0 := Lib.hid M0
  clear K H1 M0
  go_wp2_with fail
  go_loopw [5, 6] (fun tv i wr => ∃ (k : Nat) (L : List En) (a : Option Addr), k ≤ n ∧ i = .int .i64 (k : Int) ∧ tv = .pointer a ∧ Hid (MapAt wr a L ∧ L.length ≤ k ∧ ∀ j, j < k → lk (sx j) L ≠ none) ∧ Hid (Kp [] w wr)) (fun _ i _ => n - (intOf i).toNat)
  case atStart => exact ⟨0, [], a0, Nat.zero_le _, rfl, rfl, ⟨HM0.out, Nat.le_refl _, fun j hj => absurd hj (Nat.not_lt_zero _)⟩, H2⟩
  case round =>
    obtain ⟨k, L, a, hk, rfl, rfl, HM, HK⟩ := hrel
    by_cases hlt : k < n
    · have l1 : decide ((k : Int) < (n : Int)) = true := by simpa using hlt
      have l1' : decide (k < n) = true := by simpa using hlt
      obtain ⟨g, o, rfl, hg, hc⟩ := HR.out k hlt
      obtain ⟨s, hs⟩ : ∃ s, s = sx k := ⟨_, rfl⟩
      rw [← hs] at hc
      have HS := Lib.hid hs
      clear hs
      have d2 : wr.cell? ⟨g, o + k, none⟩ = some (.string s) := (HK.out.cell0 hg).trans hc
      clear hc hg
      by_cases hb : 30 < s.size
      · have d3 : decide ((30 : Int) < (s.size : Int)) = true := by simp; omega
        clear hb HM H2 HM0
        go_wp2_with fail
        go_ret
        exact ⟨rfl, HK.out⟩
      have d3 : decide ((30 : Int) < (s.size : Int)) = false := by simp; omega
      clear hb
      go_wp2_with fail
      refine Calls.mono (With_any HM.out.1 s (k : Int) (by have := HM.out.2.1; omega)) ?_
      rintro e y1 ⟨a1, rfl, K, M⟩
      have HK1 := Lib.hid (HK.out.trans K)
      have HM1 : Hid (MapAt y1 a1 (put s (k : Int) L) ∧ (put s (k : Int) L).length ≤ k + 1 ∧ ∀ j, j < k + 1 → lk (sx j) (put s (k : Int) L) ≠ none) :=
        ⟨M, by have := len_put_le s (k : Int) L; have := HM.out.2.1; omega, fun j hj => by
          rcases Nat.lt_succ_iff_lt_or_eq.1 hj with h | h
          · exact lk_put_keep (HM.out.2.2 j h)
          · subst h; rw [← HS.out, lk_put]; simp⟩
      clear K M HM HK
      go_wp2_with fail
      go_roundw
      case rel => exact ⟨k + 1, _, _, by omega, by go_num, rfl, HM1, HK1⟩
      case measure => simp [intOf]; omega
    · have l1 : decide ((k : Int) < (n : Int)) = false := by simpa using hlt
      have l1' : decide (k < n) = false := by simpa using hlt
      obtain rfl : k = n := by omega
      clear hlt H2 HM0
      obtain ⟨i, hi⟩ : ∃ i : Nat, i = q % k := ⟨_, rfl⟩
      have hik : i < k := by rw [hi]; exact Nat.mod_lt _ hn0
      have e1 : IntKind.i64.wrap (q : Int) = (q : Int) := by rw [IntKind.wrap_i64]; omega
      have e2 : (q : Int).tmod (k : Int) = (i : Int) := by rw [hi, Int.ofNat_tmod]
      have e3 : IntKind.i64.wrap (i : Int) = (i : Int) := by rw [IntKind.wrap_i64]; omega
      clear hi
      obtain ⟨g, o, rfl, hg, hc⟩ := HR.out i hik
      obtain ⟨s, hs⟩ : ∃ s, s = sx i := ⟨_, rfl⟩
      rw [← hs] at hc
      have hlk := HM.out.2.2 i hik
      rw [← hs] at hlk
      obtain ⟨m, hm, hl⟩ := lk_some hlk
      have HLK := Lib.hid hl
      have HMM := Lib.hid hm
      have d2 : wr.cell? ⟨g, o + i, none⟩ = some (.string s) := (HK.out.cell0 hg).trans hc
      clear hlk hl hm hc hg hs
      have hlen := len_rem HM.out.1.rise HMM.out
      have hlen2 : (put s (-1) (rem s L)).length = (rem s L).length + 1 := len_put_new (-1) rem_ne
      have hle := HM.out.2.1
      obtain ⟨r, hr⟩ : ∃ r, r = (rem s L).length := ⟨_, rfl⟩
      rw [← hr] at hlen hlen2
      have HL1 : Hid (L.length = r + 1) := hlen.symm
      have HL2 := Lib.hid hlen2
      have HLr := Lib.hid hr
      have hr30 : r < 30 := by omega
      have HM1 := Lib.hid HM.out.1
      have HKs := Lib.hid HK.out
      clear hlen hlen2 hr hle HMM HM HR HK
      go_wp2_with fail
      refine Calls.mono (get_yes HM1.out HLK.out) ?_
      rintro e y1 ⟨rfl, hw⟩
      have hw := hw.symm
      subst hw
      go_wp2_with fail
      refine Calls.mono (Without_any HM1.out s (by rw [HL1.out]; omega)) ?_
      rintro e y2 ⟨a2, rfl, k2, m2⟩
      have HK2 := Lib.hid (HKs.out.trans k2)
      have HM2 := Lib.hid (HM1.out.kp k2)
      have HA2 := Lib.hid m2
      clear k2 m2 HM1 HKs
      go_wp2_with fail
      refine Calls.mono (With_any HA2.out s (-1) (by rw [← HLr.out]; omega)) ?_
      rintro e y3 ⟨a3, rfl, k3, m3⟩
      have HK3 := Lib.hid (HK2.out.trans k3)
      have HM3 := Lib.hid (HM2.out.kp k3)
      have HA3 := Lib.hid (HA2.out.kp k3)
      have HB3 := Lib.hid m3
      clear k3 m3 HM2 HK2 HA2
      go_wp2_with fail
      refine Calls.mono (get_no HA3.out (lk_rem s L)) ?_
      rintro e y4 ⟨rfl, hw⟩
      have hw := hw.symm
      subst hw
      go_wp2_with fail
      refine Calls.mono (get_yes HB3.out (lk_put s (-1) (rem s L))) ?_
      rintro e y4 ⟨rfl, hw⟩
      have hw := hw.symm
      subst hw
      go_wp2_with fail
      refine Calls.mono (get_yes HM3.out HLK.out) ?_
      rintro e y4 ⟨rfl, hw⟩
      have hw := hw.symm
      subst hw
      go_wp2_with fail
      refine Calls.mono (len_any HA3.out) ?_
      rintro e y4 ⟨rfl, hw⟩
      have hw := hw.symm
      subst hw
      rw [← HLr.out]
      go_wp2_with fail
      refine Calls.mono (len_any HM3.out) ?_
      rintro e y4 ⟨rfl, hw⟩
      have hw := hw.symm
      subst hw
      rw [HL1.out]
      have w1 : IntKind.i64.wrap (((r + 1 : Nat) : Int) - 1) = (r : Int) := by rw [IntKind.wrap_i64]; omega
      go_wp2_with fail
      refine Calls.mono (len_any HB3.out) ?_
      rintro e y4 ⟨rfl, hw⟩
      have hw := hw.symm
      subst hw
      rw [HL2.out]
      go_wp2_with fail
      refine Calls.mono (len_any HM3.out) ?_
      rintro e y4 ⟨rfl, hw⟩
      have hw := hw.symm
      subst hw
      rw [HL1.out]
      go_wp2_with fail
      refine Calls.mono (Without_any HA3.out s (by rw [← HLr.out]; omega)) ?_
      rintro e y5 ⟨a5, rfl, k5, m5⟩
      rw [rem_rem] at m5
      have HK5 := Lib.hid (HK3.out.trans k5)
      have HA5 := Lib.hid (HA3.out.kp k5)
      have HB5 := Lib.hid m5
      clear k5 m5 HK3 HA3 HB3 HM3
      go_wp2_with fail
      refine Calls.mono (len_any HB5.out) ?_
      rintro e y4 ⟨rfl, hw⟩
      have hw := hw.symm
      subst hw
      rw [← HLr.out]
      go_wp2_with fail
      refine Calls.mono (len_any HA5.out) ?_
      rintro e y4 ⟨rfl, hw⟩
      have hw := hw.symm
      subst hw
      rw [← HLr.out]
      go_wp2_with fail
      go_ret
      exact ⟨rfl, HK5.out⟩
end Go.Proofs.Ytpocnldljglbgaa
