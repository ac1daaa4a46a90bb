/- The walk of the law DiskFlushed. -/
import Derived.Test.YtcbikokhnbfdaaaDoorFull
import Derived.Deep.RegionHeld3
namespace Go.Proofs.YtcbikokhnbfdaaaDoor
open Go.RowKit

set_option maxHeartbeats 3200000 in
set_option maxRecDepth 20000 in
theorem flushed_any (aa ab ka : Option Addr) (na ca nb cb kc : Nat) (sa sb : Nat → ByteArray) (ks : List Bool) (tn : Int) (w : World)
    (hA : StrsAt w w.heap.size aa na sa) (hB : StrsAt w w.heap.size ab nb sb) (hK : BoolsAt w w.heap.size ka ks) (hg : 4 ≤ w.heap.size) (ht : Tab w) :
    Calls Tryd.prog 4 #[.slice aa na ca, .slice ab nb cb, .slice ka ks.length kc, .int .i64 tn] w fun e w2 => e = .returned (.bool true) ∧ Kp [] w w2 := by
  have Hg := Lib.hid hg
  have HT := Lib.hid ht
  have HA := Lib.hid hA
  have HB := Lib.hid hB
  have HKe := Lib.hid hK
  clear hg ht hA hB hK
  by_cases h1 : 8 < na
  · have d1 : decide ((8 : Int) < (na : Int)) = true := by simp; omega
    go_enter Tryd.func4, Tryd.ntmps4
    go_wp2_with (go_at_call 7; refine (known_any _ Hg.out HT.out).mono ?_; rintro e x0 ⟨rfl, K0⟩)
    go_ret
    exact ⟨rfl, K0⟩
  by_cases h2 : 8 < nb
  · have d1 : decide ((8 : Int) < (na : Int)) = false := by simp; omega
    have d2 : decide ((8 : Int) < (nb : Int)) = true := by simp; omega
    go_enter Tryd.func4, Tryd.ntmps4
    go_wp2_with (go_at_call 7; refine (known_any _ Hg.out HT.out).mono ?_; rintro e x0 ⟨rfl, K0⟩)
    go_ret
    exact ⟨rfl, K0⟩
  by_cases h3 : 20 < ks.length
  · have d1 : decide ((8 : Int) < (na : Int)) = false := by simp; omega
    have d2 : decide ((8 : Int) < (nb : Int)) = false := by simp; omega
    have d3 : decide ((20 : Int) < (ks.length : Int)) = true := by simp; omega
    go_enter Tryd.func4, Tryd.ntmps4
    go_wp2_with (go_at_call 7; refine (known_any _ Hg.out HT.out).mono ?_; rintro e x0 ⟨rfl, K0⟩)
    go_ret
    exact ⟨rfl, K0⟩
  have d1 : decide ((8 : Int) < (na : Int)) = false := by simp; omega
  have d2 : decide ((8 : Int) < (nb : Int)) = false := by simp; omega
  have d3 : decide ((20 : Int) < (ks.length : Int)) = false := by simp; omega
  generalize hkl : ks.length = kl at *
  have Hkl := Lib.hid hkl
  clear hkl
  go_enter Tryd.func4, Tryd.ntmps4
  go_wp2_with fail
  refine (known_any _ Hg.out HT.out).mono ?_
  rintro e x0 ⟨rfl, K0⟩
  have hB0 : w.heap.size ≤ x0.heap.size := K0.size
  have HB0 := Lib.hid hB0
  have U0 : Hid (Up w.heap.size w x0) := K0.up0 _
  clear K0 hB0
  go_wp2_with fail
  refine (use_new 8 w.heap.size x0 (Nat.le_trans Hg.out HB0.out) HB0.out).mono ?_
  rintro e x1 ⟨b, rfl, D, K, -⟩
  have D1 : Hid (DkIn w.heap.size x1 b (st1 sa 0)) := by rw [← st1_zero]; exact D
  have U1 : Hid (Up w.heap.size w x1) := U0.out.trans (K.up0 _)
  clear D K U0
  go_wp2_with fail
  go_loopw [10] (fun i wr => ∃ j : Nat, j ≤ na ∧ i = .int .i64 j ∧ DkIn w.heap.size wr b (st1 sa j) ∧ Up w.heap.size w wr ∧ ∀ k, k < j → (sa k).size ≤ 64) (fun i _ => na - (intOf i).toNat)
  case atStart => exact ⟨0, Nat.zero_le _, rfl, D1.out, U1.out, fun k hk => by omega⟩
  case round =>
    clear D1 U1
    obtain ⟨j, hj, rfl, D, U, hs⟩ := hrel
    have HD := Lib.hid D
    have HU := Lib.hid U
    have Hs := Lib.hid hs
    clear D U hs
    by_cases hlt : j < na
    · obtain ⟨g, o, rfl, hgl, hc⟩ := (HA.out.up HU.out (Nat.le_refl _)) j hlt
      have Hgl := Lib.hid hgl
      clear hgl
      generalize hsj : sa j = s at *
      have Hsj := Lib.hid hsj
      clear hsj
      by_cases h64 : 64 < s.size
      · have e64 : decide ((64 : Int) < (s.size : Int)) = true := by simp; omega
        go_wp2_with fail
        go_ret
        exact ⟨rfl, HU.out.kp (Nat.le_refl _)⟩
      · have e64 : decide ((64 : Int) < (s.size : Int)) = false := by simp; omega
        go_wp2_with fail
        refine (use_write_yes HD.out HU.out.2.2.2.1 (j : Int) s (by omega) (by omega) (HU.out.tab HT.out Hg.out) (by have := st1_err sa j (by omega) (by rw [Hsj.out]; omega); rw [Hsj.out] at this; exact this) (by have := st1_next sa j (by omega) (by rw [Hsj.out]; omega); rw [Hsj.out] at this; rw [this]; exact st1_small sa (j + 1) (by omega))).mono ?_
        rintro e x3 ⟨rfl, D, U⟩
        have D3 : Hid (DkIn w.heap.size x3 b (st1 sa (j + 1))) := by
          have := st1_next sa j (by omega) (by rw [Hsj.out]; omega)
          rw [Hsj.out] at this
          rw [this] at D
          exact D
        have U3 : Hid (Up w.heap.size w x3) := HU.out.trans U
        clear D U
        go_wp2_with fail
        go_roundw
        case rel => exact ⟨j + 1, by omega, by go_num, D3.out, U3.out, fun k hk => by
          by_cases e : k = j
          · subst e; rw [Hsj.out]; omega
          · exact Hs.out k (by omega)⟩
        case measure => simp [intOf]; omega
    · have hjn : j = na := by omega
      subst hjn
      go_wp2_with fail
      refine (use_flush_yes HD.out rfl).mono ?_
      rintro e x3 ⟨rfl, D, U⟩
      rw [st1_flush sa sb j] at D
      have D3 := Lib.hid D
      have U3 : Hid (Up w.heap.size w x3) := HU.out.trans U
      clear D U HD HU
      go_wp2_with fail
      go_loopw [11] (fun i wr => ∃ q : Nat, q ≤ nb ∧ i = .int .i64 q ∧ DkIn w.heap.size wr b (st2 j sa sb q) ∧ Up w.heap.size w wr ∧ ∀ k, k < q → (sb k).size ≤ 64) (fun i _ => nb - (intOf i).toNat)
      case atStart => exact ⟨0, Nat.zero_le _, rfl, D3.out, U3.out, fun k hk => by omega⟩
      case round =>
        clear D3 U3
        obtain ⟨q, hq, rfl, D, U, hs2⟩ := hrel
        have HD := Lib.hid D
        have HU := Lib.hid U
        have Hs2 := Lib.hid hs2
        clear D U hs2
        by_cases hlt2 : q < nb
        · obtain ⟨g, o, rfl, hgl, hc⟩ := (HB.out.up HU.out (Nat.le_refl _)) q hlt2
          have Hgl := Lib.hid hgl
          clear hgl
          generalize hsj : sb q = s at *
          have Hsj := Lib.hid hsj
          clear hsj
          by_cases h64 : 64 < s.size
          · have e64 : decide ((64 : Int) < (s.size : Int)) = true := by simp; omega
            go_wp2_with fail
            go_ret
            exact ⟨rfl, HU.out.kp (Nat.le_refl _)⟩
          · have e64 : decide ((64 : Int) < (s.size : Int)) = false := by simp; omega
            go_wp2_with fail
            refine (use_write_yes HD.out HU.out.2.2.2.1 (7 - (q : Int)) s (by omega) (by omega) (HU.out.tab HT.out Hg.out) (by have := st2_err j sa sb q (by omega) (by rw [Hsj.out]; omega); rw [Hsj.out] at this; exact this) (by have := st2_next j sa sb q (by omega) (by rw [Hsj.out]; omega); rw [Hsj.out] at this; rw [this]; exact st2_small j sa sb (q + 1) (by omega) (by omega))).mono ?_
            rintro e x3 ⟨rfl, D, U⟩
            have D3 : Hid (DkIn w.heap.size x3 b (st2 j sa sb (q + 1))) := by
              have := st2_next j sa sb q (by omega) (by rw [Hsj.out]; omega)
              rw [Hsj.out] at this
              rw [this] at D
              exact D
            have U3 : Hid (Up w.heap.size w x3) := HU.out.trans U
            clear D U
            go_wp2_with fail
            go_roundw
            case rel => exact ⟨q + 1, by omega, by go_num, D3.out, U3.out, fun k hk => by
              by_cases e : k = q
              · subst e; rw [Hsj.out]; omega
              · exact Hs2.out k (by omega)⟩
            case measure => simp [intOf]; omega
        · have hqn : q = nb := by omega
          subst hqn
          go_wp2_with fail
          have hcr := use_crash HD.out HU.out.2.2.2.1 ka kc ks (HKe.out.up HU.out (Nat.le_refl _)) tn
          rw [Hkl.out] at hcr
          refine hcr.mono ?_
          clear hcr
          rintro e x3 ⟨rfl, D, U⟩
          have D3 := Lib.hid D
          have U3 : Hid (Up w.heap.size w x3) := HU.out.trans U
          clear D U HD HU
          go_wp2_with fail
          go_loopw [12] (fun i wr => ∃ k : Nat, k ≤ 8 ∧ i = .int .i64 k ∧ DkIn w.heap.size wr b ((st2 j sa sb q).crash ks tn) ∧ Up w.heap.size w wr) (fun i _ => 8 - (intOf i).toNat)
          case atStart => exact ⟨0, Nat.zero_le _, rfl, D3.out, U3.out⟩
          case round =>
            clear D3 U3
            obtain ⟨k, hk, rfl, D, U⟩ := hrel
            have HD := Lib.hid D
            have HU := Lib.hid U
            clear D U
            by_cases hk8 : k < 8
            · obtain ⟨hre, hrb⟩ := st2_read j q sa sb ks tn (by omega) k hk8
              have Hre := Lib.hid hre
              have Hrb := Lib.hid hrb
              clear hre hrb
              go_wp2_with fail
              refine (use_read_yes HD.out (k : Int) (by omega) (by omega) (HU.out.tab HT.out Hg.out) _ Hre.out Hrb.out).mono ?_
              rintro e x4 ⟨rfl, D, K⟩
              have D4 := Lib.hid D
              have U4 : Hid (Up w.heap.size w x4) := HU.out.trans (K.up0 _)
              clear D K HD HU
              go_wp2_with fail
              refine (full_any (HA.out.up U4.out (Nat.le_refl _)) Hs.out ca k).mono ?_
              rintro e x5 ⟨rfl, K⟩
              have D5 := Lib.hid (D4.out.kept K)
              have U5 : Hid (Up w.heap.size w x5) := U4.out.trans (K.up0 _)
              clear K D4 U4
              go_wp2_with fail
              refine (full_any (HA.out.up U5.out (Nat.le_refl _)) Hs.out ca k).mono ?_
              rintro e x6 ⟨rfl, K⟩
              have D6 := Lib.hid (D5.out.kept K)
              have U6 : Hid (Up w.heap.size w x6) := U5.out.trans (K.up0 _)
              clear K D5 U5
              obtain ⟨p, hp, hj7⟩ : ∃ p : Nat, p = 7 - k ∧ (7 : Int) - (k : Int) = (p : Int) := ⟨7 - k, rfl, by omega⟩
              have Hp := Lib.hid hp
              clear hp
              by_cases c1 : p < q
              · have e1 : decide ((p : Int) < (q : Int)) = true := by simp; omega
                by_cases c2 : p < kl
                · have e2 : decide ((p : Int) < (kl : Int)) = true := by simp; omega
                  obtain ⟨g, o, rfl, hgl, hc⟩ := (HKe.out.up U6.out (Nat.le_refl _)) p (by rw [Hkl.out]; exact c2)
                  have Hgl := Lib.hid hgl
                  clear hgl
                  cases hv : ks.getD p false
                  · rw [hv] at hc
                    have hE : after j q sa sb ks tn k = fullA j sa k := by
                      unfold after
                      rw [← Hp.out, if_pos ⟨by omega, c1⟩, if_neg (by rw [hv]; decide)]
                    have Hv := Lib.hid hv
                    clear hv
                    go_wp2_with fail
                    go_roundw
                    case rel => exact ⟨k + 1, by omega, by go_num, D6.out, U6.out⟩
                    case measure => simp [intOf]; omega
                  · rw [hv] at hc
                    have hE : after j q sa sb ks tn k = torn (fullA j sa k) (fullA q sb p) (decide ((p : Int) = tn)) := by
                      unfold after
                      rw [← Hp.out, if_pos ⟨by omega, c1⟩, if_pos hv]
                      congr 1
                      unfold fullA
                      rw [if_pos c1]
                    have HE := Lib.hid hE
                    have Hv := Lib.hid hv
                    clear hv hE
                    go_wp2_with fail
                    refine (full_any (HB.out.up U6.out (Nat.le_refl _)) Hs2.out cb p).mono ?_
                    rintro e x7 ⟨rfl, K⟩
                    have D7 := Lib.hid (D6.out.kept K)
                    have U7 : Hid (Up w.heap.size w x7) := U6.out.trans (K.up0 _)
                    clear K D6 U6
                    by_cases c3 : (p : Int) = tn
                    · have e3 : ((p : Int) == tn) = true := by rw [beq_iff_eq]; exact c3
                      have Hc3 := Lib.hid c3
                      clear c3
                      have hnx : (ByteArray.mk (fullA q sb p).toArray).size = 64 := by
                        show (fullA q sb p).toArray.size = 64
                        unfold fullA
                        rw [if_pos c1, List.size_toArray]
                        exact fillUp_length _ (Hs2.out p c1)
                      have hod : (ByteArray.mk (fullA j sa k).toArray).size = 64 := by
                        show (fullA j sa k).toArray.size = 64
                        unfold fullA
                        split
                        · rename_i hkj
                          rw [List.size_toArray]
                          exact fillUp_length _ (Hs.out k hkj)
                        · rfl
                      have hE : (ByteArray.mk (after j q sa sb ks tn k).toArray) = (ByteArray.mk (fullA q sb p).toArray).extract 0 32 ++ (ByteArray.mk (fullA j sa k).toArray).extract 32 64 := by
                        rw [HE.out, decide_eq_true Hc3.out]
                        exact torn_bytes _ _ (by
                          unfold fullA
                          split
                          · rename_i hkj
                            exact fillUp_length _ (Hs.out k hkj)
                          · rfl)
                      have HE2 := Lib.hid hE
                      clear hE
                      generalize ByteArray.mk (fullA q sb p).toArray = nx at *
                      generalize ByteArray.mk (fullA j sa k).toArray = od at *
                      generalize ByteArray.mk (after j q sa sb ks tn k).toArray = af at *
                      go_wp2_with fail
                      go_region
                      rw [← HE2.out]
                      have D8 := Lib.hid (D7.out.kept (Kp.refl [] x7).drew)
                      have U8 : Hid (Up w.heap.size w x7.drew) := U7.out.trans ((Kp.refl [] x7).drew.up0 _)
                      go_wp2_with fail
                      go_roundw
                      case rel => exact ⟨k + 1, by omega, by go_num, D8.out, U8.out⟩
                      case measure => simp [intOf]; omega
                    · have e3 : ((p : Int) == tn) = false := by rw [beq_eq_false_iff_ne]; exact c3
                      have hE : after j q sa sb ks tn k = fullA q sb p := by
                        rw [HE.out, decide_eq_false c3]; rfl
                      clear c3
                      go_wp2_with fail
                      go_roundw
                      case rel => exact ⟨k + 1, by omega, by go_num, D7.out, U7.out⟩
                      case measure => simp [intOf]; omega
                · have e2 : decide ((p : Int) < (kl : Int)) = false := by simp; omega
                  have hE : after j q sa sb ks tn k = fullA j sa k := by
                    unfold after
                    rw [← Hp.out, if_pos ⟨by omega, c1⟩, if_neg (by rw [List.getD_eq_getElem?_getD, List.getElem?_eq_none (by rw [Hkl.out]; omega)]; decide)]
                  go_wp2_with fail
                  go_roundw
                  case rel => exact ⟨k + 1, by omega, by go_num, D6.out, U6.out⟩
                  case measure => simp [intOf]; omega
              · have e1 : decide ((p : Int) < (q : Int)) = false := by simp; omega
                have hE : after j q sa sb ks tn k = fullA j sa k := by
                  unfold after
                  rw [← Hp.out, if_neg (fun h => c1 h.2)]
                go_wp2_with fail
                go_roundw
                case rel => exact ⟨k + 1, by omega, by go_num, D6.out, U6.out⟩
                case measure => simp [intOf]; omega
            · have hk9 : k = 8 := by omega
              subst hk9
              go_wp2_with fail
              refine (use_loose HD.out).mono ?_
              rintro e x4 ⟨rfl, rfl⟩
              have hz : ((st2 j sa sb q).crash ks tn).L.length = 0 := rfl
              go_wp2_with fail
              go_ret
              exact ⟨rfl, HU.out.kp (Nat.le_refl _)⟩
end Go.Proofs.YtcbikokhnbfdaaaDoor
