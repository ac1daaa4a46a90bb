/- The walk of the law DiskLimits: it returns true, in a world where nothing that was there has changed. -/
import Derived.Test.YtcbikokhnbfdaaaDoorLim
import Derived.Deep.RegionWith
namespace Go.Proofs.YtcbikokhnbfdaaaDoor
open Go.RowKit

set_option maxHeartbeats 3200000 in
set_option maxRecDepth 20000 in
theorem limits_any (n : Int) (more : Nat) (hm : more ≤ 255) (w : World) (hg : 4 ≤ w.heap.size) (ht : Tab w) :
    Calls Tryd.prog 6 #[.int .i64 n, .int .u8 (more : Int)] w fun e w2 => e = .returned (.bool true) ∧ Kp [] w w2 := by
  have Hg := Lib.hid hg
  have HT := Lib.hid ht
  have hmm : max 1 (min n 2000) = (clampN n : Int) := by unfold clampN; omega
  obtain ⟨c1, c2⟩ := clampN_le n
  have hnew := use_new n
  generalize clampN n = m at hmm c1 c2 hnew
  have Hnew := Lib.hid hnew
  have hmk1 := make_bytes 64 64 rfl (by decide)
  have hmk2 := make_bytes (65 + (more : Int)) (65 + more) (by omega) (by omega)
  have hN : 64 < 65 + more := by omega
  generalize 65 + more = N at hmk2 hN
  have HN := Lib.hid hN
  have hmk3 := Lib.hid hmk2
  clear hg ht hnew hmk2 hN
  have hm0 : (0 : Int) ≤ (m : Int) - 1 := by omega
  go_enter Tryd.func6, Tryd.ntmps6
  go_wp2_with fail
  refine (known_any _ Hg.out HT.out).mono ?_
  rintro e x0 ⟨rfl, K0⟩
  have hB0 : w.heap.size ≤ x0.heap.size := K0.size
  have HB0 := Lib.hid hB0
  have U0 : Hid (Up w.heap.size w x0) := K0.up0 _
  clear K0 hB0
  go_wp2_with fail
  refine (Hnew.out w.heap.size x0 (Nat.le_trans Hg.out HB0.out) HB0.out).mono ?_
  rintro e x1 ⟨b, rfl, D, K, -⟩
  have D1 : Hid (DkIn w.heap.size x1 b (Dk.new m)) := D
  have U1 : Hid (Up w.heap.size w x1) := U0.out.trans (K.up0 _)
  clear D K U0
  go_wp2_with fail
  refine (use_write_yes D1.out U1.out.2.2.2.1 ((m : Int) - 1) sX (by omega) (by omega) (U1.out.tab HT.out Hg.out) (limA_err m c1) (limA_small m c1)).mono ?_
  rintro e x2 ⟨rfl, D, U⟩
  have D2 : Hid (DkIn w.heap.size x2 b (limA m)) := D
  have U2 : Hid (Up w.heap.size w x2) := U1.out.trans U
  clear D U D1 U1
  go_wp2_with fail
  refine (use_write_no D2.out U2.out.2.2.2.1 (m : Int) sX (by omega) (by omega) (U2.out.tab HT.out Hg.out) 14 (limB_err m c1) (by decide)).mono ?_
  rintro e x3 ⟨⟨q1, rfl⟩, D, U⟩
  have D3 : Hid (DkIn w.heap.size x3 b (limB m)) := D
  have U3 : Hid (Up w.heap.size w x3) := U2.out.trans U
  clear D U D2 U2
  go_wp2_with fail
  have hmk2 := hmk3.out
  clear hmk3
  have hcv1 : ∀ (W : World) (g : Nat), IsZ W g 64 → (convert 54 9 (.slice (some ⟨g, 0, none⟩) 64 64)).run Tryd.prog W = .ok (.string z64) W := fun W g h => conv_bytes h
  have hcv2 : ∀ (W : World) (g : Nat), IsZ W g N → (convert 54 9 (.slice (some ⟨g, 0, none⟩) N N)).run Tryd.prog W = .ok (.string (zStr N)) W := fun W g h => conv_bytes h
  have hz1 := isZ_new
  have hz2 := isZ_new2
  have hz3 := isZ_drew_iff
  have hz4 := isZ_old2
  have hw1 : IntKind.i64.wrap (more : Int) = (more : Int) := IntWalk.i64_in _ (by omega)
  have hw2 : IntKind.i64.wrap (65 + (more : Int)) = 65 + (more : Int) := IntWalk.i64_in _ (by omega)
  go_region_with (first | (go_at_call_of 11 z64; refine Calls.mono (grown_write_yes D3.out (by (repeat (first | refine Kp.drew ?_ | refine Kp.alloc ?_ _ | exact Kp.refl _ _))) U3.out.2.2.2.1 (U3.out.tab HT.out Hg.out) 0 z64 (by decide) (by decide) (limC_err m c1) (limC_small m c1) Hg.out) ?_; rintro e x4 ⟨rfl, D, U, hq⟩; have D4 : Hid (DkIn w.heap.size x4 b (limC m)) := D; have U4 : Hid (Up w.heap.size w x4) := U3.out.trans U; have hs4 : x3.heap.size ≤ x4.heap.size := U.2.2.2.1; have hkz : ∀ (g n : Nat), x3.heap.size ≤ g → IsZ _ g n → IsZ x4 g n := fun g n hx h => isZ_kept h hx hq; (first | (have hk1 : IsZ x4 (x3.heap.size + 1) N := hkz _ _ (by omega) (isZ_drew (isZ_new2 _ _ _))) | skip); (first | (have hk2 : IsZ x4 x3.heap.size N := hkz _ _ (Nat.le_refl _) (isZ_drew (isZ_alloc _ (isZ_new _ _)))) | skip); clear D U hq hkz) | (go_at_call 11; refine Calls.mono (grown_write_no D4.out (by (repeat (first | refine Kp.drew ?_ | refine Kp.alloc ?_ _ | exact Kp.refl _ _))) U4.out.2.2.2.1 (U4.out.tab HT.out Hg.out) 0 (zStr N) (by decide) (by decide) 13 (limD_err m N c1 HN.out) (by decide) Hg.out) ?_; rintro e x5 ⟨⟨q2, rfl⟩, D, U⟩; have D5 : Hid (DkIn w.heap.size x5 b (limD m)) := D; have U5 : Hid (Up w.heap.size w x5) := U4.out.trans U; clear D U))
  all_goals
    go_wp2_with fail
    refine (use_write_no D5.out U5.out.2.2.2.1 (-1) sX (by decide) (by decide) (U5.out.tab HT.out Hg.out) 14 (limE_err m c1) (by decide)).mono ?_
    rintro e x6 ⟨⟨q3, rfl⟩, D, U⟩
    have D6 : Hid (DkIn w.heap.size x6 b (limE m)) := D
    have U6 : Hid (Up w.heap.size w x6) := U5.out.trans U
    clear D U D5 U5 D4 U4 hcv1 hcv2 hz1 hz2 hz3 hz4 hmk1 hmk2
    obtain ⟨l1, l2, l3⟩ := limE_all m c1
    go_wp2_with fail
    refine (use_len D6.out).mono ?_
    rintro e x7 ⟨rfl, rfl⟩
    go_wp2_with fail
    refine (use_is (by decide) _).mono ?_
    rintro e x7 ⟨rfl, K7⟩
    have D7 : Hid (DkIn w.heap.size x7 b (limE m)) := D6.out.kept K7
    have U7 : Hid (Up w.heap.size w x7) := U6.out.trans (K7.up0 _)
    clear K7 D6 U6
    go_wp2_with fail
    refine (use_is (by decide) _).mono ?_
    rintro e x8 ⟨rfl, K8⟩
    have D8 : Hid (DkIn w.heap.size x8 b (limE m)) := D7.out.kept K8
    have U8 : Hid (Up w.heap.size w x8) := U7.out.trans (K8.up0 _)
    clear K8 D7 U7
    go_wp2_with fail
    refine (use_is (by decide) _).mono ?_
    rintro e x9 ⟨rfl, K9⟩
    have D9 : Hid (DkIn w.heap.size x9 b (limE m)) := D8.out.kept K9
    have U9 : Hid (Up w.heap.size w x9) := U8.out.trans (K9.up0 _)
    clear K9 D8 U8
    go_wp2_with fail
    refine (use_writes D9.out).mono ?_
    rintro e x10 ⟨rfl, rfl⟩
    go_wp2_with fail
    refine (use_loose D9.out).mono ?_
    rintro e x10 ⟨rfl, rfl⟩
    go_wp2_with fail
    go_ret
    exact ⟨rfl, U9.out.kp (Nat.le_refl _)⟩
end Go.Proofs.YtcbikokhnbfdaaaDoor
