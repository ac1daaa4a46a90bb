/- The walk of the law DiskCuts. -/
import Derived.Test.YtcbikokhnbfdaaaDoorKnown
namespace Go.Proofs.YtcbikokhnbfdaaaDoor
open Go.RowKit

/-- The disk of the law behind i Writes, of which k are let by. -/
structure CutSt (k i : Nat) (S : Dk) : Prop where
  n : S.n = 10
  cut : S.cut = true
  writes : S.writes = min i k
  left : S.left = k - min i k
  dead : S.dead = decide (k < i)
  len : S.L.length = min i k
theorem CutSt.start (k : Nat) : CutSt k 0 ((Dk.new 10).cutAt (k : Int)) :=
  ⟨rfl, by simp [Dk.cutAt], by simp [Dk.cutAt, Dk.new], by simp [Dk.cutAt, Dk.new], by simp [Dk.cutAt, Dk.new], by simp [Dk.cutAt, Dk.new]⟩
theorem CutSt.yes {k i q : Nat} {S : Dk} (h : CutSt k i S) (hi : i < k) (hk : k < 20) (hq : q < 10) : S.werr (q : Int) sX.size = 0 ∧ CutSt k (i + 1) (S.wrote (q : Int) sX) ∧ (S.wrote (q : Int) sX).Small := by
  have hd : S.dead = false := by rw [h.dead]; simp; omega
  have hl : S.left = k - i := by rw [h.left]; omega
  have he : S.werr (q : Int) sX.size = 0 := by
    show S.werr (q : Int) 1 = 0
    have h1 : ¬ ((q : Int) < 0 ∨ (S.n : Int) ≤ (q : Int)) := by rw [h.n]; omega
    have h2 : ¬ (S.cut = true ∧ S.left = 0) := by rw [hl]; omega
    unfold Dk.werr
    rw [hd, if_neg (by decide), if_neg h1, if_neg (by decide), if_neg h2]
  refine ⟨he, ?_, ?_⟩
  · unfold Dk.wrote
    rw [if_pos he]
    exact ⟨h.n, h.cut, by show S.writes + 1 = _; rw [h.writes]; omega, by show (if S.cut then S.left - 1 else S.left) = _; rw [h.cut, if_pos rfl, hl]; omega, by show S.dead = _; rw [hd]; simp; omega, by show (S.L ++ [_]).length = _; rw [List.length_append, h.len]; simp; omega⟩
  · unfold Dk.wrote
    rw [if_pos he]
    refine ⟨?_, ?_, ?_⟩
    · show S.writes + 1 < _; rw [h.writes]; omega
    · show (if S.cut then S.left - 1 else S.left) ≤ _; rw [h.cut, if_pos rfl, hl]; omega
    · show (S.L ++ [_]).length < _; rw [List.length_append, h.len]; simp; omega
theorem CutSt.no {k i q : Nat} {S : Dk} (h : CutSt k i S) (hi : k ≤ i) (hq : q < 10) : S.werr (q : Int) sX.size = 25 ∧ CutSt k (i + 1) { S with dead := decide ((25 : Int) = 25) } := by
  refine ⟨?_, h.n, h.cut, by show S.writes = _; rw [h.writes]; omega, by show S.left = _; rw [h.left]; omega, by simp; omega, by show S.L.length = _; rw [h.len]; omega⟩
  show S.werr (q : Int) 1 = 25
  have h1 : ¬ ((q : Int) < 0 ∨ (S.n : Int) ≤ (q : Int)) := by rw [h.n]; omega
  unfold Dk.werr
  by_cases hd : S.dead = true
  · rw [if_pos hd]
  · rw [if_neg hd, if_neg h1, if_neg (by decide), if_pos ⟨h.cut, by rw [h.left]; omega⟩]

def sY : ByteArray := ⟨#[121]⟩
/-- Behind a crash that keeps nothing a Write is done again. -/
theorem crash_write (S : Dk) (hn : S.n = 10) (hw : S.writes < 1000) : (S.crash [] (-1)).werr 0 sY.size = 0 ∧ ((S.crash [] (-1)).wrote 0 sY).Small ∧ ((S.crash [] (-1)).wrote 0 sY).dead = false := by
  have he : (S.crash [] (-1)).werr 0 sY.size = 0 := by
    show (S.crash [] (-1)).werr 0 1 = 0
    have h1 : ¬ ((0 : Int) < 0 ∨ ((S.crash [] (-1)).n : Int) ≤ 0) := by
      show ¬ ((0 : Int) < 0 ∨ (S.n : Int) ≤ 0)
      rw [hn]; decide
    unfold Dk.werr
    rw [show (S.crash [] (-1)).dead = false from rfl, if_neg (by decide), if_neg h1, if_neg (by decide), if_neg (fun h => by cases h.1)]
  refine ⟨he, ?_, ?_⟩
  · unfold Dk.wrote
    rw [if_pos he]
    exact ⟨by show S.writes + 1 < _; omega, by simp [Dk.write, Dk.crash], by show ([] ++ [_]).length < _; simp⟩
  · unfold Dk.wrote
    rw [if_pos he]
    rfl

set_option maxHeartbeats 1600000 in
set_option maxRecDepth 20000 in
theorem cuts_any (a m : Nat) (ha : a ≤ 255) (hm : m ≤ 255) (w : World) (hg : 4 ≤ w.heap.size) (ht : Tab w) :
    Calls Tryd.prog 5 #[.int .u8 (a : Int), .int .u8 (m : Int)] w fun e w2 => e = .returned (.bool true) ∧ Kp [] w w2 := by
  have Hg := Lib.hid hg
  have HT := Lib.hid ht
  clear hg ht
  obtain ⟨k, hk, hk20⟩ : ∃ k : Nat, (a : Int) % 20 = (k : Int) ∧ k < 20 := ⟨a % 20, by omega, by omega⟩
  obtain ⟨n, hn, hn30⟩ : ∃ n : Nat, (m : Int) % 30 = (n : Int) ∧ n < 30 := ⟨m % 30, by omega, by omega⟩
  go_enter Tryd.func5, Tryd.ntmps5
  go_wp2_with fail
  refine (known_any _ Hg.out HT.out).mono ?_
  rintro e x0 ⟨rfl, K0⟩
  have hB0 : w.heap.size ≤ x0.heap.size := K0.size
  have HB0 := Lib.hid hB0
  have U0 : Hid (Up w.heap.size w x0) := K0.up0 _
  clear K0 hB0
  go_wp2_with fail
  refine (use_new 10 w.heap.size x0 (Nat.le_trans Hg.out HB0.out) HB0.out).mono ?_
  rintro e x1 ⟨b, rfl, D, K, -⟩
  have D1 : Hid (DkIn w.heap.size x1 b (Dk.new 10)) := D
  have U1 : Hid (Up w.heap.size w x1) := U0.out.trans (K.up0 _)
  clear D K U0
  go_wp2_with fail
  refine (use_cut D1.out (k : Int) (by omega)).mono ?_
  rintro e x2 ⟨rfl, D, U⟩
  have D2 : Hid (DkIn w.heap.size x2 b ((Dk.new 10).cutAt (k : Int))) := D
  have U2 : Hid (Up w.heap.size w x2) := U1.out.trans U
  clear D U D1 U1
  go_wp2_with fail
  go_loopw [8] (fun i wr => ∃ j : Nat, j ≤ n ∧ i = .int .i64 j ∧ ∃ S, DkIn w.heap.size wr b S ∧ Up w.heap.size w wr ∧ CutSt k j S) (fun i _ => n - (intOf i).toNat)
  case atStart => exact ⟨0, Nat.zero_le _, rfl, _, D2.out, U2.out, CutSt.start k⟩
  case round =>
    clear D2 U2
    obtain ⟨j, hj, rfl, S, D, U, hC⟩ := hrel
    have HD := Lib.hid D
    have HU := Lib.hid U
    have HC := Lib.hid hC
    clear D U hC
    by_cases hlt : j < n
    · obtain ⟨q, hj10, hq⟩ : ∃ q : Nat, (j : Int) % 10 = (q : Int) ∧ q < 10 := ⟨j % 10, by omega, by omega⟩
      by_cases hjk : j < k
      · obtain ⟨he, hC2, hs⟩ := HC.out.yes hjk hk20 hq
        have He := Lib.hid he
        have HC2 := Lib.hid hC2
        have Hs := Lib.hid hs
        clear he hC2 hs
        go_wp2_with fail
        refine (use_write_yes HD.out HU.out.2.2.2.1 (q : Int) sX (by omega) (by omega) (HU.out.tab HT.out Hg.out) He.out Hs.out).mono ?_
        rintro e x3 ⟨rfl, D, U⟩
        have D3 := Lib.hid D
        have U3 : Hid (Up w.heap.size w x3) := HU.out.trans U
        clear D U
        go_wp2_with fail
        go_roundw
        case rel => exact ⟨j + 1, by omega, by go_num, _, D3.out, U3.out, HC2.out⟩
        case measure => simp [intOf]; omega
      · have hjk2 : k ≤ j := by omega
        obtain ⟨he, hC2⟩ := HC.out.no hjk2 hq
        have He := Lib.hid he
        have HC2 := Lib.hid hC2
        clear he hC2
        go_wp2_with fail
        refine (use_write_no HD.out HU.out.2.2.2.1 (q : Int) sX (by omega) (by omega) (HU.out.tab HT.out Hg.out) 25 He.out (by decide)).mono ?_
        rintro e x3 ⟨⟨t, rfl⟩, D, U⟩
        have D3 := Lib.hid D
        have U3 : Hid (Up w.heap.size w x3) := HU.out.trans U
        clear D U
        go_wp2_with fail
        refine (use_is (by decide) _).mono ?_
        rintro e x4 ⟨rfl, K4⟩
        have D4 := Lib.hid (D3.out.kept K4)
        have U4 : Hid (Up w.heap.size w x4) := U3.out.trans (K4.up0 _)
        clear K4 D3 U3
        go_wp2_with fail
        go_roundw
        case rel => exact ⟨j + 1, by omega, by go_num, _, D4.out, U4.out, HC2.out⟩
        case measure => simp [intOf]; omega
    · have hjn : j = n := by omega
      subst hjn
      have hwm : ((S.writes : Nat) : Int) = min (k : Int) (j : Int) := by rw [HC.out.writes]; omega
      by_cases hkn : k < j
      · have hdead : S.dead = true := by rw [HC.out.dead]; simpa using hkn
        have hre : S.rerr 0 = 25 := by unfold Dk.rerr; rw [if_pos hdead]
        have Hdead := Lib.hid hdead
        have Hre := Lib.hid hre
        clear hdead hre
        go_wp2_with fail
        refine (use_read_no HD.out 0 (by decide) (by decide) (HU.out.tab HT.out Hg.out) 25 Hre.out (by decide)).mono ?_
        rintro e x3 ⟨⟨t1, rfl⟩, D, K⟩
        have D3 := Lib.hid D
        have U3 : Hid (Up w.heap.size w x3) := HU.out.trans (K.up0 _)
        clear D K HD HU
        go_wp2_with fail
        refine (use_flush_no D3.out Hdead.out).mono ?_
        rintro e x4 ⟨⟨t2, rfl⟩, D, K⟩
        have D4 := Lib.hid D
        have U4 : Hid (Up w.heap.size w x4) := U3.out.trans (K.up0 _)
        clear D K D3 U3
        go_wp2_with fail
        refine (use_is (by decide) _).mono ?_
        rintro e x5 ⟨rfl, K⟩
        have D5 := Lib.hid (D4.out.kept K)
        have U5 : Hid (Up w.heap.size w x5) := U4.out.trans (K.up0 _)
        clear K D4 U4
        go_wp2_with fail
        refine (use_is (by decide) _).mono ?_
        rintro e x6 ⟨rfl, K⟩
        have D6 := Lib.hid (D5.out.kept K)
        have U6 : Hid (Up w.heap.size w x6) := U5.out.trans (K.up0 _)
        clear K D5 U5
        go_wp2_with fail
        refine (use_writes D6.out).mono ?_
        rintro e x7 ⟨rfl, rfl⟩
        have hn10 : (S).n = 10 := HC.out.n
        have hwr : (S).writes < 1000 := by show S.writes < 1000; rw [HC.out.writes]; omega
        obtain ⟨g1, g2, g3⟩ := crash_write (S) hn10 hwr
        have G1 := Lib.hid g1
        have G2 := Lib.hid g2
        have G3 := Lib.hid g3
        clear g1 g2 g3 hn10 hwr
        go_wp2_with fail
        refine (use_crash_nil D6.out (-1)).mono ?_
        rintro e y1 ⟨rfl, D, U⟩
        have E1 := Lib.hid D
        have V1 : Hid (Up w.heap.size w y1) := U6.out.trans U
        clear D U D6 U6
        go_wp2_with fail
        refine (use_write_yes E1.out V1.out.2.2.2.1 0 sY (by decide) (by decide) (V1.out.tab HT.out Hg.out) G1.out G2.out).mono ?_
        rintro e y2 ⟨rfl, D, U⟩
        have E2 := Lib.hid D
        have V2 : Hid (Up w.heap.size w y2) := V1.out.trans U
        clear D U E1 V1
        go_wp2_with fail
        refine (use_flush_yes E2.out G3.out).mono ?_
        rintro e y3 ⟨rfl, D, U⟩
        have E3 := Lib.hid D
        have V3 : Hid (Up w.heap.size w y3) := V2.out.trans U
        clear D U E2 V2
        go_wp2_with fail
        refine (use_loose E3.out).mono ?_
        rintro e y4 ⟨rfl, rfl⟩
        go_wp2_with fail
        go_ret
        exact ⟨rfl, V3.out.kp (Nat.le_refl _)⟩
      · have hdead : S.dead = false := by rw [HC.out.dead]; simpa using hkn
        have hre : S.rerr 0 = 0 := by
          unfold Dk.rerr
          have h1 : ¬ ((0 : Int) < 0 ∨ (S.n : Int) ≤ 0) := by rw [HC.out.n]; decide
          rw [hdead, if_neg (by decide), if_neg h1]
        have hkn2 : j ≤ k := by omega
        have Hdead := Lib.hid hdead
        have Hre := Lib.hid hre
        clear hdead hre
        obtain ⟨t, ht⟩ : ∃ t, S.rbytes 0 = t := ⟨_, rfl⟩
        have Ht := Lib.hid ht
        clear ht
        go_wp2_with fail
        refine (use_read_yes HD.out 0 (by decide) (by decide) (HU.out.tab HT.out Hg.out) t Hre.out Ht.out).mono ?_
        rintro e x3 ⟨rfl, D, K⟩
        have D3 := Lib.hid D
        have U3 : Hid (Up w.heap.size w x3) := HU.out.trans (K.up0 _)
        clear D K HD HU
        go_wp2_with fail
        refine (use_flush_yes D3.out Hdead.out).mono ?_
        rintro e x4 ⟨rfl, D, U⟩
        have D4 := Lib.hid D
        have U4 : Hid (Up w.heap.size w x4) := U3.out.trans U
        clear D U D3 U3
        go_wp2_with fail
        refine (is_nil _ _).mono ?_
        rintro e x5 ⟨rfl, rfl⟩
        go_wp2_with fail
        refine (is_nil _ _).mono ?_
        rintro e x6 ⟨rfl, rfl⟩
        go_wp2_with fail
        refine (use_writes D4.out).mono ?_
        rintro e x7 ⟨rfl, rfl⟩
        have hn10 : ({ S with F := lay S.F S.L, L := [] }).n = 10 := HC.out.n
        have hwr : ({ S with F := lay S.F S.L, L := [] }).writes < 1000 := by show S.writes < 1000; rw [HC.out.writes]; omega
        obtain ⟨g1, g2, g3⟩ := crash_write ({ S with F := lay S.F S.L, L := [] }) hn10 hwr
        have G1 := Lib.hid g1
        have G2 := Lib.hid g2
        have G3 := Lib.hid g3
        clear g1 g2 g3 hn10 hwr
        go_wp2_with fail
        refine (use_crash_nil D4.out (-1)).mono ?_
        rintro e y1 ⟨rfl, D, U⟩
        have E1 := Lib.hid D
        have V1 : Hid (Up w.heap.size w y1) := U4.out.trans U
        clear D U D4 U4
        go_wp2_with fail
        refine (use_write_yes E1.out V1.out.2.2.2.1 0 sY (by decide) (by decide) (V1.out.tab HT.out Hg.out) G1.out G2.out).mono ?_
        rintro e y2 ⟨rfl, D, U⟩
        have E2 := Lib.hid D
        have V2 : Hid (Up w.heap.size w y2) := V1.out.trans U
        clear D U E1 V1
        go_wp2_with fail
        refine (use_flush_yes E2.out G3.out).mono ?_
        rintro e y3 ⟨rfl, D, U⟩
        have E3 := Lib.hid D
        have V3 : Hid (Up w.heap.size w y3) := V2.out.trans U
        clear D U E2 V2
        go_wp2_with fail
        refine (use_loose E3.out).mono ?_
        rintro e y4 ⟨rfl, rfl⟩
        go_wp2_with fail
        go_ret
        exact ⟨rfl, V3.out.kp (Nat.le_refl _)⟩
end Go.Proofs.YtcbikokhnbfdaaaDoor
