/- The law's 'known': a disk of four sectors answers as it should. -/
import Derived.Test.YtiglipiofclmfaaDoorDkUse
namespace Go.Proofs.YtiglipiofclmfaaDoor
open Go.RowKit

def sAb : ByteArray := ⟨#[97, 98]⟩
def sX : ByteArray := ⟨#[120]⟩
def k1 : Dk := (Dk.new 4).wrote 1 sAb
def k2 : Dk := { k1 with dead := decide ((14 : Int) = 25) }
def k3 : Dk := k2.crash [] 0
def k4 : Dk := k3.cutAt 0
def k5 : Dk := { k4 with dead := decide ((25 : Int) = 25) }
def t1 : ByteArray := k1.rbytes 1
def t3 : ByteArray := k3.rbytes 1
theorem e1 : (Dk.new 4).werr 1 sAb.size = 0 := by decide
theorem small1 : k1.Small := ⟨by decide, by decide, by decide⟩
theorem r1 : k1.rerr 1 = 0 := by decide
theorem e2 : k1.werr 9 sX.size = 14 := by decide
theorem r3 : k3.rerr 1 = 0 := by decide
theorem e4 : k4.werr 0 sX.size = 25 := by decide
theorem r5 : k5.rerr 0 = 25 := by decide
theorem t1s : t1.size = 64 := by decide
theorem t3s : t3.size = 64 := by decide
theorem t1a : (t1.extract 0 2).toList = [97, 98] := by decide +kernel
theorem t3a : (t3[0]'(by rw [t3s]; decide)).toNat = 0 := by decide +kernel
theorem n5 : k5.n = 4 := by decide
theorem w5 : k5.writes = 1 := by decide
set_option maxHeartbeats 1600000 in
set_option maxRecDepth 20000 in
theorem known_any (w : World) (hg : 4 ≤ w.heap.size) (ht : Tab w) :
    Calls Tryd.prog 4 #[] w fun e w2 => e = .returned (.bool true) ∧ Kp [] w w2 := by
  have Hg := Lib.hid hg
  have HT := Lib.hid ht
  clear hg ht
  go_enter Tryd.func4, Tryd.ntmps4
  go_wp2_with fail
  refine (use_new 4 w.heap.size w Hg.out (Nat.le_refl _)).mono ?_
  rintro e x1 ⟨b, rfl, D, K, -⟩
  have D1 : Hid (DkIn w.heap.size x1 b (Dk.new 4)) := D
  have U1 : Hid (Up w.heap.size w x1) := K.up0 _
  clear D K
  go_wp2_with fail
  refine (use_write_yes D1.out U1.out.2.2.2.1 1 sAb (by decide) (by decide) (U1.out.tab HT.out Hg.out) e1 small1).mono ?_
  rintro e x2 ⟨rfl, D, U⟩
  have D2 : Hid (DkIn w.heap.size x2 b k1) := D
  have U2 : Hid (Up w.heap.size w x2) := U1.out.trans U
  clear D U D1 U1
  go_wp2_with fail
  refine (use_read_yes D2.out 1 (by decide) (by decide) (U2.out.tab HT.out Hg.out) t1 r1 rfl).mono ?_
  rintro e x3 ⟨rfl, D, K⟩
  have D3 : Hid (DkIn w.heap.size x3 b k1) := D
  have U3 : Hid (Up w.heap.size w x3) := U2.out.trans (K.up0 _)
  clear D K D2 U2
  go_wp2_with fail
  refine (use_write_no D3.out U3.out.2.2.2.1 9 sX (by decide) (by decide) (U3.out.tab HT.out Hg.out) 14 e2 (by decide)).mono ?_
  rintro e x4 ⟨⟨q1, rfl⟩, D, U⟩
  have D4 : Hid (DkIn w.heap.size x4 b k2) := D
  have U4 : Hid (Up w.heap.size w x4) := U3.out.trans U
  clear D U D3 U3
  go_wp2_with fail
  refine (use_crash_nil D4.out 0).mono ?_
  rintro e x5 ⟨rfl, D, U⟩
  have D5 : Hid (DkIn w.heap.size x5 b k3) := D
  have U5 : Hid (Up w.heap.size w x5) := U4.out.trans U
  clear D U D4 U4
  go_wp2_with fail
  refine (use_read_yes D5.out 1 (by decide) (by decide) (U5.out.tab HT.out Hg.out) t3 r3 rfl).mono ?_
  rintro e x6 ⟨rfl, D, K⟩
  have D6 : Hid (DkIn w.heap.size x6 b k3) := D
  have U6 : Hid (Up w.heap.size w x6) := U5.out.trans (K.up0 _)
  clear D K D5 U5
  go_wp2_with fail
  refine (use_cut D6.out 0 (by decide)).mono ?_
  rintro e x7 ⟨rfl, D, U⟩
  have D7 : Hid (DkIn w.heap.size x7 b k4) := D
  have U7 : Hid (Up w.heap.size w x7) := U6.out.trans U
  clear D U D6 U6
  go_wp2_with fail
  refine (use_write_no D7.out U7.out.2.2.2.1 0 sX (by decide) (by decide) (U7.out.tab HT.out Hg.out) 25 e4 (by decide)).mono ?_
  rintro e x8 ⟨⟨q2, rfl⟩, D, U⟩
  have D8 : Hid (DkIn w.heap.size x8 b k5) := D
  have U8 : Hid (Up w.heap.size w x8) := U7.out.trans U
  clear D U D7 U7
  go_wp2_with fail
  refine (use_read_no D8.out 0 (by decide) (by decide) (U8.out.tab HT.out Hg.out) 25 r5 (by decide)).mono ?_
  rintro e x9 ⟨⟨q3, rfl⟩, D, K⟩
  have D9 : Hid (DkIn w.heap.size x9 b k5) := D
  have U9 : Hid (Up w.heap.size w x9) := U8.out.trans (K.up0 _)
  clear D K D8 U8
  go_wp2_with fail
  refine (use_len D9.out).mono ?_
  rintro e x10 ⟨rfl, rfl⟩
  have z1 := t1s
  have z3 := t3s
  have zn := n5
  have za := t1a
  have zb := t3a
  go_wp2_with fail
  refine (use_is (by decide) _).mono ?_
  rintro e x10 ⟨rfl, K10⟩
  have D10 : Hid (DkIn w.heap.size x10 b k5) := D9.out.kept K10
  have U10 : Hid (Up w.heap.size w x10) := U9.out.trans (K10.up0 _)
  clear K10 D9 U9
  go_wp2_with fail
  refine (use_is (by decide) _).mono ?_
  rintro e x11 ⟨rfl, K11⟩
  have D11 : Hid (DkIn w.heap.size x11 b k5) := D10.out.kept K11
  have U11 : Hid (Up w.heap.size w x11) := U10.out.trans (K11.up0 _)
  clear K11 D10 U10
  go_wp2_with fail
  refine (use_is (by decide) _).mono ?_
  rintro e x12 ⟨rfl, K12⟩
  have D12 : Hid (DkIn w.heap.size x12 b k5) := D11.out.kept K12
  have U12 : Hid (Up w.heap.size w x12) := U11.out.trans (K12.up0 _)
  clear K12 D11 U11
  go_wp2_with fail
  refine (use_writes D12.out).mono ?_
  rintro e x13 ⟨rfl, rfl⟩
  have zw := w5
  go_wp2_with fail
  go_ret
  exact ⟨rfl, U12.out.kp (Nat.le_refl _)⟩
end Go.Proofs.YtiglipiofclmfaaDoor
