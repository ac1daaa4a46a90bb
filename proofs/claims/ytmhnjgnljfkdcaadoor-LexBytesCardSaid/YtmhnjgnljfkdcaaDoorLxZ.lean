/- The law LexBytes. -/
import Derived.Test.YtmhnjgnljfkdcaaDoorLxY
namespace Go.Proofs.YtmhnjgnljfkdcaaDoor
open Go.RowKit

set_option maxHeartbeats 6400000 in
set_option maxRecDepth 20000 in
theorem lbytes_44 (n r m : Nat) (x : ByteArray) (B : ByF 44 x) (Z : ZeF n r m) (w : World) :
    Calls Tryd.prog 6 #[.int .u8 44, .int .u8 (n : Int)] w fun e w2 => e = .returned (.bool true) ∧ Kp [] w w2 := by
  obtain ⟨er, r5, em, m9, cz, hl, hf⟩ := Z
  have mk := fun W => make_bytes (m : Int) m rfl (by omega) W
  have HL := Lib.hid hl
  have HF := Lib.hid hf
  obtain ⟨cx, zx, hy, hn⟩ := B
  have HY := Lib.hid (hy (by decide))
  clear hl hf hy hn
  go_enter Tryd.func6, Tryd.ntmps6
  go_wp2_with fail
  refine Calls.mono (known_any _) ?_
  rintro e w1 ⟨rfl, k1⟩
  have KA := Lib.hid k1
  clear k1
  go_wp2_with fail
  refine Calls.mono (HY.out _) ?_
  rintro e w2 ⟨a, l, k, rfl, k2⟩
  have KB := Lib.hid (KA.out.trans (((Kp.refl [] w1).alloc _).trans k2))
  clear k2 KA
  go_wp2_with fail
  refine wp_loop_rounds 9 ?_
  rw [rounds_succ]
  go_wp2_with fail
  rw [rounds_succ]
  go_wp2_with fail
  rw [rounds_succ]
  go_wp2_with fail
  rw [rounds_succ]
  go_wp2_with fail
  rw [rounds_succ]
  go_wp2_with fail
  rw [rounds_succ]
  go_wp2_with fail
  rw [rounds_succ]
  go_wp2_with fail
  rw [rounds_succ]
  go_wp2_with fail
  rw [rounds_succ]
  go_wp2_with fail
  by_cases h2 : 2 < r
  · have d0 : decide ((2 : Int) < (r : Int)) = true := decide_eq_true (by omega)
    refine Calls.mono (HL.out h2 _) ?_
    rintro e w3 ⟨a3, l3, u3, rfl, k3⟩
    have KC := Lib.hid (KB.out.trans (((Kp.refl [] w2).alloc _).trans k3))
    clear k3 KB
    go_wp2_with fail
    refine Calls.mono (is_ref_yes u3 13 _) ?_
    rintro e w5 ⟨rfl, k5⟩
    have KE := Lib.hid (KC.out.trans k5)
    clear k5 KC
    go_wp2_with fail
    go_ret
    exact ⟨rfl, KE.out⟩
  · have d0 : decide ((2 : Int) < (r : Int)) = false := decide_eq_false (by omega)
    refine Calls.mono (HF.out h2 _) ?_
    rintro e w3 ⟨a3, l3, u3, rfl, k3⟩
    have KC := Lib.hid (KB.out.trans (((Kp.refl [] w2).alloc _).trans k3))
    clear k3 KB
    go_wp2_with fail
    refine Calls.mono (is_ref_no u3 10 13 (by decide) _) ?_
    rintro e w5 ⟨rfl, k5⟩
    have KE := Lib.hid (KC.out.trans k5)
    clear k5 KC
    go_wp2_with fail
    go_ret
    exact ⟨rfl, KE.out⟩

set_option maxHeartbeats 6400000 in
set_option maxRecDepth 20000 in
theorem lbytes_59 (n r m : Nat) (x : ByteArray) (B : ByF 59 x) (Z : ZeF n r m) (w : World) :
    Calls Tryd.prog 6 #[.int .u8 59, .int .u8 (n : Int)] w fun e w2 => e = .returned (.bool true) ∧ Kp [] w w2 := by
  obtain ⟨er, r5, em, m9, cz, hl, hf⟩ := Z
  have mk := fun W => make_bytes (m : Int) m rfl (by omega) W
  have HL := Lib.hid hl
  have HF := Lib.hid hf
  obtain ⟨cx, zx, hy, hn⟩ := B
  have HY := Lib.hid (hy (by decide))
  clear hl hf hy hn
  go_enter Tryd.func6, Tryd.ntmps6
  go_wp2_with fail
  refine Calls.mono (known_any _) ?_
  rintro e w1 ⟨rfl, k1⟩
  have KA := Lib.hid k1
  clear k1
  go_wp2_with fail
  refine Calls.mono (HY.out _) ?_
  rintro e w2 ⟨a, l, k, rfl, k2⟩
  have KB := Lib.hid (KA.out.trans (((Kp.refl [] w1).alloc _).trans k2))
  clear k2 KA
  go_wp2_with fail
  refine wp_loop_rounds 9 ?_
  rw [rounds_succ]
  go_wp2_with fail
  rw [rounds_succ]
  go_wp2_with fail
  rw [rounds_succ]
  go_wp2_with fail
  rw [rounds_succ]
  go_wp2_with fail
  rw [rounds_succ]
  go_wp2_with fail
  rw [rounds_succ]
  go_wp2_with fail
  rw [rounds_succ]
  go_wp2_with fail
  rw [rounds_succ]
  go_wp2_with fail
  rw [rounds_succ]
  go_wp2_with fail
  by_cases h2 : 2 < r
  · have d0 : decide ((2 : Int) < (r : Int)) = true := decide_eq_true (by omega)
    refine Calls.mono (HL.out h2 _) ?_
    rintro e w3 ⟨a3, l3, u3, rfl, k3⟩
    have KC := Lib.hid (KB.out.trans (((Kp.refl [] w2).alloc _).trans k3))
    clear k3 KB
    go_wp2_with fail
    refine Calls.mono (is_ref_yes u3 13 _) ?_
    rintro e w5 ⟨rfl, k5⟩
    have KE := Lib.hid (KC.out.trans k5)
    clear k5 KC
    go_wp2_with fail
    go_ret
    exact ⟨rfl, KE.out⟩
  · have d0 : decide ((2 : Int) < (r : Int)) = false := decide_eq_false (by omega)
    refine Calls.mono (HF.out h2 _) ?_
    rintro e w3 ⟨a3, l3, u3, rfl, k3⟩
    have KC := Lib.hid (KB.out.trans (((Kp.refl [] w2).alloc _).trans k3))
    clear k3 KB
    go_wp2_with fail
    refine Calls.mono (is_ref_no u3 10 13 (by decide) _) ?_
    rintro e w5 ⟨rfl, k5⟩
    have KE := Lib.hid (KC.out.trans k5)
    clear k5 KC
    go_wp2_with fail
    go_ret
    exact ⟨rfl, KE.out⟩

set_option maxHeartbeats 6400000 in
set_option maxRecDepth 20000 in
theorem lbytes_46 (n r m : Nat) (x : ByteArray) (B : ByF 46 x) (Z : ZeF n r m) (w : World) :
    Calls Tryd.prog 6 #[.int .u8 46, .int .u8 (n : Int)] w fun e w2 => e = .returned (.bool true) ∧ Kp [] w w2 := by
  obtain ⟨er, r5, em, m9, cz, hl, hf⟩ := Z
  have mk := fun W => make_bytes (m : Int) m rfl (by omega) W
  have HL := Lib.hid hl
  have HF := Lib.hid hf
  obtain ⟨cx, zx, hy, hn⟩ := B
  have HY := Lib.hid (hy (by decide))
  clear hl hf hy hn
  go_enter Tryd.func6, Tryd.ntmps6
  go_wp2_with fail
  refine Calls.mono (known_any _) ?_
  rintro e w1 ⟨rfl, k1⟩
  have KA := Lib.hid k1
  clear k1
  go_wp2_with fail
  refine Calls.mono (HY.out _) ?_
  rintro e w2 ⟨a, l, k, rfl, k2⟩
  have KB := Lib.hid (KA.out.trans (((Kp.refl [] w1).alloc _).trans k2))
  clear k2 KA
  go_wp2_with fail
  refine wp_loop_rounds 9 ?_
  rw [rounds_succ]
  go_wp2_with fail
  rw [rounds_succ]
  go_wp2_with fail
  rw [rounds_succ]
  go_wp2_with fail
  rw [rounds_succ]
  go_wp2_with fail
  rw [rounds_succ]
  go_wp2_with fail
  rw [rounds_succ]
  go_wp2_with fail
  rw [rounds_succ]
  go_wp2_with fail
  rw [rounds_succ]
  go_wp2_with fail
  rw [rounds_succ]
  go_wp2_with fail
  by_cases h2 : 2 < r
  · have d0 : decide ((2 : Int) < (r : Int)) = true := decide_eq_true (by omega)
    refine Calls.mono (HL.out h2 _) ?_
    rintro e w3 ⟨a3, l3, u3, rfl, k3⟩
    have KC := Lib.hid (KB.out.trans (((Kp.refl [] w2).alloc _).trans k3))
    clear k3 KB
    go_wp2_with fail
    refine Calls.mono (is_ref_yes u3 13 _) ?_
    rintro e w5 ⟨rfl, k5⟩
    have KE := Lib.hid (KC.out.trans k5)
    clear k5 KC
    go_wp2_with fail
    go_ret
    exact ⟨rfl, KE.out⟩
  · have d0 : decide ((2 : Int) < (r : Int)) = false := decide_eq_false (by omega)
    refine Calls.mono (HF.out h2 _) ?_
    rintro e w3 ⟨a3, l3, u3, rfl, k3⟩
    have KC := Lib.hid (KB.out.trans (((Kp.refl [] w2).alloc _).trans k3))
    clear k3 KB
    go_wp2_with fail
    refine Calls.mono (is_ref_no u3 10 13 (by decide) _) ?_
    rintro e w5 ⟨rfl, k5⟩
    have KE := Lib.hid (KC.out.trans k5)
    clear k5 KC
    go_wp2_with fail
    go_ret
    exact ⟨rfl, KE.out⟩

set_option maxHeartbeats 6400000 in
set_option maxRecDepth 20000 in
theorem lbytes_az (v : Int) (a0 : decide (97 ≤ v) = true) (b0 : decide (v ≤ 122) = true) (n r m : Nat) (x : ByteArray) (B : ByF v x) (Z : ZeF n r m) (w : World) :
    Calls Tryd.prog 6 #[.int .u8 v, .int .u8 (n : Int)] w fun e w2 => e = .returned (.bool true) ∧ Kp [] w w2 := by
  obtain ⟨er, r5, em, m9, cz, hl, hf⟩ := Z
  have mk := fun W => make_bytes (m : Int) m rfl (by omega) W
  have HL := Lib.hid hl
  have HF := Lib.hid hf
  obtain ⟨cx, zx, hy, hn⟩ := B
  have HY := Lib.hid (hy (by simp only [goodI, plainI, blankI, markI, a0, b0]; rfl))
  clear hl hf hy hn
  go_enter Tryd.func6, Tryd.ntmps6
  go_wp2_with fail
  refine Calls.mono (known_any _) ?_
  rintro e w1 ⟨rfl, k1⟩
  have KA := Lib.hid k1
  clear k1
  go_wp2_with fail
  refine Calls.mono (HY.out _) ?_
  rintro e w2 ⟨a, l, k, rfl, k2⟩
  have KB := Lib.hid (KA.out.trans (((Kp.refl [] w1).alloc _).trans k2))
  clear k2 KA
  go_wp2_with fail
  refine wp_loop_rounds 9 ?_
  rw [rounds_succ]
  go_wp2_with fail
  rw [rounds_succ]
  go_wp2_with fail
  rw [rounds_succ]
  go_wp2_with fail
  rw [rounds_succ]
  go_wp2_with fail
  rw [rounds_succ]
  go_wp2_with fail
  rw [rounds_succ]
  go_wp2_with fail
  rw [rounds_succ]
  go_wp2_with fail
  rw [rounds_succ]
  go_wp2_with fail
  rw [rounds_succ]
  go_wp2_with fail
  by_cases h2 : 2 < r
  · have d0 : decide ((2 : Int) < (r : Int)) = true := decide_eq_true (by omega)
    refine Calls.mono (HL.out h2 _) ?_
    rintro e w3 ⟨a3, l3, u3, rfl, k3⟩
    have KC := Lib.hid (KB.out.trans (((Kp.refl [] w2).alloc _).trans k3))
    clear k3 KB
    go_wp2_with fail
    refine Calls.mono (is_ref_yes u3 13 _) ?_
    rintro e w5 ⟨rfl, k5⟩
    have KE := Lib.hid (KC.out.trans k5)
    clear k5 KC
    go_wp2_with fail
    go_ret
    exact ⟨rfl, KE.out⟩
  · have d0 : decide ((2 : Int) < (r : Int)) = false := decide_eq_false (by omega)
    refine Calls.mono (HF.out h2 _) ?_
    rintro e w3 ⟨a3, l3, u3, rfl, k3⟩
    have KC := Lib.hid (KB.out.trans (((Kp.refl [] w2).alloc _).trans k3))
    clear k3 KB
    go_wp2_with fail
    refine Calls.mono (is_ref_no u3 10 13 (by decide) _) ?_
    rintro e w5 ⟨rfl, k5⟩
    have KE := Lib.hid (KC.out.trans k5)
    clear k5 KC
    go_wp2_with fail
    go_ret
    exact ⟨rfl, KE.out⟩

set_option maxHeartbeats 6400000 in
set_option maxRecDepth 20000 in
theorem lbytes_AZ (v : Int) (a0 : decide (97 ≤ v) = false) (b0 : decide (v ≤ 122) = true) (a1 : decide (65 ≤ v) = true) (b1 : decide (v ≤ 90) = true) (n r m : Nat) (x : ByteArray) (B : ByF v x) (Z : ZeF n r m) (w : World) :
    Calls Tryd.prog 6 #[.int .u8 v, .int .u8 (n : Int)] w fun e w2 => e = .returned (.bool true) ∧ Kp [] w w2 := by
  obtain ⟨er, r5, em, m9, cz, hl, hf⟩ := Z
  have mk := fun W => make_bytes (m : Int) m rfl (by omega) W
  have HL := Lib.hid hl
  have HF := Lib.hid hf
  obtain ⟨cx, zx, hy, hn⟩ := B
  have HY := Lib.hid (hy (by simp only [goodI, plainI, blankI, markI, a0, b0, a1, b1]; rfl))
  clear hl hf hy hn
  go_enter Tryd.func6, Tryd.ntmps6
  go_wp2_with fail
  refine Calls.mono (known_any _) ?_
  rintro e w1 ⟨rfl, k1⟩
  have KA := Lib.hid k1
  clear k1
  go_wp2_with fail
  refine Calls.mono (HY.out _) ?_
  rintro e w2 ⟨a, l, k, rfl, k2⟩
  have KB := Lib.hid (KA.out.trans (((Kp.refl [] w1).alloc _).trans k2))
  clear k2 KA
  go_wp2_with fail
  refine wp_loop_rounds 9 ?_
  rw [rounds_succ]
  go_wp2_with fail
  rw [rounds_succ]
  go_wp2_with fail
  rw [rounds_succ]
  go_wp2_with fail
  rw [rounds_succ]
  go_wp2_with fail
  rw [rounds_succ]
  go_wp2_with fail
  rw [rounds_succ]
  go_wp2_with fail
  rw [rounds_succ]
  go_wp2_with fail
  rw [rounds_succ]
  go_wp2_with fail
  rw [rounds_succ]
  go_wp2_with fail
  by_cases h2 : 2 < r
  · have d0 : decide ((2 : Int) < (r : Int)) = true := decide_eq_true (by omega)
    refine Calls.mono (HL.out h2 _) ?_
    rintro e w3 ⟨a3, l3, u3, rfl, k3⟩
    have KC := Lib.hid (KB.out.trans (((Kp.refl [] w2).alloc _).trans k3))
    clear k3 KB
    go_wp2_with fail
    refine Calls.mono (is_ref_yes u3 13 _) ?_
    rintro e w5 ⟨rfl, k5⟩
    have KE := Lib.hid (KC.out.trans k5)
    clear k5 KC
    go_wp2_with fail
    go_ret
    exact ⟨rfl, KE.out⟩
  · have d0 : decide ((2 : Int) < (r : Int)) = false := decide_eq_false (by omega)
    refine Calls.mono (HF.out h2 _) ?_
    rintro e w3 ⟨a3, l3, u3, rfl, k3⟩
    have KC := Lib.hid (KB.out.trans (((Kp.refl [] w2).alloc _).trans k3))
    clear k3 KB
    go_wp2_with fail
    refine Calls.mono (is_ref_no u3 10 13 (by decide) _) ?_
    rintro e w5 ⟨rfl, k5⟩
    have KE := Lib.hid (KC.out.trans k5)
    clear k5 KC
    go_wp2_with fail
    go_ret
    exact ⟨rfl, KE.out⟩

set_option maxHeartbeats 6400000 in
set_option maxRecDepth 20000 in
theorem lbytes_09 (v : Int) (a0 : decide (97 ≤ v) = false) (b0 : decide (v ≤ 122) = true) (a1 : decide (65 ≤ v) = false) (b1 : decide (v ≤ 90) = true) (a2 : decide (48 ≤ v) = true) (b2 : decide (v ≤ 57) = true) (n r m : Nat) (x : ByteArray) (B : ByF v x) (Z : ZeF n r m) (w : World) :
    Calls Tryd.prog 6 #[.int .u8 v, .int .u8 (n : Int)] w fun e w2 => e = .returned (.bool true) ∧ Kp [] w w2 := by
  obtain ⟨er, r5, em, m9, cz, hl, hf⟩ := Z
  have mk := fun W => make_bytes (m : Int) m rfl (by omega) W
  have HL := Lib.hid hl
  have HF := Lib.hid hf
  obtain ⟨cx, zx, hy, hn⟩ := B
  have HY := Lib.hid (hy (by simp only [goodI, plainI, blankI, markI, a0, b0, a1, b1, a2, b2]; rfl))
  clear hl hf hy hn
  go_enter Tryd.func6, Tryd.ntmps6
  go_wp2_with fail
  refine Calls.mono (known_any _) ?_
  rintro e w1 ⟨rfl, k1⟩
  have KA := Lib.hid k1
  clear k1
  go_wp2_with fail
  refine Calls.mono (HY.out _) ?_
  rintro e w2 ⟨a, l, k, rfl, k2⟩
  have KB := Lib.hid (KA.out.trans (((Kp.refl [] w1).alloc _).trans k2))
  clear k2 KA
  go_wp2_with fail
  refine wp_loop_rounds 9 ?_
  rw [rounds_succ]
  go_wp2_with fail
  rw [rounds_succ]
  go_wp2_with fail
  rw [rounds_succ]
  go_wp2_with fail
  rw [rounds_succ]
  go_wp2_with fail
  rw [rounds_succ]
  go_wp2_with fail
  rw [rounds_succ]
  go_wp2_with fail
  rw [rounds_succ]
  go_wp2_with fail
  rw [rounds_succ]
  go_wp2_with fail
  rw [rounds_succ]
  go_wp2_with fail
  by_cases h2 : 2 < r
  · have d0 : decide ((2 : Int) < (r : Int)) = true := decide_eq_true (by omega)
    refine Calls.mono (HL.out h2 _) ?_
    rintro e w3 ⟨a3, l3, u3, rfl, k3⟩
    have KC := Lib.hid (KB.out.trans (((Kp.refl [] w2).alloc _).trans k3))
    clear k3 KB
    go_wp2_with fail
    refine Calls.mono (is_ref_yes u3 13 _) ?_
    rintro e w5 ⟨rfl, k5⟩
    have KE := Lib.hid (KC.out.trans k5)
    clear k5 KC
    go_wp2_with fail
    go_ret
    exact ⟨rfl, KE.out⟩
  · have d0 : decide ((2 : Int) < (r : Int)) = false := decide_eq_false (by omega)
    refine Calls.mono (HF.out h2 _) ?_
    rintro e w3 ⟨a3, l3, u3, rfl, k3⟩
    have KC := Lib.hid (KB.out.trans (((Kp.refl [] w2).alloc _).trans k3))
    clear k3 KB
    go_wp2_with fail
    refine Calls.mono (is_ref_no u3 10 13 (by decide) _) ?_
    rintro e w5 ⟨rfl, k5⟩
    have KE := Lib.hid (KC.out.trans k5)
    clear k5 KC
    go_wp2_with fail
    go_ret
    exact ⟨rfl, KE.out⟩

set_option maxHeartbeats 6400000 in
set_option maxRecDepth 20000 in
theorem lbytes_u48 (v : Int) (a0 : decide (97 ≤ v) = false) (b0 : decide (v ≤ 122) = true) (a1 : decide (65 ≤ v) = false) (b1 : decide (v ≤ 90) = true) (a2 : decide (48 ≤ v) = false) (b2 : decide (v ≤ 57) = true) (f0 : (v == 95) = false) (f1 : (v == 64) = false) (f2 : (v == 32) = false) (f3 : (v == 9) = false) (f4 : (v == 10) = false) (f5 : (v == 13) = false) (f6 : (v == 40) = false) (f7 : (v == 41) = false) (f8 : (v == 123) = false) (f9 : (v == 125) = false) (f10 : (v == 58) = false) (f11 : (v == 44) = false) (f12 : (v == 59) = false) (f13 : (v == 46) = false) (n r m : Nat) (x : ByteArray) (B : ByF v x) (Z : ZeF n r m) (w : World) :
    Calls Tryd.prog 6 #[.int .u8 v, .int .u8 (n : Int)] w fun e w2 => e = .returned (.bool true) ∧ Kp [] w w2 := by
  have q0 : (v == (((⟨#[40, 41, 123, 125, 58, 44, 59, 46]⟩ : ByteArray)[0]'(by decide)).toNat : Int)) = false := f6
  have q1 : (v == (((⟨#[40, 41, 123, 125, 58, 44, 59, 46]⟩ : ByteArray)[1]'(by decide)).toNat : Int)) = false := f7
  have q2 : (v == (((⟨#[40, 41, 123, 125, 58, 44, 59, 46]⟩ : ByteArray)[2]'(by decide)).toNat : Int)) = false := f8
  have q3 : (v == (((⟨#[40, 41, 123, 125, 58, 44, 59, 46]⟩ : ByteArray)[3]'(by decide)).toNat : Int)) = false := f9
  have q4 : (v == (((⟨#[40, 41, 123, 125, 58, 44, 59, 46]⟩ : ByteArray)[4]'(by decide)).toNat : Int)) = false := f10
  have q5 : (v == (((⟨#[40, 41, 123, 125, 58, 44, 59, 46]⟩ : ByteArray)[5]'(by decide)).toNat : Int)) = false := f11
  have q6 : (v == (((⟨#[40, 41, 123, 125, 58, 44, 59, 46]⟩ : ByteArray)[6]'(by decide)).toNat : Int)) = false := f12
  have q7 : (v == (((⟨#[40, 41, 123, 125, 58, 44, 59, 46]⟩ : ByteArray)[7]'(by decide)).toNat : Int)) = false := f13
  obtain ⟨er, r5, em, m9, cz, hl, hf⟩ := Z
  have mk := fun W => make_bytes (m : Int) m rfl (by omega) W
  have HL := Lib.hid hl
  have HF := Lib.hid hf
  obtain ⟨cx, zx, hy, hn⟩ := B
  have HY := Lib.hid (hn (by simp only [goodI, plainI, blankI, markI, a0, b0, a1, b1, a2, b2, f0, f1, f2, f3, f4, f5, f6, f7, f8, f9, f10, f11, f12, f13]; rfl))
  clear hl hf hy hn
  go_enter Tryd.func6, Tryd.ntmps6
  go_wp2_with fail
  refine Calls.mono (known_any _) ?_
  rintro e w1 ⟨rfl, k1⟩
  have KA := Lib.hid k1
  clear k1
  go_wp2_with fail
  refine Calls.mono (HY.out _) ?_
  rintro e w2 ⟨a, l, k, u, rfl, k2⟩
  have KB := Lib.hid (KA.out.trans (((Kp.refl [] w1).alloc _).trans k2))
  clear k2 KA
  go_wp2_with fail
  refine wp_loop_rounds 9 ?_
  rw [rounds_succ]
  go_wp2_with fail
  rw [rounds_succ]
  go_wp2_with fail
  rw [rounds_succ]
  go_wp2_with fail
  rw [rounds_succ]
  go_wp2_with fail
  rw [rounds_succ]
  go_wp2_with fail
  rw [rounds_succ]
  go_wp2_with fail
  rw [rounds_succ]
  go_wp2_with fail
  rw [rounds_succ]
  go_wp2_with fail
  rw [rounds_succ]
  go_wp2_with fail
  by_cases h2 : 2 < r
  · have d0 : decide ((2 : Int) < (r : Int)) = true := decide_eq_true (by omega)
    refine Calls.mono (HL.out h2 _) ?_
    rintro e w3 ⟨a3, l3, u3, rfl, k3⟩
    have KC := Lib.hid (KB.out.trans (((Kp.refl [] w2).alloc _).trans k3))
    clear k3 KB
    go_wp2_with fail
    refine Calls.mono (is_ref_yes u 10 _) ?_
    rintro e w4 ⟨rfl, k4⟩
    have KC := Lib.hid (KC.out.trans k4)
    clear k4
    go_wp2_with fail
    refine Calls.mono (is_ref_yes u3 13 _) ?_
    rintro e w5 ⟨rfl, k5⟩
    have KE := Lib.hid (KC.out.trans k5)
    clear k5 KC
    go_wp2_with fail
    go_ret
    exact ⟨rfl, KE.out⟩
  · have d0 : decide ((2 : Int) < (r : Int)) = false := decide_eq_false (by omega)
    refine Calls.mono (HF.out h2 _) ?_
    rintro e w3 ⟨a3, l3, u3, rfl, k3⟩
    have KC := Lib.hid (KB.out.trans (((Kp.refl [] w2).alloc _).trans k3))
    clear k3 KB
    go_wp2_with fail
    refine Calls.mono (is_ref_yes u 10 _) ?_
    rintro e w4 ⟨rfl, k4⟩
    have KC := Lib.hid (KC.out.trans k4)
    clear k4
    go_wp2_with fail
    refine Calls.mono (is_ref_no u3 10 13 (by decide) _) ?_
    rintro e w5 ⟨rfl, k5⟩
    have KE := Lib.hid (KC.out.trans k5)
    clear k5 KC
    go_wp2_with fail
    go_ret
    exact ⟨rfl, KE.out⟩

set_option maxHeartbeats 6400000 in
set_option maxRecDepth 20000 in
theorem lbytes_u65 (v : Int) (a0 : decide (97 ≤ v) = false) (b0 : decide (v ≤ 122) = true) (a1 : decide (65 ≤ v) = false) (b1 : decide (v ≤ 90) = true) (a2 : decide (48 ≤ v) = true) (b2 : decide (v ≤ 57) = false) (f0 : (v == 95) = false) (f1 : (v == 64) = false) (f2 : (v == 32) = false) (f3 : (v == 9) = false) (f4 : (v == 10) = false) (f5 : (v == 13) = false) (f6 : (v == 40) = false) (f7 : (v == 41) = false) (f8 : (v == 123) = false) (f9 : (v == 125) = false) (f10 : (v == 58) = false) (f11 : (v == 44) = false) (f12 : (v == 59) = false) (f13 : (v == 46) = false) (n r m : Nat) (x : ByteArray) (B : ByF v x) (Z : ZeF n r m) (w : World) :
    Calls Tryd.prog 6 #[.int .u8 v, .int .u8 (n : Int)] w fun e w2 => e = .returned (.bool true) ∧ Kp [] w w2 := by
  have q0 : (v == (((⟨#[40, 41, 123, 125, 58, 44, 59, 46]⟩ : ByteArray)[0]'(by decide)).toNat : Int)) = false := f6
  have q1 : (v == (((⟨#[40, 41, 123, 125, 58, 44, 59, 46]⟩ : ByteArray)[1]'(by decide)).toNat : Int)) = false := f7
  have q2 : (v == (((⟨#[40, 41, 123, 125, 58, 44, 59, 46]⟩ : ByteArray)[2]'(by decide)).toNat : Int)) = false := f8
  have q3 : (v == (((⟨#[40, 41, 123, 125, 58, 44, 59, 46]⟩ : ByteArray)[3]'(by decide)).toNat : Int)) = false := f9
  have q4 : (v == (((⟨#[40, 41, 123, 125, 58, 44, 59, 46]⟩ : ByteArray)[4]'(by decide)).toNat : Int)) = false := f10
  have q5 : (v == (((⟨#[40, 41, 123, 125, 58, 44, 59, 46]⟩ : ByteArray)[5]'(by decide)).toNat : Int)) = false := f11
  have q6 : (v == (((⟨#[40, 41, 123, 125, 58, 44, 59, 46]⟩ : ByteArray)[6]'(by decide)).toNat : Int)) = false := f12
  have q7 : (v == (((⟨#[40, 41, 123, 125, 58, 44, 59, 46]⟩ : ByteArray)[7]'(by decide)).toNat : Int)) = false := f13
  obtain ⟨er, r5, em, m9, cz, hl, hf⟩ := Z
  have mk := fun W => make_bytes (m : Int) m rfl (by omega) W
  have HL := Lib.hid hl
  have HF := Lib.hid hf
  obtain ⟨cx, zx, hy, hn⟩ := B
  have HY := Lib.hid (hn (by simp only [goodI, plainI, blankI, markI, a0, b0, a1, b1, a2, b2, f0, f1, f2, f3, f4, f5, f6, f7, f8, f9, f10, f11, f12, f13]; rfl))
  clear hl hf hy hn
  go_enter Tryd.func6, Tryd.ntmps6
  go_wp2_with fail
  refine Calls.mono (known_any _) ?_
  rintro e w1 ⟨rfl, k1⟩
  have KA := Lib.hid k1
  clear k1
  go_wp2_with fail
  refine Calls.mono (HY.out _) ?_
  rintro e w2 ⟨a, l, k, u, rfl, k2⟩
  have KB := Lib.hid (KA.out.trans (((Kp.refl [] w1).alloc _).trans k2))
  clear k2 KA
  go_wp2_with fail
  refine wp_loop_rounds 9 ?_
  rw [rounds_succ]
  go_wp2_with fail
  rw [rounds_succ]
  go_wp2_with fail
  rw [rounds_succ]
  go_wp2_with fail
  rw [rounds_succ]
  go_wp2_with fail
  rw [rounds_succ]
  go_wp2_with fail
  rw [rounds_succ]
  go_wp2_with fail
  rw [rounds_succ]
  go_wp2_with fail
  rw [rounds_succ]
  go_wp2_with fail
  rw [rounds_succ]
  go_wp2_with fail
  by_cases h2 : 2 < r
  · have d0 : decide ((2 : Int) < (r : Int)) = true := decide_eq_true (by omega)
    refine Calls.mono (HL.out h2 _) ?_
    rintro e w3 ⟨a3, l3, u3, rfl, k3⟩
    have KC := Lib.hid (KB.out.trans (((Kp.refl [] w2).alloc _).trans k3))
    clear k3 KB
    go_wp2_with fail
    refine Calls.mono (is_ref_yes u 10 _) ?_
    rintro e w4 ⟨rfl, k4⟩
    have KC := Lib.hid (KC.out.trans k4)
    clear k4
    go_wp2_with fail
    refine Calls.mono (is_ref_yes u3 13 _) ?_
    rintro e w5 ⟨rfl, k5⟩
    have KE := Lib.hid (KC.out.trans k5)
    clear k5 KC
    go_wp2_with fail
    go_ret
    exact ⟨rfl, KE.out⟩
  · have d0 : decide ((2 : Int) < (r : Int)) = false := decide_eq_false (by omega)
    refine Calls.mono (HF.out h2 _) ?_
    rintro e w3 ⟨a3, l3, u3, rfl, k3⟩
    have KC := Lib.hid (KB.out.trans (((Kp.refl [] w2).alloc _).trans k3))
    clear k3 KB
    go_wp2_with fail
    refine Calls.mono (is_ref_yes u 10 _) ?_
    rintro e w4 ⟨rfl, k4⟩
    have KC := Lib.hid (KC.out.trans k4)
    clear k4
    go_wp2_with fail
    refine Calls.mono (is_ref_no u3 10 13 (by decide) _) ?_
    rintro e w5 ⟨rfl, k5⟩
    have KE := Lib.hid (KC.out.trans k5)
    clear k5 KC
    go_wp2_with fail
    go_ret
    exact ⟨rfl, KE.out⟩

set_option maxHeartbeats 6400000 in
set_option maxRecDepth 20000 in
theorem lbytes_u97 (v : Int) (a0 : decide (97 ≤ v) = false) (b0 : decide (v ≤ 122) = true) (a1 : decide (65 ≤ v) = true) (b1 : decide (v ≤ 90) = false) (a2 : decide (48 ≤ v) = true) (b2 : decide (v ≤ 57) = false) (f0 : (v == 95) = false) (f1 : (v == 64) = false) (f2 : (v == 32) = false) (f3 : (v == 9) = false) (f4 : (v == 10) = false) (f5 : (v == 13) = false) (f6 : (v == 40) = false) (f7 : (v == 41) = false) (f8 : (v == 123) = false) (f9 : (v == 125) = false) (f10 : (v == 58) = false) (f11 : (v == 44) = false) (f12 : (v == 59) = false) (f13 : (v == 46) = false) (n r m : Nat) (x : ByteArray) (B : ByF v x) (Z : ZeF n r m) (w : World) :
    Calls Tryd.prog 6 #[.int .u8 v, .int .u8 (n : Int)] w fun e w2 => e = .returned (.bool true) ∧ Kp [] w w2 := by
  have q0 : (v == (((⟨#[40, 41, 123, 125, 58, 44, 59, 46]⟩ : ByteArray)[0]'(by decide)).toNat : Int)) = false := f6
  have q1 : (v == (((⟨#[40, 41, 123, 125, 58, 44, 59, 46]⟩ : ByteArray)[1]'(by decide)).toNat : Int)) = false := f7
  have q2 : (v == (((⟨#[40, 41, 123, 125, 58, 44, 59, 46]⟩ : ByteArray)[2]'(by decide)).toNat : Int)) = false := f8
  have q3 : (v == (((⟨#[40, 41, 123, 125, 58, 44, 59, 46]⟩ : ByteArray)[3]'(by decide)).toNat : Int)) = false := f9
  have q4 : (v == (((⟨#[40, 41, 123, 125, 58, 44, 59, 46]⟩ : ByteArray)[4]'(by decide)).toNat : Int)) = false := f10
  have q5 : (v == (((⟨#[40, 41, 123, 125, 58, 44, 59, 46]⟩ : ByteArray)[5]'(by decide)).toNat : Int)) = false := f11
  have q6 : (v == (((⟨#[40, 41, 123, 125, 58, 44, 59, 46]⟩ : ByteArray)[6]'(by decide)).toNat : Int)) = false := f12
  have q7 : (v == (((⟨#[40, 41, 123, 125, 58, 44, 59, 46]⟩ : ByteArray)[7]'(by decide)).toNat : Int)) = false := f13
  obtain ⟨er, r5, em, m9, cz, hl, hf⟩ := Z
  have mk := fun W => make_bytes (m : Int) m rfl (by omega) W
  have HL := Lib.hid hl
  have HF := Lib.hid hf
  obtain ⟨cx, zx, hy, hn⟩ := B
  have HY := Lib.hid (hn (by simp only [goodI, plainI, blankI, markI, a0, b0, a1, b1, a2, b2, f0, f1, f2, f3, f4, f5, f6, f7, f8, f9, f10, f11, f12, f13]; rfl))
  clear hl hf hy hn
  go_enter Tryd.func6, Tryd.ntmps6
  go_wp2_with fail
  refine Calls.mono (known_any _) ?_
  rintro e w1 ⟨rfl, k1⟩
  have KA := Lib.hid k1
  clear k1
  go_wp2_with fail
  refine Calls.mono (HY.out _) ?_
  rintro e w2 ⟨a, l, k, u, rfl, k2⟩
  have KB := Lib.hid (KA.out.trans (((Kp.refl [] w1).alloc _).trans k2))
  clear k2 KA
  go_wp2_with fail
  refine wp_loop_rounds 9 ?_
  rw [rounds_succ]
  go_wp2_with fail
  rw [rounds_succ]
  go_wp2_with fail
  rw [rounds_succ]
  go_wp2_with fail
  rw [rounds_succ]
  go_wp2_with fail
  rw [rounds_succ]
  go_wp2_with fail
  rw [rounds_succ]
  go_wp2_with fail
  rw [rounds_succ]
  go_wp2_with fail
  rw [rounds_succ]
  go_wp2_with fail
  rw [rounds_succ]
  go_wp2_with fail
  by_cases h2 : 2 < r
  · have d0 : decide ((2 : Int) < (r : Int)) = true := decide_eq_true (by omega)
    refine Calls.mono (HL.out h2 _) ?_
    rintro e w3 ⟨a3, l3, u3, rfl, k3⟩
    have KC := Lib.hid (KB.out.trans (((Kp.refl [] w2).alloc _).trans k3))
    clear k3 KB
    go_wp2_with fail
    refine Calls.mono (is_ref_yes u 10 _) ?_
    rintro e w4 ⟨rfl, k4⟩
    have KC := Lib.hid (KC.out.trans k4)
    clear k4
    go_wp2_with fail
    refine Calls.mono (is_ref_yes u3 13 _) ?_
    rintro e w5 ⟨rfl, k5⟩
    have KE := Lib.hid (KC.out.trans k5)
    clear k5 KC
    go_wp2_with fail
    go_ret
    exact ⟨rfl, KE.out⟩
  · have d0 : decide ((2 : Int) < (r : Int)) = false := decide_eq_false (by omega)
    refine Calls.mono (HF.out h2 _) ?_
    rintro e w3 ⟨a3, l3, u3, rfl, k3⟩
    have KC := Lib.hid (KB.out.trans (((Kp.refl [] w2).alloc _).trans k3))
    clear k3 KB
    go_wp2_with fail
    refine Calls.mono (is_ref_yes u 10 _) ?_
    rintro e w4 ⟨rfl, k4⟩
    have KC := Lib.hid (KC.out.trans k4)
    clear k4
    go_wp2_with fail
    refine Calls.mono (is_ref_no u3 10 13 (by decide) _) ?_
    rintro e w5 ⟨rfl, k5⟩
    have KE := Lib.hid (KC.out.trans k5)
    clear k5 KC
    go_wp2_with fail
    go_ret
    exact ⟨rfl, KE.out⟩

set_option maxHeartbeats 6400000 in
set_option maxRecDepth 20000 in
theorem lbytes_o122 (v : Int) (a0 : decide (97 ≤ v) = true) (b0 : decide (v ≤ 122) = false) (a1 : decide (65 ≤ v) = true) (b1 : decide (v ≤ 90) = false) (a2 : decide (48 ≤ v) = true) (b2 : decide (v ≤ 57) = false) (f0 : (v == 95) = false) (f1 : (v == 64) = false) (f2 : (v == 32) = false) (f3 : (v == 9) = false) (f4 : (v == 10) = false) (f5 : (v == 13) = false) (f6 : (v == 40) = false) (f7 : (v == 41) = false) (f8 : (v == 123) = false) (f9 : (v == 125) = false) (f10 : (v == 58) = false) (f11 : (v == 44) = false) (f12 : (v == 59) = false) (f13 : (v == 46) = false) (n r m : Nat) (x : ByteArray) (B : ByF v x) (Z : ZeF n r m) (w : World) :
    Calls Tryd.prog 6 #[.int .u8 v, .int .u8 (n : Int)] w fun e w2 => e = .returned (.bool true) ∧ Kp [] w w2 := by
  have q0 : (v == (((⟨#[40, 41, 123, 125, 58, 44, 59, 46]⟩ : ByteArray)[0]'(by decide)).toNat : Int)) = false := f6
  have q1 : (v == (((⟨#[40, 41, 123, 125, 58, 44, 59, 46]⟩ : ByteArray)[1]'(by decide)).toNat : Int)) = false := f7
  have q2 : (v == (((⟨#[40, 41, 123, 125, 58, 44, 59, 46]⟩ : ByteArray)[2]'(by decide)).toNat : Int)) = false := f8
  have q3 : (v == (((⟨#[40, 41, 123, 125, 58, 44, 59, 46]⟩ : ByteArray)[3]'(by decide)).toNat : Int)) = false := f9
  have q4 : (v == (((⟨#[40, 41, 123, 125, 58, 44, 59, 46]⟩ : ByteArray)[4]'(by decide)).toNat : Int)) = false := f10
  have q5 : (v == (((⟨#[40, 41, 123, 125, 58, 44, 59, 46]⟩ : ByteArray)[5]'(by decide)).toNat : Int)) = false := f11
  have q6 : (v == (((⟨#[40, 41, 123, 125, 58, 44, 59, 46]⟩ : ByteArray)[6]'(by decide)).toNat : Int)) = false := f12
  have q7 : (v == (((⟨#[40, 41, 123, 125, 58, 44, 59, 46]⟩ : ByteArray)[7]'(by decide)).toNat : Int)) = false := f13
  obtain ⟨er, r5, em, m9, cz, hl, hf⟩ := Z
  have mk := fun W => make_bytes (m : Int) m rfl (by omega) W
  have HL := Lib.hid hl
  have HF := Lib.hid hf
  obtain ⟨cx, zx, hy, hn⟩ := B
  have HY := Lib.hid (hn (by simp only [goodI, plainI, blankI, markI, a0, b0, a1, b1, a2, b2, f0, f1, f2, f3, f4, f5, f6, f7, f8, f9, f10, f11, f12, f13]; rfl))
  clear hl hf hy hn
  go_enter Tryd.func6, Tryd.ntmps6
  go_wp2_with fail
  refine Calls.mono (known_any _) ?_
  rintro e w1 ⟨rfl, k1⟩
  have KA := Lib.hid k1
  clear k1
  go_wp2_with fail
  refine Calls.mono (HY.out _) ?_
  rintro e w2 ⟨a, l, k, u, rfl, k2⟩
  have KB := Lib.hid (KA.out.trans (((Kp.refl [] w1).alloc _).trans k2))
  clear k2 KA
  go_wp2_with fail
  refine wp_loop_rounds 9 ?_
  rw [rounds_succ]
  go_wp2_with fail
  rw [rounds_succ]
  go_wp2_with fail
  rw [rounds_succ]
  go_wp2_with fail
  rw [rounds_succ]
  go_wp2_with fail
  rw [rounds_succ]
  go_wp2_with fail
  rw [rounds_succ]
  go_wp2_with fail
  rw [rounds_succ]
  go_wp2_with fail
  rw [rounds_succ]
  go_wp2_with fail
  rw [rounds_succ]
  go_wp2_with fail
  by_cases h2 : 2 < r
  · have d0 : decide ((2 : Int) < (r : Int)) = true := decide_eq_true (by omega)
    refine Calls.mono (HL.out h2 _) ?_
    rintro e w3 ⟨a3, l3, u3, rfl, k3⟩
    have KC := Lib.hid (KB.out.trans (((Kp.refl [] w2).alloc _).trans k3))
    clear k3 KB
    go_wp2_with fail
    refine Calls.mono (is_ref_yes u 10 _) ?_
    rintro e w4 ⟨rfl, k4⟩
    have KC := Lib.hid (KC.out.trans k4)
    clear k4
    go_wp2_with fail
    refine Calls.mono (is_ref_yes u3 13 _) ?_
    rintro e w5 ⟨rfl, k5⟩
    have KE := Lib.hid (KC.out.trans k5)
    clear k5 KC
    go_wp2_with fail
    go_ret
    exact ⟨rfl, KE.out⟩
  · have d0 : decide ((2 : Int) < (r : Int)) = false := decide_eq_false (by omega)
    refine Calls.mono (HF.out h2 _) ?_
    rintro e w3 ⟨a3, l3, u3, rfl, k3⟩
    have KC := Lib.hid (KB.out.trans (((Kp.refl [] w2).alloc _).trans k3))
    clear k3 KB
    go_wp2_with fail
    refine Calls.mono (is_ref_yes u 10 _) ?_
    rintro e w4 ⟨rfl, k4⟩
    have KC := Lib.hid (KC.out.trans k4)
    clear k4
    go_wp2_with fail
    refine Calls.mono (is_ref_no u3 10 13 (by decide) _) ?_
    rintro e w5 ⟨rfl, k5⟩
    have KE := Lib.hid (KC.out.trans k5)
    clear k5 KC
    go_wp2_with fail
    go_ret
    exact ⟨rfl, KE.out⟩
theorem lbytes_any (c n : Nat) (hc : c < 256) (w : World) :
    Calls Tryd.prog 6 #[.int .u8 (c : Int), .int .u8 (n : Int)] w fun e w2 => e = .returned (.bool true) ∧ Kp [] w w2 := by
  have B := byF c hc
  have Z := zeF n
  obtain ⟨v, hv⟩ : ∃ v : Int, v = (c : Int) := ⟨_, rfl⟩
  obtain ⟨x, hx⟩ : ∃ x, x = mkB [UInt8.ofNat c] := ⟨_, rfl⟩
  rw [← hv] at B ⊢
  rw [← hx] at B
  clear hx
  by_cases h0 : v = 95
  · subst h0; exact lbytes_95 n _ _ x B Z w
  have f0 : (v == 95) = false := by simpa using h0
  by_cases h1 : v = 64
  · subst h1; exact lbytes_64 n _ _ x B Z w
  have f1 : (v == 64) = false := by simpa using h1
  by_cases h2 : v = 32
  · subst h2; exact lbytes_32 n _ _ x B Z w
  have f2 : (v == 32) = false := by simpa using h2
  by_cases h3 : v = 9
  · subst h3; exact lbytes_9 n _ _ x B Z w
  have f3 : (v == 9) = false := by simpa using h3
  by_cases h4 : v = 10
  · subst h4; exact lbytes_10 n _ _ x B Z w
  have f4 : (v == 10) = false := by simpa using h4
  by_cases h5 : v = 13
  · subst h5; exact lbytes_13 n _ _ x B Z w
  have f5 : (v == 13) = false := by simpa using h5
  by_cases h6 : v = 40
  · subst h6; exact lbytes_40 n _ _ x B Z w
  have f6 : (v == 40) = false := by simpa using h6
  by_cases h7 : v = 41
  · subst h7; exact lbytes_41 n _ _ x B Z w
  have f7 : (v == 41) = false := by simpa using h7
  by_cases h8 : v = 123
  · subst h8; exact lbytes_123 n _ _ x B Z w
  have f8 : (v == 123) = false := by simpa using h8
  by_cases h9 : v = 125
  · subst h9; exact lbytes_125 n _ _ x B Z w
  have f9 : (v == 125) = false := by simpa using h9
  by_cases h10 : v = 58
  · subst h10; exact lbytes_58 n _ _ x B Z w
  have f10 : (v == 58) = false := by simpa using h10
  by_cases h11 : v = 44
  · subst h11; exact lbytes_44 n _ _ x B Z w
  have f11 : (v == 44) = false := by simpa using h11
  by_cases h12 : v = 59
  · subst h12; exact lbytes_59 n _ _ x B Z w
  have f12 : (v == 59) = false := by simpa using h12
  by_cases h13 : v = 46
  · subst h13; exact lbytes_46 n _ _ x B Z w
  have f13 : (v == 46) = false := by simpa using h13
  by_cases gu48 : v ≤ 47
  · exact lbytes_u48 v (decide_eq_false (by omega)) (decide_eq_true (by omega)) (decide_eq_false (by omega)) (decide_eq_true (by omega)) (decide_eq_false (by omega)) (decide_eq_true (by omega)) f0 f1 f2 f3 f4 f5 f6 f7 f8 f9 f10 f11 f12 f13 n _ _ x B Z w
  by_cases g09 : v ≤ 57
  · exact lbytes_09 v (decide_eq_false (by omega)) (decide_eq_true (by omega)) (decide_eq_false (by omega)) (decide_eq_true (by omega)) (decide_eq_true (by omega)) (decide_eq_true (by omega)) n _ _ x B Z w
  by_cases gu65 : v ≤ 64
  · exact lbytes_u65 v (decide_eq_false (by omega)) (decide_eq_true (by omega)) (decide_eq_false (by omega)) (decide_eq_true (by omega)) (decide_eq_true (by omega)) (decide_eq_false (by omega)) f0 f1 f2 f3 f4 f5 f6 f7 f8 f9 f10 f11 f12 f13 n _ _ x B Z w
  by_cases gAZ : v ≤ 90
  · exact lbytes_AZ v (decide_eq_false (by omega)) (decide_eq_true (by omega)) (decide_eq_true (by omega)) (decide_eq_true (by omega)) n _ _ x B Z w
  by_cases gu97 : v ≤ 96
  · exact lbytes_u97 v (decide_eq_false (by omega)) (decide_eq_true (by omega)) (decide_eq_true (by omega)) (decide_eq_false (by omega)) (decide_eq_true (by omega)) (decide_eq_false (by omega)) f0 f1 f2 f3 f4 f5 f6 f7 f8 f9 f10 f11 f12 f13 n _ _ x B Z w
  by_cases gaz : v ≤ 122
  · exact lbytes_az v (decide_eq_true (by omega)) (decide_eq_true (by omega)) n _ _ x B Z w
  exact lbytes_o122 v (decide_eq_true (by omega)) (decide_eq_false (by omega)) (decide_eq_true (by omega)) (decide_eq_false (by omega)) (decide_eq_true (by omega)) (decide_eq_false (by omega)) f0 f1 f2 f3 f4 f5 f6 f7 f8 f9 f10 f11 f12 f13 n _ _ x B Z w
end Go.Proofs.YtmhnjgnljfkdcaaDoor
