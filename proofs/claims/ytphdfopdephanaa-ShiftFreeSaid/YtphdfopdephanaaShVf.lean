/- The law ShiftFree: its walk. -/
import Derived.Test.YtphdfopdephanaaShVz
namespace Go.Proofs.Ytphdfopdephanaa
open Go.RowKit Go.ChangeMaps

set_option maxHeartbeats 6400000 in
theorem free_law (s u : ByteArray) (by' at' : Nat) (hby : by' < 256) (hat : at' < 256) (Hs : s.size ≤ 1000000000000000) (Hu : u.size ≤ 1000000000000000) (w : World) :
    Calls Try.prog 6 #[.string s, .string u, .int .u8 (by' : Int), .int .u8 (at' : Int)] w (YesPost w) := by
  have K : Hid (Kp [] w w) := Kp.refl [] w
  go_enter Try.func6, Try.ntmps6
  go_wp2_with fail
  refine Calls.mono (known_any _) ?_
  rintro e w1 ⟨rfl, kk⟩
  replace K := Lib.hid (K.out.trans kk)
  clear kk
  go_wp2_with fail
  refine Calls.mono (hterm_any s Hs _) ?_
  rintro e w2 ⟨qt, rfl, kk, tt⟩
  replace K := Lib.hid (K.out.trans kk)
  have Rt : Hid (RT w2 qt) := tt
  clear kk tt
  go_wp2_with fail
  refine Calls.mono (hterm_any u Hu _) ?_
  rintro e w3 ⟨qx, rfl, kk, tt⟩
  replace K := Lib.hid (K.out.trans kk)
  replace Rt := Lib.hid (Rt.out.kp kk)
  have Rx : Hid (RT w3 qx) := tt
  clear kk tt
  rcases Rt.out with h | ⟨t, ht⟩
  · subst h
    clear Rt Rx
    go_wp2_with fail
    go_ret
    exact ⟨rfl, K.out⟩
  obtain ⟨gt, rfl⟩ := ht.some
  have Tt := Lib.hid ht.tok
  clear Rt ht
  rcases Rx.out with h | ⟨x, hx⟩
  · subst h
    clear Rx
    go_wp2_with fail
    go_ret
    exact ⟨rfl, K.out⟩
  obtain ⟨gx, rfl⟩ := hx.some
  have Tx := Lib.hid hx.tok
  clear Rx hx
  have fp := free_pos Tt.out.ok
  have fl := free_le (by decide) Tt.out.ok
  have xp := free_pos Tx.out.ok
  have xl := free_le (by decide) Tx.out.ok
  obtain ⟨z, hz⟩ : ∃ z, z = free t := ⟨_, rfl⟩
  obtain ⟨zx, hzx⟩ : ∃ z, z = free x := ⟨_, rfl⟩
  obtain ⟨k, hk⟩ : ∃ k : Int, k = (by' : Int) % 20 := ⟨_, rfl⟩
  have ek : (by' : Int) % 20 = k := hk.symm
  have hk0 : 0 ≤ k := by omega
  have hk1 : k ≤ 19 := by omega
  obtain ⟨a, ha⟩ : ∃ a : Int, a = z + (at' : Int) := ⟨_, rfl⟩
  have e1 : IntKind.i64.wrap (z + (at' : Int)) = a := wrap_id ha.symm (by omega) (by omega)
  have E1 : Hid (lift k a t = t) := lift_free Tt.out.ok k a (by omega)
  obtain ⟨zb, hzb⟩ : ∃ q, q = free (lift k 0 t) := ⟨_, rfl⟩
  obtain ⟨zc, hzc⟩ : ∃ q, q = free ((putM x 0).at 0 t) := ⟨_, rfl⟩
  have hb1 := free_lift Tt.out.ok k hk0 0 (Int.le_refl _)
  have hc1 := free_put Tt.out.ok Tx.out.ok 0 (Int.le_refl _)
  rw [← hz, ← hzb] at hb1
  rw [← hz, ← hzx, ← hzc] at hc1
  have E4 : Hid ((allM []).at 0 t = t) := all_none Tt.out.ok 0
  have HZ := Lib.hid (And.intro hz (And.intro hzx (And.intro hzb hzc)))
  have HB : Hid (0 ≤ k ∧ k ≤ 19 ∧ 0 ≤ a ∧ a ≤ 1000000) := by refine ⟨hk0, hk1, ?_, ?_⟩ <;> omega
  have e3 : IntKind.i64.wrap (z - 1) = z - 1 := wrap_id rfl (by omega) (by omega)
  have d3 : decide (zc ≤ max (z - 1) zx) = true := decide_eq_true (by omega)
  obtain ⟨wt, hwt⟩ : ∃ q : Int, q = z + k := ⟨_, rfl⟩
  have e2 : IntKind.i64.wrap (z + k) = wt := wrap_id hwt.symm (by omega) (by omega)
  by_cases hpos : 0 < z
  · have d1 : decide (0 < z) = true := decide_eq_true hpos
    have d2 : (zb == wt) = true := by rw [if_pos hpos] at hb1; simp; omega
    clear hz hzx hk ha hzb hzc hb1 hc1 hk0 hk1 hwt fp fl xp xl hpos
    go_wp2_with fail
    refine Calls.mono (free_any (by decide) (by decide) Tt.out.ok _ _ Tt.out.at') ?_
    rintro e w4 ⟨rfl, kk⟩
    replace K := Lib.hid (K.out.trans kk)
    replace Tt := Lib.hid (Tt.out.kp kk)
    replace Tx := Lib.hid (Tx.out.kp kk)
    clear kk
    rw [← HZ.out.1]
    go_wp2_with fail
    refine Calls.mono (lift_ok Tt.out k a (by decide) (by decide) (by decide) HB.out.1 (by have := HB.out.2.1; omega) HB.out.2.2.1 (by have := HB.out.2.2.2; omega)) ?_
    rintro e w5 ⟨qA, rfl, kk, tt⟩
    replace K := Lib.hid (K.out.trans kk)
    replace Tt := Lib.hid (Tt.out.kp kk)
    replace Tx := Lib.hid (Tx.out.kp kk)
    have TA := Lib.hid tt
    clear kk tt
    go_wp2_with fail
    refine Calls.mono (lift_ok Tt.out k 0 (by decide) (by decide) (by decide) HB.out.1 (by have := HB.out.2.1; omega) (by decide) (by decide)) ?_
    rintro e w6 ⟨qB, rfl, kk, tt⟩
    replace K := Lib.hid (K.out.trans kk)
    replace Tt := Lib.hid (Tt.out.kp kk)
    replace Tx := Lib.hid (Tx.out.kp kk)
    replace TA := Lib.hid (TA.out.kp kk)
    have TB := Lib.hid tt
    clear kk tt
    go_wp2_with fail
    refine Calls.mono (put_ok Tt.out Tx.out 0 (by decide) (by decide) (by decide) (by decide) (by decide) (by decide) (by decide) (by decide)) ?_
    rintro e w7 ⟨qC, rfl, kk, tt⟩
    replace K := Lib.hid (K.out.trans kk)
    replace Tt := Lib.hid (Tt.out.kp kk)
    replace Tx := Lib.hid (Tx.out.kp kk)
    replace TA := Lib.hid (TA.out.kp kk)
    replace TB := Lib.hid (TB.out.kp kk)
    have TC := Lib.hid tt
    clear kk tt
    go_wp2_with fail
    refine Calls.mono (same_yes E1.out TA.out.at' Tt.out.at') ?_
    rintro e w8 ⟨rfl, kk⟩
    replace K := Lib.hid (K.out.trans kk)
    replace Tt := Lib.hid (Tt.out.kp kk)
    replace Tx := Lib.hid (Tx.out.kp kk)
    replace TA := Lib.hid (TA.out.kp kk)
    replace TB := Lib.hid (TB.out.kp kk)
    replace TC := Lib.hid (TC.out.kp kk)
    clear kk
    go_wp2_with fail
    clear TA
    refine Calls.mono (free_any (by have := HB.out.1; omega) (by have := HB.out.2.1; omega) TB.out.ok _ _ TB.out.at') ?_
    rintro e w9 ⟨rfl, kk⟩
    replace K := Lib.hid (K.out.trans kk)
    replace Tt := Lib.hid (Tt.out.kp kk)
    replace Tx := Lib.hid (Tx.out.kp kk)
    replace TB := Lib.hid (TB.out.kp kk)
    replace TC := Lib.hid (TC.out.kp kk)
    clear kk
    rw [← HZ.out.2.2.1]
    go_wp2_with fail
    clear TB
    refine Calls.mono (free_any (by decide) (by decide) TC.out.ok _ _ TC.out.at') ?_
    rintro e w10 ⟨rfl, kk⟩
    replace K := Lib.hid (K.out.trans kk)
    replace Tt := Lib.hid (Tt.out.kp kk)
    replace Tx := Lib.hid (Tx.out.kp kk)
    replace TC := Lib.hid (TC.out.kp kk)
    clear kk
    rw [← HZ.out.2.2.2]
    go_wp2_with fail
    clear TC
    refine Calls.mono (free_any (by decide) (by decide) Tx.out.ok _ _ Tx.out.at') ?_
    rintro e w11 ⟨rfl, kk⟩
    replace K := Lib.hid (K.out.trans kk)
    replace Tt := Lib.hid (Tt.out.kp kk)
    replace Tx := Lib.hid (Tx.out.kp kk)
    clear kk
    rw [← HZ.out.2.1]
    go_wp2_with fail
    refine Calls.mono (all0_any Tt.out (by decide) (by decide)) ?_
    rintro e w12 ⟨qD, rfl, kk, tt⟩
    replace K := Lib.hid (K.out.trans kk)
    replace Tt := Lib.hid (Tt.out.kp kk)
    replace Tx := Lib.hid (Tx.out.kp kk)
    have TD := Lib.hid tt
    clear kk tt
    go_wp2_with fail
    refine Calls.mono (same_yes E4.out TD.out Tt.out.at') ?_
    rintro e w13 ⟨rfl, kk⟩
    replace K := Lib.hid (K.out.trans kk)
    replace Tt := Lib.hid (Tt.out.kp kk)
    replace Tx := Lib.hid (Tx.out.kp kk)
    replace TD := Lib.hid (TD.out.kp kk)
    clear kk
    go_wp2_with fail
    go_ret
    exact ⟨rfl, K.out⟩
  have d1 : decide (0 < z) = false := decide_eq_false hpos
  have d2 : (zb == 0) = true := by rw [if_neg hpos] at hb1; simp; omega
  clear hz hzx hk ha hzb hzc hb1 hc1 hk0 hk1 hwt fp fl xp xl hpos
  go_wp2_with fail
  refine Calls.mono (free_any (by decide) (by decide) Tt.out.ok _ _ Tt.out.at') ?_
  rintro e w4 ⟨rfl, kk⟩
  replace K := Lib.hid (K.out.trans kk)
  replace Tt := Lib.hid (Tt.out.kp kk)
  replace Tx := Lib.hid (Tx.out.kp kk)
  clear kk
  rw [← HZ.out.1]
  go_wp2_with fail
  refine Calls.mono (lift_ok Tt.out k a (by decide) (by decide) (by decide) HB.out.1 (by have := HB.out.2.1; omega) HB.out.2.2.1 (by have := HB.out.2.2.2; omega)) ?_
  rintro e w5 ⟨qA, rfl, kk, tt⟩
  replace K := Lib.hid (K.out.trans kk)
  replace Tt := Lib.hid (Tt.out.kp kk)
  replace Tx := Lib.hid (Tx.out.kp kk)
  have TA := Lib.hid tt
  clear kk tt
  go_wp2_with fail
  refine Calls.mono (lift_ok Tt.out k 0 (by decide) (by decide) (by decide) HB.out.1 (by have := HB.out.2.1; omega) (by decide) (by decide)) ?_
  rintro e w6 ⟨qB, rfl, kk, tt⟩
  replace K := Lib.hid (K.out.trans kk)
  replace Tt := Lib.hid (Tt.out.kp kk)
  replace Tx := Lib.hid (Tx.out.kp kk)
  replace TA := Lib.hid (TA.out.kp kk)
  have TB := Lib.hid tt
  clear kk tt
  go_wp2_with fail
  refine Calls.mono (put_ok Tt.out Tx.out 0 (by decide) (by decide) (by decide) (by decide) (by decide) (by decide) (by decide) (by decide)) ?_
  rintro e w7 ⟨qC, rfl, kk, tt⟩
  replace K := Lib.hid (K.out.trans kk)
  replace Tt := Lib.hid (Tt.out.kp kk)
  replace Tx := Lib.hid (Tx.out.kp kk)
  replace TA := Lib.hid (TA.out.kp kk)
  replace TB := Lib.hid (TB.out.kp kk)
  have TC := Lib.hid tt
  clear kk tt
  go_wp2_with fail
  refine Calls.mono (same_yes E1.out TA.out.at' Tt.out.at') ?_
  rintro e w8 ⟨rfl, kk⟩
  replace K := Lib.hid (K.out.trans kk)
  replace Tt := Lib.hid (Tt.out.kp kk)
  replace Tx := Lib.hid (Tx.out.kp kk)
  replace TA := Lib.hid (TA.out.kp kk)
  replace TB := Lib.hid (TB.out.kp kk)
  replace TC := Lib.hid (TC.out.kp kk)
  clear kk
  go_wp2_with fail
  clear TA
  refine Calls.mono (free_any (by have := HB.out.1; omega) (by have := HB.out.2.1; omega) TB.out.ok _ _ TB.out.at') ?_
  rintro e w9 ⟨rfl, kk⟩
  replace K := Lib.hid (K.out.trans kk)
  replace Tt := Lib.hid (Tt.out.kp kk)
  replace Tx := Lib.hid (Tx.out.kp kk)
  replace TB := Lib.hid (TB.out.kp kk)
  replace TC := Lib.hid (TC.out.kp kk)
  clear kk
  rw [← HZ.out.2.2.1]
  go_wp2_with fail
  clear TB
  refine Calls.mono (free_any (by decide) (by decide) TC.out.ok _ _ TC.out.at') ?_
  rintro e w10 ⟨rfl, kk⟩
  replace K := Lib.hid (K.out.trans kk)
  replace Tt := Lib.hid (Tt.out.kp kk)
  replace Tx := Lib.hid (Tx.out.kp kk)
  replace TC := Lib.hid (TC.out.kp kk)
  clear kk
  rw [← HZ.out.2.2.2]
  go_wp2_with fail
  clear TC
  refine Calls.mono (free_any (by decide) (by decide) Tx.out.ok _ _ Tx.out.at') ?_
  rintro e w11 ⟨rfl, kk⟩
  replace K := Lib.hid (K.out.trans kk)
  replace Tt := Lib.hid (Tt.out.kp kk)
  replace Tx := Lib.hid (Tx.out.kp kk)
  clear kk
  rw [← HZ.out.2.1]
  go_wp2_with fail
  refine Calls.mono (all0_any Tt.out (by decide) (by decide)) ?_
  rintro e w12 ⟨qD, rfl, kk, tt⟩
  replace K := Lib.hid (K.out.trans kk)
  replace Tt := Lib.hid (Tt.out.kp kk)
  replace Tx := Lib.hid (Tx.out.kp kk)
  have TD := Lib.hid tt
  clear kk tt
  go_wp2_with fail
  refine Calls.mono (same_yes E4.out TD.out Tt.out.at') ?_
  rintro e w13 ⟨rfl, kk⟩
  replace K := Lib.hid (K.out.trans kk)
  replace Tt := Lib.hid (Tt.out.kp kk)
  replace Tx := Lib.hid (Tx.out.kp kk)
  replace TD := Lib.hid (TD.out.kp kk)
  clear kk
  go_wp2_with fail
  go_ret
  exact ⟨rfl, K.out⟩
end Go.Proofs.Ytphdfopdephanaa
