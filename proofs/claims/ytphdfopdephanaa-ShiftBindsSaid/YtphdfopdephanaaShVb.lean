/- The law ShiftBinds: its walk. -/
import Derived.Test.YtphdfopdephanaaShVz
namespace Go.Proofs.Ytphdfopdephanaa
open Go.RowKit Go.ChangeMaps

set_option maxHeartbeats 6400000 in
theorem binds_any (s nm : ByteArray) (Hs : s.size ≤ 1000000000000000) (Hn : nm.size ≤ 1000000000000000) (w : World) :
    Calls Try.prog 5 #[.string s, .string nm] w (YesPost w) := by
  have K : Hid (Kp [] w w) := Kp.refl [] w
  go_enter Try.func5, Try.ntmps5
  go_wp2_with fail
  refine Calls.mono (known_any _) ?_
  rintro e w1 ⟨rfl, kk⟩
  replace K := Lib.hid (K.out.trans kk)
  clear kk
  go_wp2_with fail
  refine Calls.mono (hterm_any s Hs _) ?_
  rintro e w2 ⟨qt, rfl, kk, tt⟩
  replace K := Lib.hid (K.out.trans kk)
  have Rt : Hid (RT w2 qt) := tt
  clear kk tt
  rcases Rt.out with h | ⟨t, ht⟩
  · subst h
    clear Rt
    go_wp2_with fail
    go_ret
    exact ⟨rfl, K.out⟩
  obtain ⟨gt, rfl⟩ := ht.some
  have Tt := Lib.hid ht.tok
  clear Rt ht
  go_wp2_with fail
  refine Calls.mono (isName_any nm Hn _) ?_
  rintro e w3 ⟨b, rfl, rfl⟩
  cases b
  · go_wp2_with fail
    go_ret
    exact ⟨rfl, K.out⟩
  go_wp2_with fail
  have E := Lib.hid (bind_back Tt.out.ok nm 0 (Int.le_refl _))
  have hfr : free ((bindM nm).at 0 t) ≤ free t + 1 := by have h1 := free_bind Tt.out.ok nm 0 (Int.le_refl _); have h2 := free_pos Tt.out.ok; omega
  have hft := free_le (by decide) Tt.out.ok
  have hfp := free_pos Tt.out.ok
  obtain ⟨z, hz⟩ : ∃ z, z = free t := ⟨_, rfl⟩
  obtain ⟨z2, hz2⟩ : ∃ z, z = free ((bindM nm).at 0 t) := ⟨_, rfl⟩
  have e1 : IntKind.i64.wrap (z + 1) = z + 1 := wrap_id rfl (by omega) (by omega)
  have d1 : decide (z2 ≤ z + 1) = true := decide_eq_true (by rw [hz, hz2]; exact hfr)
  have HZ := Lib.hid (And.intro hz hz2)
  clear hfr hft hfp hz hz2
  refine Calls.mono (bind_ok Tt.out nm (by decide) (by decide) (by decide)) ?_
  rintro e w4 ⟨qB, rfl, kk, tt⟩
  replace K := Lib.hid (K.out.trans kk)
  replace Tt := Lib.hid (Tt.out.kp kk)
  have TB := Lib.hid tt
  clear kk tt
  go_wp2_with fail
  refine Calls.mono (const_ok nm _) ?_
  rintro e w5 ⟨qC, rfl, kk, tt⟩
  replace K := Lib.hid (K.out.trans kk)
  replace Tt := Lib.hid (Tt.out.kp kk)
  replace TB := Lib.hid (TB.out.kp kk)
  have TC := Lib.hid tt
  clear kk tt
  go_wp2_with fail
  refine Calls.mono (put_ok TB.out TC.out 0 (by decide) (by decide) (by decide) (by decide) (by decide) (by decide) (by decide) (by decide)) ?_
  rintro e w6 ⟨qD, rfl, kk, tt⟩
  replace K := Lib.hid (K.out.trans kk)
  replace Tt := Lib.hid (Tt.out.kp kk)
  replace TB := Lib.hid (TB.out.kp kk)
  replace TC := Lib.hid (TC.out.kp kk)
  have TD := Lib.hid tt
  clear kk tt
  go_wp2_with fail
  clear TC
  refine Calls.mono (same_yes E.out TD.out.at' Tt.out.at') ?_
  rintro e w7 ⟨rfl, kk⟩
  replace K := Lib.hid (K.out.trans kk)
  replace Tt := Lib.hid (Tt.out.kp kk)
  replace TB := Lib.hid (TB.out.kp kk)
  replace TD := Lib.hid (TD.out.kp kk)
  clear kk
  go_wp2_with fail
  clear TD
  refine Calls.mono (free_any (by decide) (by decide) TB.out.ok _ _ TB.out.at') ?_
  rintro e w8 ⟨rfl, kk⟩
  replace K := Lib.hid (K.out.trans kk)
  replace Tt := Lib.hid (Tt.out.kp kk)
  replace TB := Lib.hid (TB.out.kp kk)
  clear kk
  rw [← HZ.out.2]
  go_wp2_with fail
  refine Calls.mono (free_any (by decide) (by decide) Tt.out.ok _ _ Tt.out.at') ?_
  rintro e w9 ⟨rfl, kk⟩
  replace K := Lib.hid (K.out.trans kk)
  replace Tt := Lib.hid (Tt.out.kp kk)
  replace TB := Lib.hid (TB.out.kp kk)
  clear kk
  rw [← HZ.out.1]
  go_wp2_with fail
  go_ret
  exact ⟨rfl, K.out⟩
end Go.Proofs.Ytphdfopdephanaa
