/- The law ShiftBack: its walk. -/
import Derived.Test.YtphdfopdephanaaShVz
namespace Go.Proofs.Ytphdfopdephanaa
open Go.RowKit Go.ChangeMaps

set_option maxHeartbeats 6400000 in
theorem back_any (s u v : ByteArray) (Hs : s.size ≤ 1000000000000000) (Hu : u.size ≤ 1000000000000000) (Hv : v.size ≤ 1000000000000000) (w : World) :
    Calls Try.prog 4 #[.string s, .string u, .string v] w (YesPost w) := by
  have K : Hid (Kp [] w w) := Kp.refl [] w
  go_enter Try.func4, Try.ntmps4
  go_wp2_with fail
  refine Calls.mono (known_any _) ?_
  rintro e w1 ⟨rfl, kk⟩
  replace K := Lib.hid (K.out.trans kk)
  clear kk
  go_wp2_with fail
  refine Calls.mono (hterm_any s Hs _) ?_
  rintro e w2 ⟨qt, rfl, kk, tt⟩
  replace K := Lib.hid (K.out.trans kk)
  have Rt : Hid (RT w2 qt) := tt
  clear kk tt
  go_wp2_with fail
  refine Calls.mono (hterm_any u Hu _) ?_
  rintro e w3 ⟨qx, rfl, kk, tt⟩
  replace K := Lib.hid (K.out.trans kk)
  replace Rt := Lib.hid (Rt.out.kp kk)
  have Rx : Hid (RT w3 qx) := tt
  clear kk tt
  go_wp2_with fail
  refine Calls.mono (hterm_any v Hv _) ?_
  rintro e w4 ⟨qy, rfl, kk, tt⟩
  replace K := Lib.hid (K.out.trans kk)
  replace Rt := Lib.hid (Rt.out.kp kk)
  replace Rx := Lib.hid (Rx.out.kp kk)
  have Ry : Hid (RT w4 qy) := tt
  clear kk tt
  rcases Rt.out with h | ⟨t, ht⟩
  · subst h
    clear Rt Rx Ry
    go_wp2_with fail
    go_ret
    exact ⟨rfl, K.out⟩
  obtain ⟨gt, rfl⟩ := ht.some
  have Tt := Lib.hid ht.tok
  clear Rt ht
  rcases Rx.out with h | ⟨x, hx⟩
  · subst h
    clear Rx Ry
    go_wp2_with fail
    go_ret
    exact ⟨rfl, K.out⟩
  obtain ⟨gx, rfl⟩ := hx.some
  have Tx := Lib.hid hx.tok
  clear Rx hx
  rcases Ry.out with h | ⟨y, hy⟩
  · subst h
    clear Ry
    go_wp2_with fail
    go_ret
    exact ⟨rfl, K.out⟩
  obtain ⟨gy, rfl⟩ := hy.some
  have Ty := Lib.hid hy.tok
  clear Ry hy
  go_wp2_with fail
  refine Calls.mono (light_any Tt.out.at' Tx.out.at' Ty.out.at') ?_
  rintro e w5 ⟨b, rfl, rfl⟩
  cases b
  · go_wp2_with fail
    go_ret
    exact ⟨rfl, K.out⟩
  go_wp2_with fail
  have E1 : Hid ((putM x 0).at 0 (lift 1 0 t) = t) := by have h := put_lift Tt.out.ok x 0 0 0 (Int.le_refl _) (Int.le_refl _); rw [lift_zero] at h; exact h
  have E2 : Hid (lift 3 1 (lift 2 0 t) = lift 5 0 t) := lift_lift Tt.out.ok 2 3 0 1 (by decide) (by decide)
  have E3 : Hid ((allM [x, y]).at 0 t = (putM x 0).at 0 ((putM (lift 1 0 y) 0).at 0 t)) := all_two Tt.out.ok Ty.out.ok 0 (Int.le_refl _)
  have E4 : Hid ((putM x (free t)).at 0 t = t) := put_free Tt.out.ok x (free t) 0 (by omega)
  have F1 := Lib.hid (And.intro (free_pos Tt.out.ok) (free_le (by decide) Tt.out.ok))
  refine Calls.mono (lift_ok Tt.out 1 0 (by decide) (by decide) (by decide) (by decide) (by decide) (by decide) (by decide)) ?_
  rintro e w6 ⟨qA, rfl, kk, tt⟩
  replace K := Lib.hid (K.out.trans kk)
  replace Tt := Lib.hid (Tt.out.kp kk)
  replace Tx := Lib.hid (Tx.out.kp kk)
  replace Ty := Lib.hid (Ty.out.kp kk)
  have TA := Lib.hid tt
  clear kk tt
  go_wp2_with fail
  refine Calls.mono (put_ok TA.out Tx.out 0 (by decide) (by decide) (by decide) (by decide) (by decide) (by decide) (by decide) (by decide)) ?_
  rintro e w7 ⟨qB, rfl, kk, tt⟩
  replace K := Lib.hid (K.out.trans kk)
  replace Tt := Lib.hid (Tt.out.kp kk)
  replace Tx := Lib.hid (Tx.out.kp kk)
  replace Ty := Lib.hid (Ty.out.kp kk)
  replace TA := Lib.hid (TA.out.kp kk)
  have TB := Lib.hid tt
  clear kk tt
  go_wp2_with fail
  clear TA
  refine Calls.mono (lift_ok Tt.out 2 0 (by decide) (by decide) (by decide) (by decide) (by decide) (by decide) (by decide)) ?_
  rintro e w8 ⟨qC, rfl, kk, tt⟩
  replace K := Lib.hid (K.out.trans kk)
  replace Tt := Lib.hid (Tt.out.kp kk)
  replace Tx := Lib.hid (Tx.out.kp kk)
  replace Ty := Lib.hid (Ty.out.kp kk)
  replace TB := Lib.hid (TB.out.kp kk)
  have TC := Lib.hid tt
  clear kk tt
  go_wp2_with fail
  refine Calls.mono (lift_ok TC.out 3 1 (by decide) (by decide) (by decide) (by decide) (by decide) (by decide) (by decide)) ?_
  rintro e w9 ⟨qD, rfl, kk, tt⟩
  replace K := Lib.hid (K.out.trans kk)
  replace Tt := Lib.hid (Tt.out.kp kk)
  replace Tx := Lib.hid (Tx.out.kp kk)
  replace Ty := Lib.hid (Ty.out.kp kk)
  replace TB := Lib.hid (TB.out.kp kk)
  replace TC := Lib.hid (TC.out.kp kk)
  have TD := Lib.hid tt
  clear kk tt
  go_wp2_with fail
  clear TC
  have hb : (w9.alloc (.cells #[.pointer (some ⟨gx, 0, none⟩), .pointer (some ⟨gy, 0, none⟩)] 24)).cell? ⟨w9.heap.size, 0, none⟩ = some (.pointer ((some ⟨gx, 0, none⟩))) ∧ (w9.alloc (.cells #[.pointer (some ⟨gx, 0, none⟩), .pointer (some ⟨gy, 0, none⟩)] 24)).cell? ⟨w9.heap.size, 1, none⟩ = some (.pointer ((some ⟨gy, 0, none⟩))) := ⟨by rw [World.cell?_alloc_new]; rfl, by rw [World.cell?_alloc_new]; rfl⟩
  have kk : Kp [] w9 (w9.alloc (.cells #[.pointer (some ⟨gx, 0, none⟩), .pointer (some ⟨gy, 0, none⟩)] 24)) := (Kp.refl [] _).alloc _
  replace K := Lib.hid (K.out.trans kk)
  replace Tt := Lib.hid (Tt.out.kp kk)
  replace Tx := Lib.hid (Tx.out.kp kk)
  replace Ty := Lib.hid (Ty.out.kp kk)
  replace TB := Lib.hid (TB.out.kp kk)
  replace TD := Lib.hid (TD.out.kp kk)
  clear kk
  refine Calls.mono (all2_any Tt.out Tx.out Ty.out (by decide) (by decide) (by decide) (by decide) _ hb) ?_
  rintro e w10 ⟨qE, rfl, kk, tt⟩
  replace K := Lib.hid (K.out.trans kk)
  replace Tt := Lib.hid (Tt.out.kp kk)
  replace Tx := Lib.hid (Tx.out.kp kk)
  replace Ty := Lib.hid (Ty.out.kp kk)
  replace TB := Lib.hid (TB.out.kp kk)
  replace TD := Lib.hid (TD.out.kp kk)
  have TE := Lib.hid tt
  clear kk tt
  go_wp2_with fail
  refine Calls.mono (lift_ok Ty.out 1 0 (by decide) (by decide) (by decide) (by decide) (by decide) (by decide) (by decide)) ?_
  rintro e w11 ⟨qF, rfl, kk, tt⟩
  replace K := Lib.hid (K.out.trans kk)
  replace Tt := Lib.hid (Tt.out.kp kk)
  replace Tx := Lib.hid (Tx.out.kp kk)
  replace Ty := Lib.hid (Ty.out.kp kk)
  replace TB := Lib.hid (TB.out.kp kk)
  replace TD := Lib.hid (TD.out.kp kk)
  replace TE := Lib.hid (TE.out.kp kk)
  have TF := Lib.hid tt
  clear kk tt
  go_wp2_with fail
  refine Calls.mono (put_ok Tt.out TF.out 0 (by decide) (by decide) (by decide) (by decide) (by decide) (by decide) (by decide) (by decide)) ?_
  rintro e w12 ⟨qG, rfl, kk, tt⟩
  replace K := Lib.hid (K.out.trans kk)
  replace Tt := Lib.hid (Tt.out.kp kk)
  replace Tx := Lib.hid (Tx.out.kp kk)
  replace Ty := Lib.hid (Ty.out.kp kk)
  replace TB := Lib.hid (TB.out.kp kk)
  replace TD := Lib.hid (TD.out.kp kk)
  replace TE := Lib.hid (TE.out.kp kk)
  replace TF := Lib.hid (TF.out.kp kk)
  have TG := Lib.hid tt
  clear kk tt
  go_wp2_with fail
  clear TF
  refine Calls.mono (put_ok TG.out Tx.out 0 (by decide) (by decide) (by decide) (by decide) (by decide) (by decide) (by decide) (by decide)) ?_
  rintro e w13 ⟨qH, rfl, kk, tt⟩
  replace K := Lib.hid (K.out.trans kk)
  replace Tt := Lib.hid (Tt.out.kp kk)
  replace Tx := Lib.hid (Tx.out.kp kk)
  replace Ty := Lib.hid (Ty.out.kp kk)
  replace TB := Lib.hid (TB.out.kp kk)
  replace TD := Lib.hid (TD.out.kp kk)
  replace TE := Lib.hid (TE.out.kp kk)
  replace TG := Lib.hid (TG.out.kp kk)
  have TH := Lib.hid tt
  clear kk tt
  go_wp2_with fail
  clear TG
  refine Calls.mono (free_any (by decide) (by decide) Tt.out.ok _ _ Tt.out.at') ?_
  rintro e w14 ⟨rfl, kk⟩
  replace K := Lib.hid (K.out.trans kk)
  replace Tt := Lib.hid (Tt.out.kp kk)
  replace Tx := Lib.hid (Tx.out.kp kk)
  replace Ty := Lib.hid (Ty.out.kp kk)
  replace TB := Lib.hid (TB.out.kp kk)
  replace TD := Lib.hid (TD.out.kp kk)
  replace TE := Lib.hid (TE.out.kp kk)
  replace TH := Lib.hid (TH.out.kp kk)
  clear kk
  go_wp2_with fail
  refine Calls.mono (put_ok Tt.out Tx.out (free t) (by decide) (by decide) (by decide) (by decide) (by decide) (by decide) F1.out.1 (by have := F1.out.2; omega)) ?_
  rintro e w15 ⟨qI, rfl, kk, tt⟩
  replace K := Lib.hid (K.out.trans kk)
  replace Tt := Lib.hid (Tt.out.kp kk)
  replace Tx := Lib.hid (Tx.out.kp kk)
  replace Ty := Lib.hid (Ty.out.kp kk)
  replace TB := Lib.hid (TB.out.kp kk)
  replace TD := Lib.hid (TD.out.kp kk)
  replace TE := Lib.hid (TE.out.kp kk)
  replace TH := Lib.hid (TH.out.kp kk)
  have TI := Lib.hid tt
  clear kk tt
  go_wp2_with fail
  refine Calls.mono (same_yes E1.out TB.out.at' Tt.out.at') ?_
  rintro e w16 ⟨rfl, kk⟩
  replace K := Lib.hid (K.out.trans kk)
  replace Tt := Lib.hid (Tt.out.kp kk)
  replace Tx := Lib.hid (Tx.out.kp kk)
  replace Ty := Lib.hid (Ty.out.kp kk)
  replace TB := Lib.hid (TB.out.kp kk)
  replace TD := Lib.hid (TD.out.kp kk)
  replace TE := Lib.hid (TE.out.kp kk)
  replace TH := Lib.hid (TH.out.kp kk)
  replace TI := Lib.hid (TI.out.kp kk)
  clear kk
  go_wp2_with fail
  clear TB
  refine Calls.mono (lift_ok Tt.out 5 0 (by decide) (by decide) (by decide) (by decide) (by decide) (by decide) (by decide)) ?_
  rintro e w17 ⟨qJ, rfl, kk, tt⟩
  replace K := Lib.hid (K.out.trans kk)
  replace Tt := Lib.hid (Tt.out.kp kk)
  replace Tx := Lib.hid (Tx.out.kp kk)
  replace Ty := Lib.hid (Ty.out.kp kk)
  replace TD := Lib.hid (TD.out.kp kk)
  replace TE := Lib.hid (TE.out.kp kk)
  replace TH := Lib.hid (TH.out.kp kk)
  replace TI := Lib.hid (TI.out.kp kk)
  have TJ := Lib.hid tt
  clear kk tt
  go_wp2_with fail
  refine Calls.mono (same_yes E2.out TD.out.at' TJ.out.at') ?_
  rintro e w18 ⟨rfl, kk⟩
  replace K := Lib.hid (K.out.trans kk)
  replace Tt := Lib.hid (Tt.out.kp kk)
  replace Tx := Lib.hid (Tx.out.kp kk)
  replace Ty := Lib.hid (Ty.out.kp kk)
  replace TD := Lib.hid (TD.out.kp kk)
  replace TE := Lib.hid (TE.out.kp kk)
  replace TH := Lib.hid (TH.out.kp kk)
  replace TI := Lib.hid (TI.out.kp kk)
  replace TJ := Lib.hid (TJ.out.kp kk)
  clear kk
  go_wp2_with fail
  clear TD
  clear TJ
  refine Calls.mono (same_yes E3.out TE.out TH.out.at') ?_
  rintro e w19 ⟨rfl, kk⟩
  replace K := Lib.hid (K.out.trans kk)
  replace Tt := Lib.hid (Tt.out.kp kk)
  replace Tx := Lib.hid (Tx.out.kp kk)
  replace Ty := Lib.hid (Ty.out.kp kk)
  replace TE := Lib.hid (TE.out.kp kk)
  replace TH := Lib.hid (TH.out.kp kk)
  replace TI := Lib.hid (TI.out.kp kk)
  clear kk
  go_wp2_with fail
  clear TE
  clear TH
  refine Calls.mono (same_yes E4.out TI.out.at' Tt.out.at') ?_
  rintro e w20 ⟨rfl, kk⟩
  replace K := Lib.hid (K.out.trans kk)
  replace Tt := Lib.hid (Tt.out.kp kk)
  replace Tx := Lib.hid (Tx.out.kp kk)
  replace Ty := Lib.hid (Ty.out.kp kk)
  replace TI := Lib.hid (TI.out.kp kk)
  clear kk
  go_wp2_with fail
  go_ret
  exact ⟨rfl, K.out⟩
end Go.Proofs.Ytphdfopdephanaa
