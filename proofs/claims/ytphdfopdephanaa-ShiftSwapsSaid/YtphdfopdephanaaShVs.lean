/- The law ShiftSwaps: its walk. -/
import Derived.Test.YtphdfopdephanaaShVz
namespace Go.Proofs.Ytphdfopdephanaa
open Go.RowKit Go.ChangeMaps

set_option maxHeartbeats 6400000 in
theorem swaps_any (s u v : ByteArray) (Hs : s.size ≤ 1000000000000000) (Hu : u.size ≤ 1000000000000000) (Hv : v.size ≤ 1000000000000000) (w : World) :
    Calls Try.prog 7 #[.string s, .string u, .string v] w (YesPost w) := by
  have K : Hid (Kp [] w w) := Kp.refl [] w
  go_enter Try.func7, Try.ntmps7
  go_wp2_with fail
  refine Calls.mono (known_any _) ?_
  rintro e w1 ⟨rfl, kk⟩
  replace K := Lib.hid (K.out.trans kk)
  clear kk
  go_wp2_with fail
  refine Calls.mono (hterm_any s Hs _) ?_
  rintro e w2 ⟨qt, rfl, kk, tt⟩
  replace K := Lib.hid (K.out.trans kk)
  have Rt : Hid (RT w2 qt) := tt
  clear kk tt
  go_wp2_with fail
  refine Calls.mono (hterm_any u Hu _) ?_
  rintro e w3 ⟨qx, rfl, kk, tt⟩
  replace K := Lib.hid (K.out.trans kk)
  replace Rt := Lib.hid (Rt.out.kp kk)
  have Rx : Hid (RT w3 qx) := tt
  clear kk tt
  go_wp2_with fail
  refine Calls.mono (hterm_any v Hv _) ?_
  rintro e w4 ⟨qy, rfl, kk, tt⟩
  replace K := Lib.hid (K.out.trans kk)
  replace Rt := Lib.hid (Rt.out.kp kk)
  replace Rx := Lib.hid (Rx.out.kp kk)
  have Ry : Hid (RT w4 qy) := tt
  clear kk tt
  rcases Rt.out with h | ⟨t, ht⟩
  · subst h
    clear Rt Rx Ry
    go_wp2_with fail
    go_ret
    exact ⟨rfl, K.out⟩
  obtain ⟨gt, rfl⟩ := ht.some
  have Tt := Lib.hid ht.tok
  clear Rt ht
  rcases Rx.out with h | ⟨x, hx⟩
  · subst h
    clear Rx Ry
    go_wp2_with fail
    go_ret
    exact ⟨rfl, K.out⟩
  obtain ⟨gx, rfl⟩ := hx.some
  have Tx := Lib.hid hx.tok
  clear Rx hx
  rcases Ry.out with h | ⟨y, hy⟩
  · subst h
    clear Ry
    go_wp2_with fail
    go_ret
    exact ⟨rfl, K.out⟩
  obtain ⟨gy, rfl⟩ := hy.some
  have Ty := Lib.hid hy.tok
  clear Ry hy
  go_wp2_with fail
  refine Calls.mono (light_any Tt.out.at' Tx.out.at' Ty.out.at') ?_
  rintro e w5 ⟨b, rfl, rfl⟩
  cases b
  · go_wp2_with fail
    go_ret
    exact ⟨rfl, K.out⟩
  go_wp2_with fail
  have E := Lib.hid (put_swap Tt.out.ok Tx.out.ok Ty.out.ok 0 (Int.le_refl _))
  refine Calls.mono (put_ok Tt.out Tx.out 0 (by decide) (by decide) (by decide) (by decide) (by decide) (by decide) (by decide) (by decide)) ?_
  rintro e w6 ⟨qA, rfl, kk, tt⟩
  replace K := Lib.hid (K.out.trans kk)
  replace Tt := Lib.hid (Tt.out.kp kk)
  replace Tx := Lib.hid (Tx.out.kp kk)
  replace Ty := Lib.hid (Ty.out.kp kk)
  have TA := Lib.hid tt
  clear kk tt
  go_wp2_with fail
  refine Calls.mono (put_ok TA.out Ty.out 0 (by decide) (by decide) (by decide) (by decide) (by decide) (by decide) (by decide) (by decide)) ?_
  rintro e w7 ⟨qB, rfl, kk, tt⟩
  replace K := Lib.hid (K.out.trans kk)
  replace Tt := Lib.hid (Tt.out.kp kk)
  replace Tx := Lib.hid (Tx.out.kp kk)
  replace Ty := Lib.hid (Ty.out.kp kk)
  replace TA := Lib.hid (TA.out.kp kk)
  have TB := Lib.hid tt
  clear kk tt
  go_wp2_with fail
  clear TA
  refine Calls.mono (lift_ok Ty.out 1 0 (by decide) (by decide) (by decide) (by decide) (by decide) (by decide) (by decide)) ?_
  rintro e w8 ⟨qC, rfl, kk, tt⟩
  replace K := Lib.hid (K.out.trans kk)
  replace Tt := Lib.hid (Tt.out.kp kk)
  replace Tx := Lib.hid (Tx.out.kp kk)
  replace Ty := Lib.hid (Ty.out.kp kk)
  replace TB := Lib.hid (TB.out.kp kk)
  have TC := Lib.hid tt
  clear kk tt
  go_wp2_with fail
  refine Calls.mono (put_ok Tt.out TC.out 1 (by decide) (by decide) (by decide) (by decide) (by decide) (by decide) (by decide) (by decide)) ?_
  rintro e w9 ⟨qD, rfl, kk, tt⟩
  replace K := Lib.hid (K.out.trans kk)
  replace Tt := Lib.hid (Tt.out.kp kk)
  replace Tx := Lib.hid (Tx.out.kp kk)
  replace Ty := Lib.hid (Ty.out.kp kk)
  replace TB := Lib.hid (TB.out.kp kk)
  replace TC := Lib.hid (TC.out.kp kk)
  have TD := Lib.hid tt
  clear kk tt
  go_wp2_with fail
  clear Tt
  clear TC
  refine Calls.mono (put_ok Tx.out Ty.out 0 (by decide) (by decide) (by decide) (by decide) (by decide) (by decide) (by decide) (by decide)) ?_
  rintro e w10 ⟨qF, rfl, kk, tt⟩
  replace K := Lib.hid (K.out.trans kk)
  replace Tx := Lib.hid (Tx.out.kp kk)
  replace Ty := Lib.hid (Ty.out.kp kk)
  replace TB := Lib.hid (TB.out.kp kk)
  replace TD := Lib.hid (TD.out.kp kk)
  have TF := Lib.hid tt
  clear kk tt
  go_wp2_with fail
  clear Tx
  clear Ty
  refine Calls.mono (put_ok TD.out TF.out 0 (by decide) (by decide) (by decide) (by decide) (by decide) (by decide) (by decide) (by decide)) ?_
  rintro e w11 ⟨qG, rfl, kk, tt⟩
  replace K := Lib.hid (K.out.trans kk)
  replace TB := Lib.hid (TB.out.kp kk)
  replace TD := Lib.hid (TD.out.kp kk)
  replace TF := Lib.hid (TF.out.kp kk)
  have TG := Lib.hid tt
  clear kk tt
  go_wp2_with fail
  clear TD
  clear TF
  refine Calls.mono (same_yes E.out TB.out.at' TG.out.at') ?_
  rintro e w12 ⟨rfl, kk⟩
  replace K := Lib.hid (K.out.trans kk)
  replace TB := Lib.hid (TB.out.kp kk)
  replace TG := Lib.hid (TG.out.kp kk)
  clear kk
  go_wp2_with fail
  go_ret
  exact ⟨rfl, K.out⟩
end Go.Proofs.Ytphdfopdephanaa
