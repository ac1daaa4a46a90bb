/- The law SpineTells: its walk. -/
import Derived.Test.YtcfhhabjiofehaaSpU
namespace Go.Proofs.Ytcfhhabjiofehaa
open Go.RowKit

/-- What Term gave. -/
def RT (w : World) (q : Option Addr) : Prop := q = none ∨ ∃ t, Read w t q
theorem RT.kp {w w2 : World} {q : Option Addr} (h : RT w q) (K : Kp [] w w2) : RT w2 q := h.imp id (fun ⟨t, h⟩ => ⟨t, h.kp K⟩)
theorem StrsAt.up {w : World} {B B2 : Nat} {a : Option Addr} {n : Nat} {sx : Nat → ByteArray} (h : StrsAt w B a n sx) (hB : B ≤ B2) : StrsAt w B2 a n sx := fun i hi => by
  obtain ⟨g, o, h1, h2, h3⟩ := h i hi
  exact ⟨g, o, h1, Nat.lt_of_lt_of_le h2 hB, h3⟩
theorem szs_le {l : List Tm} (h : Reads l) : szs l ≤ 3000 * l.length := by
  induction l with
  | nil => simp [szs]
  | cons x l ih =>
    have h1 := (h x (by simp)).2
    have h2 := ih (fun y hy => h y (by simp [hy]))
    simp only [szs, List.map_cons, List.sum_cons, List.length_cons] at *
    omega
set_option maxRecDepth 100000 in
set_option maxHeartbeats 6400000 in
theorem tells_any (s : ByteArray) (a0 : Option Addr) (n0 c0 : Nat) (sx : Nat → ByteArray) (most n frm : Nat) (hmost : most < 256) (hn : n < 256) (hfrm : frm < 256) (Hs : s.size ≤ 1000000000000000) (Hn : n0 ≤ 10000000000000) (hsx : ∀ i, i < n0 → (sx i).size ≤ 1000000000000000) (w : World) (hS : StrsAt w w.heap.size a0 n0 sx) :
    Calls Try.prog 3 #[.string s, .slice a0 n0 c0, .int .u8 (most : Int), .int .u8 (n : Int), .int .u8 (frm : Int)] w (YesPost w) := by
  have HX := Lib.hid hsx
  have HS := Lib.hid hS
  clear hsx hS
  have K : Hid (Kp [] w w) := Kp.refl [] w
  unfold YesPost
  go_enter Try.func3, Try.ntmps3
  go_wp2_with fail
  refine Calls.mono (known_any _) ?_
  rintro e w1 ⟨rfl, kk⟩
  replace K := Lib.hid (K.out.trans kk)
  clear kk
  go_wp2_with fail
  refine Calls.mono (hterm_any s Hs _) ?_
  rintro e w2 ⟨qt, rfl, kk, tt⟩
  replace K := Lib.hid (K.out.trans kk)
  have Rt : Hid (RT w2 qt) := tt
  clear kk tt
  go_wp2_with fail
  have HSU : StrsAt w2 w2.heap.size a0 n0 sx := (HS.out.kp K.out (Nat.le_refl _)).up K.out.size
  refine Calls.mono (terms_any a0 n0 c0 Hn sx HX.out _ HSU) ?_
  rintro e w3 ⟨av, mv, cv, pv, v, rfl, kk, hmv, hpv, rr, hrd⟩
  replace K := Lib.hid (K.out.trans kk)
  replace Rt := Lib.hid (Rt.out.kp kk)
  have Rv := Lib.hid (RA.mk' rr)
  have HV := Lib.hid (And.intro hmv (And.intro hpv hrd))
  clear kk rr hmv hpv hrd HSU
  rcases Rt.out with h | ⟨t, ht⟩
  · subst h
    clear Rt
    go_wp2_with fail
    go_ret
    exact ⟨rfl, K.out⟩
  obtain ⟨gt, rfl⟩ := ht.some
  have Tt := Lib.hid (TA.mk ht.at')
  have HT := Lib.hid (And.intro ht.ok ht.sz)
  clear Rt ht
  by_cases hbig : 8 < n0
  · have d1 : decide ((8 : Int) < (n0 : Int)) = true := by simp; omega
    have d1' : decide (8 < n0) = true := by simpa using hbig
    go_wp2_with fail
    go_ret
    exact ⟨rfl, K.out⟩
  have d1 : decide ((8 : Int) < (n0 : Int)) = false := by simp; omega
  have d1' : decide (8 < n0) = false := by simpa using hbig
  have hm8 : mv ≤ 8 := by have := HV.out.1; omega
  have Hm8 := Lib.hid hm8
  clear hbig hm8
  obtain ⟨m1, hm1⟩ : ∃ m1 : Nat, m1 = most % 10 := ⟨_, rfl⟩
  obtain ⟨n1, hn1⟩ : ∃ n1 : Nat, n1 = n % 20 := ⟨_, rfl⟩
  have em : (most : Int) % 10 = (m1 : Int) := by omega
  have en : (n : Int) % 20 = (n1 : Int) := by omega
  have hn2 : n1 ≤ 1000 := by omega
  have Hnf := Lib.hid (And.intro hn2 (show frm ≤ 1000000 by omega))
  clear hm1 hn1 hn2
  go_wp2_with fail
  refine Calls.mono (shead_any (by have := HT.out.2; omega) Tt.out.at') ?_
  rintro e w4 ⟨qh, vh, rfl, ph, kk, rr, tt⟩
  replace K := Lib.hid (K.out.trans kk)
  replace Rv := Lib.hid (Rv.out.kp kk)
  replace Tt := Lib.hid (Tt.out.kp kk)
  replace rr := rr.mono (Nat.zero_le _)
  have Th := Lib.hid (TA.mk tt)
  have Rh := Lib.hid (RA.mk rr)
  clear kk tt rr
  obtain ⟨ah, ch, hv, _⟩ := Rh.out.form
  subst hv
  go_wp2_with fail
  refine Calls.mono (rhead_any HT.out.1 (by have := HT.out.2; omega) Tt.out.at') ?_
  rintro e w5 ⟨qg, vg, rfl, pg, kk, rr, tt⟩
  replace K := Lib.hid (K.out.trans kk)
  replace Rv := Lib.hid (Rv.out.kp kk)
  replace Tt := Lib.hid (Tt.out.kp kk)
  replace Th := Lib.hid (Th.out.kp kk)
  replace Rh := Lib.hid (Rh.out.kp kk)
  replace rr := rr.mono (Nat.zero_le _)
  have Tg := Lib.hid (TA.mk tt)
  have Rg := Lib.hid (RA.mk rr)
  clear kk tt rr
  obtain ⟨ag, cg, hv, _⟩ := Rg.out.form
  subst hv
  go_wp2_with fail
  refine Calls.mono (spis_any (by have := HT.out.2; omega) (m1 : Int) m1 (by omega) Tt.out.at') ?_
  rintro e w6 ⟨qp, vp, rfl, pp, kk, rr, tt⟩
  replace K := Lib.hid (K.out.trans kk)
  replace Rv := Lib.hid (Rv.out.kp kk)
  replace Tt := Lib.hid (Tt.out.kp kk)
  replace Th := Lib.hid (Th.out.kp kk)
  replace Rh := Lib.hid (Rh.out.kp kk)
  replace Tg := Lib.hid (Tg.out.kp kk)
  replace Rg := Lib.hid (Rg.out.kp kk)
  replace rr := rr.mono (Nat.zero_le _)
  have Tp := Lib.hid (TA.mk tt)
  have Rp := Lib.hid (RA.mk rr)
  clear kk tt rr
  obtain ⟨ap, cp, hv, _⟩ := Rp.out.form
  subst hv
  go_wp2_with fail
  refine Calls.mono (rpis_any HT.out.1 (by have := HT.out.2; omega) (m1 : Int) m1 (by omega) Tt.out.at') ?_
  rintro e w7 ⟨qr, vr, rfl, pr, kk, rr, tt⟩
  replace K := Lib.hid (K.out.trans kk)
  replace Rv := Lib.hid (Rv.out.kp kk)
  replace Tt := Lib.hid (Tt.out.kp kk)
  replace Th := Lib.hid (Th.out.kp kk)
  replace Rh := Lib.hid (Rh.out.kp kk)
  replace Tg := Lib.hid (Tg.out.kp kk)
  replace Rg := Lib.hid (Rg.out.kp kk)
  replace Tp := Lib.hid (Tp.out.kp kk)
  replace Rp := Lib.hid (Rp.out.kp kk)
  replace rr := rr.mono (Nat.zero_le _)
  have Tr := Lib.hid (TA.mk tt)
  have Rr := Lib.hid (RA.mk rr)
  clear kk tt rr
  obtain ⟨ar, cr, hv, _⟩ := Rr.out.form
  subst hv
  go_wp2_with fail
  refine Calls.mono (same_yes rfl Th.out.at' Tg.out.at') ?_
  rintro e w8 ⟨rfl, kk⟩
  replace K := Lib.hid (K.out.trans kk)
  replace Rv := Lib.hid (Rv.out.kp kk)
  replace Tt := Lib.hid (Tt.out.kp kk)
  replace Th := Lib.hid (Th.out.kp kk)
  replace Rh := Lib.hid (Rh.out.kp kk)
  replace Tg := Lib.hid (Tg.out.kp kk)
  replace Rg := Lib.hid (Rg.out.kp kk)
  replace Tp := Lib.hid (Tp.out.kp kk)
  replace Rp := Lib.hid (Rp.out.kp kk)
  replace Tr := Lib.hid (Tr.out.kp kk)
  replace Rr := Lib.hid (Rr.out.kp kk)
  clear kk
  go_wp2_with fail
  clear Th
  clear Tg
  refine Calls.mono (sameAll_yes Rh.out.ptrs.1 Rg.out.ptrs.1 (by have := row_sz 6 t.sz t; have := HT.out.2; show (head t).2.length ≤ _; unfold head; rw [List.length_reverse]; omega) Rh.out.ptrs.2.1 Rg.out.ptrs.2.1 Rh.out.ptrs.2.2 Rg.out.ptrs.2.2 rfl) ?_
  rintro e w9 ⟨rfl, kk⟩
  replace K := Lib.hid (K.out.trans kk)
  replace Rv := Lib.hid (Rv.out.kp kk)
  replace Tt := Lib.hid (Tt.out.kp kk)
  replace Rh := Lib.hid (Rh.out.kp kk)
  replace Rg := Lib.hid (Rg.out.kp kk)
  replace Tp := Lib.hid (Tp.out.kp kk)
  replace Rp := Lib.hid (Rp.out.kp kk)
  replace Tr := Lib.hid (Tr.out.kp kk)
  replace Rr := Lib.hid (Rr.out.kp kk)
  clear kk
  go_wp2_with fail
  clear Rh
  clear Rg
  refine Calls.mono (sameAll_yes Rp.out.ptrs.1 Rr.out.ptrs.1 (by have := row_sz 4 m1 t; have := HT.out.2; show (pis m1 t).1.length ≤ _; unfold pis; omega) Rp.out.ptrs.2.1 Rr.out.ptrs.2.1 Rp.out.ptrs.2.2 Rr.out.ptrs.2.2 rfl) ?_
  rintro e w10 ⟨rfl, kk⟩
  replace K := Lib.hid (K.out.trans kk)
  replace Rv := Lib.hid (Rv.out.kp kk)
  replace Tt := Lib.hid (Tt.out.kp kk)
  replace Tp := Lib.hid (Tp.out.kp kk)
  replace Rp := Lib.hid (Rp.out.kp kk)
  replace Tr := Lib.hid (Tr.out.kp kk)
  replace Rr := Lib.hid (Rr.out.kp kk)
  clear kk
  go_wp2_with fail
  clear Rp
  clear Rr
  refine Calls.mono (same_yes rfl Tp.out.at' Tr.out.at') ?_
  rintro e w11 ⟨rfl, kk⟩
  replace K := Lib.hid (K.out.trans kk)
  replace Rv := Lib.hid (Rv.out.kp kk)
  replace Tt := Lib.hid (Tt.out.kp kk)
  replace Tp := Lib.hid (Tp.out.kp kk)
  replace Tr := Lib.hid (Tr.out.kp kk)
  clear kk
  go_wp2_with fail
  clear Tp
  clear Tr
  refine Calls.mono (sapply_any Rv.out.ptrs.1 (by rw [HV.out.2.1]; have := Hm8.out; omega) Rv.out.ptrs.2.1 Rv.out.ptrs.2.2 Tt.out.at') ?_
  rintro e w12 ⟨qq1, rfl, kk, tt⟩
  replace K := Lib.hid (K.out.trans kk)
  replace Rv := Lib.hid (Rv.out.kp kk)
  replace Tt := Lib.hid (Tt.out.kp kk)
  have Tq1 := Lib.hid (TA.mk tt)
  clear kk tt
  go_wp2_with fail
  refine Calls.mono (rapply_any Rv.out.ptrs.1 (by have := Hm8.out; omega) Rv.out.ptrs.2.1 Rv.out.ptrs.2.2 Tt.out.at') ?_
  rintro e w13 ⟨qq2, rfl, kk, tt⟩
  replace K := Lib.hid (K.out.trans kk)
  replace Rv := Lib.hid (Rv.out.kp kk)
  replace Tt := Lib.hid (Tt.out.kp kk)
  replace Tq1 := Lib.hid (Tq1.out.kp kk)
  have Tq2 := Lib.hid (TA.mk tt)
  clear kk tt
  go_wp2_with fail
  refine Calls.mono (same_yes rfl Tq1.out.at' Tq2.out.at') ?_
  rintro e w14 ⟨rfl, kk⟩
  replace K := Lib.hid (K.out.trans kk)
  replace Rv := Lib.hid (Rv.out.kp kk)
  replace Tt := Lib.hid (Tt.out.kp kk)
  replace Tq1 := Lib.hid (Tq1.out.kp kk)
  replace Tq2 := Lib.hid (Tq2.out.kp kk)
  clear kk
  go_wp2_with fail
  clear Tq1
  clear Tq2
  refine Calls.mono (spi_any Rv.out.ptrs.1 (by rw [HV.out.2.1]; have := Hm8.out; omega) Rv.out.ptrs.2.1 Rv.out.ptrs.2.2 Tt.out.at') ?_
  rintro e w15 ⟨qC, rfl, kk, tt⟩
  replace K := Lib.hid (K.out.trans kk)
  replace Rv := Lib.hid (Rv.out.kp kk)
  replace Tt := Lib.hid (Tt.out.kp kk)
  have TC := Lib.hid (TA.mk tt)
  clear kk tt
  go_wp2_with fail
  refine Calls.mono (rpi_any Rv.out.ptrs.1 (by have := Hm8.out; omega) Rv.out.ptrs.2.1 Rv.out.ptrs.2.2 Tt.out.at') ?_
  rintro e w16 ⟨qD, rfl, kk, tt⟩
  replace K := Lib.hid (K.out.trans kk)
  replace Rv := Lib.hid (Rv.out.kp kk)
  replace Tt := Lib.hid (Tt.out.kp kk)
  replace TC := Lib.hid (TC.out.kp kk)
  have TD := Lib.hid (TA.mk tt)
  clear kk tt
  go_wp2_with fail
  refine Calls.mono (same_yes rfl TC.out.at' TD.out.at') ?_
  rintro e w17 ⟨rfl, kk⟩
  replace K := Lib.hid (K.out.trans kk)
  replace Rv := Lib.hid (Rv.out.kp kk)
  replace Tt := Lib.hid (Tt.out.kp kk)
  replace TC := Lib.hid (TC.out.kp kk)
  replace TD := Lib.hid (TD.out.kp kk)
  clear kk
  go_wp2_with fail
  clear TC
  clear TD
  refine Calls.mono (slam_any Rv.out.ptrs.1 (by rw [HV.out.2.1]; have := Hm8.out; omega) Rv.out.ptrs.2.1 Rv.out.ptrs.2.2 Tt.out.at') ?_
  rintro e w18 ⟨qE, rfl, kk, tt⟩
  replace K := Lib.hid (K.out.trans kk)
  replace Rv := Lib.hid (Rv.out.kp kk)
  replace Tt := Lib.hid (Tt.out.kp kk)
  have TE := Lib.hid (TA.mk tt)
  clear kk tt
  go_wp2_with fail
  refine Calls.mono (rlam_any Rv.out.ptrs.1 (by have := Hm8.out; omega) Rv.out.ptrs.2.1 Rv.out.ptrs.2.2 Tt.out.at') ?_
  rintro e w19 ⟨qF, rfl, kk, tt⟩
  replace K := Lib.hid (K.out.trans kk)
  replace Rv := Lib.hid (Rv.out.kp kk)
  replace Tt := Lib.hid (Tt.out.kp kk)
  replace TE := Lib.hid (TE.out.kp kk)
  have TF := Lib.hid (TA.mk tt)
  clear kk tt
  go_wp2_with fail
  refine Calls.mono (same_yes rfl TE.out.at' TF.out.at') ?_
  rintro e w20 ⟨rfl, kk⟩
  replace K := Lib.hid (K.out.trans kk)
  replace Rv := Lib.hid (Rv.out.kp kk)
  replace Tt := Lib.hid (Tt.out.kp kk)
  replace TE := Lib.hid (TE.out.kp kk)
  replace TF := Lib.hid (TF.out.kp kk)
  clear kk
  go_wp2_with fail
  clear TE
  clear TF
  clear Tt
  clear Rv
  refine Calls.mono (svars_any n1 frm Hnf.out.1 Hnf.out.2 _) ?_
  rintro e w21 ⟨vx, px, rfl, kk, rr⟩
  replace K := Lib.hid (K.out.trans kk)
  replace rr := rr.mono (Nat.zero_le _)
  have Rx := Lib.hid (RA.mk rr)
  clear kk rr
  obtain ⟨ax, cx, hv, _⟩ := Rx.out.form
  subst hv
  dsimp only
  go_wp2_with fail
  refine Calls.mono (rvars_any n1 frm Hnf.out.1 Hnf.out.2 _) ?_
  rintro e w22 ⟨vy, py, rfl, kk, rr⟩
  replace K := Lib.hid (K.out.trans kk)
  replace Rx := Lib.hid (Rx.out.kp kk)
  replace rr := rr.mono (Nat.zero_le _)
  have Ry := Lib.hid (RA.mk rr)
  clear kk rr
  obtain ⟨ay, cy, hv, _⟩ := Ry.out.form
  subst hv
  dsimp only
  go_wp2_with fail
  refine Calls.mono (sameAll_yes Rx.out.ptrs.1 Ry.out.ptrs.1 (by have := Hnf.out.1; show (vars n1 (frm : Int)).length ≤ _; unfold vars; rw [List.length_map, List.length_range]; omega) Rx.out.ptrs.2.1 Ry.out.ptrs.2.1 Rx.out.ptrs.2.2 Ry.out.ptrs.2.2 rfl) ?_
  rintro e w23 ⟨rfl, kk⟩
  replace K := Lib.hid (K.out.trans kk)
  replace Rx := Lib.hid (Rx.out.kp kk)
  replace Ry := Lib.hid (Ry.out.kp kk)
  clear kk
  go_wp2_with fail
  go_ret
  exact ⟨rfl, K.out⟩
end Go.Proofs.Ytcfhhabjiofehaa
