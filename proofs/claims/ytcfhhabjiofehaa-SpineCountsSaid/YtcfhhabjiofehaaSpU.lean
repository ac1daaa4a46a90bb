/- What is known of terms, of rows between calls; the law's known(). -/
import Derived.Test.YtcfhhabjiofehaaSpB
namespace Go.Proofs.Ytcfhhabjiofehaa
open Go.RowKit

/-- A term, told with its place first. -/
structure TA (w : World) (t : Tm) (q : Option Addr) : Prop where
  at' : TmAt w t q
theorem TA.kp {w w2 : World} {t : Tm} {q : Option Addr} (h : TA w t q) (K : Kp [] w w2) : TA w2 t q := ⟨TmAt.kp K h.at'⟩
/-- A row of terms, wherever it lies. -/
structure RA (w : World) (v : Value) (ps : List (Option Addr)) (l : List Tm) : Prop where
  row : Row w 0 v ps l
theorem RA.mk' {w : World} {B : Nat} {v : Value} {ps : List (Option Addr)} {l : List Tm} (h : Row w B v ps l) : RA w v ps l := ⟨h.mono (Nat.zero_le _)⟩
theorem RA.kp {w w2 : World} {v : Value} {ps : List (Option Addr)} {l : List Tm} (h : RA w v ps l) (K : Kp [] w w2) : RA w2 v ps l := ⟨h.row.kp0 K⟩
/-- From one world to another. -/
structure KB (a w : World) : Prop where
  k : Kp [] a w
theorem KB.kp {a w w2 : World} (h : KB a w) (K : Kp [] w w2) : KB a w2 := ⟨h.k.trans K⟩
theorem RA.form {w : World} {v : Value} {ps : List (Option Addr)} {l : List Tm} (h : RA w v ps l) : ∃ a c, v = .slice a l.length c ∧ ps.length = l.length := by
  obtain ⟨a, c, h1⟩ := h.row.slice
  rw [← h.row.len] at h1
  exact ⟨a, c, h1, h.row.len.symm⟩
theorem RA.ptrs {w : World} {n c : Nat} {a : Option Addr} {ps : List (Option Addr)} {l : List Tm} (h : RA w (.slice a n c) ps l) : n = ps.length ∧ PtrsAt w w.heap.size a ps ∧ TmsAt w ps l := ⟨h.row.ptrs.2, h.row.ptrs.1, h.row.tms⟩
/-- A row of two, made anew. -/
theorem two_row {w : World} {x y : Tm} {qx qy : Option Addr} (hx : TA w x qx) (hy : TA w y qy) : PtrsAt (w.alloc (.cells #[.pointer qx, .pointer qy] 24)) (w.alloc (.cells #[.pointer qx, .pointer qy] 24)).heap.size (some ⟨w.heap.size, 0, none⟩) [qx, qy] ∧ TmsAt (w.alloc (.cells #[.pointer qx, .pointer qy] 24)) [qx, qy] [x, y] := by
  have K : Kp [] w (w.alloc (.cells #[.pointer qx, .pointer qy] 24)) := (Kp.refl [] w).alloc _
  refine ⟨fun i q hq => ⟨w.heap.size, 0, rfl, by simp, ?_⟩, rfl, fun i q t hq ht => ?_⟩
  · match i with
    | 0 => simp at hq; subst hq; rw [World.cell?_alloc_new]; rfl
    | 1 => simp at hq; subst hq; rw [World.cell?_alloc_new]; rfl
    | i + 2 => simp at hq
  · match i with
    | 0 => simp at hq ht; subst hq; subst ht; exact (hx.kp K).at'
    | 1 => simp at hq ht; subst hq; subst ht; exact (hy.kp K).at'
    | i + 2 => simp at hq
def sA : ByteArray := ⟨#[97]⟩
def sB : ByteArray := ⟨#[98]⟩
def cA : Tm := .node 3 0 sA .nil .nil .nil
def cB : Tm := .node 3 0 sB .nil .nil .nil
set_option maxRecDepth 100000 in
set_option maxHeartbeats 6400000 in
theorem known_any (w : World) : Calls Try.prog 6 #[] w (YesPost w) := by
  have K : Hid (Kp [] w w) := Kp.refl [] w
  unfold YesPost
  go_enter Try.func6, Try.ntmps6
  go_wp2_with fail
  refine Calls.mono (const_any sA _) ?_
  rintro e w1 ⟨qa, rfl, kk, tt⟩
  replace K := Lib.hid (K.out.trans kk)
  have Ta := Lib.hid (TA.mk tt)
  clear kk tt
  go_wp2_with fail
  refine Calls.mono (const_any sB _) ?_
  rintro e w2 ⟨qb, rfl, kk, tt⟩
  replace K := Lib.hid (K.out.trans kk)
  replace Ta := Lib.hid (Ta.out.kp kk)
  have Tb := Lib.hid (TA.mk tt)
  clear kk tt
  go_wp2_with fail
  refine Calls.mono (var_any 2 _) ?_
  rintro e w3 ⟨qv, rfl, kk, tt⟩
  replace K := Lib.hid (K.out.trans kk)
  replace Ta := Lib.hid (Ta.out.kp kk)
  replace Tb := Lib.hid (Tb.out.kp kk)
  have Tv := Lib.hid (TA.mk tt)
  clear kk tt
  go_wp2_with fail
  obtain ⟨hP, hT⟩ := two_row Ta.out Tb.out
  have kk : Kp [] w3 (w3.alloc (.cells #[.pointer qa, .pointer qb] 24)) := (Kp.refl [] w3).alloc _
  replace K := Lib.hid (K.out.trans kk)
  replace Ta := Lib.hid (Ta.out.kp kk)
  replace Tb := Lib.hid (Tb.out.kp kk)
  replace Tv := Lib.hid (Tv.out.kp kk)
  clear kk
  refine Calls.mono (sapply_any (n := 2) (c := 2) (ts := [cA, cB]) rfl (by simp) hP hT Tv.out.at') ?_
  rintro e w4 ⟨qt, rfl, kk, tt⟩
  replace K := Lib.hid (K.out.trans kk)
  replace Ta := Lib.hid (Ta.out.kp kk)
  replace Tb := Lib.hid (Tb.out.kp kk)
  replace Tv := Lib.hid (Tv.out.kp kk)
  have Tt := Lib.hid (TA.mk tt)
  clear kk tt
  clear hP hT
  clear Tv
  go_wp2_with fail
  refine Calls.mono (shead_any (by decide) Tt.out.at') ?_
  rintro e w5 ⟨qh, vh, rfl, ph, kk, rr, tt⟩
  replace K := Lib.hid (K.out.trans kk)
  replace Ta := Lib.hid (Ta.out.kp kk)
  replace Tb := Lib.hid (Tb.out.kp kk)
  replace Tt := Lib.hid (Tt.out.kp kk)
  have e1 : head (apply (vr 2) [cA, cB]) = (vr 2, [cA, cB]) := by rw [head_apply]; rfl
  rw [e1] at rr tt
  clear e1
  replace rr := rr.mono (Nat.zero_le _)
  have Th := Lib.hid (TA.mk tt)
  have Rh := Lib.hid (RA.mk rr)
  clear kk tt rr
  clear Tt
  obtain ⟨gh, hh⟩ : ∃ g, qh = some ⟨g, 0, none⟩ := by obtain ⟨g, _, _, _, h, _⟩ := Th.out.at'; exact ⟨g, h⟩
  subst hh
  obtain ⟨ah, ch, hv, _⟩ := Rh.out.form
  subst hv
  go_wp2_with fail
  refine Calls.mono (pi_any Tb.out.at' Ta.out.at') ?_
  rintro e w6 ⟨qp1, rfl, kk, tt⟩
  replace K := Lib.hid (K.out.trans kk)
  replace Ta := Lib.hid (Ta.out.kp kk)
  replace Tb := Lib.hid (Tb.out.kp kk)
  replace Th := Lib.hid (Th.out.kp kk)
  replace Rh := Lib.hid (Rh.out.kp kk)
  have Tp1 := Lib.hid (TA.mk tt)
  clear kk tt
  go_wp2_with fail
  refine Calls.mono (pi_any Ta.out.at' Tp1.out.at') ?_
  rintro e w7 ⟨qp2, rfl, kk, tt⟩
  replace K := Lib.hid (K.out.trans kk)
  replace Ta := Lib.hid (Ta.out.kp kk)
  replace Tb := Lib.hid (Tb.out.kp kk)
  replace Th := Lib.hid (Th.out.kp kk)
  replace Rh := Lib.hid (Rh.out.kp kk)
  replace Tp1 := Lib.hid (Tp1.out.kp kk)
  have Tp2 := Lib.hid (TA.mk tt)
  clear kk tt
  go_wp2_with fail
  refine Calls.mono (spis_any (t := pi cA (pi cB cA)) (by decide) 1 1 rfl Tp2.out.at') ?_
  rintro e w8 ⟨qp, vp, rfl, pp, kk, rr, tt⟩
  replace K := Lib.hid (K.out.trans kk)
  replace Ta := Lib.hid (Ta.out.kp kk)
  replace Tb := Lib.hid (Tb.out.kp kk)
  replace Th := Lib.hid (Th.out.kp kk)
  replace Rh := Lib.hid (Rh.out.kp kk)
  replace Tp1 := Lib.hid (Tp1.out.kp kk)
  replace Tp2 := Lib.hid (Tp2.out.kp kk)
  have e1 : pis 1 (pi cA (pi cB cA)) = ([cA], pi cB cA) := rfl
  rw [e1] at rr tt
  clear e1
  replace rr := rr.mono (Nat.zero_le _)
  have Tp := Lib.hid (TA.mk tt)
  have Rp := Lib.hid (RA.mk rr)
  clear kk tt rr
  clear Tp1
  clear Tp2
  obtain ⟨gp, hh⟩ : ∃ g, qp = some ⟨g, 0, none⟩ := by obtain ⟨g, _, _, _, h, _⟩ := Tp.out.at'; exact ⟨g, h⟩
  subst hh
  obtain ⟨ap, cp, hv, _⟩ := Rp.out.form
  subst hv
  go_wp2_with fail
  refine Calls.mono (svars_any 2 0 (by decide) (by decide) _) ?_
  rintro e w9 ⟨vx, px, rfl, kk, rr⟩
  replace K := Lib.hid (K.out.trans kk)
  replace Ta := Lib.hid (Ta.out.kp kk)
  replace Tb := Lib.hid (Tb.out.kp kk)
  replace Th := Lib.hid (Th.out.kp kk)
  replace Rh := Lib.hid (Rh.out.kp kk)
  replace Tp := Lib.hid (Tp.out.kp kk)
  replace Rp := Lib.hid (Rp.out.kp kk)
  have e1 : vars 2 ((0 : Nat) : Int) = [vr 1, vr 0] := rfl
  rw [e1] at rr
  clear e1
  replace rr := rr.mono (Nat.zero_le _)
  have Rx := Lib.hid (RA.mk rr)
  clear kk rr
  obtain ⟨ax, cx, hv, _⟩ := Rx.out.form
  subst hv
  dsimp only [List.length_cons, List.length_nil, Nat.zero_add, Nat.reduceAdd]
  obtain ⟨g1, c1, q1, t1, e1, e2, _, _, e3, e4⟩ := Rh.out.row.cell 0 (by rw [← Rh.out.row.len]; decide)
  injection e1 with e1 _ _
  subst e1
  obtain rfl : cA = t1 := by simpa using e3
  obtain ⟨g2, c2, q2, t2, f1, f2, _, _, f3, f4⟩ := Rx.out.row.cell 0 (by rw [← Rx.out.row.len]; decide)
  injection f1 with f1 _ _
  subst f1
  obtain rfl : vr 1 = t2 := by simpa using f3
  obtain ⟨g3, pa3, pb3, pc3, h1, _, h2, _⟩ := f4
  subst h1
  obtain ⟨g4, pa4, pb4, pc4, h3, _, h4, _⟩ := Th.out.at'
  injection h3 with h3
  injection h3 with h3
  subst h3
  have HF : Hid (∀ W, Kp [] w9 W → W.cell? ⟨gh, 1, none⟩ = some (.int .i64 2) ∧ W.cell? ⟨g2, 0, none⟩ = some (.pointer (some ⟨g3, 0, none⟩)) ∧ W.cell? ⟨g3, 1, none⟩ = some (.int .i64 1)) := fun W K => ⟨(h4.kp0 K).cells.2.1, (K.cell0 (World.block_lt_of_cell? _ _ f2)).trans f2, (h2.kp0 K).cells.2.1⟩
  have KF : Hid (KB w9 w9) := ⟨Kp.refl _ _⟩
  have T1 := Lib.hid (TA.mk e4)
  clear e3 e4 f2 f3 h2 h4
  clear Th
  clear Rh
  clear Rx
  obtain ⟨x1, x2, x3⟩ := HF.out _ KF.out.k
  go_wp2_with fail
  clear x1 x2 x3 e2
  refine Calls.mono (same_yes rfl T1.out.at' Ta.out.at') ?_
  rintro e w10 ⟨rfl, kk⟩
  replace K := Lib.hid (K.out.trans kk)
  replace Ta := Lib.hid (Ta.out.kp kk)
  replace Tb := Lib.hid (Tb.out.kp kk)
  replace Tp := Lib.hid (Tp.out.kp kk)
  replace Rp := Lib.hid (Rp.out.kp kk)
  replace KF := Lib.hid (KF.out.kp kk)
  replace T1 := Lib.hid (T1.out.kp kk)
  clear kk
  obtain ⟨x1, x2, x3⟩ := HF.out _ KF.out.k
  go_wp2_with fail
  clear x1 x2 x3
  clear T1
  refine Calls.mono (pi_any Tb.out.at' Ta.out.at') ?_
  rintro e w11 ⟨qr1, rfl, kk, tt⟩
  replace K := Lib.hid (K.out.trans kk)
  replace Ta := Lib.hid (Ta.out.kp kk)
  replace Tb := Lib.hid (Tb.out.kp kk)
  replace Tp := Lib.hid (Tp.out.kp kk)
  replace Rp := Lib.hid (Rp.out.kp kk)
  replace KF := Lib.hid (KF.out.kp kk)
  have Tr1 := Lib.hid (TA.mk tt)
  clear kk tt
  obtain ⟨x1, x2, x3⟩ := HF.out _ KF.out.k
  go_wp2_with fail
  clear x1 x2 x3
  refine Calls.mono (same_yes rfl Tp.out.at' Tr1.out.at') ?_
  rintro e w12 ⟨rfl, kk⟩
  replace K := Lib.hid (K.out.trans kk)
  replace Ta := Lib.hid (Ta.out.kp kk)
  replace Tb := Lib.hid (Tb.out.kp kk)
  replace Tp := Lib.hid (Tp.out.kp kk)
  replace Rp := Lib.hid (Rp.out.kp kk)
  replace KF := Lib.hid (KF.out.kp kk)
  replace Tr1 := Lib.hid (Tr1.out.kp kk)
  clear kk
  obtain ⟨x1, x2, x3⟩ := HF.out _ KF.out.k
  go_wp2_with fail
  clear x1 x2 x3
  clear Tr1
  refine Calls.mono (spi_any Rp.out.ptrs.1 (by rw [← Rp.out.row.len]; decide) Rp.out.ptrs.2.1 Rp.out.ptrs.2.2 Tp.out.at') ?_
  rintro e w13 ⟨qr2, rfl, kk, tt⟩
  replace K := Lib.hid (K.out.trans kk)
  replace Ta := Lib.hid (Ta.out.kp kk)
  replace Tb := Lib.hid (Tb.out.kp kk)
  replace Tp := Lib.hid (Tp.out.kp kk)
  replace Rp := Lib.hid (Rp.out.kp kk)
  replace KF := Lib.hid (KF.out.kp kk)
  have Tr2 := Lib.hid (TA.mk tt)
  clear kk tt
  go_wp2_with fail
  refine Calls.mono (pi_any Tb.out.at' Ta.out.at') ?_
  rintro e w14 ⟨qr3, rfl, kk, tt⟩
  replace K := Lib.hid (K.out.trans kk)
  replace Ta := Lib.hid (Ta.out.kp kk)
  replace Tb := Lib.hid (Tb.out.kp kk)
  replace Tp := Lib.hid (Tp.out.kp kk)
  replace Rp := Lib.hid (Rp.out.kp kk)
  replace KF := Lib.hid (KF.out.kp kk)
  replace Tr2 := Lib.hid (Tr2.out.kp kk)
  have Tr3 := Lib.hid (TA.mk tt)
  clear kk tt
  go_wp2_with fail
  refine Calls.mono (pi_any Ta.out.at' Tr3.out.at') ?_
  rintro e w15 ⟨qr4, rfl, kk, tt⟩
  replace K := Lib.hid (K.out.trans kk)
  replace Ta := Lib.hid (Ta.out.kp kk)
  replace Tb := Lib.hid (Tb.out.kp kk)
  replace Tp := Lib.hid (Tp.out.kp kk)
  replace Rp := Lib.hid (Rp.out.kp kk)
  replace KF := Lib.hid (KF.out.kp kk)
  replace Tr2 := Lib.hid (Tr2.out.kp kk)
  replace Tr3 := Lib.hid (Tr3.out.kp kk)
  have Tr4 := Lib.hid (TA.mk tt)
  clear kk tt
  go_wp2_with fail
  refine Calls.mono (same_yes rfl Tr2.out.at' Tr4.out.at') ?_
  rintro e w16 ⟨rfl, kk⟩
  replace K := Lib.hid (K.out.trans kk)
  replace Ta := Lib.hid (Ta.out.kp kk)
  replace Tb := Lib.hid (Tb.out.kp kk)
  replace Tp := Lib.hid (Tp.out.kp kk)
  replace Rp := Lib.hid (Rp.out.kp kk)
  replace KF := Lib.hid (KF.out.kp kk)
  replace Tr2 := Lib.hid (Tr2.out.kp kk)
  replace Tr3 := Lib.hid (Tr3.out.kp kk)
  replace Tr4 := Lib.hid (Tr4.out.kp kk)
  clear kk
  go_wp2_with fail
  clear Tr2
  clear Tr3
  clear Tr4
  refine Calls.mono (slam_any Rp.out.ptrs.1 (by rw [← Rp.out.row.len]; decide) Rp.out.ptrs.2.1 Rp.out.ptrs.2.2 Tb.out.at') ?_
  rintro e w17 ⟨qr5, rfl, kk, tt⟩
  replace K := Lib.hid (K.out.trans kk)
  replace Ta := Lib.hid (Ta.out.kp kk)
  replace Tb := Lib.hid (Tb.out.kp kk)
  replace Tp := Lib.hid (Tp.out.kp kk)
  replace Rp := Lib.hid (Rp.out.kp kk)
  replace KF := Lib.hid (KF.out.kp kk)
  have Tr5 := Lib.hid (TA.mk tt)
  clear kk tt
  go_wp2_with fail
  refine Calls.mono (lam_any Ta.out.at' Tb.out.at') ?_
  rintro e w18 ⟨qr6, rfl, kk, tt⟩
  replace K := Lib.hid (K.out.trans kk)
  replace Ta := Lib.hid (Ta.out.kp kk)
  replace Tb := Lib.hid (Tb.out.kp kk)
  replace Tp := Lib.hid (Tp.out.kp kk)
  replace Rp := Lib.hid (Rp.out.kp kk)
  replace KF := Lib.hid (KF.out.kp kk)
  replace Tr5 := Lib.hid (Tr5.out.kp kk)
  have Tr6 := Lib.hid (TA.mk tt)
  clear kk tt
  go_wp2_with fail
  refine Calls.mono (same_yes rfl Tr5.out.at' Tr6.out.at') ?_
  rintro e w19 ⟨rfl, kk⟩
  replace K := Lib.hid (K.out.trans kk)
  replace Ta := Lib.hid (Ta.out.kp kk)
  replace Tb := Lib.hid (Tb.out.kp kk)
  replace Tp := Lib.hid (Tp.out.kp kk)
  replace Rp := Lib.hid (Rp.out.kp kk)
  replace KF := Lib.hid (KF.out.kp kk)
  replace Tr5 := Lib.hid (Tr5.out.kp kk)
  replace Tr6 := Lib.hid (Tr6.out.kp kk)
  clear kk
  go_wp2_with fail
  go_ret
  exact ⟨rfl, K.out⟩
end Go.Proofs.Ytcfhhabjiofehaa
