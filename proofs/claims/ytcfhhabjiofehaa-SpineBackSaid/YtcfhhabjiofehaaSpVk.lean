/- The law SpineBack: its walk. -/
import Derived.Test.YtcfhhabjiofehaaSpVt
namespace Go.Proofs.Ytcfhhabjiofehaa
open Go.RowKit

/-- A head is no application; what is behind a whole telescope is no product. -/
theorem head_kind {t : Tm} (h : Okn t) : ∃ z n s a b c, (head t).1 = .node z n s a b c ∧ z ≠ 6 := by
  have h1 := (row_ok 6 (.inr rfl) t.sz t h).2
  have h2 := row_end 6 t.sz t (Nat.le_refl _)
  unfold head
  cases he : (row 6 t.sz t).2 with
  | nil => exact absurd he h1.2
  | node z n s a b c => exact ⟨z, n, s, a, b, c, rfl, fun e => h2 n s a b c (by rw [he, e])⟩
theorem pis_kind {t : Tm} (h : Okn t) {m : Nat} (hm : t.sz ≤ m) : ∃ z n s a b c, (pis m t).2 = .node z n s a b c ∧ z ≠ 4 := by
  have h1 := (row_ok 4 (.inl rfl) m t h).2
  have h2 := row_end 4 m t hm
  unfold pis
  cases he : (row 4 m t).2 with
  | nil => exact absurd he h1.2
  | node z n s a b c => exact ⟨z, n, s, a, b, c, rfl, fun e => h2 n s a b c (by rw [he, e])⟩
/-- A call of append, guarded or not, by what it runs to. -/
theorem wpList_append_at {P : Program} {ops : Array Oper} {rest : List Oper} {o : Oper} {a : Act} {w : World} {Q : Exit → Act → World → Prop} (s x : Operand) (t : TypeId)
    (hop : o.op = Op.call { callee := Callee.builtin Builtin.append, args := #[s, x], argTypes := #[t, t] }) (hw : Region.wanted o (yielded ops a.tmps) = true) {vs vx v' : Value} {w' : World} (hs : a.eval s = vs) (hx : a.eval x = vx)
    (hrun : (Builtin.append_ #[t, t] o.type #[vs, vx]).run P w = .ok v' w') (hK : wpList P ops Q rest (a.put o.dst v') w') : wpList P ops Q (o :: rest) a w := by
  refine wpList_step fun K hK' => ?_
  rw [if_pos hw]
  unfold Oper.wp
  simp [execOp, hop, resolve, invoke, builtin, hs, hx, hrun, Result.andThen]
  exact hK' _ _ hK
/-- Two rows, one behind the other. -/
theorem append_rows {w : World} {v u : Value} {ps qs : List (Option Addr)} {l k : List Tm} (hx : Row w 0 v ps l) (hv : Row w 0 u qs k) (hb : ps.length + qs.length ≤ 1000000000000) :
    ∃ a c w', (Builtin.append_ #[26, 26] 26 #[v, u]).run Try.prog w = .ok (.slice a (l ++ k).length c) w' ∧ RA w' (.slice a (l ++ k).length c) (ps ++ qs) (l ++ k) ∧ Kp v.ownBlock.toList w w' := by
  obtain ⟨i0, hi0, hz0, hz1, hz2⟩ := info_parts ptrInfo
  have hlen : (l ++ k).length = (ps ++ qs).length := by rw [List.length_append, List.length_append, hx.len, hv.len]
  rw [hlen]
  rcases hv.form with ⟨rfl, rfl⟩ | ⟨g, c, cs, rfl, _, hg⟩
  · have hr := run_append_owned_none (P := Try.prog) w 0 26 26 24 i0 1 Try.underlying26 hi0 v ps.length _ hx.own
    obtain ⟨a, c, ha⟩ := hx.slice
    have hk : k = [] := List.eq_nil_of_length_eq_zero (by rw [hv.len]; rfl)
    subst hk
    rw [List.append_nil, List.append_nil]
    rw [ha] at hr hx ⊢
    exact ⟨a, c, w, hr, ⟨hx⟩, Kp.refl _ _⟩
  · have hnews : ∀ j u, (qs.map Value.pointer)[j]? = some u → w.cell? ((⟨g, 0, none⟩ : Addr).add j) = some u := by
      intro j u hj
      exact hv.own.cells (by simp [Value.ownBlock]) j u hj
    have hone : ∀ u ∈ qs.map Value.pointer, u.oneCell' = true := by
      intro u hu
      obtain ⟨q, _, rfl⟩ := List.mem_map.1 hu
      rfl
    obtain ⟨v', w', hr, ho, hgr, _⟩ := run_append_own (P := Try.prog) w 0 26 26 24 i0 (.pointer none) 1 8 Try.underlying26 hi0 hz0 hz1 hz2 rfl (by decide) v ps.length _ hx.own ⟨g, 0, none⟩ qs.length c (qs.map Value.pointer) (by simp) hnews hone (by unfold maxLen; omega) (by omega) (Nat.zero_le _)
    have K : Kp v.ownBlock.toList w w' := (Kp.refl _ w).grown hgr (fun g hg => .inl (by rw [hg]; simp))
    have hF := fun g hg => (hx.own_ge g hg).2
    have hrow : Row w' 0 v' (ps ++ qs) (l ++ k) := by
      refine ⟨by simpa using ho, by simp [hx.len, hv.len], fun i q t h1 h2 => ?_⟩
      rcases Nat.lt_or_ge i ps.length with hi | hi
      · rw [List.getElem?_append_left hi] at h1
        rw [List.getElem?_append_left (by rw [hx.len]; exact hi)] at h2
        exact (hx.trm i q t h1 h2).row K hF
      · rw [List.getElem?_append_right hi] at h1
        rw [List.getElem?_append_right (by rw [hx.len]; exact hi), hx.len] at h2
        exact (hv.trm _ q t h1 h2).row K hF
    obtain ⟨a, c2, ha⟩ := hrow.slice
    rw [ha] at hr hrow
    exact ⟨a, c2, w', hr, ⟨hrow⟩, K⟩
set_option maxRecDepth 100000 in
set_option maxHeartbeats 6400000 in
theorem back_any (s : ByteArray) (a0 : Option Addr) (n0 c0 : Nat) (sx : Nat → ByteArray) (Hs : s.size ≤ 1000000000000000) (Hn : n0 ≤ 10000000000000) (hsx : ∀ i, i < n0 → (sx i).size ≤ 1000000000000000) (w : World) (hS : StrsAt w w.heap.size a0 n0 sx) :
    Calls Try.prog 4 #[.string s, .slice a0 n0 c0] w (YesPost w) := by
  have HX := Lib.hid hsx
  have HS := Lib.hid hS
  clear hsx hS
  have K : Hid (Kp [] w w) := Kp.refl [] w
  unfold YesPost
  go_enter Try.func4, Try.ntmps4
  go_wp2_with fail
  refine Calls.mono (known_any _) ?_
  rintro e w1 ⟨rfl, kk⟩
  replace K := Lib.hid (K.out.trans kk)
  clear kk
  go_wp2_with fail
  refine Calls.mono (hterm_any s Hs _) ?_
  rintro e w2 ⟨qt, rfl, kk, tt⟩
  replace K := Lib.hid (K.out.trans kk)
  have Rt : Hid (RT w2 qt) := tt
  clear kk tt
  go_wp2_with fail
  have HSU : StrsAt w2 w2.heap.size a0 n0 sx := (HS.out.kp K.out (Nat.le_refl _)).up K.out.size
  refine Calls.mono (terms_any a0 n0 c0 Hn sx HX.out _ HSU) ?_
  rintro e w3 ⟨av, mv, cv, pv, v, rfl, kk, hmv, hpv, rr, hrd⟩
  replace K := Lib.hid (K.out.trans kk)
  replace Rt := Lib.hid (Rt.out.kp kk)
  have Rv := Lib.hid (RA.mk' rr)
  have HV := Lib.hid (And.intro hmv (And.intro hpv hrd))
  clear kk rr hmv hpv hrd HSU
  rcases Rt.out with h | ⟨t, ht⟩
  · subst h
    clear Rt
    go_wp2_with fail
    go_ret
    exact ⟨rfl, K.out⟩
  obtain ⟨gt, rfl⟩ := ht.some
  have Tt := Lib.hid (TA.mk ht.at')
  have HT := Lib.hid (And.intro ht.ok ht.sz)
  clear Rt ht
  by_cases hbig : 8 < n0
  · have d1 : decide ((8 : Int) < (n0 : Int)) = true := by simp; omega
    have d1' : decide (8 < n0) = true := by simpa using hbig
    go_wp2_with fail
    go_ret
    exact ⟨rfl, K.out⟩
  have d1 : decide ((8 : Int) < (n0 : Int)) = false := by simp; omega
  have d1' : decide (8 < n0) = false := by simpa using hbig
  have hm8 : mv ≤ 8 := by have := HV.out.1; omega
  have Hm8 := Lib.hid hm8
  clear hbig hm8
  go_wp2_with fail
  have hw0 : w.heap.size ≤ w3.heap.size := K.out.size
  refine Calls.mono (shead_any (by have := HT.out.2; omega) Tt.out.at') ?_
  rintro e w4 ⟨qh, vh, rfl, ph, kk, rr, tt⟩
  replace K := Lib.hid (K.out.trans kk)
  replace Rv := Lib.hid (Rv.out.kp kk)
  replace Tt := Lib.hid (Tt.out.kp kk)
  have HOB : Hid (∀ g ∈ vh.ownBlock.toList, w.heap.size ≤ g ∧ g < w4.heap.size) := fun g hg => ⟨Nat.le_trans hw0 (rr.own_ge g hg).1, rr.lt g hg⟩
  clear hw0
  replace rr := rr.mono (Nat.zero_le _)
  have Th := Lib.hid (TA.mk tt)
  have Rh := Lib.hid (RA.mk rr)
  clear kk tt rr
  obtain ⟨ah, ch, hv, hph⟩ := Rh.out.form
  subst hv
  obtain ⟨z6, n6, s6, x6, y6, c6, e6, hz6⟩ := head_kind HT.out.1
  have t6 := Th.out.at'
  rw [e6] at t6
  obtain ⟨gh, ph1, ph2, ph3, rfl, _, N6, _, _, _⟩ := t6
  have b6 : (z6 == 6) = false := by simpa using hz6
  have HN6 : Hid (∀ W, Kp [] w4 W → W.cell? ⟨gh, 0, none⟩ = some (.int .i64 z6)) := fun W K => (N6.kp0 K).cells.1
  have KF : Hid (KB w4 w4) := ⟨Kp.refl _ _⟩
  have HPH := Lib.hid hph
  clear N6 e6 hz6 hph
  dsimp only
  have KH : Hid (KB w4 w4) := ⟨Kp.refl _ _⟩
  go_wp2_with fail
  refine Calls.mono (spis_any (by have := HT.out.2; omega) 4000 4000 rfl Tt.out.at') ?_
  rintro e w5 ⟨qp, vp, rfl, pp, kk, rr, tt⟩
  replace K := Lib.hid (K.out.trans kk)
  replace Rv := Lib.hid (Rv.out.kp kk)
  replace Tt := Lib.hid (Tt.out.kp kk)
  replace Th := Lib.hid (Th.out.kp kk)
  replace Rh := Lib.hid (Rh.out.kp kk)
  replace KF := Lib.hid (KF.out.kp kk)
  replace KH := Lib.hid (KH.out.kp kk)
  replace rr := rr.mono (Nat.zero_le _)
  have Tp := Lib.hid (TA.mk tt)
  have Rp := Lib.hid (RA.mk rr)
  clear kk tt rr
  obtain ⟨ap, cp, hv, _⟩ := Rp.out.form
  subst hv
  obtain ⟨z4, n4, s4, x4, y4, c4, e4, hz4⟩ := pis_kind HT.out.1 (m := 4000) (by have := HT.out.2; omega)
  have t4 := Tp.out.at'
  rw [e4] at t4
  obtain ⟨gp, pp1, pp2, pp3, rfl, _, N4, _, _, _⟩ := t4
  have b4 : (z4 == 4) = false := by simpa using hz4
  obtain ⟨u0, _, _, _, _, _⟩ := N4.cells
  have u6 := HN6.out _ KF.out.k
  clear N4 e4 hz4 HN6
  dsimp only
  clear KF
  go_wp2_with fail
  clear u0 u6 b4 b6
  refine Calls.mono (sapply_any Rv.out.ptrs.1 (by rw [HV.out.2.1]; have := Hm8.out; omega) Rv.out.ptrs.2.1 Rv.out.ptrs.2.2 Tt.out.at') ?_
  rintro e w6 ⟨qq1, rfl, kk, tt⟩
  replace K := Lib.hid (K.out.trans kk)
  replace Rv := Lib.hid (Rv.out.kp kk)
  replace Tt := Lib.hid (Tt.out.kp kk)
  replace Th := Lib.hid (Th.out.kp kk)
  replace Rh := Lib.hid (Rh.out.kp kk)
  replace KH := Lib.hid (KH.out.kp kk)
  replace Tp := Lib.hid (Tp.out.kp kk)
  replace Rp := Lib.hid (Rp.out.kp kk)
  have Tq1 := Lib.hid (TA.mk tt)
  clear kk tt
  have hszA : (apply t v).sz ≤ 100000 := by rw [sz_apply]; have h1 := szs_le HV.out.2.2; have h2 := HT.out.2; have h3 := Rv.out.row.len; have h4 := HV.out.2.1; have h5 := Hm8.out; rw [h3, h4] at h1; rw [h3, h4]; omega
  have HSA := Lib.hid hszA
  clear hszA
  go_wp2_with fail
  have hwg : w4.heap.size ≤ w6.heap.size := KH.out.k.size
  refine Calls.mono (shead_any HSA.out Tq1.out.at') ?_
  rintro e w7 ⟨qg, vg, rfl, pg, kk, rr, tt⟩
  replace K := Lib.hid (K.out.trans kk)
  replace Rv := Lib.hid (Rv.out.kp kk)
  replace Tt := Lib.hid (Tt.out.kp kk)
  replace Th := Lib.hid (Th.out.kp kk)
  replace Rh := Lib.hid (Rh.out.kp kk)
  replace KH := Lib.hid (KH.out.kp kk)
  replace Tp := Lib.hid (Tp.out.kp kk)
  replace Rp := Lib.hid (Rp.out.kp kk)
  replace Tq1 := Lib.hid (Tq1.out.kp kk)
  rw [head_apply] at rr tt
  have HNE : Hid (∀ g ∈ (Value.slice ah (head t).2.length ch).ownBlock.toList, vg.ownBlock ≠ some g) := fun g hg e => by have h1 := (HOB.out g hg).2; have h2 := (rr.own_ge g (by rw [e]; simp)).1; omega
  clear hwg
  replace rr := rr.mono (Nat.zero_le _)
  have Tg := Lib.hid (TA.mk tt)
  have Rg := Lib.hid (RA.mk rr)
  clear kk tt rr
  obtain ⟨ag, cg, hv, _⟩ := Rg.out.form
  subst hv
  dsimp only
  clear Tq1
  go_wp2_with fail
  refine Calls.mono (sapply_any Rh.out.ptrs.1 (by rw [HPH.out]; have := row_sz 6 t.sz t; have := HT.out.2; show (head t).2.length ≤ _; unfold head; rw [List.length_reverse]; omega) Rh.out.ptrs.2.1 Rh.out.ptrs.2.2 Th.out.at') ?_
  rintro e w8 ⟨qq2, rfl, kk, tt⟩
  replace K := Lib.hid (K.out.trans kk)
  replace Rv := Lib.hid (Rv.out.kp kk)
  replace Tt := Lib.hid (Tt.out.kp kk)
  replace Th := Lib.hid (Th.out.kp kk)
  replace Rh := Lib.hid (Rh.out.kp kk)
  replace KH := Lib.hid (KH.out.kp kk)
  replace Tp := Lib.hid (Tp.out.kp kk)
  replace Rp := Lib.hid (Rp.out.kp kk)
  replace Tg := Lib.hid (Tg.out.kp kk)
  replace Rg := Lib.hid (Rg.out.kp kk)
  have Tq2 := Lib.hid (TA.mk tt)
  clear kk tt
  go_wp2_with fail
  refine Calls.mono (same_yes (apply_head HT.out.1) Tq2.out.at' Tt.out.at') ?_
  rintro e w9 ⟨rfl, kk⟩
  replace K := Lib.hid (K.out.trans kk)
  replace Rv := Lib.hid (Rv.out.kp kk)
  replace Tt := Lib.hid (Tt.out.kp kk)
  replace Th := Lib.hid (Th.out.kp kk)
  replace Rh := Lib.hid (Rh.out.kp kk)
  replace KH := Lib.hid (KH.out.kp kk)
  replace Tp := Lib.hid (Tp.out.kp kk)
  replace Rp := Lib.hid (Rp.out.kp kk)
  replace Tg := Lib.hid (Tg.out.kp kk)
  replace Rg := Lib.hid (Rg.out.kp kk)
  replace Tq2 := Lib.hid (Tq2.out.kp kk)
  clear kk
  go_wp2_with fail
  clear Tq2
  refine Calls.mono (spi_any Rp.out.ptrs.1 (by rw [← Rp.out.row.len]; have := row_sz 4 4000 t; have := HT.out.2; show (pis 4000 t).1.length ≤ _; unfold pis; omega) Rp.out.ptrs.2.1 Rp.out.ptrs.2.2 Tp.out.at') ?_
  rintro e w10 ⟨qq3, rfl, kk, tt⟩
  replace K := Lib.hid (K.out.trans kk)
  replace Rv := Lib.hid (Rv.out.kp kk)
  replace Tt := Lib.hid (Tt.out.kp kk)
  replace Th := Lib.hid (Th.out.kp kk)
  replace Rh := Lib.hid (Rh.out.kp kk)
  replace KH := Lib.hid (KH.out.kp kk)
  replace Tp := Lib.hid (Tp.out.kp kk)
  replace Rp := Lib.hid (Rp.out.kp kk)
  replace Tg := Lib.hid (Tg.out.kp kk)
  replace Rg := Lib.hid (Rg.out.kp kk)
  have Tq3 := Lib.hid (TA.mk tt)
  clear kk tt
  go_wp2_with fail
  refine Calls.mono (same_yes (pi_pis HT.out.1 4000) Tq3.out.at' Tt.out.at') ?_
  rintro e w11 ⟨rfl, kk⟩
  replace K := Lib.hid (K.out.trans kk)
  replace Rv := Lib.hid (Rv.out.kp kk)
  replace Tt := Lib.hid (Tt.out.kp kk)
  replace Th := Lib.hid (Th.out.kp kk)
  replace Rh := Lib.hid (Rh.out.kp kk)
  replace KH := Lib.hid (KH.out.kp kk)
  replace Tp := Lib.hid (Tp.out.kp kk)
  replace Rp := Lib.hid (Rp.out.kp kk)
  replace Tg := Lib.hid (Tg.out.kp kk)
  replace Rg := Lib.hid (Rg.out.kp kk)
  replace Tq3 := Lib.hid (Tq3.out.kp kk)
  clear kk
  go_wp2_with fail
  clear Tq3
  clear Tp
  clear Rp
  clear Tt
  refine Calls.mono (same_yes rfl Tg.out.at' Th.out.at') ?_
  rintro e w12 ⟨rfl, kk⟩
  replace K := Lib.hid (K.out.trans kk)
  replace Rv := Lib.hid (Rv.out.kp kk)
  replace Th := Lib.hid (Th.out.kp kk)
  replace Rh := Lib.hid (Rh.out.kp kk)
  replace KH := Lib.hid (KH.out.kp kk)
  replace Tg := Lib.hid (Tg.out.kp kk)
  replace Rg := Lib.hid (Rg.out.kp kk)
  clear kk
  clear Tg
  clear Th
  clear KH
  obtain ⟨aA, cA, wA, hrun, rA, kA⟩ := append_rows Rh.out.row Rv.out.row (by rw [HPH.out, HV.out.2.1]; have := Hm8.out; have := row_sz 6 t.sz t; have := HT.out.2; show (head t).2.length + mv ≤ _; unfold head; rw [List.length_reverse]; omega)
  have HLV : Hid (v.length = mv) := by show v.length = mv; rw [Rv.out.row.len]; exact HV.out.2.1
  have RG : Hid (RA wA _ pg _) := ⟨Rg.out.row.kp kA (fun g hg => ⟨(Rh.out.row.own_ge g hg).2, HNE.out g hg⟩)⟩
  have KA : Hid (Kp [] w wA) := K.out.trans2 kA (fun x hx => .inr (HOB.out x hx).1)
  have HRun := Lib.hid (And.intro hrun rA)
  clear hrun rA kA
  clear Rg
  clear Rh
  clear Rv
  go_wp2_with (at_builtin; refine wpList_append_at _ _ 26 rfl (by rfl) rfl rfl HRun.out.1 ?_)
  have HB : Hid ((head t).2.length + v.length ≤ 1000000000000) := by have h1 := Hm8.out; have h2 := row_sz 6 t.sz t; have h3 := HT.out.2; have h4 : v.length ≤ 8 := (by rw [HLV.out]; exact h1); show (head t).2.length + v.length ≤ _; unfold head; rw [List.length_reverse]; omega
  refine Calls.mono (sameAll_yes (by simpa using RG.out.ptrs.1) (by simpa using HRun.out.2.ptrs.1) HB.out RG.out.ptrs.2.1 HRun.out.2.ptrs.2.1 RG.out.ptrs.2.2 HRun.out.2.ptrs.2.2 rfl) ?_
  rintro e wB ⟨rfl, kk⟩
  have KB := Lib.hid (KA.out.trans kk)
  clear kk
  go_wp2_with fail
  go_ret
  exact ⟨rfl, KB.out⟩
end Go.Proofs.Ytcfhhabjiofehaa
