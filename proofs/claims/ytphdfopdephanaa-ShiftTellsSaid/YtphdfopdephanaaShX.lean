/- Contracts of the reference's put, bind, all. -/
import Derived.Test.YtphdfopdephanaaShU
namespace Go.Proofs.Ytphdfopdephanaa
open Go.RowKit Go.ChangeMaps

set_option maxHeartbeats 6400000 in
theorem rput_any {N N2 : Int} (e : Int) (he0 : 0 ≤ e) (he1 : e ≤ 1000000) (hN : N ≤ 1000000000) (hN2 : N2 ≤ 1000000000) {t u : Tm} (o : Ok N t) (ou : Ok N2 u) (hu : u.ht ≤ 100000) : ∀ (w : World) (d : Int) (p q : Option Addr), 0 ≤ d → d + t.ht ≤ 1000000 → TmAt w t p → TmAt w u q →
    Calls Try.prog 33 #[.pointer p, .pointer q, .int .i64 e, .int .i64 d] w (MkPost ((putM u e).at d t) w) := by
  suffices h : ∀ (w : World) (d : Int) (p : Option Addr), 0 ≤ d → d + t.ht ≤ 1000000 → TmAt w t p → ∀ q, TmAt w u q → Calls Try.prog 33 #[.pointer p, .pointer q, .int .i64 e, .int .i64 d] w (MkPost ((putM u e).at d t) w) from fun w d p q h1 h2 h3 h4 => h w d p h1 h2 h3 q h4
  induction o with
  | nil =>
    intro w d p hd0 hd1 hp q hq
    obtain rfl : p = none := hp
    unfold MkPost
    go_enter Try.func33, Try.ntmps33
    go_wp2_with fail
    go_ret
    exact ⟨_, rfl, Kp.refl _ _, rfl⟩
  | var n h0 h1 =>
    intro w d p hd0 hd1 hp q hq
    rw [show Tm.node 2 n noS .nil .nil .nil = vr n from rfl] at hp
    have HP := Lib.hid hp
    obtain ⟨g, pa, pb, pc, rfl, _, ND, _, _, _⟩ := hp
    obtain ⟨x0, x1, _, _, _, _⟩ := ND.cells
    show Calls _ _ _ _ (MkPost ((putM u e).at d (vr n)) w)
    have hd2 : d ≤ 1000000 := by omega
    rw [put_var]
    obtain ⟨z, hz⟩ : ∃ z, z = e + d := ⟨_, rfl⟩
    have e1 : IntKind.i64.wrap (e + d) = z := wrap_id hz.symm (by omega) (by omega)
    rw [← hz]
    unfold MkPost
    by_cases c1 : n < z
    · rw [if_pos c1]
      have d1 : (n == z) = false := by simp; omega
      have d2 : decide (z < n) = false := by simp; omega
      clear ND h0 h1 hd0 hd1 hd2 hz c1 he0 he1 hN hN2 ou hu hq
      go_enter Try.func33, Try.ntmps33
      go_wp2_with fail
      go_ret
      exact ⟨_, rfl, Kp.refl _ _, HP.out⟩
    · rw [if_neg c1]
      by_cases c2 : n = z
      · rw [if_pos c2]
        have d1 : (n == z) = true := by simpa using c2
        have LF : Hid (Calls Try.prog 14 #[.pointer q, .int .i64 d, .int .i64 0] w (MkPost (lift d 0 u) w)) := rlift_any d hd0 hd2 (by omega) ou w 0 q (Int.le_refl _) (by omega) hq
        clear ND h0 h1 hd0 hd1 hd2 hz c1 c2 he0 he1 hN hN2 ou hu hq
        go_enter Try.func33, Try.ntmps33
        go_wp2_with (go_at_call 14; refine Calls.mono LF.out ?_; rintro e w2 ⟨q2, rfl, kk, tt⟩)
        go_ret
        exact ⟨_, rfl, kk, tt⟩
      · rw [if_neg c2]
        have d1 : (n == z) = false := by simpa using c2
        have d2 : decide (z < n) = true := by simp; omega
        have e2 : IntKind.i64.wrap (n - 1) = n - 1 := wrap_id rfl (by omega) (by omega)
        clear ND h0 h1 hd0 hd1 hd2 hz c1 c2 he0 he1 hN hN2 ou hu hq
        go_enter Try.func33, Try.ntmps33
        go_wp2_with (go_at_call 27; (try rw [e2]); refine Calls.mono (var_any _ _) ?_; rintro e w2 ⟨q2, rfl, kk, tt⟩)
        go_ret
        exact ⟨_, rfl, kk, tt⟩
  | leaf k n s hk =>
    intro w d p hd0 hd1 hp q hq
    have HP := Lib.hid hp
    obtain ⟨g, pa, pb, pc, rfl, _, ND, _, _, _⟩ := hp
    obtain ⟨x0, x1, _, _, _, _⟩ := ND.cells
    rw [put_leaf _ _ _ _ _ _ hk]
    have k2 : (k == 2) = false := by simp; omega
    have PL := Lib.hid (parts_leaf (k := k) (by omega))
    unfold MkPost
    clear ND hd0 hd1 hk he0 he1 hN hN2 ou hu hq
    go_enter Try.func33, Try.ntmps33
    go_wp2_with (go_at_call 31; refine Calls.mono (PL.out _) ?_; rintro e w2 ⟨rfl, rfl⟩)
    go_ret
    exact ⟨_, rfl, Kp.refl _ _, HP.out⟩
  | inner k a b c hk hc oa ob oc ia ib ic =>
    intro w d p hd0 hd1 hp q hq
    obtain ⟨g, pa, pb, pc, rfl, _, ND, A, B, C⟩ := hp
    obtain ⟨x0, x1, x2, x3, x4, x5⟩ := ND.cells
    have k2 : (k == 2) = false := by simp; omega
    have k3 : (k == 3) = false := by simp; omega
    have b1 := hB_01 k
    rw [at_inner _ _ _ _ _ _ hk]
    simp only [Tm.ht] at hd1
    obtain ⟨f1, hf1e⟩ : ∃ f1, f1 = d + hB k := ⟨_, rfl⟩
    obtain ⟨f2, hf2e⟩ : ∃ f2, f2 = d + 1 := ⟨_, rfl⟩
    have e1 : IntKind.i64.wrap (d + hB k) = f1 := wrap_id hf1e.symm (by omega) (by omega)
    have e2 : IntKind.i64.wrap (d + 1) = f2 := wrap_id hf2e.symm (by omega) (by omega)
    have HA : Hid (∀ W, Kp [] w W → Calls Try.prog 33 #[.pointer pa, .pointer q, .int .i64 e, .int .i64 d] W (MkPost ((putM u e).at d a) W)) := fun W K => ia W d pa hd0 (by omega) (A.kp0 K) q (hq.kp K)
    have HB : Hid (∀ W, Kp [] w W → Calls Try.prog 33 #[.pointer pb, .pointer q, .int .i64 e, .int .i64 f1] W (MkPost ((putM u e).at (d + hB k) b) W)) := fun W K => by
      rw [hf1e]
      exact ib W _ pb (by omega) (by omega) (B.kp0 K) q (hq.kp K)
    have HC : Hid (∀ W, Kp [] w W → Calls Try.prog 33 #[.pointer pc, .pointer q, .int .i64 e, .int .i64 f2] W (MkPost ((putM u e).at (d + hC k) c) W)) := fun W K => by
      rw [hf2e]
      by_cases h7 : k = 7
      · have : hC k = 1 := by subst h7; rfl
        rw [this]
        exact ic W _ pc (by omega) (by omega) (C.kp0 K) q (hq.kp K)
      · have := ic W (d + 1) pc (by omega) (by omega) (C.kp0 K) q (hq.kp K)
        rw [hc h7] at this ⊢
        exact this
    have HP := Lib.hid (parts_inner hk)
    have HU1 := Lib.hid (fun W (K : Kp [] w W) => under_one (ND.kp0 K))
    have HU2 := Lib.hid (fun W (K : Kp [] w W) => under_two (ND.kp0 K))
    have S0 : Hid (∀ W, Kp [] w W → W.cell? ⟨g, 0, none⟩ = some (.int .i64 k) ∧ W.cell? ⟨g, 3, none⟩ = some (.pointer pa) ∧ W.cell? ⟨g, 4, none⟩ = some (.pointer pb) ∧ W.cell? ⟨g, 5, none⟩ = some (.pointer pc)) :=
      fun W K => have h := (ND.kp0 K).cells; ⟨h.1, h.2.2.2.1, h.2.2.2.2.1, h.2.2.2.2.2⟩
    have K0 : Hid (Kp [] w w.drew) := (Kp.refl [] w).drew
    generalize hB k = u1 at *
    generalize (putM u e).at d a = ra at *
    generalize (putM u e).at (d + u1) b = rb at *
    generalize (putM u e).at (d + hC k) c = rc at *
    clear hf1e hf2e ia ib ic A B C ND hd0 hd1 hk hc oa ob oc b1 he0 he1 hN hN2 ou hu hq
    unfold MkPost at HA HB HC ⊢
    go_enter Try.func33, Try.ntmps33
    go_wp2_with (go_at_call 31; refine Calls.mono (HP.out _) ?_; rintro e w2 ⟨v, rfl, hv, rfl⟩)
    go_region_held3 (fun w' => w'.cell? ⟨g, 0, none⟩ = some (.int .i64 k) ∧ w'.cell? ⟨g, 3, none⟩ = some (.pointer pa) ∧ w'.cell? ⟨g, 4, none⟩ = some (.pointer pb) ∧ w'.cell? ⟨g, 5, none⟩ = some (.pointer pc))
      (first | exact S0.out _ K0.out | exact S0.out _ K1.out | exact S0.out _ K2.out | exact S0.out _ K3.out | exact S0.out _ (K3.out.alloc _))
      (first
      | (go_at_call_of 33 pa; refine Calls.mono (HA.out _ K0.out) ?_; rintro e w1 ⟨q1, rfl, k1, t1⟩; have K1 := Lib.hid (K0.out.trans k1); have T1 := Lib.hid t1; clear k1 t1)
      | (go_at_call_of 33 pb; (try rw [e1]); refine Calls.mono (HB.out _ K1.out) ?_; rintro e w3 ⟨q2, rfl, k2, t2⟩; have K2 := Lib.hid (K1.out.trans k2); have T2 := Lib.hid t2; have T12 := Lib.hid (T1.out.kp0 k2); clear k2 t2)
      | (go_at_call_of 33 pc; (try rw [e2]); refine Calls.mono (HC.out _ K2.out) ?_; rintro e w4 ⟨q3, rfl, k3, t3⟩; have K3 := Lib.hid (K2.out.trans k3); have T3 := Lib.hid t3; have T13 := Lib.hid (T12.out.kp0 k3); have T23 := Lib.hid (T2.out.kp0 k3); clear k3 t3)
      | (go_at_call 32; have _h := K2; refine Calls.mono (HU2.out _ K2.out) ?_; rintro e w6 ⟨rfl, rfl⟩)
      | (go_at_call 32; refine Calls.mono (HU1.out _ K1.out) ?_; rintro e w5 ⟨rfl, rfl⟩))
    all_goals
      go_wp2_with fail
      go_ret
      exact ⟨_, rfl, K3.out.alloc _, TmP.new (P := fun _ => True) trivial T13.out T23.out T3.out⟩
set_option maxHeartbeats 6400000 in
theorem rbind_any {N : Int} (nm : ByteArray) (hN : N ≤ 1000000000) {t : Tm} (o : Ok N t) : ∀ (w : World) (d : Int) (p : Option Addr), 0 ≤ d → d + t.ht ≤ 1000000 → TmAt w t p →
    Calls Try.prog 34 #[.pointer p, .string nm, .int .i64 d] w (MkPost ((bindM nm).at d t) w) := by
  induction o with
  | nil =>
    intro w d p hd0 hd1 hp
    obtain rfl : p = none := hp
    unfold MkPost
    go_enter Try.func34, Try.ntmps34
    go_wp2_with fail
    go_ret
    exact ⟨_, rfl, Kp.refl _ _, rfl⟩
  | var n h0 h1 =>
    intro w d p hd0 hd1 hp
    rw [show Tm.node 2 n noS .nil .nil .nil = vr n from rfl] at hp
    have HP := Lib.hid hp
    obtain ⟨g, pa, pb, pc, rfl, _, ND, _, _, _⟩ := hp
    obtain ⟨x0, x1, _, _, _, _⟩ := ND.cells
    show Calls _ _ _ _ (MkPost ((bindM nm).at d (vr n)) w)
    rw [bind_var]
    unfold MkPost
    have PL := Lib.hid (parts_leaf (k := 2) (by decide))
    have e2 : IntKind.i64.wrap (n + 1) = n + 1 := wrap_id rfl (by omega) (by omega)
    by_cases c1 : n < d
    · rw [if_pos c1]
      have d1 : decide (d ≤ n) = false := by simp; omega
      clear ND h0 h1 hd0 hd1 c1 hN
      go_enter Try.func34, Try.ntmps34
      go_wp2_with (go_at_call 31; refine Calls.mono (PL.out _) ?_; rintro e w2 ⟨rfl, rfl⟩)
      go_ret
      exact ⟨_, rfl, Kp.refl _ _, HP.out⟩
    · rw [if_neg c1]
      have d1 : decide (d ≤ n) = true := by simp; omega
      clear ND h0 h1 hd0 hd1 c1 hN
      go_enter Try.func34, Try.ntmps34
      go_wp2_with (go_at_call 27; (try rw [e2]); refine Calls.mono (var_any _ _) ?_; rintro e w2 ⟨q2, rfl, kk, tt⟩)
      go_ret
      exact ⟨_, rfl, kk, tt⟩
  | leaf k n s hk =>
    intro w d p hd0 hd1 hp
    have HP := Lib.hid hp
    obtain ⟨g, pa, pb, pc, rfl, _, ND, _, _, _⟩ := hp
    obtain ⟨x0, x1, x2, _, _, _⟩ := ND.cells
    have k2 : (k == 2) = false := by simp; omega
    have PL := Lib.hid (parts_leaf (k := k) (by omega))
    have hs := eq_toList s nm
    rw [at_leaf _ _ _ _ _ hk]
    unfold MkPost
    by_cases c1 : k = 3
    · have k3 : (k == 3) = true := by simpa using c1
      by_cases c2 : s = nm
      · rw [decide_eq_true c2] at hs
        by_cases c3 : n = 0
        · have n0 : (n == 0) = true := by simpa using c3
          have hb : (bindM nm).bnd k n s = true := by simp [Mv.bnd, bindM, c1, c2, c3]
          rw [hb, if_pos rfl]
          clear ND hd0 hd1 hk hN c1 c2 c3 hb
          go_enter Try.func34, Try.ntmps34
          go_wp2_with (go_at_call 27; refine Calls.mono (var_any _ _) ?_; rintro e w2 ⟨q2, rfl, kk, tt⟩)
          go_ret
          exact ⟨_, rfl, kk, tt⟩
        · have n0 : (n == 0) = false := by simpa using c3
          have hb : (bindM nm).bnd k n s = false := by simp [Mv.bnd, c3]
          rw [hb, if_neg (by decide)]
          clear ND hd0 hd1 hk hN c1 c2 c3 hb
          go_enter Try.func34, Try.ntmps34
          go_wp2_with (go_at_call 31; refine Calls.mono (PL.out _) ?_; rintro e w2 ⟨rfl, rfl⟩)
          go_ret
          exact ⟨_, rfl, Kp.refl _ _, HP.out⟩
      · rw [decide_eq_false c2] at hs
        have hb : (bindM nm).bnd k n s = false := by simp [Mv.bnd, bindM, c2]
        rw [hb, if_neg (by decide)]
        clear ND hd0 hd1 hk hN c1 c2 hb
        go_enter Try.func34, Try.ntmps34
        go_wp2_with (go_at_call 31; refine Calls.mono (PL.out _) ?_; rintro e w2 ⟨rfl, rfl⟩)
        go_ret
        exact ⟨_, rfl, Kp.refl _ _, HP.out⟩
    · have k3 : (k == 3) = false := by simpa using c1
      have hb : (bindM nm).bnd k n s = false := bnd_ne _ _ _ _ c1
      rw [hb, if_neg (by decide)]
      clear ND hd0 hd1 hk hN c1 hb hs
      go_enter Try.func34, Try.ntmps34
      go_wp2_with (go_at_call 31; refine Calls.mono (PL.out _) ?_; rintro e w2 ⟨rfl, rfl⟩)
      go_ret
      exact ⟨_, rfl, Kp.refl _ _, HP.out⟩
  | inner k a b c hk hc oa ob oc ia ib ic =>
    intro w d p hd0 hd1 hp
    obtain ⟨g, pa, pb, pc, rfl, _, ND, A, B, C⟩ := hp
    obtain ⟨x0, x1, x2, x3, x4, x5⟩ := ND.cells
    have k2 : (k == 2) = false := by simp; omega
    have k3 : (k == 3) = false := by simp; omega
    have b1 := hB_01 k
    rw [at_inner _ _ _ _ _ _ hk]
    simp only [Tm.ht] at hd1
    obtain ⟨f1, hf1e⟩ : ∃ f1, f1 = d + hB k := ⟨_, rfl⟩
    obtain ⟨f2, hf2e⟩ : ∃ f2, f2 = d + 1 := ⟨_, rfl⟩
    have e1 : IntKind.i64.wrap (d + hB k) = f1 := wrap_id hf1e.symm (by omega) (by omega)
    have e2 : IntKind.i64.wrap (d + 1) = f2 := wrap_id hf2e.symm (by omega) (by omega)
    have HA : Hid (∀ W, Kp [] w W → Calls Try.prog 34 #[.pointer pa, .string nm, .int .i64 d] W (MkPost ((bindM nm).at d a) W)) := fun W K => ia W d pa hd0 (by omega) (A.kp0 K)
    have HB : Hid (∀ W, Kp [] w W → Calls Try.prog 34 #[.pointer pb, .string nm, .int .i64 f1] W (MkPost ((bindM nm).at (d + hB k) b) W)) := fun W K => by
      rw [hf1e]
      exact ib W _ pb (by omega) (by omega) (B.kp0 K)
    have HC : Hid (∀ W, Kp [] w W → Calls Try.prog 34 #[.pointer pc, .string nm, .int .i64 f2] W (MkPost ((bindM nm).at (d + hC k) c) W)) := fun W K => by
      rw [hf2e]
      by_cases h7 : k = 7
      · have : hC k = 1 := by subst h7; rfl
        rw [this]
        exact ic W _ pc (by omega) (by omega) (C.kp0 K)
      · have := ic W (d + 1) pc (by omega) (by omega) (C.kp0 K)
        rw [hc h7] at this ⊢
        exact this
    have HP := Lib.hid (parts_inner hk)
    have HU1 := Lib.hid (fun W (K : Kp [] w W) => under_one (ND.kp0 K))
    have HU2 := Lib.hid (fun W (K : Kp [] w W) => under_two (ND.kp0 K))
    have S0 : Hid (∀ W, Kp [] w W → W.cell? ⟨g, 0, none⟩ = some (.int .i64 k) ∧ W.cell? ⟨g, 3, none⟩ = some (.pointer pa) ∧ W.cell? ⟨g, 4, none⟩ = some (.pointer pb) ∧ W.cell? ⟨g, 5, none⟩ = some (.pointer pc)) :=
      fun W K => have h := (ND.kp0 K).cells; ⟨h.1, h.2.2.2.1, h.2.2.2.2.1, h.2.2.2.2.2⟩
    have K0 : Hid (Kp [] w w.drew) := (Kp.refl [] w).drew
    generalize hB k = u1 at *
    generalize (bindM nm).at d a = ra at *
    generalize (bindM nm).at (d + u1) b = rb at *
    generalize (bindM nm).at (d + hC k) c = rc at *
    clear hf1e hf2e ia ib ic A B C ND hd0 hd1 hk hc oa ob oc b1 hN
    unfold MkPost at HA HB HC ⊢
    go_enter Try.func34, Try.ntmps34
    go_wp2_with (go_at_call 31; refine Calls.mono (HP.out _) ?_; rintro e w2 ⟨v, rfl, hv, rfl⟩)
    go_region_held3 (fun w' => w'.cell? ⟨g, 0, none⟩ = some (.int .i64 k) ∧ w'.cell? ⟨g, 3, none⟩ = some (.pointer pa) ∧ w'.cell? ⟨g, 4, none⟩ = some (.pointer pb) ∧ w'.cell? ⟨g, 5, none⟩ = some (.pointer pc))
      (first | exact S0.out _ K0.out | exact S0.out _ K1.out | exact S0.out _ K2.out | exact S0.out _ K3.out | exact S0.out _ (K3.out.alloc _))
      (first
      | (go_at_call_of 34 pa; refine Calls.mono (HA.out _ K0.out) ?_; rintro e w1 ⟨q1, rfl, k1, t1⟩; have K1 := Lib.hid (K0.out.trans k1); have T1 := Lib.hid t1; clear k1 t1)
      | (go_at_call_of 34 pb; (try rw [e1]); refine Calls.mono (HB.out _ K1.out) ?_; rintro e w3 ⟨q2, rfl, k2, t2⟩; have K2 := Lib.hid (K1.out.trans k2); have T2 := Lib.hid t2; have T12 := Lib.hid (T1.out.kp0 k2); clear k2 t2)
      | (go_at_call_of 34 pc; (try rw [e2]); refine Calls.mono (HC.out _ K2.out) ?_; rintro e w4 ⟨q3, rfl, k3, t3⟩; have K3 := Lib.hid (K2.out.trans k3); have T3 := Lib.hid t3; have T13 := Lib.hid (T12.out.kp0 k3); have T23 := Lib.hid (T2.out.kp0 k3); clear k3 t3)
      | (go_at_call 32; have _h := K2; refine Calls.mono (HU2.out _ K2.out) ?_; rintro e w6 ⟨rfl, rfl⟩)
      | (go_at_call 32; refine Calls.mono (HU1.out _ K1.out) ?_; rintro e w5 ⟨rfl, rfl⟩))
    all_goals
      go_wp2_with fail
      go_ret
      exact ⟨_, rfl, K3.out.alloc _, TmP.new (P := fun _ => True) trivial T13.out T23.out T3.out⟩
end Go.Proofs.Ytphdfopdephanaa
