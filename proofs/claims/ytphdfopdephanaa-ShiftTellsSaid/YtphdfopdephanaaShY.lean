/- Contracts of the reference's all; of PutIn, Bind, All; of Terms. -/
import Derived.Test.YtphdfopdephanaaShX
import Derived.Test.YtphdfopdephanaaRowsAt
import Derived.Laws.AppendOwn
import Derived.OwnWalk
namespace Go.Proofs.Ytphdfopdephanaa
open Go.RowKit Go.ChangeMaps

set_option maxHeartbeats 6400000 in
theorem rall_any {N N2 : Int} (hN : N ≤ 1000000000) (hN2 : N2 ≤ 1000000000) {t : Tm} {l : List Tm} (o : Ok N t) (ol : ∀ u ∈ l, Ok N2 u ∧ u.ht ≤ 100000) {ta : Option Addr} {tn tc : Nat} {ps : List (Option Addr)} (htn : tn ≤ 100000) : ∀ (w : World) (d : Int) (p : Option Addr), 0 ≤ d → d + t.ht ≤ 1000000 → TmAt w t p → TermsAt w ta tn ps l →
    Calls Try.prog 35 #[.pointer p, .slice ta tn tc, .int .i64 d] w (MkPost ((allM l).at d t) w) := by
  induction o with
  | nil =>
    intro w d p hd0 hd1 hp hq
    obtain rfl : p = none := hp
    unfold MkPost
    go_enter Try.func35, Try.ntmps35
    go_wp2_with fail
    go_ret
    exact ⟨_, rfl, Kp.refl _ _, rfl⟩
  | var n h0 h1 =>
    intro w d p hd0 hd1 hp hq
    rw [show Tm.node 2 n noS .nil .nil .nil = vr n from rfl] at hp
    have HP := Lib.hid hp
    obtain ⟨g, pa, pb, pc, rfl, _, ND, _, _, _⟩ := hp
    obtain ⟨x0, x1, _, _, _, _⟩ := ND.cells
    show Calls _ _ _ _ (MkPost ((allM l).at d (vr n)) w)
    have hd2 : d ≤ 1000000 := by omega
    rw [all_var]
    obtain ⟨z, hz⟩ : ∃ z, z = n - d := ⟨_, rfl⟩
    have e1 : IntKind.i64.wrap (n - d) = z := wrap_id hz.symm (by omega) (by omega)
    rw [← hz]
    unfold MkPost
    have hlen := hq.lenm
    by_cases c1 : n < d
    · rw [if_pos c1]
      have d1 : decide (z < 0) = true := by simp; omega
      clear ND h0 h1 hd0 hd1 hd2 hz c1 hN hN2 ol hq hlen htn
      go_enter Try.func35, Try.ntmps35
      go_wp2_with fail
      go_ret
      exact ⟨_, rfl, Kp.refl _ _, HP.out⟩
    · rw [if_neg c1, hlen]
      have d1 : decide (z < 0) = false := by simp; omega
      by_cases c2 : z < tn
      · rw [if_pos c2]
        have d2 : decide (z < (tn : Int)) = true := by simpa using c2
        obtain ⟨j, hj⟩ : ∃ j : Nat, j = tn - 1 - z.toNat := ⟨_, rfl⟩
        rw [← hj]
        have hjl : j < ps.length := by rw [hq.len]; omega
        have hjm : j < l.length := by rw [hlen]; omega
        obtain ⟨tb, to, rfl, _, hcell⟩ := hq.row j ps[j] (List.getElem?_eq_getElem hjl)
        have htm := hq.trm j ps[j] l[j] (List.getElem?_eq_getElem hjl) (List.getElem?_eq_getElem hjm)
        have hmem := ol l[j] (List.getElem_mem _)
        have hget : l.getD j .nil = l[j] := by rw [List.getD_eq_getElem?_getD, List.getElem?_eq_getElem hjm]; rfl
        rw [hget]
        have LF : Hid (Calls Try.prog 14 #[.pointer ps[j], .int .i64 d, .int .i64 0] w (MkPost (lift d 0 l[j]) w)) := rlift_any d hd0 hd2 (by omega) hmem.1 w 0 ps[j] (Int.le_refl _) (by have := hmem.2; omega) htm
        have f1 : IntKind.i64.wrap ((tn : Int) - 1) = (tn : Int) - 1 := wrap_id rfl (by omega) (by omega)
        have f3 : IntKind.i64.wrap ((tn : Int) - 1 - z) = (j : Int) := wrap_id (by omega) (by omega) (by omega)
        have f4 : j < tn := by omega
        generalize ps[j] = qj at *
        generalize l[j] = uj at *
        clear ND h0 h1 hd0 hd1 hd2 hz c1 c2 hN hN2 ol hq hlen htn hj hjl hjm htm hmem hget
        go_enter Try.func35, Try.ntmps35
        go_wp2_with (go_at_call 14; refine Calls.mono LF.out ?_; rintro e w2 ⟨q2, rfl, kk, tt⟩)
        go_ret
        exact ⟨_, rfl, kk, tt⟩
      · rw [if_neg c2]
        have d2 : decide (z < (tn : Int)) = false := by simpa using c2
        have e2 : IntKind.i64.wrap (n - (tn : Int)) = n - (tn : Int) := wrap_id rfl (by omega) (by omega)
        clear ND h0 h1 hd0 hd1 hd2 hz c1 c2 hN hN2 ol hq hlen htn
        go_enter Try.func35, Try.ntmps35
        go_wp2_with (go_at_call 27; (try rw [e2]); refine Calls.mono (var_any _ _) ?_; rintro e w2 ⟨q2, rfl, kk, tt⟩)
        go_ret
        exact ⟨_, rfl, kk, tt⟩
  | leaf k n s hk =>
    intro w d p hd0 hd1 hp hq
    have HP := Lib.hid hp
    obtain ⟨g, pa, pb, pc, rfl, _, ND, _, _, _⟩ := hp
    obtain ⟨x0, x1, _, _, _, _⟩ := ND.cells
    have hl9 : (allM l).at d (.node k n s .nil .nil .nil) = .node k n s .nil .nil .nil := at_leaf _ _ _ _ _ hk
    rw [hl9]
    have k2 : (k == 2) = false := by simp; omega
    have PL := Lib.hid (parts_leaf (k := k) (by omega))
    unfold MkPost
    clear ND hd0 hd1 hk hN hN2 ol hq htn hl9
    go_enter Try.func35, Try.ntmps35
    go_wp2_with (go_at_call 31; refine Calls.mono (PL.out _) ?_; rintro e w2 ⟨rfl, rfl⟩)
    go_ret
    exact ⟨_, rfl, Kp.refl _ _, HP.out⟩
  | inner k a b c hk hc oa ob oc ia ib ic =>
    intro w d p hd0 hd1 hp hq
    obtain ⟨g, pa, pb, pc, rfl, _, ND, A, B, C⟩ := hp
    obtain ⟨x0, x1, x2, x3, x4, x5⟩ := ND.cells
    have k2 : (k == 2) = false := by simp; omega
    have k3 : (k == 3) = false := by simp; omega
    have b1 := hB_01 k
    rw [at_inner _ _ _ _ _ _ hk]
    simp only [Tm.ht] at hd1
    obtain ⟨f1, hf1e⟩ : ∃ f1, f1 = d + hB k := ⟨_, rfl⟩
    obtain ⟨f2, hf2e⟩ : ∃ f2, f2 = d + 1 := ⟨_, rfl⟩
    have e1 : IntKind.i64.wrap (d + hB k) = f1 := wrap_id hf1e.symm (by omega) (by omega)
    have e2 : IntKind.i64.wrap (d + 1) = f2 := wrap_id hf2e.symm (by omega) (by omega)
    have HA : Hid (∀ W, Kp [] w W → Calls Try.prog 35 #[.pointer pa, .slice ta tn tc, .int .i64 d] W (MkPost ((allM l).at d a) W)) := fun W K => ia W d pa hd0 (by omega) (A.kp0 K) (hq.kp K)
    have HB : Hid (∀ W, Kp [] w W → Calls Try.prog 35 #[.pointer pb, .slice ta tn tc, .int .i64 f1] W (MkPost ((allM l).at (d + hB k) b) W)) := fun W K => by
      rw [hf1e]
      exact ib W _ pb (by omega) (by omega) (B.kp0 K) (hq.kp K)
    have HC : Hid (∀ W, Kp [] w W → Calls Try.prog 35 #[.pointer pc, .slice ta tn tc, .int .i64 f2] W (MkPost ((allM l).at (d + hC k) c) W)) := fun W K => by
      rw [hf2e]
      by_cases h7 : k = 7
      · have : hC k = 1 := by subst h7; rfl
        rw [this]
        exact ic W _ pc (by omega) (by omega) (C.kp0 K) (hq.kp K)
      · have := ic W (d + 1) pc (by omega) (by omega) (C.kp0 K) (hq.kp K)
        rw [hc h7] at this ⊢
        exact this
    have HP := Lib.hid (parts_inner hk)
    have HU1 := Lib.hid (fun W (K : Kp [] w W) => under_one (ND.kp0 K))
    have HU2 := Lib.hid (fun W (K : Kp [] w W) => under_two (ND.kp0 K))
    have S0 : Hid (∀ W, Kp [] w W → W.cell? ⟨g, 0, none⟩ = some (.int .i64 k) ∧ W.cell? ⟨g, 3, none⟩ = some (.pointer pa) ∧ W.cell? ⟨g, 4, none⟩ = some (.pointer pb) ∧ W.cell? ⟨g, 5, none⟩ = some (.pointer pc)) :=
      fun W K => have h := (ND.kp0 K).cells; ⟨h.1, h.2.2.2.1, h.2.2.2.2.1, h.2.2.2.2.2⟩
    have K0 : Hid (Kp [] w w.drew) := (Kp.refl [] w).drew
    generalize hB k = u1 at *
    generalize (allM l).at d a = ra at *
    generalize (allM l).at (d + u1) b = rb at *
    generalize (allM l).at (d + hC k) c = rc at *
    clear hf1e hf2e ia ib ic A B C ND hd0 hd1 hk hc oa ob oc b1 hN hN2 ol hq htn
    unfold MkPost at HA HB HC ⊢
    go_enter Try.func35, Try.ntmps35
    go_wp2_with (go_at_call 31; refine Calls.mono (HP.out _) ?_; rintro e w2 ⟨v, rfl, hv, rfl⟩)
    go_region_held3 (fun w' => w'.cell? ⟨g, 0, none⟩ = some (.int .i64 k) ∧ w'.cell? ⟨g, 3, none⟩ = some (.pointer pa) ∧ w'.cell? ⟨g, 4, none⟩ = some (.pointer pb) ∧ w'.cell? ⟨g, 5, none⟩ = some (.pointer pc))
      (first | exact S0.out _ K0.out | exact S0.out _ K1.out | exact S0.out _ K2.out | exact S0.out _ K3.out | exact S0.out _ (K3.out.alloc _))
      (first
      | (go_at_call_of 35 pa; refine Calls.mono (HA.out _ K0.out) ?_; rintro e w1 ⟨q1, rfl, k1, t1⟩; have K1 := Lib.hid (K0.out.trans k1); have T1 := Lib.hid t1; clear k1 t1)
      | (go_at_call_of 35 pb; (try rw [e1]); refine Calls.mono (HB.out _ K1.out) ?_; rintro e w3 ⟨q2, rfl, k2, t2⟩; have K2 := Lib.hid (K1.out.trans k2); have T2 := Lib.hid t2; have T12 := Lib.hid (T1.out.kp0 k2); clear k2 t2)
      | (go_at_call_of 35 pc; (try rw [e2]); refine Calls.mono (HC.out _ K2.out) ?_; rintro e w4 ⟨q3, rfl, k3, t3⟩; have K3 := Lib.hid (K2.out.trans k3); have T3 := Lib.hid t3; have T13 := Lib.hid (T12.out.kp0 k3); have T23 := Lib.hid (T2.out.kp0 k3); clear k3 t3)
      | (go_at_call 32; have _h := K2; refine Calls.mono (HU2.out _ K2.out) ?_; rintro e w6 ⟨rfl, rfl⟩)
      | (go_at_call 32; refine Calls.mono (HU1.out _ K1.out) ?_; rintro e w5 ⟨rfl, rfl⟩))
    all_goals
      go_wp2_with fail
      go_ret
      exact ⟨_, rfl, K3.out.alloc _, TmP.new (P := fun _ => True) trivial T13.out T23.out T3.out⟩
section
variable {w : World} {t u : Tm} {p q : Option Addr} {N N2 : Int} {H H2 : Nat}
theorem putIn_any (h : TOk w t p N H) (hu : TOk w u q N2 H2) (e : Int) (hN : N ≤ 1000000000) (hM : N2 ≤ 1000000000) (hH : H ≤ 60000) (hH2 : H2 ≤ 60000) (he0 : 0 ≤ e) (he1 : e ≤ 1000000) :
    Calls Try.prog 16 #[.pointer p, .pointer q, .int .i64 e] w (MkPost ((putM u e).at 0 t) w) := by
  have h1 := h.ht
  have h2 := hu.ht
  have H9 : Hid (Calls Try.prog 33 #[.pointer p, .pointer q, .int .i64 e, .int .i64 0] w (MkPost ((putM u e).at 0 t) w)) := rput_any e he0 he1 hN hM h.ok hu.ok (by omega) w 0 p q (Int.le_refl _) (by omega) h.at' hu.at'
  unfold MkPost at H9 ⊢
  clear h hu h1 h2 he0 he1 hN hM hH hH2
  go_enter Try.func16, Try.ntmps16
  go_wp2_with (go_at_call 33; refine Calls.mono H9.out ?_; rintro e w2 ⟨q2, rfl, kk, tt⟩)
  go_ret
  exact ⟨_, rfl, kk, tt⟩
theorem bindR_any (h : TOk w t p N H) (nm : ByteArray) (hN : N ≤ 1000000000) (hH : H ≤ 60000) :
    Calls Try.prog 18 #[.pointer p, .string nm] w (MkPost ((bindM nm).at 0 t) w) := by
  have h1 := h.ht
  have H9 : Hid (Calls Try.prog 34 #[.pointer p, .string nm, .int .i64 0] w (MkPost ((bindM nm).at 0 t) w)) := rbind_any nm hN h.ok w 0 p (Int.le_refl _) (by omega) h.at'
  unfold MkPost at H9 ⊢
  clear h h1 hN hH
  go_enter Try.func18, Try.ntmps18
  go_wp2_with (go_at_call 34; refine Calls.mono H9.out ?_; rintro e w2 ⟨q2, rfl, kk, tt⟩)
  go_ret
  exact ⟨_, rfl, kk, tt⟩
theorem allR_any {l : List Tm} (h : TOk w t p N H) (ol : ∀ u ∈ l, Ok N2 u ∧ u.ht ≤ 100000) {ta : Option Addr} {tn tc : Nat} {ps : List (Option Addr)} (hT : TermsAt w ta tn ps l) (htn : tn ≤ 100000) (hN : N ≤ 1000000000) (hM : N2 ≤ 1000000000) (hH : H ≤ 60000) :
    Calls Try.prog 20 #[.pointer p, .slice ta tn tc] w (MkPost ((allM l).at 0 t) w) := by
  have h1 := h.ht
  have H9 : Hid (Calls Try.prog 35 #[.pointer p, .slice ta tn tc, .int .i64 0] w (MkPost ((allM l).at 0 t) w)) := rall_any hN hM h.ok ol htn w 0 p (Int.le_refl _) (by omega) h.at' hT
  unfold MkPost at H9 ⊢
  clear h h1 hN hH ol hT htn hM
  go_enter Try.func20, Try.ntmps20
  go_wp2_with (go_at_call 35; refine Calls.mono H9.out ?_; rintro e w2 ⟨q2, rfl, kk, tt⟩)
  go_ret
  exact ⟨_, rfl, kk, tt⟩
end
end Go.Proofs.Ytphdfopdephanaa
