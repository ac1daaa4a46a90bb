/- Contracts of the reference's parts, under, Var, Lift. -/
import Derived.Test.YtphdfopdephanaaShC
namespace Go.Proofs.Ytphdfopdephanaa
open Go.RowKit

def isLeaf (k : Int) : Prop := k = 1 ∨ k = 2 ∨ k = 3
def isInner (k : Int) : Prop := k = 4 ∨ k = 5 ∨ k = 6 ∨ k = 7
theorem parts_leaf {k : Int} (hk : k = 1 ∨ k = 2 ∨ k = 3) (w : World) :
    Calls Try.prog 31 #[.int .i64 k] w fun e w2 => e = .returned (.int .i64 0) ∧ w2 = w := by
  rcases hk with rfl | rfl | rfl
  all_goals
    go_enter Try.func31, Try.ntmps31
    go_wp2
    go_ret
    exact ⟨rfl, rfl⟩
theorem parts_inner {k : Int} (hk : k = 4 ∨ k = 5 ∨ k = 6 ∨ k = 7) (w : World) :
    Calls Try.prog 31 #[.int .i64 k] w fun e w2 => ∃ v : Int, e = .returned (.int .i64 v) ∧ (v == 0) = false ∧ w2 = w := by
  rcases hk with rfl | rfl | rfl | rfl
  all_goals
    go_enter Try.func31, Try.ntmps31
    go_wp2
    go_ret
    exact ⟨_, rfl, rfl, rfl⟩
set_option maxRecDepth 20000 in
theorem under_one {w : World} {g : Nat} {k n : Int} {s : ByteArray} {pa pb pc : Option Addr} (N : NdAt w g k n s pa pb pc) :
    Calls Try.prog 32 #[.pointer (some ⟨g, 0, none⟩), .int .i64 1] w fun e w2 => e = .returned (.int .i64 (hB k)) ∧ w2 = w := by
  obtain ⟨x0, _, _, _, _, _⟩ := N.cells
  obtain ⟨h, hh⟩ : ∃ h, h = hB k := ⟨_, rfl⟩
  rw [← hh]
  unfold hB at hh
  by_cases h4 : k = 4
  · subst h4
    obtain rfl : h = 1 := by rw [hh]; rfl
    clear hh
    go_enter Try.func32, Try.ntmps32
    go_wp2_with fail
    go_ret
    exact ⟨rfl, rfl⟩
  · have b4 : (k == 4) = false := by simpa using h4
    by_cases h5 : k = 5
    · subst h5
      obtain rfl : h = 1 := by rw [hh]; rfl
      clear hh
      go_enter Try.func32, Try.ntmps32
      go_wp2_with fail
      go_ret
      exact ⟨rfl, rfl⟩
    · have b5 : (k == 5) = false := by simpa using h5
      obtain rfl : h = 0 := by rw [hh, if_neg (by omega)]
      clear hh h4 h5
      go_enter Try.func32, Try.ntmps32
      go_wp2_with fail
      go_ret
      exact ⟨rfl, rfl⟩
set_option maxRecDepth 20000 in
theorem under_two {w : World} {g : Nat} {k n : Int} {s : ByteArray} {pa pb pc : Option Addr} (_ : NdAt w g k n s pa pb pc) :
    Calls Try.prog 32 #[.pointer (some ⟨g, 0, none⟩), .int .i64 2] w fun e w2 => e = .returned (.int .i64 1) ∧ w2 = w := by
  go_enter Try.func32, Try.ntmps32
  go_wp2_with fail
  go_ret
  exact ⟨rfl, rfl⟩
/-- A call that makes a term and changes nothing that was. -/
def MkPost (t : Tm) (w : World) (e : Ending) (w2 : World) : Prop := ∃ q, e = .returned (.pointer q) ∧ Kp [] w w2 ∧ TmAt w2 t q
theorem var_any (n : Int) (w : World) : Calls Try.prog 27 #[.int .i64 n] w (MkPost (vr n) w) := by
  unfold MkPost
  go_enter Try.func27, Try.ntmps27
  go_wp2_with fail
  go_ret
  exact ⟨_, rfl, (Kp.refl [] w).alloc _, TmP.new (P := fun _ => True) trivial rfl rfl rfl⟩
theorem wrap_id {a b : Int} (h : a = b) (h1 : -1000000000000000 ≤ b) (h2 : b ≤ 1000000000000000) : IntKind.i64.wrap a = b := by
  rw [IntKind.wrap_i64]; omega
def big : Int := 1000000000000
set_option maxHeartbeats 3200000 in
theorem rlift_any {N : Int} (by' : Int) (hb0 : 0 ≤ by') (hb1 : by' ≤ 1000000) (hN : N ≤ 1000000000000) {t : Tm} (o : Ok N t) : ∀ (w : World) (fr : Int) (p : Option Addr), 0 ≤ fr → fr + t.ht ≤ 1000000000000 → TmAt w t p →
    Calls Try.prog 14 #[.pointer p, .int .i64 by', .int .i64 fr] w (MkPost (lift by' fr t) w) := by
  unfold MkPost
  by_cases hz : by' = 0
  · intro w fr p _ _ hp
    subst hz
    rw [lift_zero]
    cases t with
    | nil =>
      obtain rfl : p = none := hp
      go_enter Try.func14, Try.ntmps14
      go_wp2_with fail
      go_ret
      exact ⟨_, rfl, Kp.refl _ _, rfl⟩
    | node k n s a b c =>
      obtain ⟨g, pa, pb, pc, rfl, r⟩ := id hp
      have HP := Lib.hid hp
      clear hp r
      go_enter Try.func14, Try.ntmps14
      go_wp2_with fail
      go_ret
      exact ⟨_, rfl, Kp.refl _ _, HP.out⟩
  have z0 : (by' == 0) = false := by simpa using hz
  induction o with
  | nil =>
    intro w fr p _ _ hp
    obtain rfl : p = none := hp
    go_enter Try.func14, Try.ntmps14
    go_wp2_with fail
    go_ret
    exact ⟨_, rfl, Kp.refl _ _, rfl⟩
  | var n h0 h1 =>
    intro w fr p hf0 hf1 hp
    rw [show Tm.node 2 n noS .nil .nil .nil = vr n from rfl] at hp
    have HP := Lib.hid hp
    obtain ⟨g, pa, pb, pc, rfl, _, ND, _, _, _⟩ := hp
    obtain ⟨x0, x1, _, _, _, _⟩ := ND.cells
    show Calls _ _ _ _ (fun e w2 => ∃ q, e = .returned (.pointer q) ∧ Kp [] w w2 ∧ TmAt w2 (lift by' fr (vr n)) q)
    rw [lift_var]
    by_cases hd : fr ≤ n
    · rw [if_pos hd]
      have d1 : decide (fr ≤ n) = true := by simpa using hd
      have e1 : IntKind.i64.wrap (n + by') = n + by' := wrap_id rfl (by omega) (by omega)
      clear ND hd hz h0 h1 hf0 hf1 hb0 hb1
      go_enter Try.func14, Try.ntmps14
      go_wp2_with (go_at_call 27; (try rw [e1]); refine Calls.mono (var_any _ _) ?_; rintro e w2 ⟨q, rfl, k2, t2⟩; have K2 := Lib.hid k2; have T2 := Lib.hid t2; clear k2 t2)
      go_ret
      exact ⟨_, rfl, K2.out, T2.out⟩
    · rw [if_neg hd]
      have d1 : decide (fr ≤ n) = false := by simpa using hd
      clear ND hd hz h0 h1 hf0 hf1 hb0 hb1
      go_enter Try.func14, Try.ntmps14
      go_wp2_with fail
      go_ret
      exact ⟨_, rfl, Kp.refl _ _, HP.out⟩
  | leaf k n s hk =>
    intro w fr p hf0 hf1 hp
    have HP := Lib.hid hp
    obtain ⟨g, pa, pb, pc, rfl, _, ND, _, _, _⟩ := hp
    obtain ⟨x0, x1, _, _, _, _⟩ := ND.cells
    rw [lift_leaf _ _ _ _ _ hk]
    have k2 : (k == 2) = false := by simp; omega
    have PL := Lib.hid (parts_leaf (k := k) (by omega))
    clear ND hz hf0 hf1 hb0 hb1 hk
    go_enter Try.func14, Try.ntmps14
    go_wp2_with (go_at_call 31; refine Calls.mono (PL.out _) ?_; rintro e w2 ⟨rfl, rfl⟩)
    go_ret
    exact ⟨_, rfl, Kp.refl _ _, HP.out⟩
  | inner k a b c hk hc ha hbb hcc ia ib ic =>
    intro w fr p hf0 hf1 hp
    obtain ⟨g, pa, pb, pc, rfl, _, ND, A, B, C⟩ := hp
    obtain ⟨x0, _, _, x3, x4, x5⟩ := ND.cells
    have k2 : (k == 2) = false := by simp; omega
    have b1 := hB_01 k
    rw [lift_inner _ _ _ _ _ _ hk]
    simp only [Tm.ht] at hf1
    obtain ⟨f1, hf1e⟩ : ∃ f1, f1 = fr + hB k := ⟨_, rfl⟩
    obtain ⟨f2, hf2e⟩ : ∃ f2, f2 = fr + 1 := ⟨_, rfl⟩
    have e1 : IntKind.i64.wrap (fr + hB k) = f1 := wrap_id hf1e.symm (by omega) (by omega)
    have e2 : IntKind.i64.wrap (fr + 1) = f2 := wrap_id hf2e.symm (by omega) (by omega)
    have HA : Hid (∀ W, Kp [] w W → Calls Try.prog 14 #[.pointer pa, .int .i64 by', .int .i64 fr] W fun e w2 => ∃ q, e = .returned (.pointer q) ∧ Kp [] W w2 ∧ TmAt w2 (lift by' fr a) q) := fun W K => ia W fr pa hf0 (by omega) (A.kp0 K)
    have HB : Hid (∀ W, Kp [] w W → Calls Try.prog 14 #[.pointer pb, .int .i64 by', .int .i64 f1] W fun e w2 => ∃ q, e = .returned (.pointer q) ∧ Kp [] W w2 ∧ TmAt w2 (lift by' (fr + hB k) b) q) := fun W K => by
      rw [hf1e]
      exact ib W _ pb (by omega) (by omega) (B.kp0 K)
    have HC : Hid (∀ W, Kp [] w W → Calls Try.prog 14 #[.pointer pc, .int .i64 by', .int .i64 f2] W fun e w2 => ∃ q, e = .returned (.pointer q) ∧ Kp [] W w2 ∧ TmAt w2 (lift by' (fr + hC k) c) q) := fun W K => by
      rw [hf2e]
      by_cases h7 : k = 7
      · have : hC k = 1 := by subst h7; rfl
        rw [this]
        exact ic W _ pc (by omega) (by omega) (C.kp0 K)
      · have := ic W (fr + 1) pc (by omega) (by omega) (C.kp0 K)
        rw [hc h7] at this ⊢
        exact this
    have HP := Lib.hid (parts_inner hk)
    have HU1 := Lib.hid (fun W (K : Kp [] w W) => under_one (ND.kp0 K))
    have HU2 := Lib.hid (fun W (K : Kp [] w W) => under_two (ND.kp0 K))
    have S0 : Hid (∀ W, Kp [] w W → W.cell? ⟨g, 0, none⟩ = some (.int .i64 k) ∧ W.cell? ⟨g, 3, none⟩ = some (.pointer pa) ∧ W.cell? ⟨g, 4, none⟩ = some (.pointer pb) ∧ W.cell? ⟨g, 5, none⟩ = some (.pointer pc)) :=
      fun W K => have h := (ND.kp0 K).cells; ⟨h.1, h.2.2.2.1, h.2.2.2.2.1, h.2.2.2.2.2⟩
    have K0 : Hid (Kp [] w w.drew) := (Kp.refl [] w).drew
    generalize hB k = u1 at *
    clear hf1e hf2e hz ia ib ic A B C ND hf0 hf1 hb0 hb1 hk hc ha hbb hcc b1
    go_enter Try.func14, Try.ntmps14
    go_wp2_with (go_at_call 31; refine Calls.mono (HP.out _) ?_; rintro e w2 ⟨v, rfl, hv, rfl⟩)
    go_region_held3 (fun w' => w'.cell? ⟨g, 0, none⟩ = some (.int .i64 k) ∧ w'.cell? ⟨g, 3, none⟩ = some (.pointer pa) ∧ w'.cell? ⟨g, 4, none⟩ = some (.pointer pb) ∧ w'.cell? ⟨g, 5, none⟩ = some (.pointer pc))
      (first | exact S0.out _ K0.out | exact S0.out _ K1.out | exact S0.out _ K2.out | exact S0.out _ K3.out | exact S0.out _ (K3.out.alloc _))
      (first
      | (go_at_call_of 14 pa; refine Calls.mono (HA.out _ K0.out) ?_; rintro e w1 ⟨q1, rfl, k1, t1⟩; have K1 := Lib.hid (K0.out.trans k1); have T1 := Lib.hid t1; clear k1 t1)
      | (go_at_call_of 14 pb; (try rw [e1]); refine Calls.mono (HB.out _ K1.out) ?_; rintro e w3 ⟨q2, rfl, k2, t2⟩; have K2 := Lib.hid (K1.out.trans k2); have T2 := Lib.hid t2; have T12 := Lib.hid (T1.out.kp0 k2); clear k2 t2)
      | (go_at_call_of 14 pc; (try rw [e2]); refine Calls.mono (HC.out _ K2.out) ?_; rintro e w4 ⟨q3, rfl, k3, t3⟩; have K3 := Lib.hid (K2.out.trans k3); have T3 := Lib.hid t3; have T13 := Lib.hid (T12.out.kp0 k3); have T23 := Lib.hid (T2.out.kp0 k3); clear k3 t3)
      | (go_at_call 32; have _h := K2; refine Calls.mono (HU2.out _ K2.out) ?_; rintro e w6 ⟨rfl, rfl⟩)
      | (go_at_call 32; refine Calls.mono (HU1.out _ K1.out) ?_; rintro e w5 ⟨rfl, rfl⟩))
    all_goals
      go_wp2_with fail
      go_ret
      exact ⟨_, rfl, K3.out.alloc _, TmP.new (P := fun _ => True) trivial T13.out T23.out T3.out⟩
end Go.Proofs.Ytphdfopdephanaa
