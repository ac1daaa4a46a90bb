/- Contract of the reference's Same: two terms are the same if they are. -/
import Derived.Test.YtcfhhabjiofehaaSpC
namespace Go.Proofs.Ytcfhhabjiofehaa
open Go.RowKit

def SamePost (v : Bool) (w : World) (e : Ending) (w2 : World) : Prop := e = .returned (.bool v) ∧ ∃ n, w2 = w.drewN n
set_option maxHeartbeats 6400000 in
theorem same_any : ∀ (t u : Tm) (w : World) (p q : Option Addr), TmAt w t p → TmAt w u q →
    Calls Try.prog 13 #[.pointer p, .pointer q] w (SamePost (decide (t = u)) w) := by
  unfold SamePost
  intro t
  induction t with
  | nil =>
    intro u w p q hp hq
    obtain rfl : p = none := hp
    cases u with
    | nil =>
      obtain rfl : q = none := hq
      go_enter Try.func13, Try.ntmps13
      go_wp2
      go_ret
      exact ⟨rfl, 0, rfl⟩
    | node k n s a b c =>
      obtain ⟨g, pa, pb, pc, rfl, _, N, _, _, _⟩ := hq
      go_enter Try.func13, Try.ntmps13
      go_wp2
      go_ret
      exact ⟨rfl, 0, rfl⟩
  | node k n s a b c ia ib ic =>
    intro u w p q hp hq
    obtain ⟨g, pa, pb, pc, rfl, _, N, A, B, C⟩ := hp
    cases u with
    | nil =>
      obtain rfl : q = none := hq
      go_enter Try.func13, Try.ntmps13
      go_wp2
      go_ret
      exact ⟨rfl, 0, rfl⟩
    | node k2 n2 s2 a2 b2 c2 =>
      obtain ⟨g2, pa2, pb2, pc2, rfl, _, N2, A2, B2, C2⟩ := hq
      obtain ⟨x0, x1, x2, x3, x4, x5⟩ := N.cells
      obtain ⟨y0, y1, y2, y3, y4, y5⟩ := N2.cells
      have JA : Hid (∀ m, Calls Try.prog 13 #[.pointer pa, .pointer pa2] (w.drewN m) fun e w2 => e = .returned (.bool (decide (a = a2))) ∧ ∃ n, w2 = (w.drewN m).drewN n) := fun m => ia a2 _ pa pa2 (A.kp0 ((Kp.refl [] w).drewN m)) (A2.kp0 ((Kp.refl [] w).drewN m))
      have JB : Hid (∀ m, Calls Try.prog 13 #[.pointer pb, .pointer pb2] (w.drewN m) fun e w2 => e = .returned (.bool (decide (b = b2))) ∧ ∃ n, w2 = (w.drewN m).drewN n) := fun m => ib b2 _ pb pb2 (B.kp0 ((Kp.refl [] w).drewN m)) (B2.kp0 ((Kp.refl [] w).drewN m))
      have JC : Hid (∀ m, Calls Try.prog 13 #[.pointer pc, .pointer pc2] (w.drewN m) fun e w2 => e = .returned (.bool (decide (c = c2))) ∧ ∃ n, w2 = (w.drewN m).drewN n) := fun m => ic c2 _ pc pc2 (C.kp0 ((Kp.refl [] w).drewN m)) (C2.kp0 ((Kp.refl [] w).drewN m))
      clear ia ib ic A B C A2 B2 C2 N N2
      have E : (Tm.node k n s a b c = Tm.node k2 n2 s2 a2 b2 c2) = (k = k2 ∧ n = n2 ∧ s = s2 ∧ a = a2 ∧ b = b2 ∧ c = c2) := by rw [Tm.node.injEq]
      have hs := eq_toList s s2
      obtain ⟨r, hr⟩ : ∃ r, r = decide (Tm.node k n s a b c = Tm.node k2 n2 s2 a2 b2 c2) := ⟨_, rfl⟩
      rw [← hr]
      have R : ∀ X : Prop, [Decidable X] → ((k = k2 ∧ n = n2 ∧ s = s2 ∧ a = a2 ∧ b = b2 ∧ c = c2) ↔ X) → r = decide X := fun X _ h => by rw [hr, decide_eq_decide, E]; exact h
      clear hr E
      by_cases e0 : k = k2
      · have h0 : (k == k2) = true := by simpa using e0
        by_cases e1 : n = n2
        · have h1 : (n == n2) = true := by simpa using e1
          by_cases e2 : s = s2
          · rw [decide_eq_true e2] at hs
            by_cases e3 : a = a2
            · rw [decide_eq_true e3] at JA
              by_cases e4 : b = b2
              · rw [decide_eq_true e4] at JB
                obtain rfl := R (c = c2) (by simp [e0, e1, e2, e3, e4])
                clear R e0 e1 e2 e3 e4
                go_enter Try.func13, Try.ntmps13
                go_wp2_with fail
                simp only [List.append_eq, List.cons_append, List.nil_append]
                go_quiet (first
                  | (go_at_call_of 13 pa; exact Calls.quiet_of (JA.out _))
                  | (go_at_call_of 13 pb; exact Calls.quiet_of (JB.out _))
                  | (go_at_call_of 13 pc; exact Calls.quiet_of (JC.out _)))
                go_wp2_with fail
                go_ret
                exact ⟨rfl, _, rfl⟩
              · rw [decide_eq_false e4] at JB
                obtain rfl := R False (by simp [e0, e1, e2, e3, e4])
                clear R e0 e1 e2 e3 e4
                go_enter Try.func13, Try.ntmps13
                go_wp2_with fail
                simp only [List.append_eq, List.cons_append, List.nil_append]
                go_quiet (first
                  | (go_at_call_of 13 pa; exact Calls.quiet_of (JA.out _))
                  | (go_at_call_of 13 pb; exact Calls.quiet_of (JB.out _)))
                go_wp2_with fail
                go_ret
                exact ⟨rfl, _, rfl⟩
            · rw [decide_eq_false e3] at JA
              obtain rfl := R False (by simp [e0, e1, e2, e3])
              clear R e0 e1 e2 e3
              go_enter Try.func13, Try.ntmps13
              go_wp2_with fail
              simp only [List.append_eq, List.cons_append, List.nil_append]
              go_quiet ((go_at_call_of 13 pa; exact Calls.quiet_of (JA.out _)))
              go_wp2_with fail
              go_ret
              exact ⟨rfl, _, rfl⟩
          · rw [decide_eq_false e2] at hs
            obtain rfl := R False (by simp [e0, e1, e2])
            clear R e0 e1 e2
            go_enter Try.func13, Try.ntmps13
            go_wp2_with fail
            simp only [List.append_eq, List.cons_append, List.nil_append]
            go_quiet (fail)
            go_wp2_with fail
            go_ret
            exact ⟨rfl, _, rfl⟩
        · have h1 : (n == n2) = false := by simpa using e1
          obtain rfl := R False (by simp [e0, e1])
          clear R e0 e1
          go_enter Try.func13, Try.ntmps13
          go_wp2_with fail
          simp only [List.append_eq, List.cons_append, List.nil_append]
          go_quiet (fail)
          go_wp2_with fail
          go_ret
          exact ⟨rfl, _, rfl⟩
      · have h0 : (k == k2) = false := by simpa using e0
        obtain rfl := R False (by simp [e0])
        clear R e0
        go_enter Try.func13, Try.ntmps13
        go_wp2_with fail
        simp only [List.append_eq, List.cons_append, List.nil_append]
        go_quiet (fail)
        go_wp2_with fail
        go_ret
        exact ⟨rfl, _, rfl⟩
end Go.Proofs.Ytcfhhabjiofehaa
