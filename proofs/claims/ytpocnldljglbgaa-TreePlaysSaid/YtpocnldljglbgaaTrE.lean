/- Contracts of package tree: with. -/
import Derived.Test.YtpocnldljglbgaaTrD
namespace Go.Proofs.Ytpocnldljglbgaa
open Go.RowKit

def WithPost (k : ByteArray) (n : Int) (t : Tr) (w : World) (e : Ending) (w2 : World) : Prop := ∃ p, e = .returned (.pointer p) ∧ Kp [] w w2 ∧ TAt w2 (t.ins k n) p
set_option maxHeartbeats 3200000 in
theorem with_any (k : ByteArray) (n : Int) (t : Tr) : ∀ (w : World) (p : Option Addr), TAt w t p → t.sz ≤ 500000 →
    Calls Try.prog 21 #[.pointer p, .agg #[.string k, .int .i64 n]] w (WithPost k n t w) := by
  unfold WithPost
  induction t with
  | nil =>
    intro w p hp _
    obtain rfl : p = none := hp
    have E0 := Lib.hid (EntAt.new w k n)
    have d0 := E0.out.two.1
    have d1 := E0.out.two.2
    have J : Hid (∀ W, Calls Try.prog 28 #[.agg #[.string k, .int .i64 n], .pointer none, .pointer none] W fun e w2 => ∃ p, e = .returned (.pointer p) ∧ Kp [] W w2 ∧ TAt w2 (.node k n .nil .nil) p) :=
      fun W => join_any k n (l := .nil) (r := .nil) (w := W) rfl rfl (by simp [Tr.sz])
    go_enter Try.func21, Try.ntmps21
    go_wp2_with fail
    refine Calls.mono (J.out _) ?_
    rintro e w2 ⟨p, rfl, k2, t2⟩
    have K2 : Hid (Kp [] w w2) := ((Kp.refl [] w).alloc _).trans k2
    have T2 := Lib.hid t2
    clear k2 t2
    go_wp2_with fail
    go_ret
    exact ⟨_, rfl, K2.out, T2.out⟩
  | node a m l r ihl ihr =>
    intro w p hp hs
    obtain ⟨g, px, py, rfl, N, X, Y⟩ := hp
    have N' : NdAt (w.alloc (.cells #[.string k, .int .i64 n] 55)) g a m px py _ _ := N.kp ((Kp.refl [] w).alloc _)
    have E0 := Lib.hid (EntAt.new w k n)
    have d0 := E0.out.two.1
    have d1 := E0.out.two.2
    have c0 := N'.c0
    have S0 : Hid (∀ W, Kp [] (w.alloc (.cells #[.string k, .int .i64 n] 55)) W → W.cell? ⟨g, 0, none⟩ = some (.string a) ∧ W.cell? ⟨g, 1, none⟩ = some (.int .i64 m) ∧ W.cell? ⟨g, 2, none⟩ = some (.pointer px) ∧ W.cell? ⟨g, 3, none⟩ = some (.pointer py) ∧ W.cell? ⟨w.heap.size, 0, none⟩ = some (.string k) ∧ W.cell? ⟨w.heap.size, 1, none⟩ = some (.int .i64 n)) :=
      fun W K => ⟨(N'.kp K).c0, (N'.kp K).c1, (N'.kp K).c2, (N'.kp K).c3, (E0.out.kp K).two⟩
    have HK : Hid (∀ i : Nat, Kp [] w (w.alloc (.cells #[.string k, .int .i64 n] 55))) := fun _ => (Kp.refl [] w).alloc _
    have hX : Hid (∀ W, Kp [] w W → TAt W l px) := fun W K => X.kp K
    have hY : Hid (∀ W, Kp [] w W → TAt W r py) := fun W K => Y.kp K
    clear X Y N N'
    rcases klt_tri k a with h | h | h
    · have HC : Hid (∀ W, Calls Try.prog 25 #[.string k, .string a] W fun e w2 => e = .returned (.int .i64 (-1)) ∧ w2 = W) := fun W => by
        have := compare_str k a W
        rwa [show cmpS k a = -1 from if_pos h] at this
      have e0 : (Tr.node a m l r).ins k n = Tr.lev a m (l.ins k n) r := if_pos h
      rw [e0]
      have s1 : l.sz ≤ 500000 := by simp only [Tr.sz] at hs; omega
      have s2 : (l.ins k n).sz + r.sz ≤ 1000000 := by have := Tr.sz_ins k n l; simp only [Tr.sz] at hs; omega
      have J1 : Hid (∀ W, Kp [] w W → Calls Try.prog 21 #[.pointer px, .agg #[.string k, .int .i64 n]] W fun e w2 => ∃ p, e = .returned (.pointer p) ∧ Kp [] W w2 ∧ TAt w2 (l.ins k n) p) := fun W K => ihl W px (hX.out W K) s1
      have J2 : Hid (∀ W p1, Kp [] w W → TAt W (l.ins k n) p1 → Calls Try.prog 26 #[.agg #[.string a, .int .i64 m], .pointer p1, .pointer py] W (LevPost a m (l.ins k n) r W)) := fun W p1 K T => level_any a m T (hY.out W K) s2
      clear ihl ihr hs e0 s1 s2 h hX hY E0
      go_enter Try.func21, Try.ntmps21
      go_wp2_with fail
      go_quiet ((go_at_call 25; exact Calls.quiet_of_same (HC.out _)))
      go_wp2_with fail
      have K0 : Hid (∀ m, Kp [] (w.alloc (.cells #[.string k, .int .i64 n] 55)) ((w.alloc (.cells #[.string k, .int .i64 n] 55)).drewN m).drew) := fun m => ((Kp.refl [] _).drewN m).drew
      go_region_held3 (fun w' => w'.cell? ⟨g, 0, none⟩ = some (.string a) ∧ w'.cell? ⟨g, 1, none⟩ = some (.int .i64 m) ∧ w'.cell? ⟨g, 2, none⟩ = some (.pointer px) ∧ w'.cell? ⟨g, 3, none⟩ = some (.pointer py) ∧ w'.cell? ⟨w.heap.size, 0, none⟩ = some (.string k) ∧ w'.cell? ⟨w.heap.size, 1, none⟩ = some (.int .i64 n))
        (first | exact S0.out _ (K0.out _) | exact S0.out _ K1.out | exact S0.out _ K2.out)
        (first
        | (go_at_call_of 21 px; refine Calls.mono (J1.out _ ((HK.out 0).trans (K0.out _))) ?_; rintro e w1 ⟨p1, rfl, k1, z1⟩; have K1 := Lib.hid ((K0.out _).trans k1); have T1 := Lib.hid z1; clear k1 z1)
        | (go_at_call_of 26 py; refine Calls.mono (J2.out _ p1 ((HK.out 0).trans K1.out) T1.out) ?_; rintro e w2 ⟨p2, rfl, k2, z2⟩; have K2 := Lib.hid (K1.out.trans k2); have T2 := Lib.hid z2; clear k2 z2))
      all_goals
        go_wp2_with fail
        go_ret
        exact ⟨_, rfl, (HK.out 0).trans K2.out, T2.out⟩
    · subst h
      have HC : Hid (∀ W, Calls Try.prog 25 #[.string k, .string k] W fun e w2 => e = .returned (.int .i64 0) ∧ w2 = W) := fun W => by
        have := compare_str k k W
        rwa [show cmpS k k = 0 from (if_neg (klt_irrefl k)).trans (if_neg (klt_irrefl k))] at this
      have e0 : (Tr.node k m l r).ins k n = .node k n l r := (if_neg (klt_irrefl k)).trans (if_neg (klt_irrefl k))
      rw [e0]
      have s2 : l.sz + r.sz ≤ 1000000 := by simp only [Tr.sz] at hs; omega
      have J2 : Hid (∀ W, Kp [] w W → Calls Try.prog 28 #[.agg #[.string k, .int .i64 n], .pointer px, .pointer py] W fun e w2 => ∃ p, e = .returned (.pointer p) ∧ Kp [] W w2 ∧ TAt w2 (.node k n l r) p) := fun W K => join_any k n (hX.out W K) (hY.out W K) s2
      clear ihl ihr hs e0 s2 hX hY E0
      go_enter Try.func21, Try.ntmps21
      go_wp2_with fail
      go_quiet ((go_at_call 25; exact Calls.quiet_of_same (HC.out _)))
      go_wp2_with fail
      have K0 : Hid (∀ m, Kp [] (w.alloc (.cells #[.string k, .int .i64 n] 55)) ((w.alloc (.cells #[.string k, .int .i64 n] 55)).drewN m).drew) := fun m => ((Kp.refl [] _).drewN m).drew
      go_region_held3 (fun w' => w'.cell? ⟨g, 0, none⟩ = some (.string k) ∧ w'.cell? ⟨g, 1, none⟩ = some (.int .i64 m) ∧ w'.cell? ⟨g, 2, none⟩ = some (.pointer px) ∧ w'.cell? ⟨g, 3, none⟩ = some (.pointer py) ∧ w'.cell? ⟨w.heap.size, 0, none⟩ = some (.string k) ∧ w'.cell? ⟨w.heap.size, 1, none⟩ = some (.int .i64 n))
        (first | exact S0.out _ (K0.out _) | exact S0.out _ K2.out)
        ((go_at_call_of 28 py; refine Calls.mono (J2.out _ ((HK.out 0).trans (K0.out _))) ?_; rintro e w2 ⟨p2, rfl, k2, z2⟩; have K2 := Lib.hid ((K0.out _).trans k2); have T2 := Lib.hid z2; clear k2 z2))
      all_goals
        go_wp2_with fail
        go_ret
        exact ⟨_, rfl, (HK.out 0).trans K2.out, T2.out⟩
    · have HC : Hid (∀ W, Calls Try.prog 25 #[.string k, .string a] W fun e w2 => e = .returned (.int .i64 1) ∧ w2 = W) := fun W => by
        have := compare_str k a W
        rwa [show cmpS k a = 1 from (if_neg (klt_asymm h)).trans (if_pos h)] at this
      have e0 : (Tr.node a m l r).ins k n = Tr.lev a m l (r.ins k n) := (if_neg (klt_asymm h)).trans (if_pos h)
      rw [e0]
      have s1 : r.sz ≤ 500000 := by simp only [Tr.sz] at hs; omega
      have s2 : l.sz + (r.ins k n).sz ≤ 1000000 := by have := Tr.sz_ins k n r; simp only [Tr.sz] at hs; omega
      have J1 : Hid (∀ W, Kp [] w W → Calls Try.prog 21 #[.pointer py, .agg #[.string k, .int .i64 n]] W fun e w2 => ∃ p, e = .returned (.pointer p) ∧ Kp [] W w2 ∧ TAt w2 (r.ins k n) p) := fun W K => ihr W py (hY.out W K) s1
      have J2 : Hid (∀ W p1, Kp [] w W → TAt W (r.ins k n) p1 → Calls Try.prog 26 #[.agg #[.string a, .int .i64 m], .pointer px, .pointer p1] W (LevPost a m l (r.ins k n) W)) := fun W p1 K T => level_any a m (hX.out W K) T s2
      clear ihl ihr hs e0 s1 s2 h hX hY E0
      go_enter Try.func21, Try.ntmps21
      go_wp2_with fail
      go_quiet ((go_at_call 25; exact Calls.quiet_of_same (HC.out _)))
      go_wp2_with fail
      have K0 : Hid (∀ m, Kp [] (w.alloc (.cells #[.string k, .int .i64 n] 55)) ((w.alloc (.cells #[.string k, .int .i64 n] 55)).drewN m).drew) := fun m => ((Kp.refl [] _).drewN m).drew
      go_region_held3 (fun w' => w'.cell? ⟨g, 0, none⟩ = some (.string a) ∧ w'.cell? ⟨g, 1, none⟩ = some (.int .i64 m) ∧ w'.cell? ⟨g, 2, none⟩ = some (.pointer px) ∧ w'.cell? ⟨g, 3, none⟩ = some (.pointer py) ∧ w'.cell? ⟨w.heap.size, 0, none⟩ = some (.string k) ∧ w'.cell? ⟨w.heap.size, 1, none⟩ = some (.int .i64 n))
        (first | exact S0.out _ (K0.out _) | exact S0.out _ K1.out | exact S0.out _ K2.out)
        (first
        | (go_at_call_of 21 py; refine Calls.mono (J1.out _ ((HK.out 0).trans (K0.out _))) ?_; rintro e w1 ⟨p1, rfl, k1, z1⟩; have K1 := Lib.hid ((K0.out _).trans k1); have T1 := Lib.hid z1; clear k1 z1)
        | (go_at_call_of 26 px; refine Calls.mono (J2.out _ p1 ((HK.out 0).trans K1.out) T1.out) ?_; rintro e w2 ⟨p2, rfl, k2, z2⟩; have K2 := Lib.hid (K1.out.trans k2); have T2 := Lib.hid z2; clear k2 z2))
      all_goals
        go_wp2_with fail
        go_ret
        exact ⟨_, rfl, (HK.out 0).trans K2.out, T2.out⟩
end Go.Proofs.Ytpocnldljglbgaa
