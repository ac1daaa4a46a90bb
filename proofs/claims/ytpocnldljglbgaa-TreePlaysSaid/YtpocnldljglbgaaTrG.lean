/- Contracts of package tree: without, find. -/
import Derived.Test.YtpocnldljglbgaaTrF
namespace Go.Proofs.Ytpocnldljglbgaa
open Go.RowKit

def DelPost (k : ByteArray) (t : Tr) (w : World) (e : Ending) (w2 : World) : Prop := ∃ p, e = .returned (.pointer p) ∧ Kp [] w w2 ∧ TAt w2 (t.del k) p
set_option maxHeartbeats 3200000 in
theorem del_any (k : ByteArray) (t : Tr) : ∀ (w : World) (p : Option Addr), t.get k ≠ none → TAt w t p → t.sz ≤ 500000 →
    Calls Try.prog 20 #[.pointer p, .string k] w (DelPost k t w) := by
  unfold DelPost
  induction t with
  | nil => intro w p h; exact absurd rfl h
  | node a m l r ihl ihr =>
    intro w p hg hp hs
    obtain ⟨g, px, py, rfl, N, X, Y⟩ := hp
    have S0 : Hid (∀ W, Kp [] w W → W.cell? ⟨g, 0, none⟩ = some (.string a) ∧ W.cell? ⟨g, 1, none⟩ = some (.int .i64 m) ∧ W.cell? ⟨g, 2, none⟩ = some (.pointer px) ∧ W.cell? ⟨g, 3, none⟩ = some (.pointer py)) :=
      fun W K => ⟨(N.kp K).c0, (N.kp K).c1, (N.kp K).c2, (N.kp K).c3⟩
    have c0 := N.c0
    have hX : Hid (∀ W, Kp [] w W → TAt W l px) := fun W K => X.kp K
    have hY : Hid (∀ W, Kp [] w W → TAt W r py) := fun W K => Y.kp K
    rcases klt_tri k a with h | h | h
    · have HC : Hid (∀ W, Calls Try.prog 25 #[.string k, .string a] W fun e w2 => e = .returned (.int .i64 (-1)) ∧ w2 = W) := fun W => by
        have := compare_str k a W
        rwa [show cmpS k a = -1 from if_pos h] at this
      have hg1 : l.get k ≠ none := by
        unfold Tr.get at hg
        rwa [if_neg (klt_ne h).symm, if_pos h] at hg
      have e0 : (Tr.node a m l r).del k = Tr.lev a m (l.del k) r := if_pos h
      rw [e0]
      have s1 : l.sz ≤ 500000 := by simp only [Tr.sz] at hs; omega
      have s2 : (l.del k).sz + r.sz ≤ 1000000 := by have := Tr.sz_del k l; simp only [Tr.sz] at hs; omega
      have J1 : Hid (∀ W, Kp [] w W → Calls Try.prog 20 #[.pointer px, .string k] W fun e w2 => ∃ p, e = .returned (.pointer p) ∧ Kp [] W w2 ∧ TAt w2 (l.del k) p) := fun W K => ihl W px hg1 (hX.out W K) s1
      have J2 : Hid (∀ W p1, Kp [] w W → TAt W (l.del k) p1 → Calls Try.prog 26 #[.agg #[.string a, .int .i64 m], .pointer p1, .pointer py] W (LevPost a m (l.del k) r W)) := fun W p1 K T => level_any a m T (hY.out W K) s2
      clear ihl ihr hs e0 s1 s2 h hX hY hg hg1 N X Y
      go_enter Try.func20, Try.ntmps20
      go_wp2_with (go_at_call 25; refine Calls.mono (HC.out _) ?_; rintro e w2 ⟨rfl, hw⟩; have hw := hw.symm; subst hw)
      have K0 : Hid (Kp [] w w.drew) := (Kp.refl [] w).drew
      go_region_held3 (fun w' => w'.cell? ⟨g, 0, none⟩ = some (.string a) ∧ w'.cell? ⟨g, 1, none⟩ = some (.int .i64 m) ∧ w'.cell? ⟨g, 2, none⟩ = some (.pointer px) ∧ w'.cell? ⟨g, 3, none⟩ = some (.pointer py))
        (first | exact S0.out _ K0.out | exact S0.out _ K1.out | exact S0.out _ K2.out)
        (first
        | (go_at_call_of 20 px; refine Calls.mono (J1.out _ K0.out) ?_; rintro e w1 ⟨p1, rfl, k1, z1⟩; have K1 := Lib.hid (K0.out.trans k1); have T1 := Lib.hid z1; clear k1 z1)
        | (go_at_call_of 26 py; refine Calls.mono (J2.out _ p1 K1.out T1.out) ?_; rintro e w2 ⟨p2, rfl, k2, z2⟩; have K2 := Lib.hid (K1.out.trans k2); have T2 := Lib.hid z2; clear k2 z2))
      all_goals
        go_wp2_with fail
        go_ret
        exact ⟨_, rfl, K2.out, T2.out⟩
    · subst h
      have HC : Hid (∀ W, Calls Try.prog 25 #[.string k, .string k] W fun e w2 => e = .returned (.int .i64 0) ∧ w2 = W) := fun W => by
        have := compare_str k k W
        rwa [show cmpS k k = 0 from (if_neg (klt_irrefl k)).trans (if_neg (klt_irrefl k))] at this
      cases r with
      | nil =>
        have e0 : (Tr.node k m l .nil).del k = l := (if_neg (klt_irrefl k)).trans (if_neg (klt_irrefl k))
        rw [e0]
        obtain rfl : py = none := Y
        have c2 := N.c2
        have c3 := N.c3
        have X0 := Lib.hid X
        clear ihl ihr hs e0 hX hY hg N X S0
        go_enter Try.func20, Try.ntmps20
        go_wp2_with (go_at_call 25; refine Calls.mono (HC.out _) ?_; rintro e w2 ⟨rfl, hw⟩; have hw := hw.symm; subst hw)
        go_ret
        exact ⟨_, rfl, Kp.refl _ _, X0.out⟩
      | node b q x z =>
        have e0 : (Tr.node k m l (.node b q x z)).del k = Tr.lev (Tr.node b q x z).first.1.1 (Tr.node b q x z).first.1.2 l (Tr.node b q x z).first.2 := (if_neg (klt_irrefl k)).trans (if_neg (klt_irrefl k))
        rw [e0]
        have s1 : (Tr.node b q x z).sz ≤ 500000 := by simp only [Tr.sz] at hs ⊢; omega
        have s2 : l.sz + (Tr.node b q x z).first.2.sz ≤ 1000000 := by have := Tr.sz_first (t := Tr.node b q x z) (fun e => by cases e); simp only [Tr.sz] at hs this ⊢; omega
        have J1 : Hid (∀ W, Kp [] w W → Calls Try.prog 27 #[.pointer py] W fun e w2 => ∃ p, e = .returned (.tuple #[.agg #[.string (Tr.node b q x z).first.1.1, .int .i64 (Tr.node b q x z).first.1.2], .pointer p]) ∧ Kp [] W w2 ∧ TAt w2 (Tr.node b q x z).first.2 p) :=
          fun W K => first_any (Tr.node b q x z) W _ (fun e => by cases e) (hY.out W K) s1
        obtain ⟨⟨⟨k1, n1⟩, t1⟩, hf⟩ : ∃ F, F = (Tr.node b q x z).first := ⟨_, rfl⟩
        rw [← hf] at s2 J1 ⊢
        have J2 : Hid (∀ W p1, Kp [] w W → TAt W t1 p1 → Calls Try.prog 26 #[.agg #[.string k1, .int .i64 n1], .pointer px, .pointer p1] W (LevPost k1 n1 l t1 W)) := fun W p1 K T => level_any k1 n1 (hX.out W K) T s2
        obtain ⟨g2, px2, py2, hpx, N2, X2, Y2⟩ := Y
        subst hpx
        have c3 := N.c3
        clear ihl ihr hs e0 hX hY hg N X N2 X2 Y2 s1 s2 hf
        go_enter Try.func20, Try.ntmps20
        go_wp2_with (go_at_call 25; refine Calls.mono (HC.out _) ?_; rintro e w2 ⟨rfl, hw⟩; have hw := hw.symm; subst hw)
        refine Calls.mono (J1.out _ (Kp.refl _ _)) ?_
        rintro e w1 ⟨p1, rfl, k2, z2⟩
        go_upto_region 9 with fail
        obtain ⟨U, hU⟩ : ∃ U, U = w1.heap.size := ⟨_, rfl⟩
        obtain ⟨y4, hy4⟩ : ∃ y4, y4 = w1.alloc (.cells #[.string k1, .int .i64 n1] 55) := ⟨_, rfl⟩
        rw [← hy4, ← hU]
        have K4 : Kp [] w1 y4 := by rw [hy4]; exact (Kp.refl [] w1).alloc _
        have V4 := Lib.hid (show VarAt y4 U k1 n1 by rw [hy4, hU]; exact VarAt.new w1 _ _)
        have KA := Lib.hid (k2.trans (K4.trans (Kp.refl [] y4).drew))
        have HZ4 := Lib.hid (z2.kp (K4.trans (Kp.refl [] y4).drew))
        have SA : Hid (∀ W, Kp [] y4.drew W → W.cell? ⟨g, 2, none⟩ = some (.pointer px) ∧ W.cell? ⟨U, 0, none⟩ = some (.string k1) ∧ W.cell? ⟨U, 1, none⟩ = some (.int .i64 n1)) :=
          fun W K => ⟨(S0.out _ (KA.out.trans K)).2.2.1, (V4.out.kp ((Kp.refl [] y4).drew.trans K)).c0, (V4.out.kp ((Kp.refl [] y4).drew.trans K)).c1⟩
        clear hU hy4 K4 k2 z2
        go_region_held3 (fun w' => w'.cell? ⟨g, 2, none⟩ = some (.pointer px) ∧ w'.cell? ⟨U, 0, none⟩ = some (.string k1) ∧ w'.cell? ⟨U, 1, none⟩ = some (.int .i64 n1))
          (first | exact SA.out _ (Kp.refl _ _) | exact SA.out _ K2.out)
          ((go_at_call_of 26 px; refine Calls.mono (J2.out _ p1 KA.out HZ4.out) ?_; rintro e w2 ⟨p2, rfl, k2, z2⟩; have K2 := Lib.hid k2; have T2 := Lib.hid z2; clear k2 z2))
        all_goals
          go_wp2_with fail
          go_ret
          exact ⟨_, rfl, KA.out.trans K2.out, T2.out⟩
    · have HC : Hid (∀ W, Calls Try.prog 25 #[.string k, .string a] W fun e w2 => e = .returned (.int .i64 1) ∧ w2 = W) := fun W => by
        have := compare_str k a W
        rwa [show cmpS k a = 1 from (if_neg (klt_asymm h)).trans (if_pos h)] at this
      have hg1 : r.get k ≠ none := by
        unfold Tr.get at hg
        rwa [if_neg (klt_ne h), if_neg (klt_asymm h)] at hg
      have e0 : (Tr.node a m l r).del k = Tr.lev a m l (r.del k) := (if_neg (klt_asymm h)).trans (if_pos h)
      rw [e0]
      have s1 : r.sz ≤ 500000 := by simp only [Tr.sz] at hs; omega
      have s2 : l.sz + (r.del k).sz ≤ 1000000 := by have := Tr.sz_del k r; simp only [Tr.sz] at hs; omega
      have J1 : Hid (∀ W, Kp [] w W → Calls Try.prog 20 #[.pointer py, .string k] W fun e w2 => ∃ p, e = .returned (.pointer p) ∧ Kp [] W w2 ∧ TAt w2 (r.del k) p) := fun W K => ihr W py hg1 (hY.out W K) s1
      have J2 : Hid (∀ W p1, Kp [] w W → TAt W (r.del k) p1 → Calls Try.prog 26 #[.agg #[.string a, .int .i64 m], .pointer px, .pointer p1] W (LevPost a m l (r.del k) W)) := fun W p1 K T => level_any a m (hX.out W K) T s2
      clear ihl ihr hs e0 s1 s2 h hX hY hg hg1 N X Y
      go_enter Try.func20, Try.ntmps20
      go_wp2_with (go_at_call 25; refine Calls.mono (HC.out _) ?_; rintro e w2 ⟨rfl, hw⟩; have hw := hw.symm; subst hw)
      have K0 : Hid (Kp [] w w.drew) := (Kp.refl [] w).drew
      go_region_held3 (fun w' => w'.cell? ⟨g, 0, none⟩ = some (.string a) ∧ w'.cell? ⟨g, 1, none⟩ = some (.int .i64 m) ∧ w'.cell? ⟨g, 2, none⟩ = some (.pointer px) ∧ w'.cell? ⟨g, 3, none⟩ = some (.pointer py))
        (first | exact S0.out _ K0.out | exact S0.out _ K1.out | exact S0.out _ K2.out)
        (first
        | (go_at_call_of 20 py; refine Calls.mono (J1.out _ K0.out) ?_; rintro e w1 ⟨p1, rfl, k1, z1⟩; have K1 := Lib.hid (K0.out.trans k1); have T1 := Lib.hid z1; clear k1 z1)
        | (go_at_call_of 26 px; refine Calls.mono (J2.out _ p1 K1.out T1.out) ?_; rintro e w2 ⟨p2, rfl, k2, z2⟩; have K2 := Lib.hid (K1.out.trans k2); have T2 := Lib.hid z2; clear k2 z2))
      all_goals
        go_wp2_with fail
        go_ret
        exact ⟨_, rfl, K2.out, T2.out⟩
end Go.Proofs.Ytpocnldljglbgaa
