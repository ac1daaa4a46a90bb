/- Contracts of package tree: level where a side is raised; level, whole. -/
import Derived.Test.YtpocnldljglbgaaTrC
namespace Go.Proofs.Ytpocnldljglbgaa
open Go.RowKit

set_option maxHeartbeats 3200000 in
theorem level_LR {w : World} (k : ByteArray) (n : Int) (b : ByteArray) (q : Int) (c : ByteArray) (s : Int) {x u v r : Tr} {pl pr : Option Addr} (hl : TAt w (.node b q x (.node c s u v)) pl) (hr : TAt w r pr) (hs : (Tr.node b q x (.node c s u v)).sz + r.sz ≤ 1000000) (h1 : (Tr.node b q x (.node c s u v)).h = r.h + 2) (h2 : x.h < (Tr.node c s u v).h) :
    Calls Try.prog 26 #[.agg #[.string k, .int .i64 n], .pointer pl, .pointer pr] w (LevPost k n (.node b q x (.node c s u v)) r w) := by
  have b1 := (Tr.node b q x (.node c s u v)).h_le
  have b2 := r.h_le
  have e0 : Tr.lev k n (.node b q x (.node c s u v)) r = (.node c s (.node b q x u) (.node k n v r)) := (if_pos h1).trans (congrArg (Tr.turnL k n r) (Tr.midL_yes h2))
  unfold LevPost
  rw [e0]
  have e1 : IntKind.i64.wrap (((Tr.node b q x (.node c s u v)).h : Int) - (r.h : Int)) = 2 := by rw [IntKind.wrap_i64]; omega
  have t1 : decide (x.h < (Tr.node c s u v).h) = true := by simpa using h2
  have HL : Hid (∀ W, Kp [] w W → Calls Try.prog 22 #[.pointer pl] W fun e w2 => e = .returned (.int .i64 ((Tr.node b q x (.node c s u v)).h : Nat)) ∧ w2 = W) := fun W K => height_any (hl.kp K)
  have HR : Hid (∀ W, Kp [] w W → Calls Try.prog 22 #[.pointer pr] W fun e w2 => e = .returned (.int .i64 (r.h : Nat)) ∧ w2 = W) := fun W K => height_any (hr.kp K)
  have hsz : (Tr.node b q x (.node c s u v)).sz ≤ 1000000 := by omega
  have HRa : Hid (∀ W, Kp [] w W → Calls Try.prog 30 #[.pointer pl] W fun e w2 => ∃ p2, e = .returned (.pointer p2) ∧ Kp [] W w2 ∧ TAt w2 (.node c s (.node b q x u) v) p2) := fun W K => raiseMore_any b q x c s u v (hl.kp K) hsz
  have hs1 : v.sz + r.sz ≤ 1000000 := by simp only [Tr.sz] at hs; omega
  have hs2 : (Tr.node b q x u).sz + (Tr.node k n v r).sz ≤ 1000000 := by simp only [Tr.sz] at hs ⊢; omega
  obtain ⟨g, px, py, rfl, N, X, Y⟩ := hl
  have HX : Hid (∀ W, Kp [] w W → Calls Try.prog 22 #[.pointer px] W fun e w2 => e = .returned (.int .i64 (x.h : Nat)) ∧ w2 = W) := fun W K => height_any (X.kp K)
  have HY : Hid (∀ W, Kp [] w W → Calls Try.prog 22 #[.pointer py] W fun e w2 => e = .returned (.int .i64 ((Tr.node c s u v).h : Nat)) ∧ w2 = W) := fun W K => height_any (Y.kp K)
  have HO : Hid (∀ W, Kp [] w W → TAt W r pr) := fun W K => hr.kp K
  have N' : NdAt (w.alloc (.cells #[.string k, .int .i64 n] 55)) g b q px py _ _ := N.kp ((Kp.refl [] w).alloc _)
  have c2 := N'.c2
  have c3 := N'.c3
  have E0 := Lib.hid (EntAt.new w k n)
  have HS1 := Lib.hid hs1
  have HS2 := Lib.hid hs2
  clear hr hs b1 b2 h1 h2 e0 N N' X Y hs1 hs2 hsz
  have HK : Hid (∀ n, Kp [] w (w.alloc (.cells #[.string k, .int .i64 n] 55))) := fun n => (Kp.refl [] w).alloc _
  go_enter Try.func26, Try.ntmps26
  go_wp2_with (first
    | (go_at_call_of 22 (some (⟨g, 0, none⟩ : Addr)); refine Calls.mono (HL.out _ (HK.out n)) ?_; rintro e w2 ⟨rfl, rfl⟩)
    | (go_at_call_of 22 pr; refine Calls.mono (HR.out _ (HK.out n)) ?_; rintro e w2 ⟨rfl, rfl⟩))
  go_quiet (first
    | (go_at_call_of 22 px; exact Calls.mono (HX.out _ ((HK.out n).drewN _)) (fun _ _ ⟨he, hm⟩ => ⟨he, _, hm⟩))
    | (go_at_call_of 22 py; exact Calls.mono (HY.out _ ((HK.out n).drewN _)) (fun _ _ ⟨he, hm⟩ => ⟨he, _, hm⟩)))
  go_wp2_with fail
  refine Calls.mono (HRa.out _ ((HK.out n).drewN _)) ?_
  rintro e w1 ⟨p0, rfl, k0, z0⟩
  have KA : Hid (Kp [] (w.alloc (.cells #[.string k, .int .i64 n] 55)) w1) := ((Kp.refl [] _).drewN _).trans k0
  obtain ⟨g3, pa, pb, rfl, N3, A3, B3⟩ := z0
  have E1 := Lib.hid (E0.out.kp KA.out)
  have O1 := Lib.hid (HO.out _ ((HK.out n).trans KA.out))
  have A3 := Lib.hid A3
  have B3 := Lib.hid B3
  clear k0 c2 c3 HL HR HX HY HRa HO E0
  have J1 : Hid (∀ W, Kp [] w1 W → Calls Try.prog 28 #[.agg #[.string k, .int .i64 n], .pointer pb, .pointer pr] W fun e w2 => ∃ p, e = .returned (.pointer p) ∧ Kp [] W w2 ∧ TAt w2 (.node k n v r) p) :=
    fun W K => join_any k n (B3.out.kp K) (O1.out.kp K) HS1.out
  have J2 : Hid (∀ W p1, Kp [] w1 W → TAt W (.node k n v r) p1 → Calls Try.prog 28 #[.agg #[.string c, .int .i64 s], .pointer pa, .pointer p1] W fun e w2 => ∃ p, e = .returned (.pointer p) ∧ Kp [] W w2 ∧ TAt w2 (.node c s (.node b q x u) (.node k n v r)) p) :=
    fun W p1 K T => join_any c s (A3.out.kp K) T HS2.out
  have S0 : Hid (∀ W, Kp [] w1 W → W.cell? ⟨g3, 0, none⟩ = some (.string c) ∧ W.cell? ⟨g3, 1, none⟩ = some (.int .i64 s) ∧ W.cell? ⟨g3, 2, none⟩ = some (.pointer pa) ∧ W.cell? ⟨g3, 3, none⟩ = some (.pointer pb) ∧ W.cell? ⟨w.heap.size, 0, none⟩ = some (.string k) ∧ W.cell? ⟨w.heap.size, 1, none⟩ = some (.int .i64 n)) :=
    fun W K => ⟨(N3.kp K).c0, (N3.kp K).c1, (N3.kp K).c2, (N3.kp K).c3, (E1.out.kp K).two⟩
  clear N3 A3 B3 O1 E1
  have K0 : Hid (Kp [] w1 w1.drew) := (Kp.refl [] w1).drew
  go_wp2_with fail
  go_region_held3 (fun w' => w'.cell? ⟨g3, 0, none⟩ = some (.string c) ∧ w'.cell? ⟨g3, 1, none⟩ = some (.int .i64 s) ∧ w'.cell? ⟨g3, 2, none⟩ = some (.pointer pa) ∧ w'.cell? ⟨g3, 3, none⟩ = some (.pointer pb) ∧ w'.cell? ⟨w.heap.size, 0, none⟩ = some (.string k) ∧ w'.cell? ⟨w.heap.size, 1, none⟩ = some (.int .i64 n))
    (first | exact S0.out _ K0.out | exact S0.out _ K1.out | exact S0.out _ K2.out)
    (first
    | (go_at_call_of 28 pb; refine Calls.mono (J1.out _ K0.out) ?_; rintro e w4 ⟨p1, rfl, k1, z1⟩; have K1 := Lib.hid (K0.out.trans k1); have T1 := Lib.hid z1; clear k1 z1)
    | (go_at_call_of 28 pa; refine Calls.mono (J2.out _ p1 K1.out T1.out) ?_; rintro e w5 ⟨p2, rfl, k2, z2⟩; have K2 := Lib.hid (K1.out.trans k2); have T2 := Lib.hid z2; clear k2 z2))
  all_goals
    go_wp2_with fail
    go_ret
    exact ⟨_, rfl, ((HK.out n).trans KA.out).trans K2.out, T2.out⟩
set_option maxHeartbeats 3200000 in
theorem level_RL {w : World} (k : ByteArray) (n : Int) (b : ByteArray) (q : Int) (c : ByteArray) (s : Int) {x u v r : Tr} {pl pr : Option Addr} (hl : TAt w r pl) (hr : TAt w (.node b q (.node c s u v) x) pr) (hs : (Tr.node b q (.node c s u v) x).sz + r.sz ≤ 1000000) (h1 : (Tr.node b q (.node c s u v) x).h = r.h + 2) (h2 : x.h < (Tr.node c s u v).h) :
    Calls Try.prog 26 #[.agg #[.string k, .int .i64 n], .pointer pl, .pointer pr] w (LevPost k n r (.node b q (.node c s u v) x) w) := by
  have b1 := (Tr.node b q (.node c s u v) x).h_le
  have b2 := r.h_le
  have e0 : Tr.lev k n r (.node b q (.node c s u v) x) = (.node c s (.node k n r u) (.node b q v x)) := (if_neg (by omega)).trans ((if_pos h1).trans (congrArg (Tr.turnM k n r) (Tr.midM_yes h2)))
  unfold LevPost
  rw [e0]
  have e1 : IntKind.i64.wrap ((r.h : Int) - ((Tr.node b q (.node c s u v) x).h : Int)) = -2 := by rw [IntKind.wrap_i64]; omega
  have t1 : decide (x.h < (Tr.node c s u v).h) = true := by simpa using h2
  have HL : Hid (∀ W, Kp [] w W → Calls Try.prog 22 #[.pointer pl] W fun e w2 => e = .returned (.int .i64 (r.h : Nat)) ∧ w2 = W) := fun W K => height_any (hl.kp K)
  have HR : Hid (∀ W, Kp [] w W → Calls Try.prog 22 #[.pointer pr] W fun e w2 => e = .returned (.int .i64 ((Tr.node b q (.node c s u v) x).h : Nat)) ∧ w2 = W) := fun W K => height_any (hr.kp K)
  have hsz : (Tr.node b q (.node c s u v) x).sz ≤ 1000000 := by omega
  have HRa : Hid (∀ W, Kp [] w W → Calls Try.prog 31 #[.pointer pr] W fun e w2 => ∃ p2, e = .returned (.pointer p2) ∧ Kp [] W w2 ∧ TAt w2 (.node c s u (.node b q v x)) p2) := fun W K => raiseLess_any b q x c s u v (hr.kp K) hsz
  have hs1 : r.sz + u.sz ≤ 1000000 := by simp only [Tr.sz] at hs; omega
  have hs2 : (Tr.node k n r u).sz + (Tr.node b q v x).sz ≤ 1000000 := by simp only [Tr.sz] at hs ⊢; omega
  obtain ⟨g, px, py, rfl, N, X, Y⟩ := hr
  have HX : Hid (∀ W, Kp [] w W → Calls Try.prog 22 #[.pointer px] W fun e w2 => e = .returned (.int .i64 ((Tr.node c s u v).h : Nat)) ∧ w2 = W) := fun W K => height_any (X.kp K)
  have HY : Hid (∀ W, Kp [] w W → Calls Try.prog 22 #[.pointer py] W fun e w2 => e = .returned (.int .i64 (x.h : Nat)) ∧ w2 = W) := fun W K => height_any (Y.kp K)
  have HO : Hid (∀ W, Kp [] w W → TAt W r pl) := fun W K => hl.kp K
  have N' : NdAt (w.alloc (.cells #[.string k, .int .i64 n] 55)) g b q px py _ _ := N.kp ((Kp.refl [] w).alloc _)
  have c2 := N'.c2
  have c3 := N'.c3
  have E0 := Lib.hid (EntAt.new w k n)
  have HS1 := Lib.hid hs1
  have HS2 := Lib.hid hs2
  clear hl hs b1 b2 h1 h2 e0 N N' X Y hs1 hs2 hsz
  have HK : Hid (∀ n, Kp [] w (w.alloc (.cells #[.string k, .int .i64 n] 55))) := fun n => (Kp.refl [] w).alloc _
  go_enter Try.func26, Try.ntmps26
  go_wp2_with (first
    | (go_at_call_of 22 (some (⟨g, 0, none⟩ : Addr)); refine Calls.mono (HR.out _ (HK.out n)) ?_; rintro e w2 ⟨rfl, rfl⟩)
    | (go_at_call_of 22 pl; refine Calls.mono (HL.out _ (HK.out n)) ?_; rintro e w2 ⟨rfl, rfl⟩))
  go_quiet (fail)
  go_wp2_with fail
  go_quiet (first
    | (go_at_call_of 22 px; exact Calls.mono (HX.out _ ((HK.out n).drewN _)) (fun _ _ ⟨he, hm⟩ => ⟨he, _, hm⟩))
    | (go_at_call_of 22 py; exact Calls.mono (HY.out _ ((HK.out n).drewN _)) (fun _ _ ⟨he, hm⟩ => ⟨he, _, hm⟩)))
  go_wp2_with fail
  refine Calls.mono (HRa.out _ ((HK.out n).drewN _)) ?_
  rintro e w1 ⟨p0, rfl, k0, z0⟩
  have KA : Hid (Kp [] (w.alloc (.cells #[.string k, .int .i64 n] 55)) w1) := ((Kp.refl [] _).drewN _).trans k0
  obtain ⟨g3, pa, pb, rfl, N3, A3, B3⟩ := z0
  have E1 := Lib.hid (E0.out.kp KA.out)
  have O1 := Lib.hid (HO.out _ ((HK.out n).trans KA.out))
  have A3 := Lib.hid A3
  have B3 := Lib.hid B3
  clear k0 c2 c3 HL HR HX HY HRa HO E0
  have J1 : Hid (∀ W, Kp [] w1 W → Calls Try.prog 28 #[.agg #[.string k, .int .i64 n], .pointer pl, .pointer pa] W fun e w2 => ∃ p, e = .returned (.pointer p) ∧ Kp [] W w2 ∧ TAt w2 (.node k n r u) p) :=
    fun W K => join_any k n (O1.out.kp K) (A3.out.kp K) HS1.out
  have J2 : Hid (∀ W p1, Kp [] w1 W → TAt W (.node k n r u) p1 → Calls Try.prog 28 #[.agg #[.string c, .int .i64 s], .pointer p1, .pointer pb] W fun e w2 => ∃ p, e = .returned (.pointer p) ∧ Kp [] W w2 ∧ TAt w2 (.node c s (.node k n r u) (.node b q v x)) p) :=
    fun W p1 K T => join_any c s T (B3.out.kp K) HS2.out
  have S0 : Hid (∀ W, Kp [] w1 W → W.cell? ⟨g3, 0, none⟩ = some (.string c) ∧ W.cell? ⟨g3, 1, none⟩ = some (.int .i64 s) ∧ W.cell? ⟨g3, 2, none⟩ = some (.pointer pa) ∧ W.cell? ⟨g3, 3, none⟩ = some (.pointer pb) ∧ W.cell? ⟨w.heap.size, 0, none⟩ = some (.string k) ∧ W.cell? ⟨w.heap.size, 1, none⟩ = some (.int .i64 n)) :=
    fun W K => ⟨(N3.kp K).c0, (N3.kp K).c1, (N3.kp K).c2, (N3.kp K).c3, (E1.out.kp K).two⟩
  clear N3 A3 B3 O1 E1
  have K0 : Hid (Kp [] w1 w1.drew) := (Kp.refl [] w1).drew
  go_wp2_with fail
  go_region_held3 (fun w' => w'.cell? ⟨g3, 0, none⟩ = some (.string c) ∧ w'.cell? ⟨g3, 1, none⟩ = some (.int .i64 s) ∧ w'.cell? ⟨g3, 2, none⟩ = some (.pointer pa) ∧ w'.cell? ⟨g3, 3, none⟩ = some (.pointer pb) ∧ w'.cell? ⟨w.heap.size, 0, none⟩ = some (.string k) ∧ w'.cell? ⟨w.heap.size, 1, none⟩ = some (.int .i64 n))
    (first | exact S0.out _ K0.out | exact S0.out _ K1.out | exact S0.out _ K2.out)
    (first
    | (go_at_call_of 28 pa; refine Calls.mono (J1.out _ K0.out) ?_; rintro e w4 ⟨p1, rfl, k1, z1⟩; have K1 := Lib.hid (K0.out.trans k1); have T1 := Lib.hid z1; clear k1 z1)
    | (go_at_call_of 28 pb; refine Calls.mono (J2.out _ p1 K1.out T1.out) ?_; rintro e w5 ⟨p2, rfl, k2, z2⟩; have K2 := Lib.hid (K1.out.trans k2); have T2 := Lib.hid z2; clear k2 z2))
  all_goals
    go_wp2_with fail
    go_ret
    exact ⟨_, rfl, ((HK.out n).trans KA.out).trans K2.out, T2.out⟩
/-- Level, whole. -/
theorem level_any {w : World} (k : ByteArray) (n : Int) {l r : Tr} {pl pr : Option Addr} (hl : TAt w l pl) (hr : TAt w r pr) (hs : l.sz + r.sz ≤ 1000000) :
    Calls Try.prog 26 #[.agg #[.string k, .int .i64 n], .pointer pl, .pointer pr] w (LevPost k n l r w) := by
  by_cases h1 : l.h = r.h + 2
  · cases l with
    | nil => simp only [Tr.h] at h1; omega
    | node b q x y =>
      by_cases h2 : x.h < y.h
      · cases y with
        | nil => simp only [Tr.h] at h2; omega
        | node c s u v => exact level_LR k n b q c s hl hr hs h1 h2
      · exact level_LL k n b q hl hr hs h1 h2
  by_cases h2 : r.h = l.h + 2
  · cases r with
    | nil => simp only [Tr.h] at h2; omega
    | node b q x y =>
      by_cases h3 : y.h < x.h
      · cases x with
        | nil => simp only [Tr.h] at h3; omega
        | node c s u v => exact level_RL k n b q c s hl hr (by omega) h2 h3
      · exact level_RR k n b q hl hr hs h2 h3
  exact level_mid k n hl hr hs h1 h2
end Go.Proofs.Ytpocnldljglbgaa
