/- Contracts of package tree: raiseMore, raiseLess, level. -/
import Derived.Test.YtpocnldljglbgaaTrB
namespace Go.Proofs.Ytpocnldljglbgaa
open Go.RowKit

set_option maxHeartbeats 1600000 in
theorem raiseMore_any {w : World} (a : ByteArray) (m : Int) (x : Tr) (b : ByteArray) (q : Int) (u v : Tr) {p : Option Addr} (h : TAt w (.node a m x (.node b q u v)) p) (hs : (Tr.node a m x (.node b q u v)).sz ≤ 1000000) :
    Calls Try.prog 30 #[.pointer p] w fun e w2 => ∃ p2, e = .returned (.pointer p2) ∧ Kp [] w w2 ∧ TAt w2 (.node b q (.node a m x u) v) p2 := by
  obtain ⟨g, px, py, rfl, N, HX, g2, pu, pv, rfl, N2, HU, HV⟩ := h
  have hs1 : x.sz + u.sz ≤ 1000000 := by simp only [Tr.sz] at hs; omega
  have hs2 : (Tr.node a m x u).sz + v.sz ≤ 1000000 := by simp only [Tr.sz] at hs ⊢; omega
  have S0 : Hid (∀ W, Kp [] w W → W.cell? ⟨g, 0, none⟩ = some (.string a) ∧ W.cell? ⟨g, 1, none⟩ = some (.int .i64 m) ∧ W.cell? ⟨g, 2, none⟩ = some (.pointer px) ∧ W.cell? ⟨g2, 0, none⟩ = some (.string b) ∧ W.cell? ⟨g2, 1, none⟩ = some (.int .i64 q) ∧ W.cell? ⟨g2, 2, none⟩ = some (.pointer pu) ∧ W.cell? ⟨g2, 3, none⟩ = some (.pointer pv)) :=
    fun W K => ⟨(N.kp K).c0, (N.kp K).c1, (N.kp K).c2, (N2.kp K).c0, (N2.kp K).c1, (N2.kp K).c2, (N2.kp K).c3⟩
  have c3 := N.c3
  have HX := Lib.hid HX
  have HU := Lib.hid HU
  have HV := Lib.hid HV
  have J1 : Hid (∀ W, Kp [] w W → Calls Try.prog 28 #[.agg #[.string a, .int .i64 m], .pointer px, .pointer pu] W fun e w2 => ∃ p, e = .returned (.pointer p) ∧ Kp [] W w2 ∧ TAt w2 (.node a m x u) p) :=
    fun W K => join_any a m (HX.out.kp K) (HU.out.kp K) hs1
  have J2 : Hid (∀ W p1, Kp [] w W → TAt W (.node a m x u) p1 → Calls Try.prog 28 #[.agg #[.string b, .int .i64 q], .pointer p1, .pointer pv] W fun e w2 => ∃ p, e = .returned (.pointer p) ∧ Kp [] W w2 ∧ TAt w2 (.node b q (.node a m x u) v) p) :=
    fun W p1 K T => join_any b q T (HV.out.kp K) hs2
  have K0 := Lib.hid ((Kp.refl [] w).drew)
  clear hs hs1 hs2 N N2 HX HU HV
  go_enter Try.func30, Try.ntmps30
  go_wp2_with fail
  go_region_held3 (fun w' => w'.cell? ⟨g, 0, none⟩ = some (.string a) ∧ w'.cell? ⟨g, 1, none⟩ = some (.int .i64 m) ∧ w'.cell? ⟨g, 2, none⟩ = some (.pointer px) ∧ w'.cell? ⟨g2, 0, none⟩ = some (.string b) ∧ w'.cell? ⟨g2, 1, none⟩ = some (.int .i64 q) ∧ w'.cell? ⟨g2, 2, none⟩ = some (.pointer pu) ∧ w'.cell? ⟨g2, 3, none⟩ = some (.pointer pv))
    (first | exact S0.out _ K0.out | exact S0.out _ K1.out | exact S0.out _ K2.out)
    (first
    | (go_at_call_of 28 pu; refine Calls.mono (J1.out _ K0.out) ?_; rintro e w1 ⟨p1, rfl, k1, t1⟩; have K1 := Lib.hid (K0.out.trans k1); have T1 := Lib.hid t1; clear k1 t1)
    | (go_at_call_of 28 pv; refine Calls.mono (J2.out _ p1 K1.out T1.out) ?_; rintro e w2 ⟨p2, rfl, k2, t2⟩; have K2 := Lib.hid (K1.out.trans k2); have T2 := Lib.hid t2; clear k2 t2))
  all_goals
    go_wp2_with fail
    go_ret
    exact ⟨_, rfl, K2.out, T2.out⟩
set_option maxHeartbeats 1600000 in
theorem raiseLess_any {w : World} (a : ByteArray) (m : Int) (y : Tr) (b : ByteArray) (q : Int) (u v : Tr) {p : Option Addr} (h : TAt w (.node a m (.node b q u v) y) p) (hs : (Tr.node a m (.node b q u v) y).sz ≤ 1000000) :
    Calls Try.prog 31 #[.pointer p] w fun e w2 => ∃ p2, e = .returned (.pointer p2) ∧ Kp [] w w2 ∧ TAt w2 (.node b q u (.node a m v y)) p2 := by
  obtain ⟨g, px, py, rfl, N, ⟨g2, pu, pv, rfl, N2, HU, HV⟩, HY⟩ := h
  have hs1 : v.sz + y.sz ≤ 1000000 := by simp only [Tr.sz] at hs; omega
  have hs2 : u.sz + (Tr.node a m v y).sz ≤ 1000000 := by simp only [Tr.sz] at hs ⊢; omega
  have S0 : Hid (∀ W, Kp [] w W → W.cell? ⟨g, 0, none⟩ = some (.string a) ∧ W.cell? ⟨g, 1, none⟩ = some (.int .i64 m) ∧ W.cell? ⟨g, 3, none⟩ = some (.pointer py) ∧ W.cell? ⟨g2, 0, none⟩ = some (.string b) ∧ W.cell? ⟨g2, 1, none⟩ = some (.int .i64 q) ∧ W.cell? ⟨g2, 2, none⟩ = some (.pointer pu) ∧ W.cell? ⟨g2, 3, none⟩ = some (.pointer pv)) :=
    fun W K => ⟨(N.kp K).c0, (N.kp K).c1, (N.kp K).c3, (N2.kp K).c0, (N2.kp K).c1, (N2.kp K).c2, (N2.kp K).c3⟩
  have c2 := N.c2
  have HY := Lib.hid HY
  have HU := Lib.hid HU
  have HV := Lib.hid HV
  have J1 : Hid (∀ W, Kp [] w W → Calls Try.prog 28 #[.agg #[.string a, .int .i64 m], .pointer pv, .pointer py] W fun e w2 => ∃ p, e = .returned (.pointer p) ∧ Kp [] W w2 ∧ TAt w2 (.node a m v y) p) :=
    fun W K => join_any a m (HV.out.kp K) (HY.out.kp K) hs1
  have J2 : Hid (∀ W p1, Kp [] w W → TAt W (.node a m v y) p1 → Calls Try.prog 28 #[.agg #[.string b, .int .i64 q], .pointer pu, .pointer p1] W fun e w2 => ∃ p, e = .returned (.pointer p) ∧ Kp [] W w2 ∧ TAt w2 (.node b q u (.node a m v y)) p) :=
    fun W p1 K T => join_any b q (HU.out.kp K) T hs2
  have K0 := Lib.hid ((Kp.refl [] w).drew)
  clear hs hs1 hs2 N N2 HY HU HV
  go_enter Try.func31, Try.ntmps31
  go_wp2_with fail
  go_region_held3 (fun w' => w'.cell? ⟨g, 0, none⟩ = some (.string a) ∧ w'.cell? ⟨g, 1, none⟩ = some (.int .i64 m) ∧ w'.cell? ⟨g, 3, none⟩ = some (.pointer py) ∧ w'.cell? ⟨g2, 0, none⟩ = some (.string b) ∧ w'.cell? ⟨g2, 1, none⟩ = some (.int .i64 q) ∧ w'.cell? ⟨g2, 2, none⟩ = some (.pointer pu) ∧ w'.cell? ⟨g2, 3, none⟩ = some (.pointer pv))
    (first | exact S0.out _ K0.out | exact S0.out _ K1.out | exact S0.out _ K2.out)
    (first
    | (go_at_call_of 28 pv; refine Calls.mono (J1.out _ K0.out) ?_; rintro e w1 ⟨p1, rfl, k1, t1⟩; have K1 := Lib.hid (K0.out.trans k1); have T1 := Lib.hid t1; clear k1 t1)
    | (go_at_call_of 28 pu; refine Calls.mono (J2.out _ p1 K1.out T1.out) ?_; rintro e w2 ⟨p2, rfl, k2, t2⟩; have K2 := Lib.hid (K1.out.trans k2); have T2 := Lib.hid t2; clear k2 t2))
  all_goals
    go_wp2_with fail
    go_ret
    exact ⟨_, rfl, K2.out, T2.out⟩
/-- What level leaves. -/
def LevPost (k : ByteArray) (n : Int) (l r : Tr) (w : World) (e : Ending) (w2 : World) : Prop := ∃ p, e = .returned (.pointer p) ∧ Kp [] w w2 ∧ TAt w2 (Tr.lev k n l r) p
set_option maxHeartbeats 1600000 in
theorem level_mid {w : World} (k : ByteArray) (n : Int) {l r : Tr} {pl pr : Option Addr} (hl : TAt w l pl) (hr : TAt w r pr) (hs : l.sz + r.sz ≤ 1000000) (h1 : l.h ≠ r.h + 2) (h2 : r.h ≠ l.h + 2) :
    Calls Try.prog 26 #[.agg #[.string k, .int .i64 n], .pointer pl, .pointer pr] w (LevPost k n l r w) := by
  have b1 := l.h_le
  have b2 := r.h_le
  have e0 : Tr.lev k n l r = .node k n l r := (if_neg h1).trans (if_neg h2)
  unfold LevPost
  rw [e0]
  obtain ⟨d, hd⟩ : ∃ d : Int, d = (l.h : Int) - (r.h : Int) := ⟨_, rfl⟩
  have e1 : IntKind.i64.wrap ((l.h : Int) - (r.h : Int)) = d := by rw [IntKind.wrap_i64]; omega
  have t1 : (d == 2) = false := by rw [beq_eq_false_iff_ne]; omega
  have t2 : (d == -2) = false := by rw [beq_eq_false_iff_ne]; omega
  have HL : Hid (∀ W, Kp [] w W → Calls Try.prog 22 #[.pointer pl] W fun e w2 => e = .returned (.int .i64 (l.h : Nat)) ∧ w2 = W) := fun W K => height_any (hl.kp K)
  have HR : Hid (∀ W, Kp [] w W → Calls Try.prog 22 #[.pointer pr] W fun e w2 => e = .returned (.int .i64 (r.h : Nat)) ∧ w2 = W) := fun W K => height_any (hr.kp K)
  have J : Hid (∀ W, Kp [] w W → Calls Try.prog 28 #[.agg #[.string k, .int .i64 n], .pointer pl, .pointer pr] W fun e w2 => ∃ p, e = .returned (.pointer p) ∧ Kp [] W w2 ∧ TAt w2 (.node k n l r) p) :=
    fun W K => join_any k n (hl.kp K) (hr.kp K) hs
  clear hl hr hs b1 b2 h1 h2 hd e0
  go_enter Try.func26, Try.ntmps26
  go_wp2_with (first
    | (go_at_call_of 22 pl; refine Calls.mono (HL.out _ ((Kp.refl [] w).alloc _)) ?_; rintro e w2 ⟨rfl, rfl⟩)
    | (go_at_call_of 22 pr; refine Calls.mono (HR.out _ ((Kp.refl [] w).alloc _)) ?_; rintro e w2 ⟨rfl, rfl⟩))
  go_quiet (fail)
  go_wp2_with fail
  go_quiet (fail)
  go_wp2_with fail
  refine Calls.mono (J.out _ (((Kp.refl [] w).alloc _).drewN _)) ?_
  rintro e w2 ⟨p, rfl, k2, t2⟩
  have K2 : Hid (Kp [] w w2) := (((Kp.refl [] w).alloc _).drewN _).trans k2
  have T2 := Lib.hid t2
  clear k2 t2
  go_wp2_with fail
  go_ret
  exact ⟨_, rfl, K2.out, T2.out⟩
set_option maxHeartbeats 3200000 in
theorem level_LL {w : World} (k : ByteArray) (n : Int) (b : ByteArray) (q : Int) {x y r : Tr} {pl pr : Option Addr} (hl : TAt w (.node b q x y) pl) (hr : TAt w r pr) (hs : (Tr.node b q x y).sz + r.sz ≤ 1000000) (h1 : (Tr.node b q x y).h = r.h + 2) (h2 : ¬ x.h < y.h) :
    Calls Try.prog 26 #[.agg #[.string k, .int .i64 n], .pointer pl, .pointer pr] w (LevPost k n (.node b q x y) r w) := by
  have b1 := (Tr.node b q x y).h_le
  have b2 := r.h_le
  have e0 : Tr.lev k n (.node b q x y) r = .node b q x (.node k n y r) := (if_pos h1).trans (congrArg (Tr.turnL k n r) (Tr.midL_no h2))
  unfold LevPost
  rw [e0]
  have e1 : IntKind.i64.wrap (((Tr.node b q x y).h : Int) - (r.h : Int)) = 2 := by rw [IntKind.wrap_i64]; omega
  have t1 : decide (x.h < y.h) = false := by simp; omega
  have HL : Hid (∀ W, Kp [] w W → Calls Try.prog 22 #[.pointer pl] W fun e w2 => e = .returned (.int .i64 ((Tr.node b q x y).h : Nat)) ∧ w2 = W) := fun W K => height_any (hl.kp K)
  have HR : Hid (∀ W, Kp [] w W → Calls Try.prog 22 #[.pointer pr] W fun e w2 => e = .returned (.int .i64 (r.h : Nat)) ∧ w2 = W) := fun W K => height_any (hr.kp K)
  obtain ⟨g, px, py, rfl, N, X, Y⟩ := hl
  have HX : Hid (∀ W, Kp [] w W → Calls Try.prog 22 #[.pointer px] W fun e w2 => e = .returned (.int .i64 (x.h : Nat)) ∧ w2 = W) := fun W K => height_any (X.kp K)
  have HY : Hid (∀ W, Kp [] w W → Calls Try.prog 22 #[.pointer py] W fun e w2 => e = .returned (.int .i64 (y.h : Nat)) ∧ w2 = W) := fun W K => height_any (Y.kp K)
  have hs1 : y.sz + r.sz ≤ 1000000 := by simp only [Tr.sz] at hs; omega
  have hs2 : x.sz + (Tr.node k n y r).sz ≤ 1000000 := by simp only [Tr.sz] at hs ⊢; omega
  have J1 : Hid (∀ W, Kp [] w W → Calls Try.prog 28 #[.agg #[.string k, .int .i64 n], .pointer py, .pointer pr] W fun e w2 => ∃ p, e = .returned (.pointer p) ∧ Kp [] W w2 ∧ TAt w2 (.node k n y r) p) :=
    fun W K => join_any k n (Y.kp K) (hr.kp K) hs1
  have J2 : Hid (∀ W p1, Kp [] w W → TAt W (.node k n y r) p1 → Calls Try.prog 28 #[.agg #[.string b, .int .i64 q], .pointer px, .pointer p1] W fun e w2 => ∃ p, e = .returned (.pointer p) ∧ Kp [] W w2 ∧ TAt w2 (.node b q x (.node k n y r)) p) :=
    fun W p1 K T => join_any b q (X.kp K) T hs2
  have N' : NdAt (w.alloc (.cells #[.string k, .int .i64 n] 55)) g b q px py _ _ := N.kp ((Kp.refl [] w).alloc _)
  have c2 := N'.c2
  have c3 := N'.c3
  have E0 := Lib.hid (EntAt.new w k n)
  have S0 : Hid (∀ W, Kp [] (w.alloc (.cells #[.string k, .int .i64 n] 55)) W → W.cell? ⟨g, 0, none⟩ = some (.string b) ∧ W.cell? ⟨g, 1, none⟩ = some (.int .i64 q) ∧ W.cell? ⟨g, 2, none⟩ = some (.pointer px) ∧ W.cell? ⟨g, 3, none⟩ = some (.pointer py) ∧ W.cell? ⟨w.heap.size, 0, none⟩ = some (.string k) ∧ W.cell? ⟨w.heap.size, 1, none⟩ = some (.int .i64 n)) :=
    fun W K => ⟨(N'.kp K).c0, (N'.kp K).c1, (N'.kp K).c2, (N'.kp K).c3, (E0.out.kp K).two⟩
  clear hr hs b1 b2 h1 h2 e0 N N' X Y hs1 hs2 E0
  have HK : Hid (∀ n, Kp [] w ((w.alloc (.cells #[.string k, .int .i64 n] 55)))) := fun n => (Kp.refl [] w).alloc _
  go_enter Try.func26, Try.ntmps26
  go_wp2_with (first
    | (go_at_call_of 22 (some (⟨g, 0, none⟩ : Addr)); refine Calls.mono (HL.out _ (HK.out n)) ?_; rintro e w2 ⟨rfl, rfl⟩)
    | (go_at_call_of 22 pr; refine Calls.mono (HR.out _ (HK.out n)) ?_; rintro e w2 ⟨rfl, rfl⟩))
  go_quiet (first
    | (go_at_call_of 22 px; exact Calls.quiet_of_same (HX.out _ ((HK.out n).drewN _)))
    | (go_at_call_of 22 py; exact Calls.quiet_of_same (HY.out _ ((HK.out n).drewN _))))
  go_wp2_with fail
  have K0 : Hid (Kp [] (w.alloc (.cells #[.string k, .int .i64 n] 55)) ((w.alloc (.cells #[.string k, .int .i64 n] 55)).drewN nq).drew) := ((Kp.refl [] _).drewN _).drew
  go_region_held3 (fun w' => w'.cell? ⟨g, 0, none⟩ = some (.string b) ∧ w'.cell? ⟨g, 1, none⟩ = some (.int .i64 q) ∧ w'.cell? ⟨g, 2, none⟩ = some (.pointer px) ∧ w'.cell? ⟨g, 3, none⟩ = some (.pointer py) ∧ w'.cell? ⟨w.heap.size, 0, none⟩ = some (.string k) ∧ w'.cell? ⟨w.heap.size, 1, none⟩ = some (.int .i64 n))
    (first | exact S0.out _ K0.out | exact S0.out _ K1.out | exact S0.out _ K2.out)
    (first
    | (go_at_call_of 28 py; refine Calls.mono (J1.out _ ((HK.out n).trans K0.out)) ?_; rintro e w1 ⟨p1, rfl, k1, z1⟩; have K1 := Lib.hid (K0.out.trans k1); have T1 := Lib.hid z1; clear k1 z1)
    | (go_at_call_of 28 px; refine Calls.mono (J2.out _ p1 ((HK.out n).trans K1.out) T1.out) ?_; rintro e w2 ⟨p2, rfl, k2, z2⟩; have K2 := Lib.hid (K1.out.trans k2); have T2 := Lib.hid z2; clear k2 z2))
  all_goals
    go_wp2_with fail
    go_ret
    exact ⟨_, rfl, (HK.out n).trans K2.out, T2.out⟩
set_option maxHeartbeats 3200000 in
theorem level_RR {w : World} (k : ByteArray) (n : Int) (b : ByteArray) (q : Int) {x y r : Tr} {pl pr : Option Addr} (hl : TAt w r pl) (hr : TAt w (.node b q x y) pr) (hs : r.sz + (Tr.node b q x y).sz ≤ 1000000) (h1 : (Tr.node b q x y).h = r.h + 2) (h2 : ¬ y.h < x.h) :
    Calls Try.prog 26 #[.agg #[.string k, .int .i64 n], .pointer pl, .pointer pr] w (LevPost k n r (.node b q x y) w) := by
  have b1 := (Tr.node b q x y).h_le
  have b2 := r.h_le
  have e0 : Tr.lev k n r (.node b q x y) = .node b q (.node k n r x) y := (if_neg (by omega)).trans ((if_pos h1).trans (congrArg (Tr.turnM k n r) (Tr.midM_no h2)))
  unfold LevPost
  rw [e0]
  have e1 : IntKind.i64.wrap ((r.h : Int) - ((Tr.node b q x y).h : Int)) = -2 := by rw [IntKind.wrap_i64]; omega
  have t1 : decide (y.h < x.h) = false := by simp; omega
  have HL : Hid (∀ W, Kp [] w W → Calls Try.prog 22 #[.pointer pl] W fun e w2 => e = .returned (.int .i64 (r.h : Nat)) ∧ w2 = W) := fun W K => height_any (hl.kp K)
  have HR : Hid (∀ W, Kp [] w W → Calls Try.prog 22 #[.pointer pr] W fun e w2 => e = .returned (.int .i64 ((Tr.node b q x y).h : Nat)) ∧ w2 = W) := fun W K => height_any (hr.kp K)
  obtain ⟨g, px, py, rfl, N, X, Y⟩ := hr
  have HX : Hid (∀ W, Kp [] w W → Calls Try.prog 22 #[.pointer px] W fun e w2 => e = .returned (.int .i64 (x.h : Nat)) ∧ w2 = W) := fun W K => height_any (X.kp K)
  have HY : Hid (∀ W, Kp [] w W → Calls Try.prog 22 #[.pointer py] W fun e w2 => e = .returned (.int .i64 (y.h : Nat)) ∧ w2 = W) := fun W K => height_any (Y.kp K)
  have hs1 : r.sz + x.sz ≤ 1000000 := by simp only [Tr.sz] at hs; omega
  have hs2 : (Tr.node k n r x).sz + y.sz ≤ 1000000 := by simp only [Tr.sz] at hs ⊢; omega
  have J1 : Hid (∀ W, Kp [] w W → Calls Try.prog 28 #[.agg #[.string k, .int .i64 n], .pointer pl, .pointer px] W fun e w2 => ∃ p, e = .returned (.pointer p) ∧ Kp [] W w2 ∧ TAt w2 (.node k n r x) p) :=
    fun W K => join_any k n (hl.kp K) (X.kp K) hs1
  have J2 : Hid (∀ W p1, Kp [] w W → TAt W (.node k n r x) p1 → Calls Try.prog 28 #[.agg #[.string b, .int .i64 q], .pointer p1, .pointer py] W fun e w2 => ∃ p, e = .returned (.pointer p) ∧ Kp [] W w2 ∧ TAt w2 (.node b q (.node k n r x) y) p) :=
    fun W p1 K T => join_any b q T (Y.kp K) hs2
  have N' : NdAt (w.alloc (.cells #[.string k, .int .i64 n] 55)) g b q px py _ _ := N.kp ((Kp.refl [] w).alloc _)
  have c2 := N'.c2
  have c3 := N'.c3
  have E0 := Lib.hid (EntAt.new w k n)
  have S0 : Hid (∀ W, Kp [] (w.alloc (.cells #[.string k, .int .i64 n] 55)) W → W.cell? ⟨g, 0, none⟩ = some (.string b) ∧ W.cell? ⟨g, 1, none⟩ = some (.int .i64 q) ∧ W.cell? ⟨g, 2, none⟩ = some (.pointer px) ∧ W.cell? ⟨g, 3, none⟩ = some (.pointer py) ∧ W.cell? ⟨w.heap.size, 0, none⟩ = some (.string k) ∧ W.cell? ⟨w.heap.size, 1, none⟩ = some (.int .i64 n)) :=
    fun W K => ⟨(N'.kp K).c0, (N'.kp K).c1, (N'.kp K).c2, (N'.kp K).c3, (E0.out.kp K).two⟩
  clear hl hs b1 b2 h1 h2 e0 N N' X Y hs1 hs2 E0
  have HK : Hid (∀ n, Kp [] w ((w.alloc (.cells #[.string k, .int .i64 n] 55)))) := fun n => (Kp.refl [] w).alloc _
  go_enter Try.func26, Try.ntmps26
  go_wp2_with (first
    | (go_at_call_of 22 (some (⟨g, 0, none⟩ : Addr)); refine Calls.mono (HR.out _ (HK.out n)) ?_; rintro e w2 ⟨rfl, rfl⟩)
    | (go_at_call_of 22 pl; refine Calls.mono (HL.out _ (HK.out n)) ?_; rintro e w2 ⟨rfl, rfl⟩))
  go_quiet (fail)
  go_wp2_with fail
  go_quiet (first
    | (go_at_call_of 22 px; exact Calls.mono (HX.out _ ((HK.out n).drewN _)) (fun _ _ ⟨he, hm⟩ => ⟨he, _, hm⟩))
    | (go_at_call_of 22 py; exact Calls.mono (HY.out _ ((HK.out n).drewN _)) (fun _ _ ⟨he, hm⟩ => ⟨he, _, hm⟩)))
  go_wp2_with fail
  have K0 : Hid (∀ m, Kp [] (w.alloc (.cells #[.string k, .int .i64 n] 55)) ((w.alloc (.cells #[.string k, .int .i64 n] 55)).drewN m).drew) := fun m => ((Kp.refl [] _).drewN m).drew
  go_region_held3 (fun w' => w'.cell? ⟨g, 0, none⟩ = some (.string b) ∧ w'.cell? ⟨g, 1, none⟩ = some (.int .i64 q) ∧ w'.cell? ⟨g, 2, none⟩ = some (.pointer px) ∧ w'.cell? ⟨g, 3, none⟩ = some (.pointer py) ∧ w'.cell? ⟨w.heap.size, 0, none⟩ = some (.string k) ∧ w'.cell? ⟨w.heap.size, 1, none⟩ = some (.int .i64 n))
    (first | exact S0.out _ (K0.out _) | exact S0.out _ K1.out | exact S0.out _ K2.out)
    (first
    | (go_at_call_of 28 px; refine Calls.mono (J1.out _ ((HK.out n).trans (K0.out _))) ?_; rintro e w1 ⟨p1, rfl, k1, z1⟩; have K1 := Lib.hid ((K0.out _).trans k1); have T1 := Lib.hid z1; clear k1 z1)
    | (go_at_call_of 28 py; refine Calls.mono (J2.out _ p1 ((HK.out n).trans K1.out) T1.out) ?_; rintro e w2 ⟨p2, rfl, k2, z2⟩; have K2 := Lib.hid (K1.out.trans k2); have T2 := Lib.hid z2; clear k2 z2))
  all_goals
    go_wp2_with fail
    go_ret
    exact ⟨_, rfl, (HK.out n).trans K2.out, T2.out⟩
end Go.Proofs.Ytpocnldljglbgaa
