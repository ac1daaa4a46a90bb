/- Contracts of whole, Lift, Put, Bind, All. -/
import Derived.Test.YtphdfopdephanaaShL
import Derived.Test.YtphdfopdephanaaShR
namespace Go.Proofs.Ytphdfopdephanaa
open Go.RowKit Go.ChangeMaps

def ansO (fr by' : Int) (tv : Value) (bd : Bool) (nm : ByteArray) : Obj := .cells #[.int .i64 fr, .int .i64 by', tv, .bool bd, .string nm, .int .i64 0, .map none] 63
/-- The terms that a row of pointers holds. -/
structure TermsAt (w : World) (ta : Option Addr) (tn : Nat) (ps : List (Option Addr)) (l : List Tm) : Prop where
  len : ps.length = tn
  lenm : l.length = tn
  row : RowAt w (fun _ => True) ta ps
  trm : ∀ (i : Nat) (q : Option Addr) (t : Tm), ps[i]? = some q → l[i]? = some t → TmAt w t q
theorem TermsAt.kp {w w2 : World} (K : Kp [] w w2) {ta : Option Addr} {tn : Nat} {ps : List (Option Addr)} {l : List Tm} (h : TermsAt w ta tn ps l) : TermsAt w2 ta tn ps l :=
  ⟨h.len, h.lenm, h.row.kp K (fun _ h => by cases h) (fun _ _ h => h), fun i q t h1 h2 => (h.trm i q t h1 h2).kp0 K⟩
theorem TermsAt.none (w : World) : TermsAt w none 0 [] [] := ⟨rfl, rfl, fun i q h => by simp at h, fun i q t h => by simp at h⟩
set_option maxHeartbeats 3200000 in
theorem whole_any (m : Mv) {N N2 : Int} (hN : N ≤ 1000000000000) (hN2 : N2 ≤ 1000000000000) (hm : MvOk N2 m) {t : Tm} (o : Ok N t) (hht : t.ht ≤ 131072) {w : World} {ta : Option Addr} {tn tc : Nat} {ps : List (Option Addr)} (hT : TermsAt w ta tn ps m.terms) {p : Option Addr} (ht : TmAt w t p) :
    Calls Try.prog 30 #[.agg #[.int .i64 m.frm, .int .i64 m.by', .slice ta tn tc, .bool m.binds, .string m.name], .pointer p] w (MkPost (m.at 0 t) w) := by
  obtain ⟨y0, hy0⟩ : ∃ y, y = w.alloc (mvO m.frm m.by' (.slice ta tn tc) m.binds m.name) := ⟨_, rfl⟩
  obtain ⟨B, hB⟩ : ∃ T, T = w.heap.size := ⟨_, rfl⟩
  have k0 : Kp [] w y0 := by rw [hy0]; exact (Kp.refl [] w).alloc _
  have M0 : MovAt y0 B m.frm m.by' (.slice ta tn tc) m.binds m.name := by rw [hy0, hB]; exact MovAt.new _ _ _ _ _ _
  obtain ⟨y, hy⟩ : ∃ y, y = y0.alloc (ansO m.frm m.by' (.slice ta tn tc) m.binds m.name) := ⟨_, rfl⟩
  obtain ⟨A, hA⟩ : ∃ A, A = y0.heap.size := ⟨_, rfl⟩
  have k1 : Kp [] y0 y := by rw [hy]; exact (Kp.refl [] y0).alloc _
  have kk := k0.trans k1
  have hT2 := hT.kp kk
  have he : Env y A [] m ta tn tc ps 0 none [] := by
    refine ⟨by rw [hy, hA]; exact (MapKept.heap_alloc y0 _).1, fun x hx => (by cases hx), hT2.len, hT2.lenm, hT2.row.kp (Kp.refl [] y) (fun _ h => by cases h) (fun _ _ _ => by simp), fun i q t h1 h2 => (hT2.trm i q t h1 h2).mono (fun _ _ _ => by simp), fun b hb => by cases hb⟩
  have hc := at_main m hN hN2 hm o
  unfold CAt pv at hc
  have HC : Hid _ := hc y A [] ta tn tc ps 0 none [] 0 p he (fun k hk => by cases hk) (Int.le_refl _) (by omega) ((ht.kp0 kk).mono (fun _ _ _ => by simp))
  have hAw : w.heap.size ≤ A := by rw [hA]; exact k0.size
  obtain ⟨c0, c1, c2, c3, c4⟩ := M0.cells
  have HY := Lib.hid (And.intro hy0 (And.intro hB (And.intro hy hA)))
  have KK := Lib.hid kk
  have HAw := Lib.hid hAw
  unfold MkPost
  clear hy0 hB k0 M0 hy hA k1 kk hT2 he hc hAw hT ht hN hN2 hm o hht
  go_enter Try.func30, Try.ntmps30
  go_upto_region 1 with fail
  have hy0 := HY.out.1
  unfold mvO at hy0
  rw [← hy0, ← HY.out.2.1]
  clear hy0
  go_wp2_with (go_at_call 40; (have hy := HY.out.2.2.1); unfold ansO at hy; rw [← hy, ← HY.out.2.2.2]; refine Calls.mono HC.out ?_; rintro e w2 ⟨q, M2, nd2, rfl, k2, _, _, t2⟩)
  go_ret
  have e0 : res m (-1) 0 t = m.at 0 t := if_pos rfl
  rw [e0] at t2
  exact ⟨q, rfl, KK.out.trans2 k2 (fun x hx => .inr (by simp at hx; rw [hx]; exact HAw.out)), t2.at⟩
set_option maxHeartbeats 3200000 in
theorem slift_any {N : Int} (hN : N ≤ 1000000000000) (by' fr : Int) (hb0 : 0 ≤ by') (hb1 : by' ≤ 1000000) (hf0 : 0 ≤ fr) (hf1 : fr ≤ 1000000000000) {t : Tm} (o : Ok N t) (hht : t.ht ≤ 131072) {w : World} {p : Option Addr} (ht : TmAt w t p) :
    Calls Try.prog 13 #[.pointer p, .int .i64 by', .int .i64 fr] w (MkPost (lift by' fr t) w) := by
  have H : Hid (Calls Try.prog 30 #[.agg #[.int .i64 fr, .int .i64 by', .slice none 0 0, .bool false, .string ⟨#[]⟩], .pointer p] w (MkPost (lift by' fr t) w)) := by
    have h := whole_any (liftM by' fr) hN (N2 := 0) (by decide) ⟨hf0, hf1, by show -1000000 ≤ by'; omega, hb1, (by show 0 ≤ 100000; decide), fun u hu => by cases hu⟩ o hht (tc := 0) (TermsAt.none w) ht
    rw [liftM_at, Int.add_zero] at h
    exact h
  unfold MkPost at H ⊢
  clear ht hb0 hb1 hf0 hf1 o
  go_enter Try.func13, Try.ntmps13
  go_wp2_with (go_at_call 30; refine Calls.mono H.out ?_; rintro e w2 ⟨q, rfl, k2, t2⟩)
  go_ret
  exact ⟨q, rfl, k2, t2⟩
set_option maxHeartbeats 3200000 in
theorem sbind_any {N : Int} (hN : N ≤ 1000000000000) (nm : ByteArray) {t : Tm} (o : Ok N t) (hht : t.ht ≤ 131072) {w : World} {p : Option Addr} (ht : TmAt w t p) :
    Calls Try.prog 17 #[.pointer p, .string nm] w (MkPost ((bindM nm).at 0 t) w) := by
  have H : Hid (Calls Try.prog 30 #[.agg #[.int .i64 0, .int .i64 1, .slice none 0 0, .bool true, .string nm], .pointer p] w (MkPost ((bindM nm).at 0 t) w)) :=
    whole_any (bindM nm) hN (N2 := 0) (by decide) ⟨Int.le_refl _, (by show (0 : Int) ≤ 1000000000000; decide), (by show (-1000000 : Int) ≤ 1; decide), (by show (1 : Int) ≤ 1000000; decide), (by show 0 ≤ 100000; decide), fun u hu => by cases hu⟩ o hht (tc := 0) (TermsAt.none w) ht
  unfold MkPost at H ⊢
  clear ht o
  go_enter Try.func17, Try.ntmps17
  go_wp2_with (go_at_call 30; refine Calls.mono H.out ?_; rintro e w2 ⟨q, rfl, k2, t2⟩)
  go_ret
  exact ⟨q, rfl, k2, t2⟩
set_option maxHeartbeats 3200000 in
theorem sput_any {N N2 : Int} (hN : N ≤ 1000000000000) (hN2 : N2 ≤ 1000000000000) (at' : Int) (hf0 : 0 ≤ at') (hf1 : at' ≤ 1000000000000) {t u : Tm} (o : Ok N t) (ou : Ok N2 u) (hht : t.ht ≤ 131072) (hhu : u.ht ≤ 131072) {w : World} {p q : Option Addr} (ht : TmAt w t p) (hu : TmAt w u q) :
    Calls Try.prog 15 #[.pointer p, .pointer q, .int .i64 at'] w (MkPost ((putM u at').at 0 t) w) := by
  obtain ⟨y, hy⟩ : ∃ y, y = w.alloc (.cells #[.pointer q] 24) := ⟨_, rfl⟩
  obtain ⟨B, hB⟩ : ∃ T, T = w.heap.size := ⟨_, rfl⟩
  have k0 : Kp [] w y := by rw [hy]; exact (Kp.refl [] w).alloc _
  have hb : y.heap[B]? = some (.cells #[.pointer q] 24 (0, 0)) := by rw [hy, hB]; exact (MapKept.heap_alloc w _).1
  have hT : TermsAt y (some ⟨B, 0, none⟩) 1 [q] [u] := by
    refine ⟨rfl, rfl, fun i q' h => ?_, fun i q' t' h1 h2 => ?_⟩
    · cases i with
      | zero => simp at h; subst h; exact ⟨B, 0, rfl, trivial, cell_of hb 0⟩
      | succ i => simp at h
    · cases i with
      | zero => simp at h1 h2; subst h1; subst h2; exact hu.kp0 k0
      | succ i => simp at h1
  have H : Hid (Calls Try.prog 30 #[.agg #[.int .i64 at', .int .i64 (-1), .slice (some ⟨B, 0, none⟩) 1 1, .bool false, .string ⟨#[]⟩], .pointer p] y (MkPost ((putM u at').at 0 t) y)) :=
    whole_any (putM u at') hN hN2 ⟨hf0, hf1, by show (-1000000 : Int) ≤ -1; decide, by show (-1 : Int) ≤ 1000000; decide, by show 1 ≤ 100000; decide, fun v hv => by rw [List.mem_singleton.1 hv]; exact ⟨ou, hhu⟩⟩ o hht (tc := 1) hT (ht.kp0 k0)
  have HY := Lib.hid (And.intro hy hB)
  have K0 := Lib.hid k0
  unfold MkPost at H ⊢
  clear ht hu o ou hy hB k0 hb hT hf0 hf1 hhu
  go_enter Try.func15, Try.ntmps15
  go_wp2_with (go_at_call 30; rw [← HY.out.1, ← HY.out.2]; refine Calls.mono H.out ?_; rintro e w2 ⟨q, rfl, k2, t2⟩)
  go_ret
  exact ⟨q, rfl, K0.out.trans k2, t2⟩
set_option maxHeartbeats 3200000 in
theorem sall_any {N N2 : Int} (hN : N ≤ 1000000000000) (hN2 : N2 ≤ 1000000000000) {t : Tm} {l : List Tm} (o : Ok N t) (ol : ∀ u ∈ l, Ok N2 u ∧ u.ht ≤ 131072) (hll : l.length ≤ 100000) (hht : t.ht ≤ 131072) {w : World} {p ta : Option Addr} {tn tc : Nat} {ps : List (Option Addr)} (ht : TmAt w t p) (hT : TermsAt w ta tn ps l) :
    Calls Try.prog 19 #[.pointer p, .slice ta tn tc] w (MkPost ((allM l).at 0 t) w) := by
  have hln := hT.lenm
  obtain ⟨z, hz⟩ : ∃ z : Int, z = -(tn : Int) := ⟨_, rfl⟩
  have e1 : IntKind.i64.wrap (-(tn : Int)) = z := wrap_ok hz.symm (by omega) (by omega)
  have H : Hid (Calls Try.prog 30 #[.agg #[.int .i64 0, .int .i64 z, .slice ta tn tc, .bool false, .string ⟨#[]⟩], .pointer p] w (MkPost ((allM l).at 0 t) w)) := by
    have h := whole_any (allM l) hN hN2 ⟨Int.le_refl _, by show (0 : Int) ≤ _; decide, by show (-1000000 : Int) ≤ -(l.length : Int); omega, by show -(l.length : Int) ≤ 1000000; omega, hll, ol⟩ o hht (tc := tc) hT ht
    have : (allM l).by' = z := by show -(l.length : Int) = z; rw [hz, hln]
    rw [this] at h
    exact h
  unfold MkPost at H ⊢
  clear ht hT o ol hln hll hz
  go_enter Try.func19, Try.ntmps19
  go_wp2_with (go_at_call 30; (try rw [e1]); refine Calls.mono H.out ?_; rintro e w2 ⟨q, rfl, k2, t2⟩)
  go_ret
  exact ⟨q, rfl, k2, t2⟩
end Go.Proofs.Ytphdfopdephanaa
