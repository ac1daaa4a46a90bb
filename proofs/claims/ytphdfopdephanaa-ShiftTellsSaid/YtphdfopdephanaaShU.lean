/- What is known of terms that calls make; the law's known(). -/
import Derived.Test.YtphdfopdephanaaShT
import Derived.Test.YtphdfopdephanaaShS
namespace Go.Proofs.Ytphdfopdephanaa
open Go.RowKit Go.ChangeMaps

/-- A term that lies there, with variables of at most N, no deeper than H. -/
structure TOk (w : World) (t : Tm) (q : Option Addr) (N : Int) (H : Nat) : Prop where
  at' : TmAt w t q
  ok : Ok N t
  ht : t.ht ≤ H
theorem TOk.kp {w w2 : World} {t : Tm} {q : Option Addr} {N : Int} {H : Nat} (h : TOk w t q N H) (K : Kp [] w w2) : TOk w2 t q N H := ⟨TmAt.kp K h.at', h.ok, h.ht⟩
def MkOk (t : Tm) (N : Int) (H : Nat) (w : World) (e : Ending) (w2 : World) : Prop := ∃ q, e = .returned (.pointer q) ∧ Kp [] w w2 ∧ TOk w2 t q N H
theorem MkOk.of {t : Tm} {N : Int} {H : Nat} {w : World} (o : Ok N t) (h : t.ht ≤ H) {f : FuncId} {args : Array Value} (c : Calls Try.prog f args w (MkPost t w)) : Calls Try.prog f args w (MkOk t N H w) :=
  c.mono (fun _ _ ⟨q, h1, h2, h3⟩ => ⟨q, h1, h2, h3, o, h⟩)
theorem Ok.bind {N : Int} {t : Tm} (o : Ok N t) (hN : 0 ≤ N) (nm : ByteArray) : ∀ (d : Int), 0 ≤ d → Ok (N + d + t.ht + 1) ((bindM nm).at d t) := by
  induction o with
  | nil => intros; exact .nil
  | var n h0 h1 =>
    intro d hd
    show Ok _ ((bindM nm).at d (vr n))
    rw [bind_var]
    split
    · exact .var _ h0 (by omega)
    · exact .var _ (by omega) (by omega)
  | leaf k n s hk =>
    intro d hd
    rw [at_leaf _ _ _ _ _ hk]
    split
    · exact .var _ hd (by omega)
    · exact .leaf k n s hk
  | inner k x y z hk hc _ _ _ i1 i2 i3 =>
    intro d hd
    have b1 := hB_01 k
    have b2 := hC_01 k
    rw [at_inner _ _ _ _ _ _ hk]
    exact .inner k _ _ _ hk (fun h => by rw [hc h]; rfl) ((i1 d hd).mono (by simp only [Tm.ht]; omega)) ((i2 _ (by omega)).mono (by simp only [Tm.ht]; omega)) ((i3 _ (by omega)).mono (by simp only [Tm.ht]; omega))
section
variable {w : World} {t u : Tm} {p q : Option Addr} {N N2 : Int} {H H2 : Nat}
theorem put_ok (h : TOk w t p N H) (hu : TOk w u q N2 H2) (at' : Int) (hN0 : 0 ≤ N) (hN : N ≤ 1000000000) (hM0 : 0 ≤ N2) (hM : N2 ≤ 1000000000) (hH : H ≤ 60000) (hH2 : H2 ≤ 60000) (ha0 : 0 ≤ at') (ha1 : at' ≤ 1000000000) :
    Calls Try.prog 15 #[.pointer p, .pointer q, .int .i64 at'] w (MkOk ((putM u at').at 0 t) (N + N2 + H + 1) (H + H2) w) := by
  have h1 := h.ht
  have h2 := hu.ht
  refine MkOk.of ((h.ok.put hu.ok hN0 hM0 at' ha0 0 (Int.le_refl _)).mono (by omega)) ?_ (sput_any (by omega) (by omega) at' ha0 (by omega) h.ok hu.ok (by omega) (by omega) h.at' hu.at')
  have := ht_at (putM u at') H2 (fun x hx => by rw [List.mem_singleton.1 hx]; exact h2) t 0
  omega
theorem lift_ok (h : TOk w t p N H) (by' fr : Int) (hN0 : 0 ≤ N) (hN : N ≤ 1000000000) (hH : H ≤ 60000) (hb0 : 0 ≤ by') (hb1 : by' ≤ 1000) (ha0 : 0 ≤ fr) (ha1 : fr ≤ 1000000000) :
    Calls Try.prog 13 #[.pointer p, .int .i64 by', .int .i64 fr] w (MkOk (lift by' fr t) (N + by') H w) := by
  have h1 := h.ht
  exact MkOk.of (h.ok.lift by' hb0 fr) (by rw [ht_lift]; exact h1) (slift_any (by omega) by' fr hb0 (by omega) ha0 (by omega) h.ok (by omega) h.at')
theorem bind_ok (h : TOk w t p N H) (nm : ByteArray) (hN0 : 0 ≤ N) (hN : N ≤ 1000000000) (hH : H ≤ 60000) :
    Calls Try.prog 17 #[.pointer p, .string nm] w (MkOk ((bindM nm).at 0 t) (N + H + 1) H w) := by
  have h1 := h.ht
  refine MkOk.of ((h.ok.bind hN0 nm 0 (Int.le_refl _)).mono (by omega)) ?_ (sbind_any (by omega) nm h.ok (by omega) h.at')
  have := ht_at (bindM nm) 0 (fun x hx => by cases hx) t 0
  omega
/-- A call of Same on terms that are the same. -/
def YesPost (w : World) (e : Ending) (w2 : World) : Prop := e = .returned (.bool true) ∧ Kp [] w w2
theorem same_yes (e : t = u) (ht : TmAt w t p) (hu : TmAt w u q) : Calls Try.prog 12 #[.pointer p, .pointer q] w (YesPost w) := by
  refine (same_any t u w p q ht hu).mono (fun en w2 ⟨h1, n, h2⟩ => ?_)
  rw [decide_eq_true e] at h1
  exact ⟨h1, by rw [h2]; exact (Kp.refl [] w).drewN n⟩
theorem ok_leaf (k n : Int) (s : ByteArray) (hk : k = 1 ∨ k = 3) : Ok 100000 (.node k n s .nil .nil .nil) := .leaf k n s hk
theorem ok_two (k : Int) (a b : Tm) (hk : k = 4 ∨ k = 5 ∨ k = 6) (ha : Ok 100000 a) (hb : Ok 100000 b) : Ok 100000 (.node k 0 noS a b .nil) := .inner k a b .nil (by omega) (fun _ => rfl) ha hb .nil
end
theorem sort_ok (n : Int) (w : World) : Calls Try.prog 25 #[.int .i64 n] w (MkOk (.node 1 n noS .nil .nil .nil) 100000 1 w) := MkOk.of (ok_leaf _ _ _ (.inl rfl)) (Nat.le_refl 1) (sort_any n w)
theorem const_ok (s : ByteArray) (w : World) : Calls Try.prog 23 #[.string s] w (MkOk (.node 3 0 s .nil .nil .nil) 100000 1 w) := MkOk.of (ok_leaf _ _ _ (.inr rfl)) (Nat.le_refl 1) (const_any s w)
theorem var_ok (n : Int) (h0 : 0 ≤ n) (h1 : n ≤ 100000) (w : World) : Calls Try.prog 27 #[.int .i64 n] w (MkOk (vr n) 100000 1 w) := MkOk.of (.var n h0 h1) (Nat.le_refl 1) (var_any n w)
theorem app_ok {w : World} {a b : Tm} {p q : Option Addr} {H H2 : Nat} (ha : TOk w a p 100000 H) (hb : TOk w b q 100000 H2) : Calls Try.prog 26 #[.pointer p, .pointer q] w (MkOk (.node 6 0 noS a b .nil) 100000 (1 + H + H2) w) := by
  have h1 := ha.ht
  have h2 := hb.ht
  exact MkOk.of (ok_two _ _ _ (by omega) ha.ok hb.ok) (by simp only [Tm.ht]; omega) (app_any ha.at' hb.at')
theorem lam_ok {w : World} {a b : Tm} {p q : Option Addr} {H H2 : Nat} (ha : TOk w a p 100000 H) (hb : TOk w b q 100000 H2) : Calls Try.prog 24 #[.pointer p, .pointer q] w (MkOk (.node 5 0 noS a b .nil) 100000 (1 + H + H2) w) := by
  have h1 := ha.ht
  have h2 := hb.ht
  exact MkOk.of (ok_two _ _ _ (by omega) ha.ok hb.ok) (by simp only [Tm.ht]; omega) (lam_any ha.at' hb.at')
/-- Two terms put in at once, the row made anew. -/
theorem all2_any {w : World} {t x y : Tm} {p qx qy : Option Addr} {N : Int} {H Hx Hy : Nat} (h : TOk w t p N H) (hx : TOk w x qx N Hx) (hy : TOk w y qy N Hy) (hN : N ≤ 1000000000) (hH : H ≤ 60000) (hHx : Hx ≤ 60000) (hHy : Hy ≤ 60000) (b : Nat) (hb : w.cell? ⟨b, 0, none⟩ = some (.pointer qx) ∧ w.cell? ⟨b, 1, none⟩ = some (.pointer qy)) :
    Calls Try.prog 19 #[.pointer p, .slice (some ⟨b, 0, none⟩) 2 2] w (MkPost ((allM [x, y]).at 0 t) w) := by
  have h1 := h.ht
  have h2 := hx.ht
  have h3 := hy.ht
  refine sall_any (N2 := N) (by omega) (by omega) h.ok (fun u hu => ?_) (by show 2 ≤ 100000; decide) (by omega) (ps := [qx, qy]) h.at' ⟨rfl, rfl, fun i q hq => ?_, fun i q v hq hv => ?_⟩
  · simp only [List.mem_cons, List.not_mem_nil, or_false] at hu
    rcases hu with rfl | rfl
    · exact ⟨hx.ok, by omega⟩
    · exact ⟨hy.ok, by omega⟩
  · match i with
    | 0 => simp at hq; subst hq; exact ⟨b, 0, rfl, trivial, hb.1⟩
    | 1 => simp at hq; subst hq; exact ⟨b, 0, rfl, trivial, hb.2⟩
    | i + 2 => simp at hq
  · match i with
    | 0 => simp at hq hv; subst hq; subst hv; exact hx.at'
    | 1 => simp at hq hv; subst hq; subst hv; exact hy.at'
    | i + 2 => simp at hq
theorem all0_any {w : World} {t : Tm} {p : Option Addr} {N : Int} {H : Nat} (h : TOk w t p N H) (hN : N ≤ 1000000000) (hH : H ≤ 60000) :
    Calls Try.prog 19 #[.pointer p, .slice none 0 0] w (MkPost ((allM []).at 0 t) w) := by
  have h1 := h.ht
  exact sall_any (N2 := 0) (by omega) (by decide) h.ok (fun u hu => by cases hu) (by show 0 ≤ 100000; decide) (by omega) (ps := []) h.at' (TermsAt.none w)
theorem TmH.kp {w w2 : World} {t : Tm} {q : Option Addr} (h : TmAt w t q) (K : Kp [] w w2) : TmAt w2 t q := TmAt.kp K h
/-- A term, told with its place first. -/
structure TA (w : World) (t : Tm) (q : Option Addr) : Prop where
  at' : TmAt w t q
theorem TA.kp {w w2 : World} {t : Tm} {q : Option Addr} (h : TA w t q) (K : Kp [] w w2) : TA w2 t q := ⟨TmAt.kp K h.at'⟩
set_option maxHeartbeats 6400000 in
theorem known_any (w : World) : Calls Try.prog 8 #[] w (YesPost w) := by
  have K : Hid (Kp [] w w) := Kp.refl [] w
  go_enter Try.func8, Try.ntmps8
  go_wp2_with fail
  refine Calls.mono (sort_ok 0 _) ?_
  rintro e w1 ⟨qs0, rfl, kk, tt⟩
  replace K := Lib.hid (K.out.trans kk)
  have Ts0 := Lib.hid tt
  clear kk tt
  go_wp2_with fail
  refine Calls.mono (var_ok 0 (by decide) (by decide) _) ?_
  rintro e w2 ⟨qv0, rfl, kk, tt⟩
  replace K := Lib.hid (K.out.trans kk)
  replace Ts0 := Lib.hid (Ts0.out.kp kk)
  have Tv0 := Lib.hid tt
  clear kk tt
  go_wp2_with fail
  refine Calls.mono (var_ok 1 (by decide) (by decide) _) ?_
  rintro e w3 ⟨qv1, rfl, kk, tt⟩
  replace K := Lib.hid (K.out.trans kk)
  replace Ts0 := Lib.hid (Ts0.out.kp kk)
  replace Tv0 := Lib.hid (Tv0.out.kp kk)
  have Tv1 := Lib.hid tt
  clear kk tt
  go_wp2_with fail
  refine Calls.mono (app_ok Tv0.out Tv1.out) ?_
  rintro e w4 ⟨qa1, rfl, kk, tt⟩
  replace K := Lib.hid (K.out.trans kk)
  replace Ts0 := Lib.hid (Ts0.out.kp kk)
  replace Tv0 := Lib.hid (Tv0.out.kp kk)
  replace Tv1 := Lib.hid (Tv1.out.kp kk)
  have Ta1 := Lib.hid tt
  clear kk tt
  go_wp2_with fail
  clear Tv0
  clear Tv1
  refine Calls.mono (lam_ok Ts0.out Ta1.out) ?_
  rintro e w5 ⟨qf, rfl, kk, tt⟩
  replace K := Lib.hid (K.out.trans kk)
  replace Ts0 := Lib.hid (Ts0.out.kp kk)
  replace Ta1 := Lib.hid (Ta1.out.kp kk)
  have Tf := Lib.hid tt
  clear kk tt
  go_wp2_with fail
  clear Ts0
  clear Ta1
  refine Calls.mono (lift_ok Tf.out 2 0 (by decide) (by decide) (by decide) (by decide) (by decide) (by decide) (by decide)) ?_
  rintro e w6 ⟨qA, rfl, kk, tt⟩
  replace K := Lib.hid (K.out.trans kk)
  replace Tf := Lib.hid (Tf.out.kp kk)
  have TA := Lib.hid tt
  clear kk tt
  go_wp2_with fail
  clear Tf
  refine Calls.mono (var_ok 0 (by decide) (by decide) _) ?_
  rintro e w7 ⟨qv2, rfl, kk, tt⟩
  replace K := Lib.hid (K.out.trans kk)
  replace TA := Lib.hid (TA.out.kp kk)
  have Tv2 := Lib.hid tt
  clear kk tt
  go_wp2_with fail
  refine Calls.mono (var_ok 1 (by decide) (by decide) _) ?_
  rintro e w8 ⟨qv3, rfl, kk, tt⟩
  replace K := Lib.hid (K.out.trans kk)
  replace TA := Lib.hid (TA.out.kp kk)
  replace Tv2 := Lib.hid (Tv2.out.kp kk)
  have Tv3 := Lib.hid tt
  clear kk tt
  go_wp2_with fail
  refine Calls.mono (app_ok Tv2.out Tv3.out) ?_
  rintro e w9 ⟨qa2, rfl, kk, tt⟩
  replace K := Lib.hid (K.out.trans kk)
  replace TA := Lib.hid (TA.out.kp kk)
  replace Tv2 := Lib.hid (Tv2.out.kp kk)
  replace Tv3 := Lib.hid (Tv3.out.kp kk)
  have Ta2 := Lib.hid tt
  clear kk tt
  go_wp2_with fail
  clear Tv2
  clear Tv3
  refine Calls.mono (const_ok (⟨#[120]⟩) _) ?_
  rintro e w10 ⟨qc1, rfl, kk, tt⟩
  replace K := Lib.hid (K.out.trans kk)
  replace TA := Lib.hid (TA.out.kp kk)
  replace Ta2 := Lib.hid (Ta2.out.kp kk)
  have Tc1 := Lib.hid tt
  clear kk tt
  go_wp2_with fail
  refine Calls.mono (put_ok Ta2.out Tc1.out 0 (by decide) (by decide) (by decide) (by decide) (by decide) (by decide) (by decide) (by decide)) ?_
  rintro e w11 ⟨qB, rfl, kk, tt⟩
  replace K := Lib.hid (K.out.trans kk)
  replace TA := Lib.hid (TA.out.kp kk)
  replace Ta2 := Lib.hid (Ta2.out.kp kk)
  replace Tc1 := Lib.hid (Tc1.out.kp kk)
  have TB := Lib.hid tt
  clear kk tt
  go_wp2_with fail
  clear Ta2
  clear Tc1
  refine Calls.mono (const_ok (⟨#[120]⟩) _) ?_
  rintro e w12 ⟨qc2, rfl, kk, tt⟩
  replace K := Lib.hid (K.out.trans kk)
  replace TA := Lib.hid (TA.out.kp kk)
  replace TB := Lib.hid (TB.out.kp kk)
  have Tc2 := Lib.hid tt
  clear kk tt
  go_wp2_with fail
  refine Calls.mono (var_ok 0 (by decide) (by decide) _) ?_
  rintro e w13 ⟨qv4, rfl, kk, tt⟩
  replace K := Lib.hid (K.out.trans kk)
  replace TA := Lib.hid (TA.out.kp kk)
  replace TB := Lib.hid (TB.out.kp kk)
  replace Tc2 := Lib.hid (Tc2.out.kp kk)
  have Tv4 := Lib.hid tt
  clear kk tt
  go_wp2_with fail
  refine Calls.mono (app_ok Tc2.out Tv4.out) ?_
  rintro e w14 ⟨qa3, rfl, kk, tt⟩
  replace K := Lib.hid (K.out.trans kk)
  replace TA := Lib.hid (TA.out.kp kk)
  replace TB := Lib.hid (TB.out.kp kk)
  replace Tc2 := Lib.hid (Tc2.out.kp kk)
  replace Tv4 := Lib.hid (Tv4.out.kp kk)
  have Ta3 := Lib.hid tt
  clear kk tt
  go_wp2_with fail
  clear Tc2
  clear Tv4
  refine Calls.mono (bind_ok Ta3.out (⟨#[120]⟩) (by decide) (by decide) (by decide)) ?_
  rintro e w15 ⟨qC, rfl, kk, tt⟩
  replace K := Lib.hid (K.out.trans kk)
  replace TA := Lib.hid (TA.out.kp kk)
  replace TB := Lib.hid (TB.out.kp kk)
  replace Ta3 := Lib.hid (Ta3.out.kp kk)
  have TC := Lib.hid tt
  clear kk tt
  go_wp2_with fail
  clear Ta3
  refine Calls.mono (var_ok 1 (by decide) (by decide) _) ?_
  rintro e w16 ⟨qv5, rfl, kk, tt⟩
  replace K := Lib.hid (K.out.trans kk)
  replace TA := Lib.hid (TA.out.kp kk)
  replace TB := Lib.hid (TB.out.kp kk)
  replace TC := Lib.hid (TC.out.kp kk)
  have Tv5 := Lib.hid tt
  clear kk tt
  go_wp2_with fail
  refine Calls.mono (var_ok 0 (by decide) (by decide) _) ?_
  rintro e w17 ⟨qv6, rfl, kk, tt⟩
  replace K := Lib.hid (K.out.trans kk)
  replace TA := Lib.hid (TA.out.kp kk)
  replace TB := Lib.hid (TB.out.kp kk)
  replace TC := Lib.hid (TC.out.kp kk)
  replace Tv5 := Lib.hid (Tv5.out.kp kk)
  have Tv6 := Lib.hid tt
  clear kk tt
  go_wp2_with fail
  refine Calls.mono (app_ok Tv5.out Tv6.out) ?_
  rintro e w18 ⟨qa4, rfl, kk, tt⟩
  replace K := Lib.hid (K.out.trans kk)
  replace TA := Lib.hid (TA.out.kp kk)
  replace TB := Lib.hid (TB.out.kp kk)
  replace TC := Lib.hid (TC.out.kp kk)
  replace Tv5 := Lib.hid (Tv5.out.kp kk)
  replace Tv6 := Lib.hid (Tv6.out.kp kk)
  have Ta4 := Lib.hid tt
  clear kk tt
  go_wp2_with fail
  clear Tv5
  clear Tv6
  refine Calls.mono (const_ok (⟨#[120]⟩) _) ?_
  rintro e w19 ⟨qc3, rfl, kk, tt⟩
  replace K := Lib.hid (K.out.trans kk)
  replace TA := Lib.hid (TA.out.kp kk)
  replace TB := Lib.hid (TB.out.kp kk)
  replace TC := Lib.hid (TC.out.kp kk)
  replace Ta4 := Lib.hid (Ta4.out.kp kk)
  have Tc3 := Lib.hid tt
  clear kk tt
  go_wp2_with fail
  refine Calls.mono (const_ok (⟨#[121]⟩) _) ?_
  rintro e w20 ⟨qc4, rfl, kk, tt⟩
  replace K := Lib.hid (K.out.trans kk)
  replace TA := Lib.hid (TA.out.kp kk)
  replace TB := Lib.hid (TB.out.kp kk)
  replace TC := Lib.hid (TC.out.kp kk)
  replace Ta4 := Lib.hid (Ta4.out.kp kk)
  replace Tc3 := Lib.hid (Tc3.out.kp kk)
  have Tc4 := Lib.hid tt
  clear kk tt
  go_wp2_with fail
  have hb : (w20.alloc (.cells #[.pointer qc3, .pointer qc4] 24)).cell? ⟨w20.heap.size, 0, none⟩ = some (.pointer qc3) ∧ (w20.alloc (.cells #[.pointer qc3, .pointer qc4] 24)).cell? ⟨w20.heap.size, 1, none⟩ = some (.pointer qc4) := ⟨by rw [World.cell?_alloc_new]; rfl, by rw [World.cell?_alloc_new]; rfl⟩
  have kk : Kp [] w20 (w20.alloc (.cells #[.pointer qc3, .pointer qc4] 24)) := (Kp.refl [] _).alloc _
  replace K := Lib.hid (K.out.trans kk)
  replace TA := Lib.hid (TA.out.kp kk)
  replace TB := Lib.hid (TB.out.kp kk)
  replace TC := Lib.hid (TC.out.kp kk)
  replace Ta4 := Lib.hid (Ta4.out.kp kk)
  replace Tc3 := Lib.hid (Tc3.out.kp kk)
  replace Tc4 := Lib.hid (Tc4.out.kp kk)
  clear kk
  refine Calls.mono (all2_any Ta4.out Tc3.out Tc4.out (by decide) (by decide) (by decide) (by decide) _ hb) ?_
  rintro e w21 ⟨qD, rfl, kk, tt⟩
  replace K := Lib.hid (K.out.trans kk)
  replace TA := Lib.hid (TA.out.kp kk)
  replace TB := Lib.hid (TB.out.kp kk)
  replace TC := Lib.hid (TC.out.kp kk)
  replace Ta4 := Lib.hid (Ta4.out.kp kk)
  replace Tc3 := Lib.hid (Tc3.out.kp kk)
  replace Tc4 := Lib.hid (Tc4.out.kp kk)
  have TD := Lib.hid tt
  clear kk tt
  go_wp2_with fail
  clear Ta4
  clear Tc3
  clear Tc4
  refine Calls.mono (sort_ok 0 _) ?_
  rintro e w22 ⟨qs1, rfl, kk, tt⟩
  replace K := Lib.hid (K.out.trans kk)
  replace TA := Lib.hid (TA.out.kp kk)
  replace TB := Lib.hid (TB.out.kp kk)
  replace TC := Lib.hid (TC.out.kp kk)
  replace TD := Lib.hid (TD.out.kp kk)
  have Ts1 := Lib.hid tt
  clear kk tt
  go_wp2_with fail
  refine Calls.mono (var_ok 0 (by decide) (by decide) _) ?_
  rintro e w23 ⟨qv7, rfl, kk, tt⟩
  replace K := Lib.hid (K.out.trans kk)
  replace TA := Lib.hid (TA.out.kp kk)
  replace TB := Lib.hid (TB.out.kp kk)
  replace TC := Lib.hid (TC.out.kp kk)
  replace TD := Lib.hid (TD.out.kp kk)
  replace Ts1 := Lib.hid (Ts1.out.kp kk)
  have Tv7 := Lib.hid tt
  clear kk tt
  go_wp2_with fail
  refine Calls.mono (var_ok 3 (by decide) (by decide) _) ?_
  rintro e w24 ⟨qv8, rfl, kk, tt⟩
  replace K := Lib.hid (K.out.trans kk)
  replace TA := Lib.hid (TA.out.kp kk)
  replace TB := Lib.hid (TB.out.kp kk)
  replace TC := Lib.hid (TC.out.kp kk)
  replace TD := Lib.hid (TD.out.kp kk)
  replace Ts1 := Lib.hid (Ts1.out.kp kk)
  replace Tv7 := Lib.hid (Tv7.out.kp kk)
  have Tv8 := Lib.hid tt
  clear kk tt
  go_wp2_with fail
  refine Calls.mono (app_ok Tv7.out Tv8.out) ?_
  rintro e w25 ⟨qa5, rfl, kk, tt⟩
  replace K := Lib.hid (K.out.trans kk)
  replace TA := Lib.hid (TA.out.kp kk)
  replace TB := Lib.hid (TB.out.kp kk)
  replace TC := Lib.hid (TC.out.kp kk)
  replace TD := Lib.hid (TD.out.kp kk)
  replace Ts1 := Lib.hid (Ts1.out.kp kk)
  replace Tv7 := Lib.hid (Tv7.out.kp kk)
  replace Tv8 := Lib.hid (Tv8.out.kp kk)
  have Ta5 := Lib.hid tt
  clear kk tt
  go_wp2_with fail
  clear Tv7
  clear Tv8
  refine Calls.mono (lam_ok Ts1.out Ta5.out) ?_
  rintro e w26 ⟨ql1, rfl, kk, tt⟩
  replace K := Lib.hid (K.out.trans kk)
  replace TA := Lib.hid (TA.out.kp kk)
  replace TB := Lib.hid (TB.out.kp kk)
  replace TC := Lib.hid (TC.out.kp kk)
  replace TD := Lib.hid (TD.out.kp kk)
  replace Ts1 := Lib.hid (Ts1.out.kp kk)
  replace Ta5 := Lib.hid (Ta5.out.kp kk)
  have Tl1 := Lib.hid tt
  clear kk tt
  go_wp2_with fail
  clear Ts1
  clear Ta5
  refine Calls.mono (same_yes (by decide) TA.out.at' Tl1.out.at') ?_
  rintro e w27 ⟨rfl, kk⟩
  replace K := Lib.hid (K.out.trans kk)
  replace TA := Lib.hid (TA.out.kp kk)
  replace TB := Lib.hid (TB.out.kp kk)
  replace TC := Lib.hid (TC.out.kp kk)
  replace TD := Lib.hid (TD.out.kp kk)
  replace Tl1 := Lib.hid (Tl1.out.kp kk)
  clear kk
  go_wp2_with fail
  clear TA
  clear Tl1
  refine Calls.mono (const_ok (⟨#[120]⟩) _) ?_
  rintro e w28 ⟨qc5, rfl, kk, tt⟩
  replace K := Lib.hid (K.out.trans kk)
  replace TB := Lib.hid (TB.out.kp kk)
  replace TC := Lib.hid (TC.out.kp kk)
  replace TD := Lib.hid (TD.out.kp kk)
  have Tc5 := Lib.hid tt
  clear kk tt
  go_wp2_with fail
  refine Calls.mono (var_ok 0 (by decide) (by decide) _) ?_
  rintro e w29 ⟨qv9, rfl, kk, tt⟩
  replace K := Lib.hid (K.out.trans kk)
  replace TB := Lib.hid (TB.out.kp kk)
  replace TC := Lib.hid (TC.out.kp kk)
  replace TD := Lib.hid (TD.out.kp kk)
  replace Tc5 := Lib.hid (Tc5.out.kp kk)
  have Tv9 := Lib.hid tt
  clear kk tt
  go_wp2_with fail
  refine Calls.mono (app_ok Tc5.out Tv9.out) ?_
  rintro e w30 ⟨qa6, rfl, kk, tt⟩
  replace K := Lib.hid (K.out.trans kk)
  replace TB := Lib.hid (TB.out.kp kk)
  replace TC := Lib.hid (TC.out.kp kk)
  replace TD := Lib.hid (TD.out.kp kk)
  replace Tc5 := Lib.hid (Tc5.out.kp kk)
  replace Tv9 := Lib.hid (Tv9.out.kp kk)
  have Ta6 := Lib.hid tt
  clear kk tt
  go_wp2_with fail
  clear Tc5
  clear Tv9
  refine Calls.mono (same_yes (by decide) TB.out.at' Ta6.out.at') ?_
  rintro e w31 ⟨rfl, kk⟩
  replace K := Lib.hid (K.out.trans kk)
  replace TB := Lib.hid (TB.out.kp kk)
  replace TC := Lib.hid (TC.out.kp kk)
  replace TD := Lib.hid (TD.out.kp kk)
  replace Ta6 := Lib.hid (Ta6.out.kp kk)
  clear kk
  go_wp2_with fail
  clear TB
  clear Ta6
  refine Calls.mono (var_ok 0 (by decide) (by decide) _) ?_
  rintro e w32 ⟨qva, rfl, kk, tt⟩
  replace K := Lib.hid (K.out.trans kk)
  replace TC := Lib.hid (TC.out.kp kk)
  replace TD := Lib.hid (TD.out.kp kk)
  have Tva := Lib.hid tt
  clear kk tt
  go_wp2_with fail
  refine Calls.mono (var_ok 1 (by decide) (by decide) _) ?_
  rintro e w33 ⟨qvb, rfl, kk, tt⟩
  replace K := Lib.hid (K.out.trans kk)
  replace TC := Lib.hid (TC.out.kp kk)
  replace TD := Lib.hid (TD.out.kp kk)
  replace Tva := Lib.hid (Tva.out.kp kk)
  have Tvb := Lib.hid tt
  clear kk tt
  go_wp2_with fail
  refine Calls.mono (app_ok Tva.out Tvb.out) ?_
  rintro e w34 ⟨qa7, rfl, kk, tt⟩
  replace K := Lib.hid (K.out.trans kk)
  replace TC := Lib.hid (TC.out.kp kk)
  replace TD := Lib.hid (TD.out.kp kk)
  replace Tva := Lib.hid (Tva.out.kp kk)
  replace Tvb := Lib.hid (Tvb.out.kp kk)
  have Ta7 := Lib.hid tt
  clear kk tt
  go_wp2_with fail
  clear Tva
  clear Tvb
  refine Calls.mono (same_yes (by decide) TC.out.at' Ta7.out.at') ?_
  rintro e w35 ⟨rfl, kk⟩
  replace K := Lib.hid (K.out.trans kk)
  replace TC := Lib.hid (TC.out.kp kk)
  replace TD := Lib.hid (TD.out.kp kk)
  replace Ta7 := Lib.hid (Ta7.out.kp kk)
  clear kk
  go_wp2_with fail
  clear TC
  clear Ta7
  refine Calls.mono (const_ok (⟨#[120]⟩) _) ?_
  rintro e w36 ⟨qc6, rfl, kk, tt⟩
  replace K := Lib.hid (K.out.trans kk)
  replace TD := Lib.hid (TD.out.kp kk)
  have Tc6 := Lib.hid tt
  clear kk tt
  go_wp2_with fail
  refine Calls.mono (const_ok (⟨#[121]⟩) _) ?_
  rintro e w37 ⟨qc7, rfl, kk, tt⟩
  replace K := Lib.hid (K.out.trans kk)
  replace TD := Lib.hid (TD.out.kp kk)
  replace Tc6 := Lib.hid (Tc6.out.kp kk)
  have Tc7 := Lib.hid tt
  clear kk tt
  go_wp2_with fail
  refine Calls.mono (app_ok Tc6.out Tc7.out) ?_
  rintro e w38 ⟨qa8, rfl, kk, tt⟩
  replace K := Lib.hid (K.out.trans kk)
  replace TD := Lib.hid (TD.out.kp kk)
  replace Tc6 := Lib.hid (Tc6.out.kp kk)
  replace Tc7 := Lib.hid (Tc7.out.kp kk)
  have Ta8 := Lib.hid tt
  clear kk tt
  go_wp2_with fail
  clear Tc6
  clear Tc7
  refine Calls.mono (same_yes (by decide) TD.out Ta8.out.at') ?_
  rintro e w39 ⟨rfl, kk⟩
  replace K := Lib.hid (K.out.trans kk)
  replace TD := Lib.hid (TD.out.kp kk)
  replace Ta8 := Lib.hid (Ta8.out.kp kk)
  clear kk
  go_wp2_with fail
  go_ret
  exact ⟨rfl, K.out⟩
end Go.Proofs.Ytphdfopdephanaa
