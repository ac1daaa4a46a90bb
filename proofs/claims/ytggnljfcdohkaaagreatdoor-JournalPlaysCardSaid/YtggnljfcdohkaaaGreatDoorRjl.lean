/- The walk of the law JournalPlays. -/
import Derived.Test.YtggnljfcdohkaaaGreatDoorRjz
import Derived.Deep.RegionWith
import Derived.Deep.RegionHeld3
import Derived.Deep.CutBlock
import Derived.Deep.CutRange
namespace Go.Proofs.YtggnljfcdohkaaaGreatDoor
open Go.RowKit JnC

/-- A step, as it is handed over. -/
structure StepV where
  what : Int
  at_ : Int
  b : ByteArray
  ka : Option Addr
  kc : Nat
  ks : List Bool
/-- A row of steps that is handed over, in blocks of P. -/
def StepsAt (P : Nat → Prop) (w : World) (a : Option Addr) (n : Nat) (st : Nat → StepV) : Prop :=
  ∀ i, i < n → ∃ g o, a = some ⟨g, o, none⟩ ∧ P g ∧ (w.cell? ⟨g, o + i * 4, none⟩ = some (.int .i64 (st i).what) ∧ w.cell? ⟨g, o + i * 4 + 1, none⟩ = some (.int .i64 (st i).at_) ∧ w.cell? ⟨g, o + i * 4 + 2, none⟩ = some (.string (st i).b) ∧ w.cell? ⟨g, o + i * 4 + 3, none⟩ = some (.slice (st i).ka (st i).ks.length (st i).kc))
    ∧ KeepP P w (st i).ka (st i).ks ∧ -9223372036854775808 ≤ (st i).what ∧ (st i).what ≤ 9223372036854775807 ∧ -9223372036854775808 ≤ (st i).at_ ∧ (st i).at_ ≤ 9223372036854775807 ∧ (st i).ks.length ≤ 9223372036854775807
theorem StepsAt.up {P : Nat → Prop} {w w2 : World} {a : Option Addr} {n : Nat} {st : Nat → StepV} (h : StepsAt P w a n st) (u : PUp P w w2) : StepsAt P w2 a n st := fun i hi => by
  obtain ⟨g, o, h1, h2, ⟨c0, c1, c2, c3⟩, hk, hb⟩ := h i hi
  exact ⟨g, o, h1, h2, ⟨(u.cell h2).trans c0, (u.cell h2).trans c1, (u.cell h2).trans c2, (u.cell h2).trans c3⟩, hk.up u, hb⟩
/-- The box of a step. -/
structure BoxAt (w : World) (X : Nat) (v p : Int) (s : ByteArray) (ka : Option Addr) (kn kc : Nat) : Prop where
  c0 : w.cell? ⟨X, 0, none⟩ = some (.int .i64 v)
  c1 : w.cell? ⟨X, 1, none⟩ = some (.int .i64 p)
  c2 : w.cell? ⟨X, 2, none⟩ = some (.string s)
  c3 : w.cell? ⟨X, 3, none⟩ = some (.slice ka kn kc)
theorem BoxAt.new (w : World) (v p : Int) (s : ByteArray) (ka : Option Addr) (kn kc : Nat) : BoxAt (w.alloc (.cells #[.int .i64 v, .int .i64 p, .string s, .slice ka kn kc] 42)) w.heap.size v p s ka kn kc :=
  ⟨by simp, by simp, by simp, by simp⟩
theorem BoxAt.up {P : Nat → Prop} {w w2 : World} {X : Nat} {v p : Int} {s : ByteArray} {ka : Option Addr} {kn kc : Nat} (h : BoxAt w X v p s ka kn kc) (u : PUp P w w2) (hX : P X) : BoxAt w2 X v p s ka kn kc :=
  ⟨(u.cell hX).trans h.c0, (u.cell hX).trans h.c1, (u.cell hX).trans h.c2, (u.cell hX).trans h.c3⟩
variable {P : Nat → Prop} {w : World} {b r : Nat} {S : Dk}
theorem t_format {B : World → List Nat → Prop} {m : Nat} (h : Tw P w (PD b S) B) (oB : Own B) (hS : S.Fine m) (hm : m ≤ 1000000) (hG : Gl w) :
    Calls Tryz.prog 8 #[.pointer (some ⟨b, 0, none⟩)] w fun e w2 => e = .returned .nilIface ∧ Tw P w2 (PD b S.fmt.2) B ∧ PUp P w w2 :=
  (h.call (α := Unit) (R := fun e _ => e = .returned .nilIface) (A2 := fun _ => PD b S.fmt.2) oB (fun F D _ => by
    refine (s_format D hS hG hm).mono ?_
    rintro e w2 ⟨rfl, f2, h1, M⟩
    exact ⟨(), f2, rfl, h1, M⟩)).mono (fun _ _ ⟨_, h⟩ => h)
theorem t_rformat {A : World → List Nat → Prop} {m : Nat} (h : Tw P w A (RD r S)) (oA : Own A) (hS : S.Fine m) (hm : m ≤ 1000000) :
    Calls Tryz.prog 9 #[.pointer (some ⟨r, 0, none⟩)] w fun e w2 => e = .returned (.int .i64 0) ∧ Tw P w2 A (RD r S.fmt.2) ∧ PUp P w w2 :=
  (h.callR (α := Unit) (R := fun e _ => e = .returned (.int .i64 0)) (B2 := fun _ => RD r S.fmt.2) oA (fun F D _ => by
    refine (rformat_ok D hS hm).mono ?_
    rintro e w2 ⟨rfl, f2, h1, M⟩
    exact ⟨(), f2, rfl, h1, M⟩)).mono (fun _ _ ⟨_, h⟩ => h)
theorem new_fine (n : Nat) (h4 : 4 ≤ n) (h9 : n ≤ 2000) : (Dk.new n).Fine 0 := ⟨Dk.Ok.new n (by omega), rfl, rfl, h4, h9, fun _ _ => rfl⟩
theorem new_start (n : Nat) (h4 : 4 ≤ n) (h9 : n ≤ 2000) : (Dk.new n).fmt.2.Fine 1002 ∧ SecInv 1 (Dk.new n).fmt.2 ∧ (Dk.new n).fmt.2.n = n ∧ (Dk.new n).fmt.2.OErr = 0 ∧ Inv 0 false (Dk.new n).fmt.2.ODk (Dk.new n).fmt.2.oJn := by
  have hF := new_fine n h4 h9
  obtain ⟨_, h2, h3, _⟩ := hF.fmt
  have hs : SecInv 1 (Dk.new n).fmt.2 := (SecInv.new 1 n).fmt (by omega)
  have hO := hF.jst.opens.1
  have hc : 0 < (countV (Dk.new n).fmt.2).2.1 := by
    rcases Nat.eq_zero_or_pos (countV (Dk.new n).fmt.2).2.1 with h | h
    · rw [(open_none h2 h).1] at hO
      exact absurd hO (by decide)
    · exact h
  exact ⟨h2.mono (by omega), hs, h3, hO, Inv.start (h2.mono (by omega)) hs hc⟩
theorem tw_new {w w1 w2 : World} {F G : List Nat} {n : Nat} (D : DkF w1 F b (Dk.new n)) (K : Kp [] w w1) (hF : ∀ x ∈ F, w.heap.size ≤ x) (R : RkF w2 G r (Dk.new n)) (K2 : Kp [] w1 w2) (hR : ∀ x ∈ G, w1.heap.size ≤ x) {B : Nat} (hB : B ≤ w.heap.size) :
    Tw (fun x => x < B) w2 (PD b (Dk.new n)) (RD r (Dk.new n)) := by
  have hs := K.size
  have hs2 := K2.size
  refine ⟨⟨F, G, DkF.kept D K2, R, fun x hx hg => ?_, fun x hx hp => ?_, fun x hx hp => ?_⟩, fun x hx => ?_⟩
  · have := (DkF.pos D x hx).2; have := hR x hg; omega
  · have := hF x hx; omega
  · have := hR x hx; omega
  · omega
theorem strs_kept {w w2 : World} {a : Option Addr} {n : Nat} {sx : Nat → ByteArray} (h : StrsAt w w.heap.size a n sx) (K : Kp [] w w2) : StrsAt w2 w2.heap.size a n sx := fun i hi => by
  obtain ⟨g, o, h1, h2, h3⟩ := h i hi
  exact ⟨g, o, h1, K.lt h2, (K.cell0 h2).trans h3⟩
/-- Between two rounds. -/
structure Rnd (P : Nat → Prop) (w0 w : World) (b r z : Nat) (jv qv : Value) (S : Dk) (m : Nat) : Prop where
  up : PUp P w0 w
  side : (∃ j q J dd, jv = .pointer (some ⟨j, 0, none⟩) ∧ qv = .pointer (some ⟨q, 0, none⟩) ∧ Inv m dd S J ∧ Tw P w (PJ b j S J dd) (RJ r q S J dd))
    ∨ (jv = .pointer none ∧ qv = .pointer none ∧ S.Ok (3000 + 2000 * m) ∧ Tw P w (PD b S) (RD r S))
theorem Rnd.kept {P : Nat → Prop} {w0 w w2 : World} {b r z : Nat} {jv qv : Value} {S : Dk} {m : Nat} (h : Rnd P w0 w b r z jv qv S m) (k : Kp [] w w2) : Rnd P w0 w2 b r z jv qv S m := by
  obtain ⟨u, ⟨j, q, J, dd, e1, e2, I, T⟩ | ⟨e1, e2, o, T⟩⟩ := h
  · obtain ⟨T2, u2⟩ := T.keep (PJ.own _ _ _ _ _) (RJ.own _ _ _ _ _) k
    exact ⟨u.trans u2, .inl ⟨j, q, J, dd, e1, e2, I, T2⟩⟩
  · obtain ⟨T2, u2⟩ := T.keep (PD.own _ _) (RD.own _ _) k
    exact ⟨u.trans u2, .inr ⟨e1, e2, o, T2⟩⟩
theorem Rnd.less {P Q : Nat → Prop} {w0 wX w : World} {b r z : Nat} {jv qv : Value} {S : Dk} {m : Nat} (h : Rnd Q wX w b r z jv qv S m) (hq : ∀ x, P x → Q x) (u0 : PUp P w0 wX) : Rnd P w0 w b r z jv qv S m := by
  obtain ⟨u, ⟨j, q, J, dd, e1, e2, I, T⟩ | ⟨e1, e2, o, T⟩⟩ := h
  · exact ⟨u0.trans (u.mono hq), .inl ⟨j, q, J, dd, e1, e2, I, T.less hq⟩⟩
  · exact ⟨u0.trans (u.mono hq), .inr ⟨e1, e2, o, T.less hq⟩⟩
theorem Rnd.disks {P : Nat → Prop} {w0 w : World} {b r z : Nat} {jv qv : Value} {S : Dk} {m : Nat} (h : Rnd P w0 w b r z jv qv S m) : Tw P w (PD b S) (RD r S) ∧ S.Ok (3000 + 2000 * m) := by
  obtain ⟨u, ⟨j, q, J, dd, e1, e2, I, T⟩ | ⟨e1, e2, o, T⟩⟩ := h
  · exact ⟨T.disks, I.ok⟩
  · exact ⟨T, o⟩
theorem Rnd.cases {P : Nat → Prop} {w0 w : World} {b r z : Nat} {jv qv : Value} {S : Dk} {m : Nat} (h : Rnd P w0 w b r z jv qv S m) : (∃ j q J, jv = .pointer (some ⟨j, 0, none⟩) ∧ qv = .pointer (some ⟨q, 0, none⟩)
      ∧ (∀ nq, Calls Tryz.prog 23 #[.pointer (some ⟨j, 0, none⟩)] (w.drewN nq) fun e w' => e = .returned (.int .i64 (Jn.count J : Int)) ∧ w' = w.drewN nq) ∧ w.cell? ⟨q, 5, none⟩ = some (.int .i64 (J.count : Int)))
    ∨ (jv = .pointer none ∧ qv = .pointer none) := by
  obtain ⟨u, ⟨j, q, J, dd, e1, e2, I, T⟩ | ⟨e1, e2, o, T⟩⟩ := h
  · exact .inl ⟨j, q, J, e1, e2, fun nq => t_len T ((Kp.refl [] w).drewN nq), T.count⟩
  · exact .inr ⟨e1, e2⟩
theorem Pair.new2 (w : World) (s : ByteArray) (o : Obj) : Pair ((w.alloc o).alloc (.cells #[.string s, .string s] 9)) (w.heap.size + 1) s := by
  have h := Pair.new (w.alloc o) s
  have e : (w.alloc o).heap.size = w.heap.size + 1 := by simp
  rw [e] at h
  exact h
theorem cell_past {w : World} {X o : Nat} {v : Value} (h : w.cell? ⟨X, o, none⟩ = some v) (ob : Obj) : (w.alloc ob).cell? ⟨X, o, none⟩ = some v :=
  (((Kp.refl [] w).alloc ob).cell0 (World.block_lt_of_cell? w _ h)).trans h
set_option maxHeartbeats 64000000 in
set_option maxRecDepth 100000 in
theorem plays_any (n : Int) (n0 : 0 ≤ n) (n9 : n ≤ 255) (la : Option Addr) (ln lc : Nat) (st : Nat → StepV) (w : World) (hg : 7 ≤ w.heap.size) (hG : Gl w) (hst : StepsAt (fun x => x < w.heap.size) w la ln st) :
    Calls Tryz.prog 3 #[.int .u8 n, .slice la ln lc] w fun e w2 => e = .returned (.bool true) ∧ Kp [] w w2 := by
  have H0 : Hid (Kp [] w w) := Kp.refl [] w
  have HG := Lib.hid hG
  have HW := Lib.hid hg
  have HST := Lib.hid hst
  clear hg hG hst
  by_cases h1 : 40 < ln
  · have d1 : decide ((40 : Int) < (ln : Int)) = true := by simp; omega
    go_enter Tryz.func3, Tryz.ntmps3
    go_wp2_with fail
    refine Calls.mono (known_any _ HW.out HG.out) ?_
    rintro e x1 ⟨rfl, K⟩
    have H1 := Lib.hid (H0.out.trans K)
    clear K H0
    go_wp2_with fail
    go_ret
    exact ⟨rfl, H1.out⟩
  have d1 : decide ((40 : Int) < (ln : Int)) = false := by simp; omega
  go_enter Tryz.func3, Tryz.ntmps3
  go_wp2_with fail
  refine Calls.mono (known_any _ HW.out HG.out) ?_
  rintro e x0 ⟨rfl, K⟩
  have H1 := Lib.hid (H0.out.trans K)
  clear K H0
  obtain ⟨z, hz⟩ : ∃ z : Nat, (z : Int) = n % 30 + 2 := ⟨(n % 30 + 2).toNat, by omega⟩
  have hz2 : 2 ≤ z := by omega
  have hz9 : z ≤ 31 := by omega
  have hcl : clampN (z : Int) = z := by unfold clampN; omega
  go_wp2_with fail
  rw [← hz]
  have HCL := Lib.hid hcl
  have HZ := Lib.hid hz
  clear hcl hz
  refine Calls.mono (f_new (z : Int) _ (Nat.le_trans HW.out H1.out.size)) ?_
  rintro e x1 ⟨b, F, rfl, D, K, hF⟩
  rw [HCL.out] at D
  have HD := Lib.hid D
  have HF := Lib.hid hF
  have HK := Lib.hid K
  clear D hF K
  go_wp2_with fail
  refine Calls.mono (g_new (z : Int) _ (Nat.le_trans HW.out (Nat.le_trans H1.out.size HK.out.size))) ?_
  rintro e x2 ⟨r, G, rfl, R, K, hR⟩
  rw [HCL.out] at R
  have T0 : Hid (Tw (fun x => x < w.heap.size) x2 (PD b (Dk.new z)) (RD r (Dk.new z))) := tw_new HD.out HK.out HF.out R K hR H1.out.size
  have U0 : Hid (Kp [] w x2) := (H1.out.trans HK.out).trans K
  clear R hR K HD HF HK H1
  by_cases h4 : z < 4
  · as_aux_lemma =>
    have D0 : Hid (∃ F, DkF x2 F b (Dk.new z)) := by obtain ⟨⟨F, G, a, _⟩, _⟩ := T0.out; exact ⟨F, a⟩
    have R0 : Hid (∃ G, RkF x2 G r (Dk.new z)) := by obtain ⟨⟨F, G, _, a, _⟩, _⟩ := T0.out; exact ⟨G, a⟩
    obtain ⟨F, hD⟩ := D0.out
    have HD := Lib.hid hD
    obtain ⟨G, hR⟩ := R0.out
    have HR := Lib.hid hR
    have H4 := Lib.hid h4
    clear hD hR D0 R0 T0
    go_wp2_with fail
    refine Calls.mono (Format_full HD.out H4.out) ?_
    rintro e w' ⟨⟨call, rfl⟩, hw⟩
    subst hw
    go_wp2_with fail
    refine Calls.mono (code_any ((jerr_num call 14).cans (by decide)) _ (HG.out.kept U0.out).2) ?_
    rintro e x3 ⟨rfl, K⟩
    have HK := Lib.hid K
    clear K
    go_wp2_with fail
    refine Calls.mono (rformat_full (HR.out.kept HK.out) H4.out) ?_
    rintro e w' ⟨rfl, hw⟩
    subst hw
    go_wp2_with fail
    refine Calls.mono (Open_full (HD.out.kept HK.out) H4.out) ?_
    rintro e w' ⟨⟨call2, rfl⟩, hw⟩
    subst hw
    go_wp2_with fail
    refine Calls.mono (ropen_full (HR.out.kept HK.out) H4.out) ?_
    rintro e w' ⟨rfl, hw⟩
    subst hw
    go_wp2_with fail
    refine Calls.mono (code_any ((jerr_num call2 14).cans (by decide)) _ (HG.out.kept (U0.out.trans HK.out)).2) ?_
    rintro e x4 ⟨rfl, K⟩
    have H5 : Hid (Kp [] w x4) := (U0.out.trans HK.out).trans K
    clear K
    go_wp2_with fail
    go_loopw [8, 11, 14] (fun j q i wr => j = .pointer none ∧ q = .pointer none ∧ i = .int .i64 0 ∧ Hid (Kp [] w wr)) (fun _ _ _ _ => 0)
    case atStart => exact ⟨rfl, rfl, rfl, H5⟩
    case round =>
      obtain ⟨rfl, rfl, rfl, HE⟩ := hrel
      by_cases hlt : 0 < ln
      · have l1 : decide ((0 : Int) < (ln : Int)) = true := by simp; omega
        have l1' : decide (0 < ln) = true := by simpa using hlt
        go_wp2_with fail
        go_ret
        exact ⟨rfl, HE.out⟩
      · have l1 : decide ((0 : Int) < (ln : Int)) = false := by simp; omega
        have l1' : decide (0 < ln) = false := by simpa using hlt
        go_wp2_with fail
        go_ret
        exact ⟨rfl, HE.out⟩
  obtain ⟨n1, n2, n3, n4, n5⟩ := new_start z (by omega) (by omega)
  have N1 := Lib.hid n1
  have N2 := Lib.hid n2
  have N3 := Lib.hid n3
  have N4 := Lib.hid n4
  have N5 := Lib.hid n5
  have NF := Lib.hid (new_fine z (by omega) (by omega))
  obtain ⟨S0, hS0⟩ : ∃ S0, S0 = (Dk.new z).fmt.2 := ⟨_, rfl⟩
  rw [← hS0] at N1 N2 N3 N4 N5
  have HS0 := Lib.hid hS0
  clear n1 n2 n3 n4 n5 hS0
  go_wp2_with fail
  refine Calls.mono (t_format T0.out (RD.own _ _) NF.out (by omega) (HG.out.kept U0.out)) ?_
  rintro e x3 ⟨rfl, T, U⟩
  rw [← HS0.out] at T
  have T1 := Lib.hid T
  have HU1 := Lib.hid ((U0.out.pup (P := fun x => x < w.heap.size) (fun x hx => hx) (by simp)).trans U)
  clear T U T0 U0
  go_wp2_with fail
  refine Calls.mono (code_nil _) ?_
  rintro e x4 ⟨rfl, K⟩
  obtain ⟨T, U⟩ := T1.out.keep (PD.own _ _) (RD.own _ _) K
  have T2 := Lib.hid T
  have HU2 := Lib.hid (HU1.out.trans U)
  clear T U K T1 HU1
  go_wp2_with fail
  refine Calls.mono (t_rformat T2.out (PD.own _ _) NF.out (by omega)) ?_
  rintro e x5 ⟨rfl, T, U⟩
  rw [← HS0.out] at T
  have T3 := Lib.hid T
  have HU3 := Lib.hid (HU2.out.trans U)
  clear T U T2 HU2
  go_wp2_with fail
  have HB := Lib.hid (fun x (hx : x < 7) => Nat.lt_of_lt_of_le hx HW.out)
  refine Calls.mono (t_open_yes T3.out (RD.own _ _) N1.out (by omega) N2.out (by omega) (HU3.out.gl HB.out HG.out) N4.out) ?_
  rintro e x6 ⟨⟨j, v⟩, rfl, T, U⟩
  have T4 := Lib.hid T
  have HU4 := Lib.hid (HU3.out.trans U)
  clear T U T3 HU3
  go_wp2_with fail
  refine Calls.mono (t_ropen_yes T4.out (PO.own _ _ _ _ _) N1.out (by omega) N2.out (by omega) N4.out) ?_
  rintro e x7 ⟨⟨q, v2⟩, rfl, T, U⟩
  have T5 := Lib.hid T.opened
  have HU5 := Lib.hid (HU4.out.trans U)
  clear T U T4 HU4
  go_wp2_with fail
  refine Calls.mono (code_nil _) ?_
  rintro e x8 ⟨rfl, K⟩
  obtain ⟨T, U⟩ := T5.out.keep (PJ.own _ _ _ _ _) (RJ.own _ _ _ _ _) K
  have M0 : Hid (Rnd (fun x => x < w.heap.size) w x8 b r z (.pointer (some ⟨j, 0, none⟩)) (.pointer (some ⟨q, 0, none⟩)) S0.ODk 0) := ⟨HU5.out.trans U, .inl ⟨j, q, _, _, rfl, rfl, N5.out, T⟩⟩
  clear T U K T5 HU5
  go_wp2_with fail
  go_loopw [8, 11, 14] (fun jv qv i wr => ∃ (m : Nat) (S : Dk), m ≤ ln ∧ i = .int .i64 (m : Int) ∧ Hid (Rnd (fun x => x < w.heap.size) w wr b r z jv qv S m)) (fun _ _ i _ => ln - (intOf i).toNat)
  case atStart => exact ⟨0, _, Nat.zero_le _, rfl, M0⟩
  case round =>
    clear M0 N1 N2 N3 N4 N5 NF HS0
    obtain ⟨m, S, hm, rfl, HM⟩ := hrel
    by_cases hlt : m < ln
    · have l1 : decide ((m : Int) < (ln : Int)) = true := by simpa using hlt
      have l1' : decide (m < ln) = true := by simpa using hlt
      obtain ⟨hu, ⟨j, q, J, dd, rfl, rfl, I, T⟩ | ⟨rfl, rfl, _⟩⟩ := HM.out
      · have HU := Lib.hid hu
        have HI := Lib.hid I
        have HT := Lib.hid T
        clear hu I T HM
        obtain ⟨g, o, hla, hgP, ⟨cc0, cc1, cc2, cc3⟩, hks, hb1, hb2, hb3, hb4, hb5⟩ := (HST.out.up HU.out) m hlt
        obtain ⟨wv, hv⟩ : ∃ wv, wv = (st m).what := ⟨_, rfl⟩
        obtain ⟨p, hp⟩ : ∃ p, p = (st m).at_ := ⟨_, rfl⟩
        obtain ⟨s, hs⟩ : ∃ s, s = (st m).b := ⟨_, rfl⟩
        obtain ⟨ka, hka⟩ : ∃ ka, ka = (st m).ka := ⟨_, rfl⟩
        obtain ⟨kc, hkc⟩ : ∃ kc, kc = (st m).kc := ⟨_, rfl⟩
        obtain ⟨ks, hkk⟩ : ∃ ks, ks = (st m).ks := ⟨_, rfl⟩
        rw [← hv] at cc0 hb1 hb2
        rw [← hp] at cc1 hb3 hb4
        rw [← hs] at cc2
        rw [← hka, ← hkk, ← hkc] at cc3
        rw [← hka, ← hkk] at hks
        rw [← hkk] at hb5
        have HKS := Lib.hid hks
        obtain rfl := hla
        have HgP := Lib.hid hgP
        clear hks hgP hv hp hs hka hkc hkk
        by_cases h250 : 250 < s.size
        · have e1 : decide ((250 : Int) < (s.size : Int)) = true := by simp; omega
          go_wp2_with fail
          go_ret
          exact ⟨rfl, HU.out.kp0.alloc _⟩
        have e1 : decide ((250 : Int) < (s.size : Int)) = false := by simp; omega
        by_cases h60 : 60 < ks.length
        · have e2 : decide ((60 : Int) < (ks.length : Int)) = true := by simp; omega
          go_wp2_with fail
          go_ret
          exact ⟨rfl, HU.out.kp0.alloc _⟩
        have e2 : decide ((60 : Int) < (ks.length : Int)) = false := by simp; omega
        have H250 : Hid (s.size ≤ 250) := by show s.size ≤ 250; omega
        have HM40 : Hid (m < 40) := by show m < 40; omega
        obtain ⟨X, hX⟩ : ∃ X, X = wr.heap.size := ⟨_, rfl⟩
        have T1 := Lib.hid (HT.out.more (PJ.own _ _ _ _ _) (RJ.own _ _ _ _ _) (.cells #[.int .i64 wv, .int .i64 p, .string s, .slice ka ks.length kc] 42))
        have UX := Lib.hid (((Kp.refl [] wr).alloc (.cells #[.int .i64 wv, .int .i64 p, .string s, .slice ka ks.length kc] 42)).pup HT.out.lt (fun x hx => by cases hx))
        have U1 := Lib.hid (HU.out.trans UX.out)
        have KS1 := Lib.hid (HKS.out.up UX.out)
        have cX : Hid (BoxAt (wr.alloc (.cells #[.int .i64 wv, .int .i64 p, .string s, .slice ka ks.length kc] 42)) X wv p s ka ks.length kc) := by rw [hX]; exact BoxAt.new wr _ _ _ _ _ _
        rw [← hX] at T1
        go_upto_block 2 with fail
        rw [← hX]
        generalize hW : World.alloc _ _ = wX at *
        have GX := Lib.hid (U1.out.gl HB.out HG.out)
        have HPl : Hid (∀ x, x < 7 → (x < w.heap.size ∨ x = X)) := fun x hx => .inl (HB.out x hx)
        clear hW hX UX HT HU HKS
        go_cut [8, 11, 16, 17] from 103 to 190 (fun s8 s11 s16 s17 wx => ∃ (c : Int) (S2 : Dk), s16 = .int .i64 c ∧ s17 = .int .i64 c ∧ Hid (Rnd (fun x => x < w.heap.size ∨ x = X) wX wx b r z s8 s11 S2 (m + 1)))
        case first =>
          rcases (show wv ≤ 4 ∨ (4 < wv ∧ wv ≤ 6) ∨ wv = 7 ∨ wv = 8 ∨ (6 < wv ∧ wv ≠ 7 ∧ wv ≠ 8) by omega) with h4 | ⟨h4, h6⟩ | h7 | h8 | ⟨h6, h7, h8⟩
          · as_aux_lemma =>
            have e3 : decide (wv ≤ 4) = true := by simpa using h4
            clear h4
            have y0 := cX.out.c0
            have y2 := cX.out.c2
            go_wp2_with fail
            clear y0 y2
            have TD := Lib.hid (T1.out.keep (PJ.own _ _ _ _ _) (RJ.own _ _ _ _ _) ((Kp.refl [] wX).drew)).1
            have UD := Lib.hid (T1.out.keep (PJ.own _ _ _ _ _) (RJ.own _ _ _ _ _) ((Kp.refl [] wX).drew)).2
            have GD := Lib.hid (GX.out.kept ((Kp.refl [] wX).drew))
            have q2 : wX.drew.cell? ⟨X, 2, none⟩ = some (.string s) := cX.out.c2
            focus
              go_region_held3 (fun w' => w'.cell? ⟨X, 2, none⟩ = some (.string s)) (first | exact q2 | exact q3 | exact q4 | exact q5) (first | (go_at_call 12; refine Calls.mono (t_add TD.out (RJ.own _ _ _ _ _) HI.out (by omega) GD.out s) ?_; rintro e x3 ⟨v1, ⟨rfl, ha⟩, B2, U2⟩; have q3 : x3.cell? ⟨X, 2, none⟩ = some (.string s) := (U2.cell (.inr rfl)).trans q2; have HB2 := Lib.hid B2; have HU2 := Lib.hid U2; have Ha := Lib.hid ha; clear B2 U2 ha) | (go_at_call 7; refine Calls.mono (code_any Ha.out _ (HU2.out.gl HPl.out GD.out).2) ?_; rintro e x4 ⟨rfl, K⟩; have HB3 := Lib.hid (HB2.out.keep (PJ.own _ _ _ _ _) (RJ.own _ _ _ _ _) K).1; have HU3 := Lib.hid (HU2.out.trans (HB2.out.keep (PJ.own _ _ _ _ _) (RJ.own _ _ _ _ _) K).2); have q4 : x4.cell? ⟨X, 2, none⟩ = some (.string s) := ((HB2.out.keep (PJ.own _ _ _ _ _) (RJ.own _ _ _ _ _) K).2.cell (.inr rfl)).trans q3; clear K) | (go_at_call 13; refine Calls.mono (t_radd HB3.out (PJ.own _ _ _ _ _) HI.out (by omega) s) ?_; rintro e x5 ⟨rfl, B4, U4⟩; have q5 : x5.cell? ⟨X, 2, none⟩ = some (.string s) := (U4.cell (.inr rfl)).trans q4; have HB4 := Lib.hid B4; have HU4 := Lib.hid (HU3.out.trans U4); clear B4 U4))
            go_wp2_with fail
            have HE : Hid (Rnd (fun x => x < w.heap.size ∨ x = X) wX x5 b r z (.pointer (some ⟨j, 0, none⟩)) (.pointer (some ⟨q, 0, none⟩)) (aS dd S J s) (m + 1)) := ⟨UD.out.trans HU4.out, .inl ⟨j, q, _, _, rfl, rfl, HI.out.add (by omega) s, HB4.out⟩⟩
            clear q2 q3 q4 q5 HB2 HU2 HU3 HB3 HB4 HU4 Ha TD UD GD
            go_meet
            case rel => exact ⟨_, _, rfl, rfl, HE⟩
          · as_aux_lemma =>
            have e3 : decide (wv ≤ 4) = false := by simp; omega
            have e4 : decide (wv ≤ 6) = true := by simpa using h6
            clear h4 h6
            have y0 := cX.out.c0
            go_wp2_with fail
            clear y0
            refine Calls.mono (t_sync T1.out (RJ.own _ _ _ _ _) HI.out (by omega) GX.out) ?_
            rintro e x3 ⟨v1, ⟨rfl, ha⟩, B2, U2⟩
            have HB2 := Lib.hid B2
            have HU2 := Lib.hid U2
            have Ha := Lib.hid ha
            clear B2 U2 ha
            go_wp2_with fail
            refine Calls.mono (code_any Ha.out _ (HU2.out.gl HPl.out GX.out).2) ?_
            rintro e x4 ⟨rfl, K⟩
            have HB3 := Lib.hid (HB2.out.keep (PJ.own _ _ _ _ _) (RJ.own _ _ _ _ _) K).1
            have HU3 := Lib.hid (HU2.out.trans (HB2.out.keep (PJ.own _ _ _ _ _) (RJ.own _ _ _ _ _) K).2)
            clear K
            go_wp2_with fail
            refine Calls.mono (t_rsync HB3.out (PJ.own _ _ _ _ _) HI.out (by omega)) ?_
            rintro e x5 ⟨rfl, B4, U4⟩
            have HE : Hid (Rnd (fun x => x < w.heap.size ∨ x = X) wX x5 b r z (.pointer (some ⟨j, 0, none⟩)) (.pointer (some ⟨q, 0, none⟩)) (sS dd S) (m + 1)) := ⟨HU3.out.trans U4, .inl ⟨j, q, _, _, rfl, rfl, HI.out.sync, B4⟩⟩
            clear B4 U4 HB2 HU2 HU3 HB3 Ha
            go_wp2_with fail
            go_meet
            case rel => exact ⟨_, _, rfl, rfl, HE⟩
          · as_aux_lemma =>
            have e3 : decide (wv ≤ 4) = false := by simp; omega
            have e4 : decide (wv ≤ 6) = false := by simp; omega
            have e5 : (wv == 7) = true := by simpa using h7
            clear h7
            have y0 := cX.out.c0
            have y2 := cX.out.c2
            go_wp2_with fail
            clear y0 y2
            have q2 : wX.drew.cell? ⟨X, 2, none⟩ = some (.string s) := cX.out.c2
            focus
              go_region_held3 (fun w' => w'.cell? ⟨X, 2, none⟩ = some (.string s)) (first | exact q2 | exact cell_past q2 _ | exact cell_past (cell_past q2 _) _ | exact q3 | exact cell_past q3 _ | exact q4 | exact cell_past q4 _ | exact q5)
                (first
                | (go_at_call 16; refine Calls.mono (t_compact T1.out (RJ.own _ _ _ _ _) HI.out (by omega) GX.out s H250.out _ (by (repeat (first | exact Kp.refl _ _ | refine Kp.drew ?_ | refine Kp.alloc ?_ _))) (by (first | exact (Pair.new _ _).drew | exact ((Pair.new _ _).past _).drew | exact (Pair.new2 _ _ _).drew | exact Pair.new _ _ | exact (Pair.new _ _).past _ | exact Pair.new2 _ _ _))) ?_; rintro e x3 ⟨v1, ⟨rfl, ha, hpk⟩, B2, U2⟩; have q3 : x3.cell? ⟨X, 2, none⟩ = some (.string s) := (U2.cell (.inr rfl)).trans q2; have HB2 := Lib.hid B2; have HU2 := Lib.hid U2; have Ha := Lib.hid ha; (first | (have hq1 := Lib.hid (hpk wX.heap.size (Nat.le_refl _) (by (first | exact (Pair.new _ _).drew | exact ((Pair.new _ _).past _).drew | exact (Pair.new2 _ _ _).drew | exact Pair.new _ _ | exact (Pair.new _ _).past _ | exact Pair.new2 _ _ _)))) | skip); (first | (have hq2 := Lib.hid (hpk (wX.heap.size + 1) (Nat.le_succ _) (by (first | exact (Pair.new _ _).drew | exact ((Pair.new _ _).past _).drew | exact (Pair.new2 _ _ _).drew | exact Pair.new _ _ | exact (Pair.new _ _).past _ | exact Pair.new2 _ _ _)))) | skip); clear B2 U2 ha hpk)
                | (go_at_call 7; refine Calls.mono (code_any Ha.out _ (by (first | exact (HU2.out.gl HPl.out GX.out).2 | exact ((HU2.out.gl HPl.out GX.out).kept ((Kp.refl [] _).alloc _)).2))) ?_; rintro e x4 ⟨rfl, K0⟩; have K : Kp [] x3 x4 := (by (first | exact K0 | exact ((Kp.refl [] _).alloc _).trans K0)); have HB3 := Lib.hid (HB2.out.keep (PJ.own _ _ _ _ _) (RJ.own _ _ _ _ _) K).1; have HU3 := Lib.hid (HU2.out.trans (HB2.out.keep (PJ.own _ _ _ _ _) (RJ.own _ _ _ _ _) K).2); have q4 : x4.cell? ⟨X, 2, none⟩ = some (.string s) := ((HB2.out.keep (PJ.own _ _ _ _ _) (RJ.own _ _ _ _ _) K).2.cell (.inr rfl)).trans q3; (first | (have hr1 := Lib.hid (hq1.out.keep K (by simp))) | skip); (first | (have hr2 := Lib.hid (hq2.out.keep K (by simp))) | skip); (first | (have hr3 := Lib.hid ((Pair.new x3 s).keep K0 (by simp))) | skip); clear K K0)
                | (go_at_call 17; refine Calls.mono (t_rcompact HB3.out (PJ.own _ _ _ _ _) HI.out (by omega) s H250.out _ (by (repeat (first | exact Kp.refl _ _ | refine Kp.drew ?_ | refine Kp.alloc ?_ _))) (by (first | exact hr1.out | exact hr2.out | exact hr3.out | exact Pair.new _ _ | exact (Pair.new _ _).drew))) ?_; rintro e x5 ⟨rfl, B4, U4⟩; have q5 : x5.cell? ⟨X, 2, none⟩ = some (.string s) := (U4.cell (.inr rfl)).trans q4; have HB4 := Lib.hid B4; have HU4 := Lib.hid (HU3.out.trans U4); clear B4 U4))
            all_goals
              go_wp2_with fail
              have HE : Hid (Rnd (fun x => x < w.heap.size ∨ x = X) wX x5 b r z (.pointer (some ⟨j, 0, none⟩)) (.pointer (some ⟨q, 0, none⟩)) (mS dd S J (fun _ => s) 2) (m + 1)) := ⟨HU4.out, .inl ⟨j, q, _, _, rfl, rfl, HI.out.compact (by omega) (fun _ => s) 2 (by omega), HB4.out⟩⟩
              clear q2 q3 q4 q5 HB2 HU2 HU3 HB3 HB4 HU4 Ha
              go_meet
              case rel => exact ⟨_, _, rfl, rfl, HE⟩
          · as_aux_lemma =>
            have e3 : decide (wv ≤ 4) = false := by simp; omega
            have e4 : decide (wv ≤ 6) = false := by simp; omega
            have e5 : (wv == 7) = false := by simp; omega
            have e6 : (wv == 8) = true := by simpa using h8
            clear h8
            have y0 := cX.out.c0
            have y1 := cX.out.c1
            have y3 := cX.out.c3
            go_wp2_with fail
            clear y0 y1 y3
            have KP : Hid (KeepP (fun x => x < w.heap.size ∨ x = X) wX ka ks) := fun i hi => by
              obtain ⟨kb, ko, a1, a2, a3⟩ := KS1.out i hi
              exact ⟨kb, ko, a1, .inl a2, a3⟩
            have T2 := Lib.hid T1.out.disks
            have OKS := Lib.hid HI.out.ok
            have HCI := Lib.hid (HI.out.crash (by omega) ks p)
            refine Calls.mono (t_crash T2.out (RD.own _ _) _ OKS.out.lim (by omega) ka kc ks KP.out p) ?_
            rintro e x3 ⟨rfl, B2, U2⟩
            have HB2 := Lib.hid B2
            have HU2 := Lib.hid U2
            have q1 : x3.cell? ⟨X, 1, none⟩ = some (.int .i64 p) := (U2.cell (.inr rfl)).trans cX.out.c1
            have q3 : x3.cell? ⟨X, 3, none⟩ = some (.slice ka ks.length kc) := (U2.cell (.inr rfl)).trans cX.out.c3
            clear B2 U2
            go_wp2_with fail
            refine Calls.mono (t_rcrash HB2.out (PD.own _ _) _ OKS.out.lim (by omega) ka kc ks (KP.out.up HU2.out) p) ?_
            rintro e x4 ⟨rfl, B4, U4⟩
            obtain ⟨c1, c2, c3⟩ := HCI.out B4.sec
            obtain ⟨S1, hS1⟩ : ∃ S1, S1 = S.crash ks p := ⟨_, rfl⟩
            rw [← hS1] at c1 c2 c3 B4
            have HB4 := Lib.hid B4
            have HU4 := Lib.hid (HU2.out.trans U4)
            have C1 := Lib.hid c1
            have C2 := Lib.hid c2
            clear B4 U4 HB2 HU2 q1 q3 KP T2 OKS HCI c1 c2 hS1
            rcases c3 with ⟨k1, k2, _⟩ | ⟨k1, _, k3⟩
            · have KE := Lib.hid k1
              have KO := Lib.hid k2
              clear k1 k2
              go_wp2_with fail
              refine Calls.mono (t_open_no HB4.out (RD.own _ _) C1.out (by omega) C2.out (by omega) (HU4.out.gl HPl.out GX.out) KE.out) ?_
              rintro e x5 ⟨v1, ⟨rfl, ha⟩, B5, U5⟩
              have HB5 := Lib.hid B5
              have HU5 := Lib.hid (HU4.out.trans U5)
              have Ha := Lib.hid ha
              clear B5 U5 ha
              go_wp2_with fail
              refine Calls.mono (t_ropen_no HB5.out (PD.own _ _) C1.out (by omega) C2.out (by omega) KE.out) ?_
              rintro e x6 ⟨rfl, B6, U6⟩
              have HB6 := Lib.hid B6
              have HU6 := Lib.hid (HU5.out.trans U6)
              clear B6 U6
              go_wp2_with fail
              refine Calls.mono (code_any Ha.out _ (HU6.out.gl HPl.out GX.out).2) ?_
              rintro e x7 ⟨rfl, K⟩
              have HB7 := Lib.hid (HB6.out.keep (PD.own _ _) (RD.own _ _) K).1
              have HU7 := Lib.hid (HU6.out.trans (HB6.out.keep (PD.own _ _) (RD.own _ _) K).2)
              clear K
              go_wp2_with fail
              refine Calls.mono (same_texts none none 0 0 0 (by omega) (fun _ => s) (fun _ => s) _ (fun i hi => by omega) (fun i hi => by omega) (fun _ _ => rfl)) ?_
              rintro e x8 ⟨rfl, K⟩
              have HE : Hid (Rnd (fun x => x < w.heap.size ∨ x = X) wX x8 b r z (.pointer none) (.pointer none) S1 (m + 1)) := by
                obtain ⟨a1, a2⟩ := HB7.out.keep (PD.own _ _) (RD.own _ _) K
                rw [KO.out] at a1
                exact ⟨HU7.out.trans a2, .inr ⟨rfl, rfl, C1.out.ok.mono (by omega), a1⟩⟩
              clear K HB4 HU4 HB5 HU5 HB6 HU6 HB7 HU7 Ha C1 C2 KE KO
              go_wp2_with fail
              go_meet
              case rel => exact ⟨_, _, rfl, rfl, HE⟩
            · have KE := Lib.hid k1
              have KI := Lib.hid k3
              clear k1 k3
              go_wp2_with fail
              refine Calls.mono (t_open_yes HB4.out (RD.own _ _) C1.out (by omega) C2.out (by omega) (HU4.out.gl HPl.out GX.out) KE.out) ?_
              rintro e x5 ⟨⟨j5, v5⟩, rfl, B5, U5⟩
              have HB5 := Lib.hid B5
              have HU5 := Lib.hid (HU4.out.trans U5)
              clear B5 U5
              go_wp2_with fail
              refine Calls.mono (t_ropen_yes HB5.out (PO.own _ _ _ _ _) C1.out (by omega) C2.out (by omega) KE.out) ?_
              rintro e x6 ⟨⟨q6, v6⟩, rfl, B6, U6⟩
              obtain ⟨a5, n5, a6, n6, r5, r6, s5, s6⟩ := B6.lists
              have r5' : v5 = .slice a5 S1.oUn.1.length n5 := r5
              have r6' : v6 = .slice a6 S1.oUn.1.length n6 := r6
              have hcnt : S1.oUn.1.length ≤ 100000 := by
                have := (KI.out.al rfl).2.2.2.1
                have e : S1.oJn.count = S1.oUn.1.length := rfl
                omega
              obtain ⟨cn, hcn⟩ : ∃ cn, cn = S1.oUn.1.length := ⟨_, rfl⟩
              rw [← hcn] at r5' r6' s5 s6 hcnt
              have S5 := Lib.hid s5
              have S6 := Lib.hid s6
              have HCN := Lib.hid hcnt
              have HB6 := Lib.hid B6.opened
              have HU6 := Lib.hid (HU5.out.trans U6)
              subst r5'
              subst r6'
              clear B6 U6 HB4 HU4 HB5 HU5 r5 r6 s5 s6 hcnt hcn
              go_wp2_with fail
              refine Calls.mono (code_nil _) ?_
              rintro e x7 ⟨rfl, K⟩
              have HB7 := Lib.hid (HB6.out.keep (PJ.own _ _ _ _ _) (RJ.own _ _ _ _ _) K).1
              have HU7 := Lib.hid (HU6.out.trans (HB6.out.keep (PJ.own _ _ _ _ _) (RJ.own _ _ _ _ _) K).2)
              have S57 := Lib.hid (strs_kept S5.out K)
              have S67 := Lib.hid (strs_kept S6.out K)
              clear K S5 S6
              go_wp2_with fail
              refine Calls.mono (same_texts a5 a6 cn n5 n6 HCN.out _ _ _ S57.out S67.out (fun _ _ => rfl)) ?_
              rintro e x8 ⟨rfl, K⟩
              have HE : Hid (Rnd (fun x => x < w.heap.size ∨ x = X) wX x8 b r z (.pointer (some ⟨j5, 0, none⟩)) (.pointer (some ⟨q6, 0, none⟩)) S1.ODk (m + 1)) := by
                obtain ⟨a1, a2⟩ := HB7.out.keep (PJ.own _ _ _ _ _) (RJ.own _ _ _ _ _) K
                exact ⟨HU7.out.trans a2, .inl ⟨j5, q6, _, _, rfl, rfl, KI.out, a1⟩⟩
              clear K HB6 HU6 HB7 HU7 C1 C2 KE KI S57 S67 HCN
              go_wp2_with fail
              go_meet
              case rel => exact ⟨_, _, rfl, rfl, HE⟩
          · as_aux_lemma =>
            have e3 : decide (wv ≤ 4) = false := by simp; omega
            have e4 : decide (wv ≤ 6) = false := by simp; omega
            have e5 : (wv == 7) = false := by simpa using h7
            have e6 : (wv == 8) = false := by simpa using h8
            clear h6 h7 h8
            have y0 := cX.out.c0
            have y1 := cX.out.c1
            go_wp2_with fail
            clear y0 y1
            refine Calls.mono (t_cut T1.out (RJ.own _ _ _ _ _) p) ?_
            rintro e x3 ⟨rfl, B2, U2⟩
            have HB2 := Lib.hid B2
            have HU2 := Lib.hid U2
            have q1 : x3.cell? ⟨X, 1, none⟩ = some (.int .i64 p) := (U2.cell (.inr rfl)).trans cX.out.c1
            clear B2 U2
            go_wp2_with fail
            refine Calls.mono (t_rcut HB2.out (PJ.own _ _ _ _ _) p) ?_
            rintro e x5 ⟨rfl, B4, U4⟩
            have HE : Hid (Rnd (fun x => x < w.heap.size ∨ x = X) wX x5 b r z (.pointer (some ⟨j, 0, none⟩)) (.pointer (some ⟨q, 0, none⟩)) (S.cutAt p) (m + 1)) := ⟨HU2.out.trans U4, .inl ⟨j, q, _, _, rfl, rfl, HI.out.cut p hb4, B4⟩⟩
            clear B4 U4 HB2 HU2 q1
            go_wp2_with fail
            go_meet
            case rel => exact ⟨_, _, rfl, rfl, HE⟩
        case rest =>
          obtain ⟨c, S2, rfl, rfl, HE⟩ := hcut
          clear T1 cX KS1 HI
          have wr_q : Hid (∀ nq, Calls Tryz.prog 24 #[.pointer (some ⟨b, 0, none⟩)] (wc.drewN nq) fun e w' => e = .returned (.int .i64 (S2.writes : Int)) ∧ w' = wc.drewN nq) := fun nq => t_writes HE.out.disks.1 ((Kp.refl [] wc).drewN nq)
          have r3 := HE.out.disks.1.ends
          obtain ⟨j2, q2, J2, rfl, rfl, len_q, q5⟩ | ⟨rfl, rfl⟩ := HE.out.cases
          · as_aux_lemma =>
            have len_q := Lib.hid len_q
            go_wp2_with fail
            refine wp_region_quiet_lit (by kernel_rfl) (by kernel_rfl) ?_
            first | quiet_step (fail) | go_big_quiet_step (fail)
            first | quiet_step (fail) | go_big_quiet_step (fail)
            first | quiet_step (fail) | go_big_quiet_step (fail)
            first | quiet_step (fail) | go_big_quiet_step (fail)
            first | quiet_step (fail) | go_big_quiet_step (fail)
            first | quiet_step (fail) | go_big_quiet_step (fail)
            first | quiet_step (fail) | go_big_quiet_step (fail)
            first | quiet_step (fail) | go_big_quiet_step (fail)
            first | quiet_step ((go_at_call 23; exact Calls.quiet_of_same (len_q.out _))) | go_big_quiet_step (fail)
            first | quiet_step (fail) | go_big_quiet_step (fail)
            first | quiet_step (fail) | go_big_quiet_step (fail)
            first | quiet_step (fail) | go_big_quiet_step (fail)
            first | quiet_step (fail) | go_big_quiet_step (fail)
            first | quiet_step (fail) | go_big_quiet_step (fail)
            first | quiet_step (fail) | go_big_quiet_step (fail)
            first | quiet_step (fail) | go_big_quiet_step (fail)
            first | quiet_step (fail) | go_big_quiet_step (fail)
            first | quiet_step (fail) | go_big_quiet_step (fail)
            first | quiet_step ((go_at_call 24; exact Calls.quiet_of_same (wr_q.out _))) | go_big_quiet_step (fail)
            first | quiet_step (fail) | go_big_quiet_step (fail)
            first | quiet_step (fail) | go_big_quiet_step (fail)
            first | quiet_step (fail) | go_big_quiet_step (fail)
            first | quiet_step (fail) | go_big_quiet_step (fail)
            first | quiet_step (fail) | go_big_quiet_step (fail)
            first | quiet_step (fail) | go_big_quiet_step (fail)
            refine wpQuiet_nil ?_
            intro _ hw'
            obtain ⟨nq, hw''⟩ := hw'
            subst hw''
            have HF := Lib.hid (HE.out.kept ((Kp.refl [] wc).drewN nq))
            have GF := Lib.hid (HF.out.up.gl HPl.out GX.out)
            clear len_q wr_q r3 q5 HE
            go_wp2_with fail
            have HBD := Lib.hid HF.out.disks.1
            have HOK := Lib.hid HF.out.disks.2
            have K0 : Hid (Kp [] (wc.drewN nq) (wc.drewN nq)) := Kp.refl [] _
            go_loopw [24] (fun i w3 => ∃ (y : Nat), y ≤ z ∧ i = .int .i64 (y : Int) ∧ Hid (Kp [] (wc.drewN nq) w3)) (fun i _ => z - (intOf i).toNat)
            case atStart => exact ⟨0, Nat.zero_le _, rfl, K0⟩
            case round =>
              clear K0
              obtain ⟨y, hy, rfl, HK⟩ := hrel
              by_cases hyz : y < z
              · have j1 : decide ((y : Int) < (z : Int)) = true := by simpa using hyz
                have j1' : decide (y < z) = true := by simpa using hyz
                have t1 := t_read HBD.out HK.out GF.out (y : Int) (by omega) (by omega)
                obtain ⟨t, ht⟩ : ∃ t, t = S2.rbytes (y : Int) := ⟨_, rfl⟩
                obtain ⟨c2, hc⟩ : ∃ c, c = S2.rerr (y : Int) := ⟨_, rfl⟩
                rw [← ht, ← hc] at t1
                have T1 := Lib.hid t1
                have HTC := Lib.hid (And.intro ht hc)
                clear t1 ht hc
                go_wp2_with fail
                refine Calls.mono T1.out ?_
                rintro e x7 ⟨v1, rfl, ha, K⟩
                have HK2 := Lib.hid (HK.out.trans K)
                have Ha := Lib.hid ha
                clear T1 K ha HK
                go_wp2_with fail
                have t2 := t_rread HBD.out HK2.out HOK.out (by have := HM40.out; omega) (y : Int)
                rw [← HTC.out.1, ← HTC.out.2] at t2
                refine Calls.mono t2 ?_
                rintro e x8 ⟨rfl, rfl⟩
                clear t2
                go_wp2_with fail
                refine Calls.mono (code_any Ha.out _ (GF.out.kept HK2.out).2) ?_
                rintro e x9 ⟨rfl, K⟩
                have HK3 := Lib.hid (HK2.out.trans K)
                clear K HK2
                go_wp2_with fail
                go_roundw
                case rel => exact ⟨y + 1, by omega, by go_num, HK3⟩
                case measure => simp [intOf]; omega
              · have j1 : decide ((y : Int) < (z : Int)) = false := by simpa using hyz
                have j1' : decide (y < z) = false := by simpa using hyz
                go_wp2_with fail
                go_roundw
                case rel => exact ⟨m + 1, S2, by omega, by go_num, (HF.out.kept HK.out).less (fun x hx => .inl hx) U1.out⟩
                case measure => simp [intOf]; omega
          · as_aux_lemma =>
            go_wp2_with fail
            refine wp_region_quiet_lit (by kernel_rfl) (by kernel_rfl) ?_
            first | quiet_step (fail) | go_big_quiet_step (fail)
            first | quiet_step (fail) | go_big_quiet_step (fail)
            first | quiet_step (fail) | go_big_quiet_step (fail)
            first | quiet_step (fail) | go_big_quiet_step (fail)
            first | quiet_step (fail) | go_big_quiet_step (fail)
            first | quiet_step (fail) | go_big_quiet_step (fail)
            first | quiet_step (fail) | go_big_quiet_step (fail)
            go_big_quiet_skip
            go_big_quiet_skip
            go_big_quiet_skip
            go_big_quiet_skip
            go_big_quiet_skip
            go_big_quiet_skip
            go_big_quiet_skip
            first | quiet_step (fail) | go_big_quiet_step (fail)
            first | quiet_step (fail) | go_big_quiet_step (fail)
            first | quiet_step (fail) | go_big_quiet_step (fail)
            first | quiet_step (fail) | go_big_quiet_step (fail)
            first | quiet_step ((go_at_call 24; exact Calls.quiet_of_same (wr_q.out _))) | go_big_quiet_step (fail)
            first | quiet_step (fail) | go_big_quiet_step (fail)
            first | quiet_step (fail) | go_big_quiet_step (fail)
            first | quiet_step (fail) | go_big_quiet_step (fail)
            first | quiet_step (fail) | go_big_quiet_step (fail)
            first | quiet_step (fail) | go_big_quiet_step (fail)
            first | quiet_step (fail) | go_big_quiet_step (fail)
            refine wpQuiet_nil ?_
            intro _ hw'
            obtain ⟨nq, hw''⟩ := hw'
            subst hw''
            have HF := Lib.hid (HE.out.kept ((Kp.refl [] wc).drewN nq))
            have GF := Lib.hid (HF.out.up.gl HPl.out GX.out)
            clear wr_q r3 HE
            go_wp2_with fail
            have HBD := Lib.hid HF.out.disks.1
            have HOK := Lib.hid HF.out.disks.2
            have K0 : Hid (Kp [] (wc.drewN nq) (wc.drewN nq)) := Kp.refl [] _
            go_loopw [24] (fun i w3 => ∃ (y : Nat), y ≤ z ∧ i = .int .i64 (y : Int) ∧ Hid (Kp [] (wc.drewN nq) w3)) (fun i _ => z - (intOf i).toNat)
            case atStart => exact ⟨0, Nat.zero_le _, rfl, K0⟩
            case round =>
              clear K0
              obtain ⟨y, hy, rfl, HK⟩ := hrel
              by_cases hyz : y < z
              · have j1 : decide ((y : Int) < (z : Int)) = true := by simpa using hyz
                have j1' : decide (y < z) = true := by simpa using hyz
                have t1 := t_read HBD.out HK.out GF.out (y : Int) (by omega) (by omega)
                obtain ⟨t, ht⟩ : ∃ t, t = S2.rbytes (y : Int) := ⟨_, rfl⟩
                obtain ⟨c2, hc⟩ : ∃ c, c = S2.rerr (y : Int) := ⟨_, rfl⟩
                rw [← ht, ← hc] at t1
                have T1 := Lib.hid t1
                have HTC := Lib.hid (And.intro ht hc)
                clear t1 ht hc
                go_wp2_with fail
                refine Calls.mono T1.out ?_
                rintro e x7 ⟨v1, rfl, ha, K⟩
                have HK2 := Lib.hid (HK.out.trans K)
                have Ha := Lib.hid ha
                clear T1 K ha HK
                go_wp2_with fail
                have t2 := t_rread HBD.out HK2.out HOK.out (by have := HM40.out; omega) (y : Int)
                rw [← HTC.out.1, ← HTC.out.2] at t2
                refine Calls.mono t2 ?_
                rintro e x8 ⟨rfl, rfl⟩
                clear t2
                go_wp2_with fail
                refine Calls.mono (code_any Ha.out _ (GF.out.kept HK2.out).2) ?_
                rintro e x9 ⟨rfl, K⟩
                have HK3 := Lib.hid (HK2.out.trans K)
                clear K HK2
                go_wp2_with fail
                go_roundw
                case rel => exact ⟨y + 1, by omega, by go_num, HK3⟩
                case measure => simp [intOf]; omega
              · have j1 : decide ((y : Int) < (z : Int)) = false := by simpa using hyz
                have j1' : decide (y < z) = false := by simpa using hyz
                go_wp2_with fail
                go_roundw
                case rel => exact ⟨m + 1, S2, by omega, by go_num, (HF.out.kept HK.out).less (fun x hx => .inl hx) U1.out⟩
                case measure => simp [intOf]; omega
      · clear hu
        go_wp2_with fail
        go_ret
        exact ⟨rfl, HM.out.up.kp0⟩
    · have l1 : decide ((m : Int) < (ln : Int)) = false := by simpa using hlt
      have l1' : decide (m < ln) = false := by simpa using hlt
      go_wp2_with fail
      go_ret
      exact ⟨rfl, HM.out.up.kp0⟩
end Go.Proofs.YtggnljfcdohkaaaGreatDoor
