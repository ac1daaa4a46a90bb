/- Contracts of the reference's journal: Add. -/
import Derived.Test.YtggnljfcdohkaaaGreatDoorRju
namespace Go.Proofs.YtggnljfcdohkaaaGreatDoor
open Go.RowKit

/-- Between two rounds of Add's Writes. -/
structure RwMid (a : Nat) (s : ByteArray) (f0 : List Nat) (w0 w : World) (b : Nat) (S0 : Dk) (m k : Nat) : Prop where
  ex : ∃ S f, RkF w f b S ∧ Mv f0 w0 f w ∧ S.Lim (m + k) ∧ Dk.wrow a s (nch s - k) k S = Dk.wrow a s (nch s) 0 S0
theorem Dk.Ok.live {S : Dk} {m : Nat} (h : S.Ok m) (hd : S.dead = false) (p : Nat) (hp : p < S.n) : S.lbytes (p : Int) = S.read p ∧ S.rerr (p : Int) = 0 := by
  have he : S.rerr (p : Int) = 0 := by
    unfold Dk.rerr
    rw [hd, if_neg (by simp), if_neg (by omega)]
  refine ⟨?_, he⟩
  rw [h.lb]
  unfold Dk.rbytes
  rw [if_pos he, Int.toNat_natCast]
theorem radd_dead {w : World} {q r : Nat} {J : Jn} (Q : QAt w q r J true) (s : ByteArray) :
    Calls Tryz.prog 13 #[.pointer (some ⟨q, 0, none⟩), .string s] w fun e w2 => e = .returned (.int .i64 25) ∧ w = w2 := by
  have c6 := Q.c6
  clear Q
  go_enter Tryz.func13, Tryz.ntmps13
  go_wp2_with fail
  go_ret
  exact ⟨rfl, rfl⟩
theorem radd_long {w : World} {q r : Nat} {J : Jn} (Q : QAt w q r J false) (s : ByteArray) (hs : 2010 < s.size) :
    Calls Tryz.prog 13 #[.pointer (some ⟨q, 0, none⟩), .string s] w fun e w2 => e = .returned (.int .i64 13) ∧ w = w2 := by
  have c6 := Q.c6
  have l1 : decide ((2010 : Int) < (s.size : Int)) = true := by simp; omega
  clear Q
  go_enter Tryz.func13, Tryz.ntmps13
  go_wp2_with fail
  go_ret
  exact ⟨rfl, rfl⟩
set_option maxHeartbeats 25600000 in
set_option maxRecDepth 20000 in
theorem radd_live {w : World} {f : List Nat} {b q : Nat} {S : Dk} {J : Jn} {m : Nat} (D : QF w f b q S J false) (h4 : 4 ≤ S.n) (hJ : J.Ok S.n) (hd : S.dead = false) (hok : S.Ok m) (hm : m ≤ 1000000) (hT : TailOk S J) (s : ByteArray) (hs : s.size ≤ 2010) :
    Calls Tryz.prog 13 #[.pointer (some ⟨q, 0, none⟩), .string s] w fun e w2 => e = .returned (.int .i64 (aC false S J s)) ∧ ∃ f2, QF w2 f2 b q (aS false S J s) (aJ false S J s) (aD false S J s) ∧ Mv (q :: f) w (q :: f2) w2 := by
  have hn2 := D.d.n2
  have hh := hat_le2 S.n J.half h4 hJ.h1
  obtain ⟨z, hz⟩ : ∃ z, z = hl S.n := ⟨_, rfl⟩
  have hz9 : z ≤ 1000 := by rw [hz]; unfold hl; omega
  obtain ⟨a, ha⟩ : ∃ a, a = hat S.n J.half := ⟨_, rfl⟩
  have haz : a + z ≤ S.n := by rw [ha, hz]; exact hh.2.1
  have ha2 : 2 ≤ a := by rw [ha]; exact hh.1
  have hhz : (J.half : Int) * (z : Int) = (a : Int) - 2 := by
    have : 2 + (J.half : Int) * (z : Int) = (a : Int) := by rw [ha, hz]; unfold hat; rw [Int.natCast_add, Int.natCast_mul]; rfl
    omega
  obtain ⟨W, hW⟩ : ∃ W, W = addW J s := ⟨_, rfl⟩
  have hW9 : W.size ≤ s.size + 30 := by rw [hW]; exact wrapS_le _ (by have := hJ.t2; have := hJ.c1; show _ < 72057594037927936; omega) s hs
  obtain ⟨us, hus⟩ : ∃ us, us = J.used := ⟨_, rfl⟩
  have hu1 : us ≤ 64 * z := by rw [hus, hz]; exact hJ.u1
  obtain ⟨qn, hqn⟩ : ∃ qn : Nat, qn = J.turn * 1000000 + J.count := ⟨_, rfl⟩
  have ht2 := hJ.t2
  have hc1 := hJ.c1
  have HW := Lib.hid (fun w2 => rwrap_any (qn : Int) (by omega) (by omega) s (by omega) w2)
  rw [Int.toNat_natCast] at HW
  have hWq : wrapS qn s = W := by rw [hW, hqn]; rfl
  rw [hWq] at HW
  have E5 : Hid (IntKind.i64.wrap (IntKind.i64.wrap ((J.turn : Int) * 1000000) + (J.count : Int)) = (qn : Int)) := by
    show _ = _
    rw [show (J.turn : Int) * 1000000 = ((J.turn * 1000000 : Nat) : Int) by rw [Int.natCast_mul]; rfl, wrapL (by omega), show ((J.turn * 1000000 : Nat) : Int) + (J.count : Int) = (qn : Int) by rw [hqn, Int.natCast_add], wrapL (by omega)]
  have HD := Lib.hid D
  have HSz : Hid (∀ wx, Kp [] w wx → ∀ nq, Calls Tryz.prog 44 #[.pointer (some ⟨q, 0, none⟩)] (wx.drewN nq) fun e w2 => e = .returned (.int .i64 ((z * 64 : Nat) : Int)) ∧ w2 = wx.drewN nq) := fun wx k nq => by
    have K := k.drewN nq
    rw [hz]
    exact (rsize_any (D.q_.kept K) (D.d.kept K) h4).mono (fun _ _ ⟨h1, h2⟩ => ⟨h1, h2.symm⟩)
  have HHf : Hid (∀ wx, Kp [] w wx → Calls Tryz.prog 32 #[.pointer (some ⟨b, 0, none⟩)] wx fun e w2 => e = .returned (.int .i64 (z : Int)) ∧ wx = w2) := fun wx k => by
    rw [hz]
    exact g_half (D.d.kept k) h4
  have HJ := Lib.hid hJ
  have HOk := Lib.hid hok
  have HTl := Lib.hid hT
  have Hd := Lib.hid hd
  have HN := Lib.hid (And.intro hz (And.intro ha (And.intro hus hW)))
  have H4 := Lib.hid h4
  have Haz := Lib.hid haz
  have HT0 : Hid (J.tail.size = us % 64) := by rw [hus]; exact hJ.tl
  have hA9 : a ≤ 2000 := by omega
  have l1 : decide ((2010 : Int) < (s.size : Int)) = false := by simp; omega
  have c0 := D.q_.c0
  have c1 := D.q_.c1
  have c2 := D.q_.c2
  have c4 := D.q_.c4
  have c5 := D.q_.c5
  have c6 := D.q_.c6
  rw [← hus] at c4
  have hql : q < w.heap.size := D.q_.lt
  clear D hJ hok hT hd hz ha hus hW hqn hWq hh h4 haz
  go_enter Tryz.func13, Tryz.ntmps13
  go_upto_region 5 with fail
  go_cut [5] from 21 to 32 (fun s5 wx => s5 = .string W ∧ Hid (Kp [] w wx))
  case first =>
    have d1 : w.drew.cell? ⟨q, 1, none⟩ = some (.int .i64 (J.turn : Int)) := c1
    have d5 : w.drew.cell? ⟨q, 5, none⟩ = some (.int .i64 (J.count : Int)) := c5
    have hqd : q < w.drew.heap.size := hql
    focus
      go_region_held3 (fun w' => w'.cell? ⟨q, 1, none⟩ = some (.int .i64 (J.turn : Int)) ∧ w'.cell? ⟨q, 5, none⟩ = some (.int .i64 (J.count : Int))) (first | exact ⟨d1, d5⟩ | exact ⟨r1, r5⟩) (first | (go_at_call 43; (try rw [E5.out]); refine Calls.mono (HW.out _) ?_; rintro e z2 ⟨rfl, K⟩; have r1 := (K.cell0 (o := 1) hqd).trans d1; have r5 := (K.cell0 (o := 5) hqd).trans d5))
    all_goals
      have HKz : Hid (Kp [] w z2) := (Kp.refl [] w).drew.trans K
      clear K
      go_wp2_with fail
      go_meet
      case rel => exact ⟨rfl, HKz⟩
  case rest =>
    obtain ⟨rfl, HK⟩ := hcut
    clear E5 HW
    have c0 := (HK.out.cell0 (o := 0) hql).trans c0
    have c2 := (HK.out.cell0 (o := 2) hql).trans c2
    have c4 := (HK.out.cell0 (o := 4) hql).trans c4
    have c5 := (HK.out.cell0 (o := 5) hql).trans c5
    obtain ⟨uw, huw⟩ : ∃ uw : Nat, uw = us + W.size := ⟨_, rfl⟩
    have E6 : IntKind.i64.wrap ((us : Int) + (W.size : Int)) = (uw : Int) := by rw [IntKind.wrap_i64]; omega
    have e6w : (us : Int) + (W.size : Int) = (uw : Int) := by omega
    have huw9 : uw ≤ 100000 := by omega
    have HUW := Lib.hid huw
    clear huw
    by_cases hfit : z * 64 < uw
    · have l2 : decide ((z : Int) * 64 < (uw : Int)) = true := by rw [decide_eq_true_eq]; omega
      have l3 : decide (z * 64 < uw) = true := by simpa using hfit
      go_upto_region 6 with fail
      go_quiet ((go_at_call 44; exact Calls.quiet_of_same (HSz.out _ HK.out _)))
      clear E6 e6w
      go_wp2_with fail
      go_ret
      have hf : hl S.n * 64 - J.used < (addW J s).size := by
        obtain ⟨n1, n2, n3, n4⟩ := HN.out
        rw [← n1, ← n3, ← n4]
        have := HUW.out
        omega
      have e1 : aC false S J s = 14 := by unfold aC; simp only [Bool.false_eq_true, if_false]; rw [if_neg (by omega), if_pos hf]
      have e2 : aS false S J s = S := by unfold aS; simp only [Bool.false_eq_true, if_false]; rw [if_neg (by omega), if_pos hf]
      have e3 : aJ false S J s = J := by unfold aJ; simp only [Bool.false_eq_true, if_false]; rw [if_neg (by omega), if_pos hf]
      have e4 : aD false S J s = false := by unfold aD; simp only [Bool.false_eq_true, if_false]; rw [if_neg (by omega), if_pos hf]
      rw [e1, e2, e3, e4]
      exact ⟨rfl, f, HD.out.kept (HK.out.drewN _), Mv.of_kp (HK.out.drewN _) _⟩
    have l2 : decide ((z : Int) * 64 < (uw : Int)) = false := by rw [decide_eq_false_iff_not]; omega
    have l3 : decide (z * 64 < uw) = false := by simpa using hfit
    obtain ⟨uq, huq⟩ : ∃ uq, uq = us / 64 := ⟨_, rfl⟩
    obtain ⟨um, hum⟩ : ∃ um, um = us % 64 := ⟨_, rfl⟩
    have e7 : (us : Int).tdiv 64 = (uq : Int) := by rw [Int.tdiv_eq_ediv_of_nonneg (by omega)]; omega
    have e7' : (us : Int) / 64 = (uq : Int) := by omega
    have e8 : (us : Int).tmod 64 = (um : Int) := by rw [Int.tmod_eq_emod_of_nonneg (by omega)]; omega
    have e8' : (us : Int) % 64 = (um : Int) := by omega
    have hum64 : um < 64 := by omega
    have huq9 : uq ≤ z := by omega
    have huqz : 0 < um → uq < z := fun _ => by omega
    have HUZ := Lib.hid huqz
    have HU := Lib.hid (And.intro huq hum)
    have hfit' : ¬ z * 64 < uw := hfit
    have ew : wrap64 (2 + wrap64 ((a : Int) - 2)) = (a : Int) := by unfold wrap64; omega
    have ea : (2 : Int) + ((a : Int) - 2) = (a : Int) := by omega
    clear huq hum huqz hfit
    go_upto_region 6 with fail
    go_quiet ((go_at_call 44; exact Calls.quiet_of_same (HSz.out _ HK.out _)))
    have HKd : Hid (Kp [] w (wc.drewN nq)) := HK.out.drewN nq
    have c0 : (wc.drewN nq).cell? ⟨q, 0, none⟩ = some (.pointer (some ⟨b, 0, none⟩)) := c0
    have c2 : (wc.drewN nq).cell? ⟨q, 2, none⟩ = some (.int .i64 (J.half : Int)) := c2
    have c4 : (wc.drewN nq).cell? ⟨q, 4, none⟩ = some (.int .i64 (us : Int)) := c4
    generalize wc.drewN nq = wd at *
    clear E6 e6w HSz l2 l3
    go_wp2_with fail
    refine Calls.mono (HHf.out _ HKd.out) ?_
    rintro e y1 ⟨rfl, hy⟩
    subst hy
    go_upto_if 65 with fail
    obtain ⟨ab, hab⟩ : ∃ ab, ab = a + uq := ⟨_, rfl⟩
    have e9 : (a : Int) + (uq : Int) = (ab : Int) := by omega
    have hab9 : ab ≤ 3000 := by omega
    have HAB := Lib.hid hab
    clear hab
    go_cut [9] from 60 to 88 (fun s9 wx => s9 = .string J.tail ∧ wd = wx)
    case first =>
      by_cases hu0 : 0 < um
      · have l4 : decide ((0 : Int) < (um : Int)) = true := by simpa using hu0
        have l4' : decide (0 < um) = true := by simpa using hu0
        have hpn : ab < S.n := by have := HUZ.out hu0; have := Haz.out; have := HAB.out; omega
        have hlv := HOk.out.live Hd.out ab hpn
        have HRd := Lib.hid (g_read (HD.out.d.kept HKd.out) (ab : Int) m HOk.out.lim (by omega))
        rw [hlv.1, hlv.2] at HRd
        obtain ⟨c9, hc9⟩ : ∃ c9, c9 = S.read ab := ⟨_, rfl⟩
        rw [← hc9] at HRd
        have hx : c9.extract 0 um = J.tail := by
          have ht := HTl.out
          unfold TailOk at ht
          obtain ⟨n1, n2, n3, n4⟩ := HN.out
          rw [← n2, ← n3, ← HU.out.1, ← HU.out.2, ← HAB.out] at ht
          apply ba_ext
          rw [extract_list, List.drop_zero, hc9, ← ht]
          unfold Dk.read
          rw [ba_list]
        have hcz : um ≤ c9.size := by
          have h1 := HT0.out
          rw [← HU.out.2, ← hx, ByteArray.size_extract] at h1
          omega
        have hcz' : (um : Int) ≤ (c9.size : Int) := by omega
        clear hlv hc9 hpn
        go_wp2_with fail
        refine Calls.mono HRd.out ?_
        rintro e y2 ⟨rfl, hy⟩
        subst hy
        go_wp2_with fail
        go_meet
        case rel => exact ⟨rfl, rfl⟩
      · have l4 : decide ((0 : Int) < (um : Int)) = false := by simpa using hu0
        have l4' : decide (0 < um) = false := by simpa using hu0
        have ht0 : J.tail = ⟨#[]⟩ := by
          have h1 := HT0.out
          apply ba_ext
          have h2 : J.tail.data.toList.length = 0 := by show J.tail.size = 0; rw [h1, ← HU.out.2]; omega
          rw [List.eq_nil_of_length_eq_zero h2]
        go_wp2_with fail
        go_meet
        case rel => exact ⟨by rw [ht0], rfl⟩
    case rest =>
      obtain ⟨rfl, hwd⟩ := hcut
      subst hwd
      have htl9 : J.tail.size ≤ 64 := by have := HT0.out; omega
      obtain ⟨row, hrow⟩ : ∃ row, row = J.tail ++ W := ⟨_, rfl⟩
      have hrow9 : row.size ≤ 2200 := by rw [hrow, ByteArray.size_append]; omega
      have Hrow : Hid (row = addRow J s) := by show row = _; rw [hrow, HN.out.2.2.2]; rfl
      have hno : ¬ 9223372036854775807 < J.tail.size + W.size := by omega
      have hrow2 : J.tail ++ W = row := hrow.symm
      have hnc9 : nch row ≤ 36 := by unfold nch; omega
      clear hrow
      have R0 : Hid (RwMid ab row f wd wd b S m 0) := ⟨S, f, HD.out.d.kept HKd.out, Mv.refl _ _, HOk.out.lim, rfl⟩
      have HRow := Lib.hid hrow2
      go_wp2_with fail
      clear hrow2 hno
      go_loopw [12] (fun i wr => ∃ (k : Nat), k ≤ nch row ∧ i = .int .i64 (k : Int) ∧ Hid (RwMid ab row f wd wr b S m k)) (fun i _ => row.size + 64 - 64 * (intOf i).toNat)
      case atStart => exact ⟨0, Nat.zero_le _, rfl, R0⟩
      case round =>
        clear R0
        obtain ⟨k, hk, rfl, HR⟩ := hrel
        obtain ⟨S2, f2, D2, M2, L2, hsc⟩ := HR.out
        have c0r := (M2.kp.cell (p := ⟨q, 0, none⟩) (lt_of_cell c0) HD.out.qf).trans c0
        have HD2 := Lib.hid D2
        have HM2 := Lib.hid M2
        have HL2 := Lib.hid L2
        have HSC := Lib.hid hsc
        clear D2 M2 L2 hsc
        obtain ⟨q1, hq1⟩ : ∃ q1, q1 = 64 * k := ⟨_, rfl⟩
        have ek : (k : Int) * 64 = (q1 : Int) := by omega
        have hk9 : k ≤ 36 := by omega
        have hq19 : q1 ≤ 3000 := by omega
        by_cases hlt : q1 < row.size
        · have l5 : decide ((q1 : Int) < (row.size : Int)) = true := by simpa using hlt
          have hk1 : k + 1 ≤ nch row := by unfold nch; omega
          obtain ⟨q2, hq2⟩ : ∃ q2, q2 = 64 * k + 64 := ⟨_, rfl⟩
          obtain ⟨r2, hr2⟩ : ∃ r2, r2 = min (64 * k + 64) row.size := ⟨_, rfl⟩
          obtain ⟨p, hp⟩ : ∃ p, p = ab + k := ⟨_, rfl⟩
          have w1 : IntKind.i64.wrap ((a : Int) + (uq : Int)) = (ab : Int) := by rw [IntKind.wrap_i64]; omega
          have w2 : IntKind.i64.wrap ((ab : Int) + (k : Int)) = (p : Int) := by rw [IntKind.wrap_i64]; omega
          have w3 : IntKind.i64.wrap ((k : Int) * 64) = (q1 : Int) := by rw [IntKind.wrap_i64]; omega
          have w4 : IntKind.i64.wrap ((k : Int) + 1) = (k : Int) + 1 := by rw [IntKind.wrap_i64]; omega
          have w5 : IntKind.i64.wrap (((k : Int) + 1) * 64) = (q2 : Int) := by rw [IntKind.wrap_i64]; omega
          have w3' : IntKind.i64.wrap (q1 : Int) = (q1 : Int) := by rw [IntKind.wrap_i64]; omega
          have w1' : IntKind.i64.wrap (ab : Int) = (ab : Int) := by rw [IntKind.wrap_i64]; omega
          have m1 : min (row.size : Int) (q2 : Int) = (r2 : Int) := by omega
          have g1 : q1 ≤ r2 := by omega
          have g2 : r2 ≤ row.size := by omega
          have hch : row.extract q1 r2 = chunk row k := by unfold chunk; rw [hq1, hr2]
          have HWr := Lib.hid (fun nq => g_write (HD2.out.kept ((Kp.refl [] wr).drewN nq)) (p : Int) (chunk row k) (m + k) HL2.out (by omega))
          have HP := Lib.hid (And.intro hp (And.intro hq1 hk1))
          have d0r : wr.drew.cell? ⟨q, 0, none⟩ = some (.pointer (some ⟨b, 0, none⟩)) := c0r
          clear hq1 hq2 hr2 hp hk1
          go_upto_region 21 with fail
          go_cut [13] from 99 to 118 (fun s13 wx => ∃ (c : Int) (f3 : List Nat), s13 = .int .i64 c ∧ Hid (c = S2.werr (p : Int) (chunk row k).size) ∧ Hid (RkF wx f3 b (S2.wrote (p : Int) (chunk row k))) ∧ Hid (Mv f2 wr f3 wx))
          case first =>
            focus
              go_region_held3 (fun w' => w'.cell? ⟨q, 0, none⟩ = some (.pointer (some ⟨b, 0, none⟩))) (first | exact d0r | exact r0) (first | (go_at_call 31; refine Calls.mono (HWr.out 1) ?_; rintro e z2 ⟨rfl, f3, D3, M3⟩; have r0 := (M3.kp.cell (p := ⟨q, 0, none⟩) (lt_of_cell d0r) (HM2.out.apart HD.out.qf (lt_of_cell c0))).trans d0r))
            all_goals
              have HD3 := Lib.hid D3
              have HM3 : Hid (Mv f2 wr f3 z2) := (Mv.of_kp ((Kp.refl [] wr).drewN 1) f2).trans M3
              clear D3 M3
              go_wp2_with fail
              go_meet
              case rel => exact ⟨_, f3, rfl, rfl, HD3, HM3⟩
          case rest =>
            obtain ⟨c, f3, rfl, HC, HD3, HM3⟩ := hcut
            clear w1 w2 w3 w4 w5 w3' w1' m1 hch HWr d0r
            have HM4 : Hid (Mv f wd f3 wc) := HM2.out.trans HM3.out
            have HW1 : Hid (Dk.wrow ab row (nch row) 0 S = if c = 0 then Dk.wrow ab row (nch row - (k + 1)) (k + 1) (S2.wrote (p : Int) (chunk row k)) else (c, S2.wrote (p : Int) (chunk row k))) := by
              show _ = _
              rw [← HSC.out, show nch row - k = (nch row - (k + 1)) + 1 by have := HP.out.2.2; omega, Dk.wrow, ← HP.out.1, ← HC.out]
            have HAW : Hid (Dk.wrow ab row (nch row) 0 S = addWr S J s) := by
              show _ = _
              unfold addWr
              obtain ⟨n1, n2, n3, n4⟩ := HN.out
              rw [Hrow.out, HAB.out, HU.out.1, n2, n3]
            by_cases hc0 : c = 0
            · have l6 : (c != 0) = false := by simpa using hc0
              have HR2 : Hid (RwMid ab row f wd wc b S m (k + 1)) := ⟨_, f3, HD3.out, HM4.out, (HL2.out.wrote _ _).mono (by omega), by rw [HW1.out, if_pos hc0]⟩
              clear hc0
              go_wp2_with fail
              go_roundw
              case rel => exact ⟨k + 1, HP.out.2.2, by go_num, HR2⟩
              case measure => have := HP.out.2.1; simp [intOf]; omega
            · have l6 : (c != 0) = true := by simpa using hc0
              have HDi := Lib.hid (rdies_any ((HD.out.kept HKd.out).q_.keep HM4.out.kp HD.out.qf) c)
              have hA : addWr S J s = (c, S2.wrote (p : Int) (chunk row k)) := by rw [← HAW.out, HW1.out, if_neg hc0]
              have hE : ¬ hl S.n * 64 - J.used < (addW J s).size := by
                obtain ⟨n1, n2, n3, n4⟩ := HN.out
                rw [← n1, ← n3, ← n4]
                have := HUW.out
                omega
              have h13 : ¬ 2010 < s.size := by omega
              have e1 : aC false S J s = c := by unfold aC; simp only [Bool.false_eq_true, if_false]; rw [if_neg h13, if_neg hE, hA]
              have e2 : aS false S J s = S2.wrote (p : Int) (chunk row k) := by unfold aS; simp only [Bool.false_eq_true, if_false]; rw [if_neg h13, if_neg hE, hA]
              have e3 : aJ false S J s = J := by unfold aJ; simp only [Bool.false_eq_true, if_false]; rw [if_neg h13, if_neg hE, hA, if_neg hc0]
              have e4 : aD false S J s = decide (c ≠ 0) := by unfold aD; simp only [Bool.false_eq_true, if_false]; rw [if_neg h13, if_neg hE, hA]
              have HE := Lib.hid (And.intro e1 (And.intro e2 (And.intro e3 e4)))
              clear e1 e2 e3 e4 hA hE h13 hc0
              go_wp2_with fail
              refine Calls.mono HDi.out ?_
              rintro e x3 ⟨rfl, Q3, K3⟩
              have H := Lib.hid ((HD.out.kept HKd.out).then HD3.out HM4.out K3 Q3)
              clear Q3 K3
              go_wp2_with fail
              go_ret
              rw [HE.out.1, HE.out.2.1, HE.out.2.2.1, HE.out.2.2.2]
              exact ⟨rfl, f3, H.out.1, (Mv.of_kp HKd.out _).trans H.out.2⟩
        · have l5 : decide ((q1 : Int) < (row.size : Int)) = false := by simpa using hlt
          have hnk : nch row - k = 0 := by unfold nch; omega
          have HA : Hid (addWr S J s = (0, S2)) := by
            show _ = _
            have h1 : Dk.wrow ab row (nch row) 0 S = addWr S J s := by
              unfold addWr
              obtain ⟨n1, n2, n3, n4⟩ := HN.out
              rw [Hrow.out, HAB.out, HU.out.1, n2, n3]
            rw [← h1, ← HSC.out, hnk]
            rfl
          have HQ := Lib.hid ((HD.out.kept HKd.out).then0 HD2.out HM2.out)
          have x4 := HQ.out.1.q_.c4
          rw [← HN.out.2.2.1] at x4
          have x5 := HQ.out.1.q_.c5
          have g4 := HQ.out.1.q_.f 4
          have g5 := HQ.out.1.q_.f 5
          have E6 : IntKind.i64.wrap ((us : Int) + (W.size : Int)) = (uw : Int) := by rw [IntKind.wrap_i64]; have := HUW.out; omega
          have E7 : IntKind.i64.wrap ((J.count : Int) + 1) = ((J.count + 1 : Nat) : Int) := by rw [IntKind.wrap_i64]; omega
          have HFin : Hid (∀ wf, Kp [] ((wr.setCell ⟨q, 4, none⟩ (.int .i64 (uw : Int))).setCell ⟨q, 5, none⟩ (.int .i64 ((J.count + 1 : Nat) : Int))) wf → Ending.returned (.int .i64 0) = .returned (.int .i64 (aC false S J s)) ∧ ∃ f2, QF wf f2 b q (aS false S J s) (aJ false S J s) (aD false S J s) ∧ Mv (q :: f) w (q :: f2) wf) := fun wf KF => by
            have hE : ¬ hl S.n * 64 - J.used < (addW J s).size := by
              obtain ⟨n1, n2, n3, n4⟩ := HN.out
              rw [← n1, ← n3, ← n4]
              have := HUW.out
              omega
            have h13 : ¬ 2010 < s.size := by omega
            have hA := HA.out
            have e1 : aC false S J s = 0 := by unfold aC; simp only [Bool.false_eq_true, if_false]; rw [if_neg h13, if_neg hE, hA]
            have e2 : aS false S J s = S2 := by unfold aS; simp only [Bool.false_eq_true, if_false]; rw [if_neg h13, if_neg hE, hA]
            have e3 : aJ false S J s = addJ J s := by unfold aJ; simp only [Bool.false_eq_true, if_false]; rw [if_neg h13, if_neg hE, hA, if_pos rfl]
            have e4 : aD false S J s = false := by unfold aD; simp only [Bool.false_eq_true, if_false]; rw [if_neg h13, if_neg hE, hA]; rfl
            rw [e1, e2, e3, e4]
            have K5 : Kp [q] wr wf := (((Kp.refl [q] wr).setCell (.inl (by simp)) _).setCell (.inl (by simp)) _).trans2 KF (fun x hx => by cases hx)
            have Q5 : QAt wf q b (addJ J s) false := ((HQ.out.1.q_.set45 uw (J.count + 1)).kept KF).like rfl rfl rfl (by
              obtain ⟨n1, n2, n3, n4⟩ := HN.out
              show J.used + (addW J s).size = uw
              rw [← n3, ← n4]; exact HUW.out.symm) rfl
            have H := (HD.out.kept HKd.out).then HD2.out HM2.out K5 Q5
            exact ⟨rfl, f2, H.1, (Mv.of_kp HKd.out _).trans H.2⟩
          clear HA HSC HM2 HD2 HQ
          go_wp2_with fail
          go_region
          all_goals
            go_wp2_with fail
            go_ret
            exact HFin.out _ ((Kp.refl [] _).drew)
end Go.Proofs.YtggnljfcdohkaaaGreatDoor
