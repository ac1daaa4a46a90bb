/- Contracts of the reference's journal: Compact. -/
import Derived.Test.YtggnljfcdohkaaaGreatDoorRjv
import Derived.Test.YtggnljfcdohkaaaGreatDoorRjf
namespace Go.Proofs.YtggnljfcdohkaaaGreatDoor
open Go.RowKit

set_option maxHeartbeats 1600000 in
set_option maxRecDepth 20000 in
theorem rcompact_dead {w : World} {q r : Nat} {J : Jn} (Q : QAt w q r J true) (a : Option Addr) (n c : Nat) :
    Calls Tryz.prog 17 #[.pointer (some ⟨q, 0, none⟩), .slice a n c] w fun e w2 => e = .returned (.int .i64 25) ∧ w = w2 := by
  have c6 := Q.c6
  clear Q
  go_enter Tryz.func17, Tryz.ntmps17
  go_wp2_with fail
  go_ret
  exact ⟨rfl, rfl⟩
/-- What of a row lies on its k-th sector, as the reference cuts it. -/
def short (row : ByteArray) (k : Nat) : ByteArray := row.extract (min row.size (64 * k)) (min row.size (64 * k + 64))
theorem short_size (row : ByteArray) (k : Nat) : (short row k).size ≤ 64 := by unfold short; rw [ByteArray.size_extract]; omega
theorem short_chunk (row : ByteArray) (z k : Nat) (hz : row.size ≤ z * 64) (hk : k < z) : chunk (row ++ zeros (z * 64 - row.size)) k = secS (fillUp (short row k)) := by
  obtain ⟨R, hR⟩ : ∃ R, R = row.data.toList := ⟨_, rfl⟩
  have hRl : R.length = row.size := by rw [hR]; rfl
  have hsz : (row ++ zeros (z * 64 - row.size)).size = z * 64 := by rw [ByteArray.size_append, zeros_size]; omega
  have hrow : row = ⟨R.toArray⟩ := by rw [hR]
  apply ba_ext
  have hl : (chunk (row ++ zeros (z * 64 - row.size)) k).data.toList = ((R ++ List.replicate (z * 64 - row.size) 0).take (64 * k + 64)).drop (64 * k) := by
    unfold chunk
    rw [extract_list, hsz, show min (64 * k + 64) (z * 64) = 64 * k + 64 by omega, ba_app, zeros_list, ← hR]
  rw [hl]
  unfold secS
  rw [ba_list]
  by_cases h : 64 * k ≤ row.size
  · have h1 := fill_chunk R k (by omega) (z * 64 - row.size) (by omega)
    rw [← h1]
    congr 1
    unfold chunk short
    rw [hrow]
    have e : (⟨R.toArray⟩ : ByteArray).size = row.size := by rw [← hrow]
    rw [e, Nat.min_eq_right h, Nat.min_comm]
  · have h1 : (short row k) = ⟨#[]⟩ := by
      apply ba_ext
      unfold short
      rw [extract_list, show min row.size (64 * k) = row.size by omega, show min row.size (64 * k + 64) = row.size by omega, ← hR, List.take_of_length_le (by omega), List.drop_eq_nil_of_le (by omega)]
    rw [h1]
    show _ = List.replicate 64 0
    rw [List.drop_take, List.drop_append, List.drop_eq_nil_of_le (by omega), List.nil_append, List.drop_replicate, List.take_replicate, hRl]
    congr 1
    omega
theorem m_of {S : Dk} {J : Jn} {sx : Nat → ByteArray} {n : Nat} {e : Int} {T : Dk} (hfit : ¬ hl S.n * 64 < (cRow J sx n).size) (h1 : cErr S J sx n = e) (h2 : cDk S J sx n = T) :
    mC false S J sx n = e ∧ mS false S J sx n = T ∧ mD false S J sx n = decide (e ≠ 0) ∧ mJ false S J sx n = if e = 0 then cJn J sx n else J := by
  unfold mC mS mD mJ
  simp only [Bool.false_eq_true, if_false]
  rw [if_neg hfit, if_neg hfit, if_neg hfit, if_neg hfit, h1, h2]
  exact ⟨rfl, rfl, rfl, rfl⟩
theorem c_first {S : Dk} {J : Jn} {sx : Nat → ByteArray} {n : Nat} {e : Int} {T : Dk} (h : cW1 S J sx n = (e, T)) (h0 : e ≠ 0) : cErr S J sx n = e ∧ cDk S J sx n = T := by
  unfold cErr cDk
  rw [h]
  simp only
  rw [if_pos h0, if_pos h0]
  exact ⟨rfl, rfl⟩
theorem c_second {S : Dk} {J : Jn} {sx : Nat → ByteArray} {n : Nat} {T : Dk} (h : cW1 S J sx n = (0, T)) (h0 : T.ferr ≠ 0) : cErr S J sx n = T.ferr ∧ cDk S J sx n = T.flushed := by
  unfold cErr cDk
  rw [h]
  simp only
  rw [if_neg (by decide), if_pos h0, if_neg (by decide), if_pos h0]
  exact ⟨rfl, rfl⟩
theorem c_third {S : Dk} {J : Jn} {sx : Nat → ByteArray} {n : Nat} {T : Dk} (h : cW1 S J sx n = (0, T)) (h0 : T.ferr = 0) : cErr S J sx n = (T.flushed.supw (1 - J.at_) (J.turn + 1) (1 - J.half)).1 ∧ cDk S J sx n = (T.flushed.supw (1 - J.at_) (J.turn + 1) (1 - J.half)).2 := by
  unfold cErr cDk cW3
  rw [h]
  simp only
  rw [if_neg (by decide), if_neg (by simpa using h0), if_neg (by decide), if_neg (by simpa using h0)]
  exact ⟨rfl, rfl⟩
theorem wrapsL_succ (seq : Nat) (sx : Nat → ByteArray) (k : Nat) : wrapsS seq sx k ++ wrapS (seq + k) (sx k) = wrapsS seq sx (k + 1) := by
  apply ba_ext
  rw [ba_app]
  unfold wrapsS
  rw [ba_list, ba_list]
  rfl
set_option maxHeartbeats 25600000 in
set_option maxRecDepth 20000 in
theorem rcompact_live {w : World} {f : List Nat} {b q : Nat} {S : Dk} {J : Jn} {m : Nat} (D : QF w f b q S J false) (h4 : 4 ≤ S.n) (hJ : J.Ok S.n) (hok : S.Ok m) (hm : m ≤ 1000000) (ht9 : J.turn + 1 ≤ 1000000)
    (la : Option Addr) (n lc : Nat) (hn : n ≤ 100) (sx : Nat → ByteArray) (hs : Small sx n) (hR : StrsAt w w.heap.size la n sx) :
    Calls Tryz.prog 17 #[.pointer (some ⟨q, 0, none⟩), .slice la n lc] w fun e w2 => e = .returned (.int .i64 (mC false S J sx n)) ∧ ∃ f2, QF w2 f2 b q (mS false S J sx n) (mJ false S J sx n) (mD false S J sx n) ∧ Mv (q :: f) w (q :: f2) w2 := by
  have hn2 := D.d.n2
  have hhf := hJ.h1
  have hh := hat_le2 S.n (1 - J.half) h4 (by omega)
  obtain ⟨z, hz⟩ : ∃ z, z = hl S.n := ⟨_, rfl⟩
  have hz9 : z ≤ 1000 := by rw [hz]; unfold hl; omega
  obtain ⟨h2, hh2⟩ : ∃ h2, h2 = 1 - J.half := ⟨_, rfl⟩
  obtain ⟨a, ha⟩ : ∃ a, a = hat S.n h2 := ⟨_, rfl⟩
  have haz : a + z ≤ S.n := by rw [ha, hz, hh2]; exact hh.2.1
  have ha2 : 2 ≤ a := by rw [ha, hh2]; exact hh.1
  have hA9 : a ≤ 2000 := by omega
  have hhz : (h2 : Int) * (z : Int) = (a : Int) - 2 := by
    have : 2 + (h2 : Int) * (z : Int) = (a : Int) := by rw [ha, hz]; unfold hat; rw [Int.natCast_add, Int.natCast_mul]; rfl
    omega
  obtain ⟨t2, ht2⟩ : ∃ t2, t2 = J.turn + 1 := ⟨_, rfl⟩
  obtain ⟨a2, ha2'⟩ : ∃ a2, a2 = 1 - J.at_ := ⟨_, rfl⟩
  obtain ⟨seq, hseq⟩ : ∃ seq, seq = t2 * 1000000 := ⟨_, rfl⟩
  have hseq9 : seq ≤ 1000000000000 := by omega
  have hcs : cSeq J = seq := by unfold cSeq; rw [hseq, ht2]
  have hat1 := hJ.a1
  have c0 := D.q_.c0
  have c1 := D.q_.c1
  have c2 := D.q_.c2
  have c3 := D.q_.c3
  have c6 := D.q_.c6
  have hql : q < w.heap.size := D.q_.lt
  have HD := Lib.hid D
  have HHf : Hid (∀ wx, Kp [] w wx → Calls Tryz.prog 32 #[.pointer (some ⟨b, 0, none⟩)] wx fun e w2 => e = .returned (.int .i64 (z : Int)) ∧ wx = w2) := fun wx k => by
    rw [hz]
    exact g_half (D.d.kept k) h4
  have HSz : Hid (∀ wx, Kp [] w wx → Calls Tryz.prog 44 #[.pointer (some ⟨q, 0, none⟩)] wx fun e w2 => e = .returned (.int .i64 ((z * 64 : Nat) : Int)) ∧ wx = w2) := fun wx K => by
    rw [hz]
    exact rsize_any (D.q_.kept K) (D.d.kept K) h4
  have HJ := Lib.hid hJ
  have HOk := Lib.hid hok
  have HS := Lib.hid hs
  have HR := Lib.hid hR
  have HN := Lib.hid (And.intro hz (And.intro ha (And.intro hh2 (And.intro ht2 (And.intro ha2' hcs)))))
  have Hseq := Lib.hid hseq
  have H4 := Lib.hid h4
  have Haz := Lib.hid haz
  have hle := wrapsL_le seq sx n (by rw [hseq]; show _ ≤ 72057594037927936; omega) hs
  have HLe := Lib.hid hle
  have e2i : (1 : Int) - (J.half : Int) = (h2 : Int) := by omega
  have e1i : (J.turn : Int) + 1 = (t2 : Int) := by omega
  have e3i : (1 : Int) - (J.at_ : Int) = (a2 : Int) := by omega
  have hb1 : h2 ≤ 1 := by omega
  have hb2 : t2 ≤ 1000000 := by omega
  have hb3 : a2 ≤ 1 := by omega
  clear D hJ hok hs hR hz ha hh2 ht2 ha2' hseq hcs h4 haz hh hle hn2
  have S0 : Hid (Kp [] w w) := Kp.refl _ _
  go_enter Tryz.func17, Tryz.ntmps17
  go_wp2_with fail
  go_loopw [5, 6] (fun s i wr => ∃ (k : Nat), k ≤ n ∧ i = .int .i64 (k : Int) ∧ s = .string (wrapsS seq sx k) ∧ Hid (Kp [] w wr)) (fun _ i _ => n - (intOf i).toNat)
  case atStart => exact ⟨0, Nat.zero_le _, rfl, rfl, S0⟩
  case round =>
    clear S0
    obtain ⟨k, hk, rfl, rfl, HK⟩ := hrel
    by_cases hlt : k < n
    · have l1 : decide (k < n) = true := by simpa using hlt
      obtain ⟨g, o, hla, hgl, hgc⟩ := HR.out k hlt
      subst hla
      have hgc := (HK.out.cell0 (o := o + k) hgl).trans hgc
      have c1r := (HK.out.cell0 (o := 1) hql).trans c1
      obtain ⟨t, ht⟩ : ∃ t, t = sx k := ⟨_, rfl⟩
      have ht9 : t.size ≤ 2010 := by rw [ht]; exact HS.out k hlt
      rw [← ht] at hgc
      have l2 : decide ((2010 : Int) < (t.size : Int)) = false := by simp; omega
      obtain ⟨qn, hqn⟩ : ∃ qn, qn = seq + k := ⟨_, rfl⟩
      have HW := Lib.hid (fun w2 => rwrap_any (qn : Int) (by omega) (by omega) t (by omega) w2)
      rw [Int.toNat_natCast] at HW
      obtain ⟨Wk, hWk⟩ : ∃ Wk, Wk = wrapS qn t := ⟨_, rfl⟩
      rw [← hWk] at HW
      obtain ⟨s0, hs0⟩ : ∃ s0, s0 = wrapsS seq sx k := ⟨_, rfl⟩
      obtain ⟨s1, hs1⟩ : ∃ s1, s1 = wrapsS seq sx (k + 1) := ⟨_, rfl⟩
      have happ : s0 ++ Wk = s1 := by rw [hs0, hs1, hWk, hqn, ht]; exact wrapsL_succ seq sx k
      have hs09 : s0.size ≤ 204000 := by rw [hs0, wrapsS_size]; have := HLe.out k (by omega); omega
      have hs19 : s1.size ≤ 204000 := by rw [hs1, wrapsS_size]; have := HLe.out (k + 1) (by omega); omega
      have hno : ¬ 9223372036854775807 < s0.size + Wk.size := by
        have := congrArg ByteArray.size happ
        rw [ByteArray.size_append] at this
        omega
      have E5 : Hid (IntKind.i64.wrap (IntKind.i64.wrap (IntKind.i64.wrap ((J.turn : Int) + 1) * 1000000) + (k : Int)) = (qn : Int)) := by
        show _ = _
        rw [e1i, wrapL (by omega), show (t2 : Int) * 1000000 = (seq : Int) by rw [Hseq.out, Int.natCast_mul]; rfl, wrapL (by omega), show (seq : Int) + (k : Int) = (qn : Int) by rw [hqn, Int.natCast_add], wrapL (by rw [hqn]; omega)]
      have E5' : Hid (IntKind.i64.wrap (IntKind.i64.wrap (IntKind.i64.wrap (t2 : Int) * 1000000) + (k : Int)) = (qn : Int)) := by rw [← e1i]; exact E5
      have d1 : wr.drew.cell? ⟨q, 1, none⟩ = some (.int .i64 (J.turn : Int)) := c1r
      have dg : wr.drew.cell? ⟨g, o + k, none⟩ = some (.string t) := hgc
      have hqd : q < wr.drew.heap.size := lt_of_cell d1
      have hgd : g < wr.drew.heap.size := lt_of_cell dg
      rw [← hs0]
      have HS1 := Lib.hid hs1
      clear ht hqn hWk hs0 hs1
      go_upto_region 9 with fail
      focus
        go_region_held3 (fun w' => w'.cell? ⟨q, 1, none⟩ = some (.int .i64 (J.turn : Int)) ∧ w'.cell? ⟨g, o + k, none⟩ = some (.string t)) (first | exact ⟨d1, dg⟩ | exact ⟨r1, rg⟩) (first | (go_at_call 43; (first | rw [E5.out] | rw [E5'.out] | skip); refine Calls.mono (HW.out _) ?_; rintro e z2 ⟨rfl, K⟩; have r1 := (K.cell0 (o := 1) hqd).trans d1; have rg := (K.cell0 (o := o + k) hgd).trans dg))
      all_goals
        have HK2 : Hid (Kp [] w z2) := HK.out.trans ((Kp.refl [] wr).drew.trans K)
        clear K HK
        go_wp2_with fail
        go_roundw
        case rel => exact ⟨k + 1, by omega, by go_num, by rw [HS1.out], HK2⟩
        case measure => simp [intOf]; omega
    · have l1 : decide (k < n) = false := by simpa using hlt
      obtain rfl : k = n := by omega
      clear hlt l1
      obtain ⟨w1, rfl⟩ : ∃ w1, w1 = wr := ⟨_, rfl⟩
      obtain ⟨row, hrow⟩ : ∃ row, row = wrapsS seq sx k := ⟨_, rfl⟩
      have hrow9 : row.size ≤ 204000 := by rw [hrow, wrapsS_size]; have := HLe.out k (Nat.le_refl _); omega
      have HRow : Hid (row = cRow J sx k) := by show row = _; rw [hrow]; unfold cRow; rw [HN.out.2.2.2.2.2]
      rw [← hrow]
      clear hrow
      have c0 := (HK.out.cell0 (o := 0) hql).trans c0
      have c2 := (HK.out.cell0 (o := 2) hql).trans c2
      by_cases hfit : z * 64 < row.size
      · have l2 : decide ((z : Int) * 64 < (row.size : Int)) = true := by rw [decide_eq_true_eq]; omega
        have hF : hl S.n * 64 < (cRow J sx k).size := by rw [← HRow.out, ← HN.out.1]; exact hfit
        have e1 : mC false S J sx k = 14 := by unfold mC; simp only [Bool.false_eq_true, if_false]; rw [if_pos hF]
        have e2 : mS false S J sx k = S := by unfold mS; simp only [Bool.false_eq_true, if_false]; rw [if_pos hF]
        have e3 : mJ false S J sx k = J := by unfold mJ; simp only [Bool.false_eq_true, if_false]; rw [if_pos hF]
        have e4 : mD false S J sx k = false := by unfold mD; simp only [Bool.false_eq_true, if_false]; rw [if_pos hF]
        have HE := Lib.hid (And.intro e1 (And.intro e2 (And.intro e3 e4)))
        clear e1 e2 e3 e4 hF
        go_wp2_with fail
        refine Calls.mono (HSz.out _ HK.out) ?_
        rintro e y1 ⟨rfl, hy⟩
        subst hy
        go_wp2_with fail
        go_ret
        rw [HE.out.1, HE.out.2.1, HE.out.2.2.1, HE.out.2.2.2]
        exact ⟨rfl, f, HD.out.kept HK.out, Mv.of_kp HK.out _⟩
      have l2 : decide ((z : Int) * 64 < (row.size : Int)) = false := by rw [decide_eq_false_iff_not]; omega
      have HFit : Hid (¬ hl S.n * 64 < (cRow J sx k).size) := by show ¬ _; rw [← HRow.out, ← HN.out.1]; exact hfit
      have hrz : row.size ≤ z * 64 := by omega
      obtain ⟨all, hall⟩ : ∃ all, all = row ++ zeros (z * 64 - row.size) := ⟨_, rfl⟩
      have hals : all.size = z * 64 := by rw [hall, ByteArray.size_append, zeros_size]; omega
      have hnc : nch all = z := by unfold nch; omega
      have HSh : Hid (∀ i, i < z → chunk all i = secS (fillUp (short row i))) := fun i hi => by rw [hall]; exact short_chunk row z i hrz hi
      have HAll : Hid (Dk.wrow a all z 0 S = cW1 S J sx k) := by
        show _ = _
        unfold cW1 cAll
        rw [← HRow.out, ← HN.out.1, ← hall, hnc, ← HN.out.2.2.1, ← HN.out.2.1]
      clear hfit hall hals
      go_wp2_with fail
      refine Calls.mono (HSz.out _ HK.out) ?_
      rintro e y1 ⟨rfl, hy⟩
      subst hy
      go_wp2_with fail
      refine Calls.mono (HHf.out _ HK.out) ?_
      rintro e y2 ⟨rfl, hy⟩
      subst hy
      have R0 : Hid (RwMid a all f w1 w1 b S m 0) := ⟨S, f, HD.out.d.kept HK.out, Mv.refl _ _, HOk.out.lim, rfl⟩
      have HNC := Lib.hid hnc
      clear hnc l2
      go_wp2_with fail
      go_loopw [8] (fun i wx => ∃ (i' : Nat), i' ≤ z ∧ i = .int .i64 (i' : Int) ∧ Hid (RwMid a all f w1 wx b S m i')) (fun i _ => z - (intOf i).toNat)
      case atStart => exact ⟨0, Nat.zero_le _, rfl, R0⟩
      case round =>
        clear R0
        obtain ⟨k2, hk2, rfl, HR2⟩ := hrel
        obtain ⟨S2, f2, D2, M2, L2, hsc⟩ := HR2.out
        have c0x := (M2.kp.cell (p := ⟨q, 0, none⟩) (lt_of_cell c0) HD.out.qf).trans c0
        have hqr : q < w1.heap.size := lt_of_cell c0
        have c2x := (M2.kp.cell (p := ⟨q, 2, none⟩) hqr HD.out.qf).trans c2
        have HD2 := Lib.hid D2
        have HM2 := Lib.hid M2
        have HL2 := Lib.hid L2
        have HSC := Lib.hid hsc
        clear D2 M2 L2 hsc
        by_cases hlt : k2 < z
        · have l3 : decide (k2 < z) = true := by simpa using hlt
          obtain ⟨q1, hq1⟩ : ∃ q1, q1 = 64 * k2 := ⟨_, rfl⟩
          obtain ⟨q2, hq2⟩ : ∃ q2, q2 = 64 * k2 + 64 := ⟨_, rfl⟩
          obtain ⟨lo, hlo⟩ : ∃ lo, lo = min row.size (64 * k2) := ⟨_, rfl⟩
          obtain ⟨hi, hhi⟩ : ∃ hi, hi = min row.size (64 * k2 + 64) := ⟨_, rfl⟩
          obtain ⟨p, hp⟩ : ∃ p, p = a + k2 := ⟨_, rfl⟩
          have v1 : IntKind.i64.wrap (1 - (J.half : Int)) = (h2 : Int) := by rw [e2i, wrapL (by omega)]
          have v1' : IntKind.i64.wrap (h2 : Int) = (h2 : Int) := wrapL (by omega)
          have v2 : IntKind.i64.wrap ((h2 : Int) * (z : Int)) = (a : Int) - 2 := by rw [hhz, IntKind.wrap_i64]; omega
          have v2' : IntKind.i64.wrap ((a : Int) - 2) = (a : Int) - 2 := by rw [IntKind.wrap_i64]; omega
          have v3 : IntKind.i64.wrap (2 + ((a : Int) - 2)) = (a : Int) := by rw [IntKind.wrap_i64]; omega
          have v3' : IntKind.i64.wrap (a : Int) = (a : Int) := wrapL (by omega)
          have ea : (2 : Int) + ((a : Int) - 2) = (a : Int) := by omega
          have v4 : IntKind.i64.wrap ((a : Int) + (k2 : Int)) = (p : Int) := by rw [IntKind.wrap_i64]; omega
          have v5 : IntKind.i64.wrap ((k2 : Int) * 64) = (q1 : Int) := by rw [IntKind.wrap_i64]; omega
          have v6 : IntKind.i64.wrap ((k2 : Int) + 1) = (k2 : Int) + 1 := by rw [IntKind.wrap_i64]; omega
          have v7 : IntKind.i64.wrap (((k2 : Int) + 1) * 64) = (q2 : Int) := by rw [IntKind.wrap_i64]; omega
          have m1 : min (row.size : Int) (q1 : Int) = (lo : Int) := by omega
          have m2 : min (row.size : Int) (q2 : Int) = (hi : Int) := by omega
          have g1 : lo ≤ hi := by omega
          have g2 : hi ≤ row.size := by omega
          have hch : row.extract lo hi = short row k2 := by unfold short; rw [hlo, hhi]
          have hwf := S2.wrote_fill (p : Int) (short row k2) (short_size row k2)
          rw [← HSh.out k2 hlt] at hwf
          have HWF := Lib.hid hwf
          have HWr := Lib.hid (fun nq => g_write (HD2.out.kept ((Kp.refl [] wr).drewN nq)) (p : Int) (short row k2) (m + k2) HL2.out (by omega))
          have HP := Lib.hid hp
          have d0 : wr.drew.cell? ⟨q, 0, none⟩ = some (.pointer (some ⟨b, 0, none⟩)) := c0x
          have d2 : wr.drew.cell? ⟨q, 2, none⟩ = some (.int .i64 (J.half : Int)) := c2x
          have hqx : q < wr.drew.heap.size := lt_of_cell d0
          clear hq1 hq2 hlo hhi hp hwf
          go_upto_region 16 with fail
          go_cut [9] from 59 to 86 (fun s9 wy => ∃ (c : Int) (f3 : List Nat), s9 = .int .i64 c ∧ Hid (c = S2.werr (p : Int) (chunk all k2).size) ∧ Hid (RkF wy f3 b (S2.wrote (p : Int) (chunk all k2))) ∧ Hid (Mv f2 wr f3 wy))
          case first =>
            focus
              go_region_held3 (fun w' => w'.cell? ⟨q, 0, none⟩ = some (.pointer (some ⟨b, 0, none⟩)) ∧ w'.cell? ⟨q, 2, none⟩ = some (.int .i64 (J.half : Int))) (first | exact ⟨d0, d2⟩ | exact ⟨r0, r2⟩) (first | (go_at_call 31; refine Calls.mono (HWr.out 1) ?_; rintro e z2 ⟨rfl, f3, D3, M3⟩; have r0 := (M3.kp.cell (p := ⟨q, 0, none⟩) hqx (HM2.out.apart HD.out.qf hqr)).trans d0; have r2 := (M3.kp.cell (p := ⟨q, 2, none⟩) hqx (HM2.out.apart HD.out.qf hqr)).trans d2))
            all_goals
              have HD3 := Lib.hid D3
              have HM3 : Hid (Mv f2 wr f3 z2) := (Mv.of_kp ((Kp.refl [] wr).drewN 1) f2).trans M3
              rw [← HWF.out.1] at HD3
              have HCC : Hid (S2.werr (p : Int) (short row k2).size = S2.werr (p : Int) (chunk all k2).size) := HWF.out.2.symm
              clear D3 M3
              go_wp2_with fail
              go_meet
              case rel => exact ⟨_, f3, rfl, HCC, HD3, HM3⟩
          case rest =>
            obtain ⟨c, f3, rfl, HC, HD3, HM3⟩ := hcut
            clear v1 v1' v2 v2' v3 v3' v4 v5 v6 v7 m1 m2 hch HWr d0 d2 HWF
            have HM4 : Hid (Mv f w1 f3 wc) := HM2.out.trans HM3.out
            have HW1 : Hid (cW1 S J sx k = if c = 0 then Dk.wrow a all (z - (k2 + 1)) (k2 + 1) (S2.wrote (p : Int) (chunk all k2)) else (c, S2.wrote (p : Int) (chunk all k2))) := by
              show _ = _
              have h1 := HSC.out
              rw [HNC.out, show z - k2 = (z - (k2 + 1)) + 1 by omega, Dk.wrow, ← HP.out, ← HC.out, HAll.out] at h1
              exact h1.symm
            by_cases hc0 : c = 0
            · have l6 : (c != 0) = false := by simpa using hc0
              have HR3 : Hid (RwMid a all f w1 wc b S m (k2 + 1)) := ⟨_, f3, HD3.out, HM4.out, (HL2.out.wrote _ _).mono (by omega), by
                have h1 := HW1.out
                rw [if_pos hc0] at h1
                rw [HNC.out, HAll.out, h1]⟩
              clear hc0
              go_wp2_with fail
              go_roundw
              case rel => exact ⟨k2 + 1, by omega, by go_num, HR3⟩
              case measure => simp [intOf]; omega
            · have l6 : (c != 0) = true := by simpa using hc0
              have HDi := Lib.hid (rdies_any ((HD.out.kept HK.out).q_.keep HM4.out.kp HD.out.qf) c)
              have hA := HW1.out
              rw [if_neg hc0] at hA
              have hcf := c_first hA hc0
              have HE := Lib.hid (m_of HFit.out hcf.1 hcf.2)
              have HC0 := Lib.hid hc0
              clear hA hcf hc0
              go_wp2_with fail
              refine Calls.mono HDi.out ?_
              rintro e x3 ⟨rfl, Q3, K3⟩
              have H := Lib.hid ((HD.out.kept HK.out).then HD3.out HM4.out K3 Q3)
              clear Q3 K3
              go_wp2_with fail
              go_ret
              rw [HE.out.1, HE.out.2.1, HE.out.2.2.1, HE.out.2.2.2, if_neg HC0.out]
              exact ⟨rfl, f3, H.out.1, (Mv.of_kp HK.out _).trans H.out.2⟩
        · have l3 : decide (k2 < z) = false := by simpa using hlt
          obtain rfl : k2 = z := by omega
          clear hlt
          have HA1 : Hid (cW1 S J sx k = (0, S2)) := by
            show _ = _
            have h1 := HSC.out
            rw [HNC.out, Nat.sub_self, HAll.out] at h1
            exact h1.symm
          have HF1 := Lib.hid (g_flush HD2.out (m + k2) HL2.out (by omega))
          obtain ⟨c, hc⟩ : ∃ c, c = S2.ferr := ⟨_, rfl⟩
          rw [← hc] at HF1
          have HC := Lib.hid hc
          clear hc
          go_wp2_with fail
          refine Calls.mono HF1.out ?_
          rintro e x2 ⟨rfl, f3, D3, M3⟩
          have HD3 := Lib.hid D3
          have HM3 : Hid (Mv f w1 f3 x2) := HM2.out.trans M3
          clear D3 M3 HF1
          by_cases hc0 : c = 0
          case neg =>
            have l6 : (c != 0) = true := by simpa using hc0
            have HDi := Lib.hid (rdies_any ((HD.out.kept HK.out).q_.keep HM3.out.kp HD.out.qf) c)
            have hcs := c_second HA1.out (by rw [← HC.out]; exact hc0)
            have HE := Lib.hid (m_of HFit.out (hcs.1.trans HC.out.symm) hcs.2)
            have HC0 := Lib.hid hc0
            clear hcs hc0
            go_wp2_with fail
            refine Calls.mono HDi.out ?_
            rintro e x3 ⟨rfl, Q3, K3⟩
            have H := Lib.hid ((HD.out.kept HK.out).then HD3.out HM3.out K3 Q3)
            clear Q3 K3
            go_wp2_with fail
            go_ret
            rw [HE.out.1, HE.out.2.1, HE.out.2.2.1, HE.out.2.2.2, if_neg HC0.out]
            exact ⟨rfl, f3, H.out.1, (Mv.of_kp HK.out _).trans H.out.2⟩
          subst hc0
          have HQ3 := Lib.hid ((HD.out.kept HK.out).then0 HD3.out HM3.out)
          have HL3 : Hid (S2.flushed.Lim (m + k2)) := HL2.out.flushed
          have hct := c_third HA1.out HC.out.symm
          rw [← HN.out.2.2.1, ← HN.out.2.2.2.1, ← HN.out.2.2.2.2.1] at hct
          have HCT := Lib.hid hct
          have HSup := Lib.hid (fun w2 => rsuper_any t2 h2 (by omega) hb1 w2)
          obtain ⟨sb, hsb⟩ : ∃ sb, sb = supB t2 h2 := ⟨_, rfl⟩
          rw [← hsb] at HSup
          have HWr := Lib.hid (fun w2 (K : Kp [] x2 w2) => g_write (HD3.out.kept K) (a2 : Int) sb (m + k2) HL3.out (by omega))
          have y0 := HQ3.out.1.q_.c0
          have y1 := HQ3.out.1.q_.c1
          have y2 := HQ3.out.1.q_.c2
          have y3 := HQ3.out.1.q_.c3
          have d0 : x2.drew.cell? ⟨q, 0, none⟩ = some (.pointer (some ⟨b, 0, none⟩)) := y0
          have d1 : x2.drew.cell? ⟨q, 1, none⟩ = some (.int .i64 (J.turn : Int)) := y1
          have d2 : x2.drew.cell? ⟨q, 2, none⟩ = some (.int .i64 (J.half : Int)) := y2
          have d3 : x2.drew.cell? ⟨q, 3, none⟩ = some (.int .i64 (J.at_ : Int)) := y3
          have hqx : q < x2.drew.heap.size := lt_of_cell d0
          have hqf3 : q ∉ f3 := HQ3.out.1.qf
          have Kd : Hid (Kp [] x2 x2.drew) := (Kp.refl [] x2).drew
          have v1 : IntKind.i64.wrap (1 - (J.half : Int)) = (h2 : Int) := by rw [e2i, wrapL (by omega)]
          have v2 : IntKind.i64.wrap ((J.turn : Int) + 1) = (t2 : Int) := by rw [e1i, wrapL (by omega)]
          have v3 : IntKind.i64.wrap (1 - (J.at_ : Int)) = (a2 : Int) := by rw [e3i, wrapL (by omega)]
          have v1' : IntKind.i64.wrap (h2 : Int) = (h2 : Int) := wrapL (by omega)
          have v2' : IntKind.i64.wrap (t2 : Int) = (t2 : Int) := wrapL (by omega)
          have v3' : IntKind.i64.wrap (a2 : Int) = (a2 : Int) := wrapL (by omega)
          have Hsb := Lib.hid hsb
          clear hct hsb
          go_wp2_with fail
          go_cut [11] from 102 to 122 (fun s11 wy => ∃ (c : Int) (f4 : List Nat), s11 = .int .i64 c ∧ Hid (c = S2.flushed.werr (a2 : Int) sb.size) ∧ Hid (RkF wy f4 b (S2.flushed.wrote (a2 : Int) sb)) ∧ Hid (Mv f3 x2 f4 wy))
          case first =>
            focus
              go_region_held3 (fun w' => w'.cell? ⟨q, 0, none⟩ = some (.pointer (some ⟨b, 0, none⟩)) ∧ w'.cell? ⟨q, 1, none⟩ = some (.int .i64 (J.turn : Int)) ∧ w'.cell? ⟨q, 2, none⟩ = some (.int .i64 (J.half : Int)) ∧ w'.cell? ⟨q, 3, none⟩ = some (.int .i64 (J.at_ : Int))) (first | exact ⟨d0, d1, d2, d3⟩ | exact ⟨r0, r1, r2, r3⟩ | exact ⟨s0, s1, s2, s3⟩) (first | (go_at_call 34; refine Calls.mono (HSup.out _) ?_; rintro e z1 ⟨rfl, K⟩; have K1 : Hid (Kp [] x2 z1) := Kd.out.trans K; have r0 := (K.cell0 (o := 0) hqx).trans d0; have r1 := (K.cell0 (o := 1) hqx).trans d1; have r2 := (K.cell0 (o := 2) hqx).trans d2; have r3 := (K.cell0 (o := 3) hqx).trans d3; have hqz : q < z1.heap.size := lt_of_cell r0) | (go_at_call 31; refine Calls.mono (HWr.out _ K1.out) ?_; rintro e z2 ⟨rfl, f4, D4, M4⟩; have s0 := (M4.kp.cell (p := ⟨q, 0, none⟩) hqz hqf3).trans r0; have s1 := (M4.kp.cell (p := ⟨q, 1, none⟩) hqz hqf3).trans r1; have s2 := (M4.kp.cell (p := ⟨q, 2, none⟩) hqz hqf3).trans r2; have s3 := (M4.kp.cell (p := ⟨q, 3, none⟩) hqz hqf3).trans r3))
            all_goals
              have HD4 := Lib.hid D4
              have HM4 : Hid (Mv f3 x2 f4 z2) := (Mv.of_kp K1.out f3).trans M4
              clear D4 M4
              go_wp2_with fail
              go_meet
              case rel => exact ⟨_, f4, rfl, rfl, HD4, HM4⟩
          case rest =>
            obtain ⟨c, f4, rfl, HC4, HD4, HM4⟩ := hcut
            clear v1 v2 v3 v1' v2' v3' d0 d1 d2 d3 hqx Kd HSup HWr y0 y1 y2 y3
            have HM5 : Hid (Mv f w1 f4 wc) := HM3.out.trans HM4.out
            have HSW : Hid (S2.flushed.supw a2 t2 h2 = if c = 0 then ((S2.flushed.wrote (a2 : Int) sb).ferr, (S2.flushed.wrote (a2 : Int) sb).flushed) else (c, S2.flushed.wrote (a2 : Int) sb)) := by
              show _ = _
              unfold Dk.supw
              rw [← Hsb.out, ← HC4.out]
            rw [HSW.out] at HCT
            by_cases hc0 : c = 0
            case neg =>
              have l6 : (c != 0) = true := by simpa using hc0
              have HDi := Lib.hid (rdies_any ((HD.out.kept HK.out).q_.keep HM5.out.kp HD.out.qf) c)
              have hcs := HCT.out
              rw [if_neg hc0] at hcs
              have HE := Lib.hid (m_of HFit.out hcs.1 hcs.2)
              have HC0 := Lib.hid hc0
              clear hcs hc0
              go_wp2_with fail
              refine Calls.mono HDi.out ?_
              rintro e x3 ⟨rfl, Q3, K3⟩
              have H := Lib.hid ((HD.out.kept HK.out).then HD4.out HM5.out K3 Q3)
              clear Q3 K3
              go_wp2_with fail
              go_ret
              rw [HE.out.1, HE.out.2.1, HE.out.2.2.1, HE.out.2.2.2, if_neg HC0.out]
              exact ⟨rfl, f4, H.out.1, (Mv.of_kp HK.out _).trans H.out.2⟩
            subst hc0
            have hcs := HCT.out
            rw [if_pos rfl] at hcs
            have HCS := Lib.hid hcs
            have HL4 : Hid ((S2.flushed.wrote (a2 : Int) sb).Lim (m + k2 + 1)) := HL3.out.wrote _ _
            have HF2 := Lib.hid (g_flush HD4.out (m + k2 + 1) HL4.out (by omega))
            obtain ⟨c, hc⟩ : ∃ c, c = (S2.flushed.wrote (a2 : Int) sb).ferr := ⟨_, rfl⟩
            rw [← hc] at HF2
            have HC5 := Lib.hid hc
            have c0w := (HM5.out.kp.cell (p := ⟨q, 0, none⟩) hqr HD.out.qf).trans c0
            clear hcs hc
            go_wp2_with fail
            refine Calls.mono HF2.out ?_
            rintro e x5 ⟨rfl, f5, D5, M5⟩
            have HD5 := Lib.hid D5
            have HM6 : Hid (Mv f w1 f5 x5) := HM5.out.trans M5
            clear D5 M5 HF2
            by_cases hc0 : c = 0
            case neg =>
              have l6 : (c != 0) = true := by simpa using hc0
              have HDi := Lib.hid (rdies_any ((HD.out.kept HK.out).q_.keep HM6.out.kp HD.out.qf) c)
              have HE := Lib.hid (m_of HFit.out (HCS.out.1.trans HC5.out.symm) HCS.out.2)
              have HC0 := Lib.hid hc0
              clear hc0
              go_wp2_with fail
              refine Calls.mono HDi.out ?_
              rintro e x3 ⟨rfl, Q3, K3⟩
              have H := Lib.hid ((HD.out.kept HK.out).then HD5.out HM6.out K3 Q3)
              clear Q3 K3
              go_wp2_with fail
              go_ret
              rw [HE.out.1, HE.out.2.1, HE.out.2.2.1, HE.out.2.2.2, if_neg HC0.out]
              exact ⟨rfl, f5, H.out.1, (Mv.of_kp HK.out _).trans H.out.2⟩
            subst hc0
            have HQ5 := Lib.hid ((HD.out.kept HK.out).then0 HD5.out HM6.out)
            have HE := Lib.hid (m_of HFit.out (HCS.out.1.trans HC5.out.symm) HCS.out.2)
            have HFin : Hid (∀ wf, Kp [] (((((x5.setCell ⟨q, 1, none⟩ (.int .i64 (t2 : Int))).setCell ⟨q, 2, none⟩ (.int .i64 (h2 : Int))).setCell ⟨q, 3, none⟩ (.int .i64 (a2 : Int))).setCell ⟨q, 4, none⟩ (.int .i64 (row.size : Int))).setCell ⟨q, 5, none⟩ (.int .i64 (k : Int))) wf →
                Ending.returned (.int .i64 0) = .returned (.int .i64 (mC false S J sx k)) ∧ ∃ f2, QF wf f2 b q (mS false S J sx k) (mJ false S J sx k) (mD false S J sx k) ∧ Mv (q :: f) w (q :: f2) wf) := fun wf KF => by
              have K5 : Kp [q] x5 wf := ((((((Kp.refl [q] x5).setCell (.inl (by simp)) _).setCell (.inl (by simp)) _).setCell (.inl (by simp)) _).setCell (.inl (by simp)) _).setCell (.inl (by simp)) _).trans2 KF (fun x hx => by cases hx)
              have Q5 : QAt wf q b (cJn J sx k) false := ((((HQ5.out.1.q_.set123 t2 h2 a2).set45 row.size k).kept KF)).like HN.out.2.2.2.1.symm HN.out.2.2.1.symm HN.out.2.2.2.2.1.symm (by show (cRow J sx k).size = row.size; rw [HRow.out]) rfl
              have H := (HD.out.kept HK.out).then HD5.out HM6.out K5 Q5
              rw [HE.out.1, HE.out.2.1, HE.out.2.2.1, HE.out.2.2.2, if_pos rfl]
              exact ⟨rfl, f5, H.1, (Mv.of_kp HK.out _).trans H.2⟩
            have y1 := HQ5.out.1.q_.c1
            have y2 := HQ5.out.1.q_.c2
            have y3 := HQ5.out.1.q_.c3
            have y4 := HQ5.out.1.q_.c4
            have y5 := HQ5.out.1.q_.c5
            have g1 := HQ5.out.1.q_.f 1
            have g2 := HQ5.out.1.q_.f 2
            have g3 := HQ5.out.1.q_.f 3
            have g4 := HQ5.out.1.q_.f 4
            have g5 := HQ5.out.1.q_.f 5
            have v1 : IntKind.i64.wrap (1 - (J.half : Int)) = (h2 : Int) := by rw [e2i, wrapL (by omega)]
            have v2 : IntKind.i64.wrap ((J.turn : Int) + 1) = (t2 : Int) := by rw [e1i, wrapL (by omega)]
            have v3 : IntKind.i64.wrap (1 - (J.at_ : Int)) = (a2 : Int) := by rw [e3i, wrapL (by omega)]
            clear HQ5 HE HCS HCT HD5 HM6 HM5 HD4 HM4 HD3 HM3 HD2 HM2 HSC HA1 HL2 HL3 HL4 HQ3 HC HC4 HC5 c0w c0x c2x c0 c2
            go_wp2_with fail
            go_region
            all_goals
              go_wp2_with fail
              go_ret
              exact HFin.out _ ((Kp.refl [] _).drew)
end Go.Proofs.YtggnljfcdohkaaaGreatDoor
