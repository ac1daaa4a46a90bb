/- Contracts of the reference's journal: Format. -/
import Derived.Test.YtggnljfcdohkaaaGreatDoorRjb
import Derived.Test.YtggnljfcdohkaaaGreatDoorJnX
namespace Go.Proofs.YtggnljfcdohkaaaGreatDoor
open Go.RowKit

theorem Dk.Ok.lb {S : Dk} {m : Nat} (h : S.Ok m) (p : Int) : S.lbytes p = S.rbytes p := by
  unfold Dk.rbytes Dk.lbytes
  by_cases he : S.rerr p = 0
  · rw [if_pos he, if_pos he]
    have hp : p.toNat < S.n := by
      unfold Dk.rerr at he
      split at he
      · cases he
      · split at he
        · cases he
        · omega
    unfold Dk.read secS
    rw [h.inv _ hp]
  · rw [if_neg he, if_neg he]
theorem Dk.Fine.lb {S : Dk} {m : Nat} (h : S.Fine m) (p : Nat) (hp : p < S.n) : S.lbytes (p : Int) = S.read p ∧ S.rerr (p : Int) = 0 := by
  have he : S.rerr (p : Int) = 0 := by
    unfold Dk.rerr
    rw [h.dead, if_neg (by simp), if_neg (by omega)]
  refine ⟨?_, he⟩
  rw [h.ok.lb]
  unfold Dk.rbytes
  rw [if_pos he, Int.toNat_natCast]
theorem scrb_skip {a : Nat} {all : ByteArray} {u f k n : Nat} {S : Dk} (hz : isZ (restS all u k) = true) : Dk.scrb a all u (f + 1) k n S = Dk.scrb a all u f (k + 1) n S := by
  rw [Dk.scrb, if_pos hz]
theorem scrb_put {a : Nat} {all : ByteArray} {u f k n : Nat} {S : Dk} (hz : isZ (restS all u k) = false) (hw : S.werr ((a + k : Nat) : Int) (keptS all u k).size = 0) : Dk.scrb a all u (f + 1) k n S = Dk.scrb a all u f (k + 1) (n + 1) (S.wrote ((a + k : Nat) : Int) (keptS all u k)) := by
  rw [Dk.scrb, if_neg (by rw [hz]; simp), if_pos hw]
theorem kept0 (all : ByteArray) (k : Nat) : keptS all 0 k = ⟨#[]⟩ := by
  unfold keptS
  apply ba_ext
  rw [extract_list]
  simp
/-- Between two rounds of Format. -/
structure RfMid (S : Dk) (m : Nat) (f : List Nat) (b : Nat) (w wr : World) (k : Nat) : Prop where
  ex : ∃ f2 S2 cnt, RkF wr f2 b S2 ∧ Mv f w f2 wr ∧ S2.Fine (m + 1 + k) ∧ S2.n = S.n ∧ Dk.scrb 2 ((S.wrote 1 sNone).half 0) 0 (hl S.n - k) k cnt S2 = S.fScr
    ∧ ∀ i, 2 + k ≤ i → i < S.n → S2.C i = (S.wrote 1 sNone).C i
theorem fScr_eq (S : Dk) : S.fScr = Dk.scrb 2 ((S.wrote 1 sNone).half 0) 0 (hl S.n - 0) 0 0 (S.wrote 1 sNone) := by
  unfold Dk.fScr
  rw [show hat S.n 0 = 2 by unfold hat; omega, Nat.zero_div]
/-- A sector that Format reads is 0 where the journal sees bytes 0. -/
theorem fmt_cmp {S : Dk} {m : Nat} (h : S.Fine m) (k : Nat) (hk : k < hl S.n) (c : ByteArray) (hc : c.data.toList = (S.wrote 1 sNone).C (2 + k)) :
    (c.toList == (secS (fillUp ⟨#[]⟩)).toList) = isZ (restS ((S.wrote 1 sNone).half 0) 0 k) := by
  have h1n : (1 : Nat) < S.n := by have := h.n4; omega
  have hw := h.wrote 1 h1n sNone (by decide)
  have hw2 : (S.wrote 1 sNone).Fine (m + 1) ∧ (S.wrote 1 sNone).n = S.n := ⟨hw.1, hw.2.2.2⟩
  have hh := hat_le2 S.n 0 h.n4 (by omega)
  have h0 : hat S.n 0 = 2 := by unfold hat; omega
  have hsp := Dk.span_sec (S.wrote 1 sNone) (hat (S.wrote 1 sNone).n 0) (hl (S.wrote 1 sNone).n) (fun i hi => hw2.1.ln _ (by rw [hw2.2] at hi ⊢; omega)) k (by rw [hw2.2]; omega)
  rw [hw2.2, h0, ← hc] at hsp
  have hr : (restS ((S.wrote 1 sNone).half 0) 0 k) = c := by
    unfold restS
    rw [Nat.zero_max]
    apply ba_ext
    rw [extract_list, ← hsp]
    unfold Dk.half
    rw [ba_list, hw2.2, h0]
  rw [hr]
  have hcs : c.size = 64 := by
    have := hw2.1.ln (2 + k) (by rw [hw2.2]; omega)
    rw [← hc, Array.length_toList] at this
    exact this
  rw [← isZ_cmp c, hcs]
  rfl
set_option maxHeartbeats 6400000 in
set_option maxRecDepth 20000 in
theorem rformat_full {w : World} {f : List Nat} {b : Nat} {S : Dk} (D : RkF w f b S) (h4 : S.n < 4) :
    Calls Tryz.prog 9 #[.pointer (some ⟨b, 0, none⟩)] w fun e w2 => e = .returned (.int .i64 14) ∧ w2 = w := by
  obtain ⟨a, c, c0⟩ := D.len
  have l1 : decide ((S.n : Int) < 4) = true := by simp; omega
  clear D
  go_enter Tryz.func9, Tryz.ntmps9
  go_wp2_with fail
  go_ret
  exact ⟨rfl, rfl⟩
set_option maxHeartbeats 6400000 in
set_option maxRecDepth 20000 in
theorem rformat_ok {w : World} {f : List Nat} {b : Nat} {S : Dk} {m : Nat} (D : RkF w f b S) (hS : S.Fine m) (hm : m ≤ 1000000) :
    Calls Tryz.prog 9 #[.pointer (some ⟨b, 0, none⟩)] w fun e w2 => e = .returned (.int .i64 0) ∧ ∃ f2, RkF w2 f2 b S.fmt.2 ∧ Mv f w f2 w2 := by
  obtain ⟨a, c, c0⟩ := D.len
  have hn2 := D.n2
  have hn4 := hS.n4
  have l1 : decide ((S.n : Int) < 4) = false := by simp; omega
  have h1n : (1 : Nat) < S.n := by omega
  have hw := hS.wrote 1 h1n sNone (by decide)
  have hz9 : hl S.n ≤ 1000 := by unfold hl; omega
  have HW := Lib.hid (g_write D 1 sNone m hS.ok.lim (by omega))
  have he : S.werr 1 sNone.size = 0 := hS.werr 1 h1n _ (by decide)
  rw [he] at HW
  unfold sNone at HW
  have HS := Lib.hid hS
  have HSW := Lib.hid hw
  obtain ⟨z, hz⟩ : ∃ z, z = hl S.n := ⟨_, rfl⟩
  have HZ := Lib.hid hz
  have hz2 : z ≤ 1000 := by omega
  clear D hw he hz hz9
  go_enter Tryz.func9, Tryz.ntmps9
  go_wp2_with fail
  refine Calls.mono HW.out ?_
  rintro e x1 ⟨rfl, f1, D1, M1⟩
  have R0 : Hid (RfMid S m f b w x1 0) := ⟨f1, _, 0, D1, M1, HSW.out.1, HSW.out.2.2.2, (fScr_eq S).symm, fun i _ _ => rfl⟩
  clear D1 M1 HW
  go_wp2_with fail
  go_loopw [4] (fun i wr => ∃ (k : Nat), k ≤ z ∧ i = .int .i64 ((2 + k : Nat) : Int) ∧ Hid (RfMid S m f b w wr k)) (fun i _ => z + 2 - (intOf i).toNat)
  case atStart => exact ⟨0, Nat.zero_le _, rfl, R0⟩
  case round =>
    obtain ⟨k, hk, rfl, HR⟩ := hrel
    obtain ⟨f2, S2, cnt, D2, M2, F2, n2, hsc, hC⟩ := HR.out
    have Hh := Lib.hid (g_half D2 (by omega))
    rw [n2, ← HZ.out] at Hh
    have HD2 := Lib.hid D2
    have HM2 := Lib.hid M2
    have HF2 := Lib.hid F2
    have HN2 := Lib.hid n2
    have HSC := Lib.hid hsc
    have HC2 := Lib.hid hC
    clear D2 M2 F2 n2 hsc hC
    by_cases hlt : k < z
    · have l2 : decide (((2 + k : Nat) : Int) < 2 + (z : Int)) = true := by simp; omega
      have Hlt := Lib.hid hlt
      have HKn := Lib.hid (show 2 + k < S2.n by rw [HN2.out]; have := HZ.out; unfold hl at this; omega)
      go_wp2_with fail
      refine Calls.mono (Hh.out) ?_
      rintro e y1 ⟨rfl, hy⟩
      have hy2 := hy.symm
      subst hy2
      have HRd := Lib.hid (g_read HD2.out ((2 + k : Nat) : Int) (m + 1 + k) HF2.out.ok.lim (by omega))
      rw [(HF2.out.lb (2 + k) HKn.out).1, (HF2.out.lb (2 + k) HKn.out).2] at HRd
      obtain ⟨c9, hc9⟩ : ∃ c9, c9 = S2.read (2 + k) := ⟨_, rfl⟩
      rw [← hc9] at HRd
      have hcm := fmt_cmp HS.out k (by rw [← HZ.out]; exact hlt) c9 (by rw [hc9]; show (S2.C (2 + k)) = _; exact HC2.out (2 + k) (Nat.le_refl _) (by rw [← HN2.out]; exact HKn.out))
      have HCM := Lib.hid hcm
      clear hc9 hcm
      go_wp2_with fail
      refine Calls.mono (HRd.out) ?_
      rintro e y2 ⟨rfl, hy⟩
      have hy2 := hy.symm
      subst hy2
      go_wp2_with fail
      refine Calls.mono (filled_any ⟨#[]⟩ (by decide) _) ?_
      rintro e y3 ⟨rfl, K3⟩
      have HK3 := Lib.hid K3
      clear K3
      obtain ⟨zz, hzz⟩ : ∃ zz, zz = isZ (restS ((S.wrote 1 sNone).half 0) 0 k) := ⟨_, rfl⟩
      have l3 := HCM.out.trans hzz.symm
      have HZZ := Lib.hid hzz
      clear hzz
      cases zz
      · have HWr := Lib.hid (g_write (HD2.out.kept HK3.out) ((2 + k : Nat) : Int) ⟨#[]⟩ (m + 1 + k) HF2.out.ok.lim (by omega))
        rw [HF2.out.werr (2 + k) HKn.out _ (by decide)] at HWr
        rw [show (((2 + k : Nat) : Int)) = 2 + (k : Int) by omega] at HWr
        go_wp2_with fail
        refine Calls.mono (HWr.out) ?_
        rintro e y4 ⟨rfl, f3, D, M⟩
        have hw2 := HF2.out.wrote (2 + k) HKn.out ⟨#[]⟩ (by decide)
        have HR2 : Hid (RfMid S m f b w y4 (k + 1)) := by
          refine ⟨f3, S2.wrote ((2 + k : Nat) : Int) ⟨#[]⟩, cnt + 1, by rw [show (((2 + k : Nat) : Int)) = 2 + (k : Int) by omega]; exact D, (HM2.out.kp0 HK3.out).trans M, hw2.1, hw2.2.2.2.trans HN2.out, ?_, fun i h1 h2 => ?_⟩
          · rw [← HSC.out, show hl S.n - k = (hl S.n - (k + 1)) + 1 by have := HZ.out; have := Hlt.out; omega, scrb_put HZZ.out.symm (by rw [kept0]; exact HF2.out.werr (2 + k) HKn.out _ (by decide)), kept0]
          · rw [hw2.2.1]
            unfold upd
            rw [if_neg (by omega)]
            exact HC2.out i (by omega) h2
        clear D M hw2
        go_wp2_with fail
        go_roundw
        case rel => exact ⟨k + 1, Hlt.out, by go_num, HR2⟩
        case measure => have := Hlt.out; simp [intOf]; omega
      · have HR2 : Hid (RfMid S m f b w y3 (k + 1)) := by
          refine ⟨f2, S2, cnt, HD2.out.kept HK3.out, HM2.out.kp0 HK3.out, HF2.out.mono (by omega), HN2.out, ?_, fun i h1 h2 => HC2.out i (by omega) h2⟩
          rw [← HSC.out, show hl S.n - k = (hl S.n - (k + 1)) + 1 by have := HZ.out; have := Hlt.out; omega, scrb_skip HZZ.out.symm]
        go_wp2_with fail
        go_roundw
        case rel => exact ⟨k + 1, Hlt.out, by go_num, HR2⟩
        case measure => have := Hlt.out; simp [intOf]; omega
    · obtain rfl : k = z := by omega
      have l2 : decide (((2 + k : Nat) : Int) < 2 + (k : Int)) = false := by simp
      have hsc := HSC.out
      rw [← HZ.out, Nat.sub_self] at hsc
      have hsc1 : S.fScr = (cnt, 0, S2) := hsc.symm
      have hfl := HF2.out.flushed
      have hsb : (supB 1 0).size ≤ 64 := by have := supB_size 1 0 (by decide) (by omega); omega
      have hsw := hfl.2.1.wrote 0 (by rw [hfl.2.2.2.2.2, HN2.out]; omega) (supB 1 0) hsb
      have hse := hfl.2.1.werr 0 (by rw [hfl.2.2.2.2.2, HN2.out]; omega) (supB 1 0).size hsb
      have hsf := hsw.1.flushed
      have hw1 := HS.out.werr 1 h1n sNone.size (by decide)
      have HFM : Hid (S.fmt.2 = (S2.flushed.wrote ((0 : Nat) : Int) (supB 1 0)).flushed) := by
        show _ = _
        unfold Dk.fmt
        rw [hsc1, if_neg (by rw [show ((1 : Int)) = ((1 : Nat) : Int) from rfl, hw1]; simp), if_neg (by simp), if_neg (by rw [hfl.1]; simp)]
        unfold Dk.supw
        rw [if_pos hse]
      have HG1 := Lib.hid (g_flush HD2.out (m + 1 + k) HF2.out.ok.lim (by omega))
      rw [hfl.1] at HG1
      have HFL := Lib.hid hfl
      have HSE := Lib.hid hse
      have HSWW := Lib.hid hsw
      have HSFF := Lib.hid hsf
      clear hsc hsc1 hfl hsb hsw hse hsf hw1
      go_wp2_with fail
      refine Calls.mono (Hh.out) ?_
      rintro e y1 ⟨rfl, hy⟩
      have hy2 := hy.symm
      subst hy2
      go_wp2_with fail
      refine Calls.mono (HG1.out) ?_
      rintro e y2 ⟨rfl, f3, D, M⟩
      have HD3 := Lib.hid D
      have HM3 : Hid (Mv f w f3 y2) := HM2.out.trans M
      clear D M HG1 HD2 HM2
      go_wp2_with fail
      refine Calls.mono (rsuper_any 1 0 (by decide) (by decide) _) ?_
      rintro e y3 ⟨rfl, K⟩
      have HD4 := Lib.hid (HD3.out.kept K)
      have HM4 := Lib.hid (HM3.out.kp0 K)
      clear K HD3 HM3
      have HG2 := Lib.hid (g_write HD4.out ((0 : Nat) : Int) (supB 1 0) (m + 1 + k) HFL.out.2.1.ok.lim (by omega))
      rw [HSE.out] at HG2
      go_wp2_with fail
      refine Calls.mono (HG2.out) ?_
      rintro e y4 ⟨rfl, f4, D, M⟩
      have HD5 := Lib.hid D
      have HM5 : Hid (Mv f w f4 y4) := HM4.out.trans M
      clear D M HG2 HD4 HM4
      have HG3 := Lib.hid (g_flush HD5.out (m + 1 + k + 1) HSWW.out.1.ok.lim (by omega))
      rw [HSFF.out.1] at HG3
      go_wp2_with fail
      refine Calls.mono (HG3.out) ?_
      rintro e y5 ⟨rfl, f5, D, M⟩
      have HD6 := Lib.hid D
      have HM6 : Hid (Mv f w f5 y5) := HM5.out.trans M
      clear D M HG3 HD5 HM5
      go_wp2_with fail
      go_ret
      exact ⟨rfl, f5, by rw [HFM.out]; exact HD6.out, HM6.out⟩
end Go.Proofs.YtggnljfcdohkaaaGreatDoor
/- Contracts of the reference's journal: size, bytes. -/
namespace Go.Proofs.YtggnljfcdohkaaaGreatDoor
open Go.RowKit

/-- A journal of the reference in memory. -/
structure QAt (w : World) (q r : Nat) (J : Jn) (dd : Bool) : Prop where
  c0 : w.cell? ⟨q, 0, none⟩ = some (.pointer (some ⟨r, 0, none⟩))
  c1 : w.cell? ⟨q, 1, none⟩ = some (.int .i64 (J.turn : Int))
  c2 : w.cell? ⟨q, 2, none⟩ = some (.int .i64 (J.half : Int))
  c3 : w.cell? ⟨q, 3, none⟩ = some (.int .i64 (J.at_ : Int))
  c4 : w.cell? ⟨q, 4, none⟩ = some (.int .i64 (J.used : Int))
  c5 : w.cell? ⟨q, 5, none⟩ = some (.int .i64 (J.count : Int))
  c6 : w.cell? ⟨q, 6, none⟩ = some (.bool dd)
  f : ∀ o, w.frozen? ⟨q, o, none⟩ = false
theorem QAt.lt {w : World} {q r : Nat} {J : Jn} {dd : Bool} (s : QAt w q r J dd) : q < w.heap.size := World.block_lt_of_cell? w _ s.c0
theorem QAt.keep {f : List Nat} {w w2 : World} {q r : Nat} {J : Jn} {dd : Bool} (s : QAt w q r J dd) (k : Kp f w w2) (hX : q ∉ f) : QAt w2 q r J dd := by
  have hl := s.lt
  exact ⟨(k.cell (p := ⟨q, 0, none⟩) hl hX).trans s.c0, (k.cell (p := ⟨q, 1, none⟩) hl hX).trans s.c1, (k.cell (p := ⟨q, 2, none⟩) hl hX).trans s.c2, (k.cell (p := ⟨q, 3, none⟩) hl hX).trans s.c3,
    (k.cell (p := ⟨q, 4, none⟩) hl hX).trans s.c4, (k.cell (p := ⟨q, 5, none⟩) hl hX).trans s.c5, (k.cell (p := ⟨q, 6, none⟩) hl hX).trans s.c6, fun o => (k.frozen (p := ⟨q, o, none⟩) hl hX).trans (s.f o)⟩
theorem QAt.kept {w w2 : World} {q r : Nat} {J : Jn} {dd : Bool} (s : QAt w q r J dd) (k : Kp [] w w2) : QAt w2 q r J dd := s.keep k (by simp)
set_option maxHeartbeats 1600000 in
set_option maxRecDepth 20000 in
theorem rsize_any {w : World} {f : List Nat} {q r : Nat} {S : Dk} {J : Jn} {dd : Bool} (Q : QAt w q r J dd) (D : RkF w f r S) (h4 : 4 ≤ S.n) :
    Calls Tryz.prog 44 #[.pointer (some ⟨q, 0, none⟩)] w fun e w2 => e = .returned (.int .i64 ((hl S.n * 64 : Nat) : Int)) ∧ w = w2 := by
  have c0 := Q.c0
  have hn2 := D.n2
  have H := Lib.hid (g_half D h4)
  obtain ⟨z, hz⟩ : ∃ z, z = hl S.n := ⟨_, rfl⟩
  have hz2 : z ≤ 1000 := by rw [hz]; unfold hl; omega
  rw [← hz] at H
  rw [← hz]
  clear Q D hz
  go_enter Tryz.func44, Tryz.ntmps44
  go_wp2_with fail
  refine Calls.mono H.out ?_
  rintro e y1 ⟨rfl, hy⟩
  have hy2 := hy.symm
  subst hy2
  go_wp2_with fail
  go_ret
  exact ⟨by go_num, rfl⟩
set_option maxHeartbeats 3200000 in
set_option maxRecDepth 20000 in
theorem rbytes_ok {w : World} {f : List Nat} {q r : Nat} {S : Dk} {J : Jn} {dd : Bool} {m : Nat} (Q : QAt w q r J dd) (D : RkF w f r S) (hS : S.Fine m) (hm : m ≤ 1000000) (hh : J.half ≤ 1) :
    Calls Tryz.prog 37 #[.pointer (some ⟨q, 0, none⟩)] w fun e w2 => e = .returned (.string (S.half J.half)) ∧ Kp [] w w2 := by
  have c0 := Q.c0
  have c2 := Q.c2
  have hn2 := D.n2
  have H := Lib.hid (g_half D hS.n4)
  have HL := hat_le2 S.n J.half hS.n4 hh
  obtain ⟨z, hz⟩ : ∃ z, z = hl S.n := ⟨_, rfl⟩
  have hz2 : z ≤ 1000 := by rw [hz]; unfold hl; omega
  have HD := Lib.hid D
  have HS := Lib.hid hS
  obtain ⟨h, hh'⟩ : ∃ h, h = J.half := ⟨_, rfl⟩
  obtain ⟨a, ha⟩ : ∃ a, a = hat S.n h := ⟨_, rfl⟩
  have haz : a + z ≤ S.n := by rw [ha, hz, hh']; exact HL.2.1
  have ha2 : 2 + (h : Int) * (z : Int) = (a : Int) := by
    rw [ha, hz]; unfold hat; rw [Int.natCast_add, Int.natCast_mul]; rfl
  have HR : Hid (S.half h = ⟨(S.span a z).toArray⟩) := by show _ = _; unfold Dk.half; rw [← ha, ← hz]
  have Haz := Lib.hid haz
  have Hln := Lib.hid (fun i (hi : i < z) => hS.ln (a + i) (by omega))
  rw [← hz] at H
  rw [← hh'] at c2 hh
  rw [← hh']
  have hhz : (h : Int) * (z : Int) = (a : Int) - 2 := by omega
  have Ha2 := Lib.hid ha2
  clear Q D hS hz HL ha hh' haz ha2
  go_enter Tryz.func37, Tryz.ntmps37
  go_wp2_with fail
  refine Calls.mono H.out ?_
  rintro e y1 ⟨rfl, hy⟩
  subst hy
  go_wp2_with fail
  go_loopw [3, 5] (fun s i wr => ∃ (k : Nat), k ≤ z ∧ i = .int .i64 (k : Int) ∧ s = .string ⟨(S.span a k).toArray⟩ ∧ Hid (Kp [] w wr)) (fun _ i _ => z - (intOf i).toNat)
  case atStart => exact ⟨0, Nat.zero_le _, rfl, rfl, Kp.refl _ _⟩
  case round =>
    obtain ⟨k, hk, rfl, rfl, HK⟩ := hrel
    by_cases hlt : k < z
    · have Hlt := Lib.hid hlt
      have l2 : decide ((k : Int) < (z : Int)) = true := by simp; omega
      have c0r := (HK.out.cell0 (lt_of_cell c0)).trans c0
      have c2r := (HK.out.cell0 (lt_of_cell c0)).trans c2
      have hlp := Dk.span_len S a k (fun i hi => Hln.out i (by have := Hlt.out; omega))
      obtain ⟨s0, hs0⟩ : ∃ s0 : ByteArray, s0 = ⟨(S.span a k).toArray⟩ := ⟨_, rfl⟩
      have hsz : s0.size ≤ 64000 := by rw [hs0, ba_size, ba_list, hlp]; omega
      obtain ⟨c9, hc9⟩ : ∃ c9, c9 = S.read (a + k) := ⟨_, rfl⟩
      have hcz : c9.size = 64 := by rw [hc9]; show (S.C (a + k)).toArray.size = 64; rw [List.size_toArray]; exact Hln.out k hlt
      have hs2 : ¬ 9223372036854775807 < s0.size + c9.size := by omega
      obtain ⟨p, hp⟩ : ∃ p : Nat, p = a + k := ⟨_, rfl⟩
      have HRd : Hid (∀ nq, Calls Tryz.prog 26 #[.pointer (some ⟨r, 0, none⟩), .int .i64 (p : Int)] (wr.drewN nq) fun e w2 => e = .returned (.tuple #[.string c9, .int .i64 0]) ∧ w2 = wr.drewN nq) := fun nq => by
        have hr := g_read ((HD.out.kept HK.out).kept ((Kp.refl [] wr).drewN nq)) ((p : Nat) : Int) m HS.out.ok.lim (by omega)
        have hpn : p < S.n := by have := Haz.out; have := Hlt.out; omega
        rw [(HS.out.lb p hpn).1, (HS.out.lb p hpn).2] at hr
        rw [hc9, ← hp]
        exact hr.mono (fun _ _ ⟨h1, h2⟩ => ⟨h1, h2.symm⟩)
      have ha9 : a ≤ 2000 := by have := Haz.out; omega
      have E5 : Hid (IntKind.i64.wrap (IntKind.i64.wrap (2 + IntKind.i64.wrap ((a : Int) - 2)) + (k : Int)) = (p : Int)) := by
        show _ = _
        rw [IntKind.wrap_i64, IntKind.wrap_i64, IntKind.wrap_i64]
        omega
      have HAP : Hid (s0 ++ c9 = ⟨(S.span a (k + 1)).toArray⟩) := by
        show _ = _
        rw [hs0, hc9]
        unfold Dk.read
        apply ba_ext
        rw [ByteArray.data_append]
        simp [Dk.span]
      rw [← hs0]
      clear hs0 hlp hlt hc9
      go_wp2_with fail
      go_quiet ((go_at_call 26; rw [E5.out]; exact Calls.quiet_of_same (HRd.out _)))
      go_wp2_with fail
      go_roundw
      case rel => exact ⟨k + 1, Hlt.out, by go_num, congrArg Value.string HAP.out, HK.out.drewN nq⟩
      case measure => have := Hlt.out; simp [intOf]; omega
    · have l2 : decide ((k : Int) < (z : Int)) = false := by simp; omega
      obtain rfl : k = z := by omega
      clear hlt
      go_wp2_with fail
      go_ret
      exact ⟨by rw [HR.out]; rfl, HK.out⟩
end Go.Proofs.YtggnljfcdohkaaaGreatDoor
/- The reference's journal: what clears compares and writes; plain mathematics. -/
namespace Go.Proofs.YtggnljfcdohkaaaGreatDoor
open Go.RowKit

theorem fillS_size (s : ByteArray) (hs : s.size ≤ 64) : (secS (fillUp s)).size = 64 := by
  rw [secS_size]; exact fillUp_length s hs
theorem fillUp_fill (s : ByteArray) (hs : s.size ≤ 64) : fillUp (secS (fillUp s)) = fillUp s := by
  have h := fill_eq (secS (fillUp s))
  rw [fillS_size s hs] at h
  have h2 := congrArg (fun x : ByteArray => x.data.toList) h
  simp [zStr, secS] at h2
  exact h2.symm
theorem Dk.wrote_fill (S : Dk) (p : Int) (s : ByteArray) (hs : s.size ≤ 64) : S.wrote p (secS (fillUp s)) = S.wrote p s ∧ S.werr p (secS (fillUp s)).size = S.werr p s.size := by
  have he : S.werr p (secS (fillUp s)).size = S.werr p s.size := by
    rw [fillS_size s hs]
    unfold Dk.werr
    simp only [show ¬ 64 < s.size by omega, show ¬ 64 < 64 by omega]
  refine ⟨?_, he⟩
  unfold Dk.wrote
  rw [he, fillUp_fill s hs]
theorem want_eq (all : ByteArray) (used k : Nat) (hk : used / 64 ≤ k) : (all.extract 0 used).extract (min used (64 * k)) (min used (64 * k + 64)) = keptS all used k := by
  unfold keptS
  apply ba_ext
  rw [extract_list, extract_list, extract_list]
  have h1 : min used (64 * k + 64) = used := by omega
  rw [h1, List.drop_zero, List.take_take, Nat.min_self]
  by_cases h2 : 64 * k ≤ used
  · rw [Nat.min_eq_right h2, Nat.max_eq_left h2]
  · rw [Nat.min_eq_left (by omega), Nat.max_eq_right (by omega), List.drop_eq_nil_of_le (by rw [List.length_take]; omega), List.drop_eq_nil_of_le (by rw [List.length_take]; omega)]
theorem clr_cmp (all : ByteArray) (used k : Nat) (hk : used / 64 ≤ k) (hs : 64 * k + 64 ≤ all.size) (c : ByteArray) (hc : c = all.extract (64 * k) (64 * k + 64)) :
    (c.toList == (secS (fillUp (keptS all used k))).toList) = isZ (restS all used k) := by
  have hks : (keptS all used k).size = max used (64 * k) - 64 * k := by unfold keptS; rw [ByteArray.size_extract]; omega
  have hrs : (restS all used k).size = 64 * k + 64 - max used (64 * k) := by unfold restS; rw [ByteArray.size_extract]; omega
  have hcc : c = keptS all used k ++ restS all used k := by
    rw [hc]
    unfold keptS restS
    rw [ByteArray.extract_append_extract]
    congr 1 <;> omega
  have hf : secS (fillUp (keptS all used k)) = keptS all used k ++ zStr (restS all used k).size := by
    rw [hrs, show 64 * k + 64 - max used (64 * k) = 64 - (keptS all used k).size by omega, fill_eq]
    rfl
  rw [hcc, hf, ← isZ_cmp]
  rw [ByteArray.toList_eq, ByteArray.toList_eq, ByteArray.toList_eq, ByteArray.toList_eq, ByteArray.data_append, ByteArray.data_append, Array.toList_append, Array.toList_append]
  rw [Bool.eq_iff_iff, beq_iff_eq, beq_iff_eq, List.append_cancel_left_eq]
end Go.Proofs.YtggnljfcdohkaaaGreatDoor
/- Contracts of the reference's journal: clears. -/
namespace Go.Proofs.YtggnljfcdohkaaaGreatDoor
open Go.RowKit

/-- Between two rounds of clears. -/
structure ClMid (S : Dk) (m : Nat) (a : Nat) (all : ByteArray) (used z : Nat) (f : List Nat) (b : Nat) (w wr : World) (k n : Nat) : Prop where
  ex : ∃ f2 S2, RkF wr f2 b S2 ∧ Mv f w f2 wr ∧ S2.Fine (m + k) ∧ S2.n = S.n ∧ Dk.scrb a all used (z - k) k n S2 = Dk.scrb a all used (z - used / 64) (used / 64) 0 S
    ∧ ∀ i, a + k ≤ i → i < S.n → S2.C i = S.C i
set_option maxHeartbeats 6400000 in
set_option maxRecDepth 20000 in
theorem rclears_ok {w : World} {f : List Nat} {q b : Nat} {S : Dk} {J : Jn} {dd : Bool} {m : Nat} (Q : QAt w q b J dd) (D : RkF w f b S) (hS : S.Fine m) (hm : m ≤ 1000000) (hh : J.half ≤ 1) (hq : q ∉ f) (hu : J.used ≤ 64 * hl S.n)
    (all : ByteArray) (hall : all = S.half J.half) (n : Nat) (T : Dk) (hsc : Dk.scrb (hat S.n J.half) all J.used (hl S.n - J.used / 64) (J.used / 64) 0 S = (n, 0, T)) :
    Calls Tryz.prog 39 #[.pointer (some ⟨q, 0, none⟩), .string (all.extract 0 J.used)] w fun e w2 => e = .returned (.int .i64 0) ∧ ∃ f2, RkF w2 f2 b (if 0 < n then T.flushed else T) ∧ Mv f w f2 w2 := by
  have c0 := Q.c0
  have c2 := Q.c2
  have c4 := Q.c4
  have hn2 := D.n2
  have hql := Q.lt
  have H := Lib.hid (g_half D hS.n4)
  have HL := hat_le2 S.n J.half hS.n4 hh
  obtain ⟨z, hz⟩ : ∃ z, z = hl S.n := ⟨_, rfl⟩
  have hz2 : z ≤ 1000 := by rw [hz]; unfold hl; omega
  obtain ⟨h, hh'⟩ : ∃ h, h = J.half := ⟨_, rfl⟩
  obtain ⟨used, hus⟩ : ∃ u, u = J.used := ⟨_, rfl⟩
  obtain ⟨a, ha⟩ : ∃ a, a = hat S.n h := ⟨_, rfl⟩
  have haz : a + z ≤ S.n := by rw [ha, hz, hh']; exact HL.2.1
  have hhz : (h : Int) * (z : Int) = (a : Int) - 2 := by
    have : 2 + (h : Int) * (z : Int) = (a : Int) := by rw [ha, hz]; unfold hat; rw [Int.natCast_add, Int.natCast_mul]; rfl
    omega
  rw [← hh', ← ha, ← hz, ← hus] at hsc
  rw [← hus, ← hz] at hu
  rw [← hz] at H
  rw [← hh'] at c2 hh hall
  rw [← hus] at c4
  rw [← hus]
  have halls : all.size = 64 * z := by
    rw [hall, hz]
    unfold Dk.half
    rw [ba_size, ba_list, ← ha, Dk.span_len S a (hl S.n) (fun i hi => hS.ln _ (by omega))]
  have HSec : Hid (∀ k, k < z → S.read (a + k) = all.extract (64 * k) (64 * k + 64)) := fun k hk => by
    have := Dk.span_sec S a z (fun i hi => hS.ln _ (by omega)) k hk
    unfold Dk.read
    apply ba_ext
    rw [extract_list, hall]
    unfold Dk.half
    rw [ba_list, ← ha, ← hz, this]
  have M0 : Hid (ClMid S m a all used z f b w w (used / 64) 0) := ⟨f, S, D, Mv.refl _ _, hS.mono (by omega), rfl, rfl, fun i _ _ => rfl⟩
  have HSC := Lib.hid hsc
  have HD := Lib.hid D
  have HS := Lib.hid hS
  have HQ := Lib.hid hq
  have HAs := Lib.hid halls
  have Haz := Lib.hid haz
  obtain ⟨st, hst⟩ : ∃ st, st = all.extract 0 used := ⟨_, rfl⟩
  have hss : st.size = used := by rw [hst, ByteArray.size_extract]; omega
  have HST := Lib.hid hst
  rw [← hst]
  obtain ⟨k0, hk0⟩ : ∃ k0, k0 = used / 64 := ⟨_, rfl⟩
  have e0 : (used : Int).tdiv 64 = (k0 : Int) := by rw [Int.tdiv_eq_ediv_of_nonneg (by omega)]; omega
  have e0' : (used : Int) / 64 = (k0 : Int) := by omega
  have Hk0 := Lib.hid hk0
  clear Q D hS HL hz ha hh' hus hsc hall halls hq haz hst hk0
  go_enter Tryz.func39, Tryz.ntmps39
  go_wp2_with fail
  refine Calls.mono H.out ?_
  rintro e y1 ⟨rfl, hy⟩
  subst hy
  go_wp2_with fail
  go_loopw [6, 7] (fun an i wr => ∃ (k n' : Nat) (bb : Bool), used / 64 ≤ k ∧ k ≤ z ∧ i = .int .i64 (k : Int) ∧ an = .bool bb ∧ Hid (bb = decide (0 < n')) ∧ Hid (ClMid S m a all used z f b w wr k n')) (fun _ i _ => z - (intOf i).toNat)
  case atStart => exact ⟨k0, 0, false, by rw [Hk0.out]; omega, by rw [Hk0.out]; omega, rfl, rfl, (show false = decide (0 < 0) from rfl), by rw [Hk0.out]; exact M0⟩
  case round =>
    obtain ⟨k, n', bb, hku, hk, rfl, rfl, HBB, HR⟩ := hrel
    obtain ⟨f2, S2, D2, M2, F2, n2, hsc, hC⟩ := HR.out
    have c0r := (M2.kp.cell (p := ⟨q, 0, none⟩) hql HQ.out).trans c0
    have c2r := (M2.kp.cell (p := ⟨q, 2, none⟩) hql HQ.out).trans c2
    have HD2 := Lib.hid D2
    have HM2 := Lib.hid M2
    have HF2 := Lib.hid F2
    have HN2 := Lib.hid n2
    have HSC2 := Lib.hid hsc
    have HC2 := Lib.hid hC
    clear D2 M2 F2 n2 hsc hC
    by_cases hlt : k < z
    · have l2 : decide ((k : Int) < (z : Int)) = true := by simp; omega
      have Hlt := Lib.hid hlt
      have hkn : a + k < S2.n := by rw [HN2.out]; have := Haz.out; omega
      have HKn := Lib.hid hkn
      obtain ⟨lo, hlo⟩ : ∃ lo, lo = min used (64 * k) := ⟨_, rfl⟩
      obtain ⟨hi, hhi⟩ : ∃ hi, hi = min used (64 * k + 64) := ⟨_, rfl⟩
      have m1 : min (used : Int) ((k : Int) * 64) = (lo : Int) := by omega
      have m2 : min (used : Int) (((k : Int) + 1) * 64) = (hi : Int) := by omega
      have g1 : (lo : Int) ≤ (hi : Int) := by omega
      have g2 : (hi : Int) ≤ (used : Int) := by omega
      have g1' : lo ≤ hi := by omega
      have g2' : hi ≤ used := by omega
      have hw := want_eq all used k hku
      rw [← HST.out, ← hlo, ← hhi] at hw
      have HW := Lib.hid hw
      have hks : (keptS all used k).size ≤ 64 := by unfold keptS; rw [ByteArray.size_extract]; omega
      have HKS := Lib.hid hks
      obtain ⟨p, hp⟩ : ∃ p : Nat, p = a + k := ⟨_, rfl⟩
      have hp2 : (2 : Int) + ((a : Int) - 2) + (k : Int) = (p : Int) := by omega
      have HP := Lib.hid hp
      have E5 : Hid (wrap64 (wrap64 (2 + wrap64 ((a : Int) - 2)) + (k : Int)) = (p : Int)) := by show _ = _; unfold wrap64; have := Haz.out; omega
      clear hlo hhi hw hks hkn hp hlt hp2
      go_wp2_with fail
      rw [HW.out]
      refine Calls.mono (filled_any (keptS all used k) HKS.out _) ?_
      rintro e y2 ⟨rfl, K3⟩
      have HK3 := Lib.hid K3
      have c0s := (K3.cell0 (lt_of_cell c0r)).trans c0r
      have c2s := (K3.cell0 (lt_of_cell c2r)).trans c2r
      clear K3 c0r c2r
      have HRd := Lib.hid (g_read (HD2.out.kept HK3.out) ((p : Nat) : Int) (m + k) HF2.out.ok.lim (by omega))
      have hlb := HF2.out.lb (a + k) HKn.out
      rw [← HP.out] at hlb
      rw [hlb.1, hlb.2] at HRd
      obtain ⟨c9, hc9⟩ : ∃ c9, c9 = S2.read p := ⟨_, rfl⟩
      rw [← hc9] at HRd
      have hce : c9 = all.extract (64 * k) (64 * k + 64) := by
        rw [hc9, ← HSec.out k Hlt.out, HP.out]
        unfold Dk.read
        rw [HC2.out (a + k) (Nat.le_refl _) (by rw [← HN2.out]; exact HKn.out)]
      obtain ⟨zz, hzz⟩ : ∃ zz, zz = isZ (restS all used k) := ⟨_, rfl⟩
      have l3 := (clr_cmp all used k hku (by rw [HAs.out]; have := Hlt.out; omega) c9 hce).trans hzz.symm
      have HZZ := Lib.hid hzz
      have hwf := S2.wrote_fill (p : Int) (keptS all used k) HKS.out
      have HWF := Lib.hid hwf
      clear hlb hc9 hce hzz hwf
      go_wp2_with fail
      rw [E5.out]
      refine Calls.mono (HRd.out) ?_
      rintro e y3 ⟨rfl, hy⟩
      subst hy
      cases zz
      · have HWr := Lib.hid (g_write (HD2.out.kept HK3.out) (p : Int) (secS (fillUp (keptS all used k))) (m + k) HF2.out.ok.lim (by omega))
        have hwe : S2.werr (p : Int) (keptS all used k).size = 0 := by rw [HP.out]; exact HF2.out.werr (a + k) HKn.out _ HKS.out
        rw [HWF.out.1, HWF.out.2, hwe] at HWr
        have HWE := Lib.hid hwe
        clear hwe
        go_wp2_with fail
        refine Calls.mono (HWr.out) ?_
        rintro e y4 ⟨rfl, f3, D, M⟩
        have hw2 := HF2.out.wrote (a + k) HKn.out (keptS all used k) HKS.out
        have HR2 : Hid (ClMid S m a all used z f b w y4 (k + 1) (n' + 1)) := by
          rw [HP.out] at D
          refine ⟨f3, S2.wrote ((a + k : Nat) : Int) (keptS all used k), D, (HM2.out.kp0 HK3.out).trans M, hw2.1, hw2.2.2.2.trans HN2.out, ?_, fun i h1 h2 => ?_⟩
          · rw [← HSC2.out, show z - k = (z - (k + 1)) + 1 by have := Hlt.out; omega, scrb_put HZZ.out.symm (by rw [← HP.out]; exact HWE.out)]
          · rw [hw2.2.1]
            unfold upd
            rw [if_neg (by omega)]
            exact HC2.out i (by omega) h2
        clear D M hw2
        go_wp2_with fail
        go_roundw
        case rel => exact ⟨k + 1, n' + 1, true, by omega, Hlt.out, by go_num, rfl, (show true = decide (0 < n' + 1) by simp), HR2⟩
        case measure => have := Hlt.out; simp [intOf]; omega
      · have HR2 : Hid (ClMid S m a all used z f b w y2 (k + 1) n') := by
          refine ⟨f2, S2, HD2.out.kept HK3.out, HM2.out.kp0 HK3.out, HF2.out.mono (by omega), HN2.out, ?_, fun i h1 h2 => HC2.out i (by omega) h2⟩
          rw [← HSC2.out, show z - k = (z - (k + 1)) + 1 by have := Hlt.out; omega, scrb_skip HZZ.out.symm]
        go_wp2_with fail
        go_roundw
        case rel => exact ⟨k + 1, n', bb, by omega, Hlt.out, by go_num, rfl, HBB, HR2⟩
        case measure => have := Hlt.out; simp [intOf]; omega
    · have l2 : decide ((k : Int) < (z : Int)) = false := by simp; omega
      obtain rfl : k = z := by omega
      clear hlt
      have hend := HSC2.out
      rw [Nat.sub_self, ← Hk0.out, Hk0.out, HSC.out] at hend
      have h1 : n' = n ∧ S2 = T := by
        have : ((n', (0 : Int), S2) : Nat × Int × Dk) = (n, 0, T) := hend
        simp only [Prod.mk.injEq, true_and] at this
        exact this
      obtain ⟨rfl, rfl⟩ := h1
      clear hend
      have HG1 := Lib.hid (g_flush HD2.out (m + k) HF2.out.ok.lim (by omega))
      rw [HF2.out.flushed.1] at HG1
      cases bb
      · have hn0 : ¬ 0 < n' := of_decide_eq_false HBB.out.symm
        have HN0 := Lib.hid hn0
        clear HBB hn0
        go_wp2_with fail
        exact bodyPost_ret (v := .int .i64 0) (by simp [results, Tryz.results39, go_sem]) rfl ⟨rfl, f2, HD2.out, HM2.out⟩
      · have hn0 : 0 < n' := of_decide_eq_true HBB.out.symm
        have HN0 := Lib.hid hn0
        clear HBB hn0
        go_wp2_with fail
        refine Calls.mono (HG1.out) ?_
        rintro e y2 ⟨rfl, f3, D, M⟩
        have HD3 := Lib.hid D
        have HM3 : Hid (Mv f w f3 y2) := HM2.out.trans M
        clear D M
        go_wp2_with fail
        go_ret
        exact ⟨rfl, f3, HD3.out, HM3.out⟩
end Go.Proofs.YtggnljfcdohkaaaGreatDoor
