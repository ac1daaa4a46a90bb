/- The law TreeSorted, walked. -/
import Derived.Test.YtpocnldljglbgaaTrK
import Derived.Test.YtpocnldljglbgaaTrM
import Derived.Deep.Cut
import Derived.Laws.BytesString
namespace Go.Proofs.Ytpocnldljglbgaa
open Go.RowKit Tr

theorem conv_one (j : Nat) (hj : j < 256) (w : World) : (convert 44 9 (.slice (some ⟨w.heap.size, 0, none⟩) 1 1)).run Try.prog (w.alloc (.cells #[.int .u8 (j : Int)] 5)) = .ok (.string (kS j)) (w.alloc (.cells #[.int .u8 (j : Int)] 5)) := by
  have e : ((UInt8.ofNat j).toNat : Int) = (j : Int) := by rw [UInt8.toNat_ofNat']; omega
  have := run_convert_bytes_back (P := Try.prog) (w.alloc (.cells #[.int .u8 (j : Int)] 5)) 44 9 5 ⟨w.heap.size, 0, none⟩ 1 [UInt8.ofNat j] Try.underlying44 Try.underlying5 Try.underlying9 (fun i hi => by
    have hi : i = 0 := by simpa using hi
    subst hi
    rw [Addr.add_mid, World.cell?_alloc_new]
    show some (Value.int .u8 (j : Int)) = some (Value.int .u8 ((UInt8.ofNat j).toNat : Int))
    rw [e])
  exact this
theorem kS_byte {y : ByteArray} {j : Nat} (h : y = kS j) (hj : j < 256) : ∀ h : 0 < y.size, (((y[0]'h).toNat : Nat) : Int) = (j : Int) := by
  subst h
  intro h
  show ((UInt8.ofNat j).toNat : Int) = (j : Int)
  rw [UInt8.toNat_ofNat']
  omega
/-- What the first round leaves. -/
structure Srt (s : Nat) (down : Bool) (k : Nat) (L : List En) : Prop where
  len : L.length = k
  all : ∀ x ∈ L, ∃ i, i < k ∧ x = (kS (jf s down i), (jf s down i : Int))
theorem Srt.put {s : Nat} {down : Bool} {k : Nat} {L : List En} (h : Srt s down k L) (hs : s < 64) (hk : k < 256) : Srt s down (k + 1) (put (kS (jf s down k)) (jf s down k : Int) L) := by
  refine ⟨?_, fun x hx => ?_⟩
  · rw [len_put_new, h.len]
    intro x hx e
    obtain ⟨i, hi, rfl⟩ := h.all x hx
    exact jf_inj hs hi hk (kS_inj (jf_lt ..) (jf_lt ..) e)
  · rcases mem_put hx with h1 | h1
    · exact ⟨k, by omega, h1⟩
    · obtain ⟨i, hi, e⟩ := h.all x h1
      exact ⟨i, by omega, e⟩
theorem Srt.key {s : Nat} {down : Bool} {k : Nat} {L : List En} (h : Srt s down k L) {i : Nat} (hi : i < k) : ∃ j, j < 256 ∧ keyAt L i = kS j ∧ lk (keyAt L i) L = some (j : Int) := by
  obtain ⟨n, hm, hl⟩ := lk_at (L := L) (i := i) (by rw [h.len]; exact hi)
  obtain ⟨i2, _, e⟩ := h.all _ hm
  injection e with e1 e2
  exact ⟨jf s down i2, jf_lt .., e1, by rw [hl, e2]⟩
set_option maxHeartbeats 6400000 in
set_option maxRecDepth 20000 in
theorem sorted_any (n st : Nat) (hn : n < 256) (hst : st < 256) (down : Bool) (w : World) :
    Calls Try.prog 4 #[.int .u8 (n : Int), .int .u8 (st : Int), .bool down] w fun e w2 => e = .returned (.bool true) ∧ Kp [] w w2 := by
  have e0 : IntKind.i64.wrap (n : Int) = (n : Int) := by rw [IntKind.wrap_i64]; omega
  go_enter Try.func4, Try.ntmps4
  go_wp2_with fail
  refine Calls.mono (known_any _) ?_
  rintro e x1 ⟨rfl, K⟩
  have H1 := Lib.hid K
  clear K
  go_wp2_with fail
  refine Calls.mono (new_any _) ?_
  rintro e x2 ⟨a0, rfl, K, M0⟩
  have H2 := Lib.hid (H1.out.trans K)
  have HM0 := Lib.hid M0
  clear K H1 M0
  obtain ⟨s, hs⟩ : ∃ s, s = st % 64 := ⟨_, rfl⟩
  have Hs : Hid (s < 64) := by show s < 64; omega
  have r1' : (st : Int) % 64 = (s : Int) := by omega
  clear hs
  go_wp2_with fail
  go_loopw [8, 9] (fun tv i wr => ∃ (k : Nat) (L : List En) (a : Option Addr), k ≤ n ∧ i = .int .i64 (k : Int) ∧ tv = .pointer a ∧ Hid (MapAt wr a L ∧ Srt s down k L) ∧ Hid (Kp [] w wr)) (fun _ i _ => n - (intOf i).toNat)
  case atStart => exact ⟨0, [], a0, Nat.zero_le _, rfl, rfl, ⟨HM0.out, rfl, fun x hx => by cases hx⟩, H2⟩
  case round =>
    obtain ⟨k, L, a, hk, rfl, rfl, HM, HK⟩ := hrel
    by_cases hlt : k < n
    · have l1 : decide ((k : Int) < (n : Int)) = true := by simpa using hlt
      have l1' : decide (k < n) = true := by simpa using hlt
      have Hlt := Lib.hid hlt
      obtain ⟨v, hv⟩ : ∃ v, v = k * (2 * s + 1) := ⟨_, rfl⟩
      have hv2 : v ≤ 32385 := by
        have h1 := Nat.mul_le_mul (show k ≤ 255 by omega) (show 2 * s + 1 ≤ 127 by have := Hs.out; omega)
        omega
      obtain ⟨u, hu⟩ : ∃ u, u = v % 256 := ⟨_, rfl⟩
      have hu2 : u < 256 := by omega
      have hsI : (s : Int) < 64 := by have := Hs.out; omega
      have m1 : (k : Int) * (2 * (s : Int) + 1) = (v : Int) := by rw [hv]; simp
      have m2' : (v : Int) % 256 = (u : Int) := by omega
      have HU : Hid (u = (k * (2 * s + 1)) % 256) := by rw [← hv]; exact hu
      clear hv hu hlt
      cases down
      · have hcv := fun W => conv_one u hu2 W
        have HJ : Hid (u = jf s false k) := HU.out
        go_wp2_with fail
        refine Calls.mono (With_any (HM.out.1.kp ((Kp.refl [] wr).alloc _)) (kS u) (u : Int) (by have := HM.out.2.len; omega)) ?_
        rintro e y1 ⟨a1, rfl, K, M⟩
        have HK1 := Lib.hid ((HK.out.alloc (.cells #[.int .u8 (u : Int)] 5)).trans K)
        have HM1 : Hid (MapAt y1 a1 (put (kS u) (u : Int) L) ∧ Srt s false (k + 1) (put (kS u) (u : Int) L)) := ⟨M, by have := HM.out.2.put Hs.out (show k < 256 by omega); rw [← HJ.out] at this; exact this⟩
        clear K M HM HK
        go_wp2_with fail
        go_roundw
        case rel => exact ⟨k + 1, _, _, Hlt.out, by go_num, rfl, HM1, HK1⟩
        case measure => have := Hlt.out; simp [intOf]; omega
      · obtain ⟨u2, hu3⟩ : ∃ u2, u2 = 255 - u := ⟨_, rfl⟩
        have d2 : (255 : Int) - (u : Int) = (u2 : Int) := by omega
        have hu4 : u2 < 256 := by omega
        have hcv := fun W => conv_one u2 hu4 W
        have HJ : Hid (u2 = jf s true k) := by rw [hu3, HU.out]; rfl
        clear hu3
        go_wp2_with fail
        refine Calls.mono (With_any (HM.out.1.kp ((Kp.refl [] wr).alloc _)) (kS u2) (u2 : Int) (by have := HM.out.2.len; omega)) ?_
        rintro e y1 ⟨a1, rfl, K, M⟩
        have HK1 := Lib.hid ((HK.out.alloc (.cells #[.int .u8 (u2 : Int)] 5)).trans K)
        have HM1 : Hid (MapAt y1 a1 (put (kS u2) (u2 : Int) L) ∧ Srt s true (k + 1) (put (kS u2) (u2 : Int) L)) := ⟨M, by have := HM.out.2.put Hs.out (show k < 256 by omega); rw [← HJ.out] at this; exact this⟩
        clear K M HM HK
        go_wp2_with fail
        go_roundw
        case rel => exact ⟨k + 1, _, _, Hlt.out, by go_num, rfl, HM1, HK1⟩
        case measure => have := Hlt.out; simp [intOf]; omega
    · have l1 : decide ((k : Int) < (n : Int)) = false := by simpa using hlt
      have l1' : decide (k < n) = false := by simpa using hlt
      obtain rfl : k = n := by omega
      have Hlen : Hid (L.length = k) := HM.out.2.len
      clear hlt H2 HM0 r1'
      go_wp2_with fail
      refine Calls.mono (keys_any HM.out.1 (by rw [Hlen.out]; omega)) ?_
      rintro e y1 ⟨b, c, rfl, K, S⟩
      rw [Hlen.out] at S ⊢
      have HK1 := Lib.hid (HK.out.trans K)
      have HM1 : Hid (MapAt y1 a L ∧ Srt s down k L) := ⟨HM.out.1.kp K, HM.out.2⟩
      have HS1 := Lib.hid S
      clear K S HM HK
      have f1 : ((k : Int) == (k : Int)) = true := by simp
      go_wp2_with fail
      refine Calls.mono (len_any HM1.out.1) ?_
      rintro e y2 ⟨rfl, hw⟩
      have hw := hw.symm
      subst hw
      rw [Hlen.out]
      go_wp2_with fail
      refine Calls.mono (deep_any HM1.out.1) ?_
      rintro e y2 ⟨⟨d, rfl, hd⟩, hw⟩
      have hw := hw.symm
      subst hw
      rw [Hlen.out] at hd
      have HD := Lib.hid hd
      clear hd
      go_wp2_with fail
      refine Calls.mono (flat_any HD.out (by omega) _) ?_
      rintro e y2 ⟨rfl, hw⟩
      have hw := hw.symm
      subst hw
      clear HD
      go_wp2_with fail
      have HKy := HK1
      go_loopw [12] (fun i wr => ∃ q : Nat, q ≤ k ∧ i = .int .i64 (q : Int) ∧ Hid (Kp [] y1 wr)) (fun i _ => k - (intOf i).toNat)
      case atStart => exact ⟨0, Nat.zero_le _, rfl, Kp.refl _ _⟩
      case round =>
        obtain ⟨q, hq, rfl, HQ⟩ := hrel
        by_cases hlt : q < k
        · have l1 : decide ((q : Int) < (k : Int)) = true := by simpa using hlt
          have l1' : decide (q < k) = true := by simpa using hlt
          have Hlt := Lib.hid hlt
          obtain ⟨j, hj, hkey, hlk⟩ := HM1.out.2.key hlt
          obtain ⟨g, o, rfl, hg, hc⟩ := HS1.out q hlt
          obtain ⟨y, hy⟩ : ∃ y, y = keyAt L q := ⟨_, rfl⟩
          rw [← hy] at hc hkey hlk
          have HLK := Lib.hid hlk
          have HKY := Lib.hid hkey
          have c1 : wr.cell? ⟨g, o + q, none⟩ = some (.string y) := (HQ.out.cell0 hg).trans hc
          have hsz : y.size = 1 := by rw [hkey]; rfl
          rcases Nat.eq_zero_or_pos q with h0 | h0
          · have hp0 : decide ((0 : Int) < (q : Int)) = false := by simp; omega
            have hp0' : decide (0 < q) = false := by simp; omega
            clear hlk hkey hc hy hg h0
            go_wp2_with fail
            go_quiet (fail)
            have HM2 := Lib.hid (HM1.out.1.kp (HQ.out.drewN nq))
            have HQ2 := Lib.hid (HQ.out.drewN nq)
            go_wp2_with fail
            refine Calls.mono (get_yes HM2.out HLK.out) ?_
            rintro e y2 ⟨rfl, hw⟩
            subst hw
            have eb : ∀ h : 0 < y.size, (((y[0]'h).toNat : Nat) : Int) = (j : Int) := kS_byte HKY.out hj
            have ew : wrap64 (j : Int) = (j : Int) := by unfold wrap64; omega
            go_wp2_with fail
            go_roundw
            case rel => exact ⟨q + 1, Hlt.out, by go_num, HQ2.out⟩
            case measure => have := Hlt.out; simp [intOf]; omega
          · obtain ⟨p, hp⟩ : ∃ p, p = q - 1 := ⟨_, rfl⟩
            obtain ⟨x, hx⟩ : ∃ x, x = keyAt L p := ⟨_, rfl⟩
            obtain ⟨g2, o2, e2, hg2, hc2⟩ := HS1.out p (by omega)
            injection e2 with e2
            injection e2 with e3 e4
            subst e3
            subst e4
            rw [← hx] at hc2
            have c2 : wr.cell? ⟨g, o + p, none⟩ = some (.string x) := (HQ.out.cell0 hg).trans hc2
            have hb : Op.bytesLess x.toList y.toList = true := by
              rw [less_klt, hx, hy]
              exact decide_eq_true (rise_lt HM1.out.1.rise (by omega) (by rw [Hlen.out]; exact hlt))
            have hp1 : (q : Int) - 1 = (p : Int) := by omega
            have hp0 : decide ((0 : Int) < (q : Int)) = true := by simp; omega
            have hp0' : decide (0 < q) = true := by simp; omega
            have w1 : IntKind.i64.wrap ((q : Int) - 1) = (p : Int) := by rw [IntKind.wrap_i64]; omega
            have hpk : p < k := by omega
            clear hlk hkey hc hc2 hx hy h0 hg hg2 hp1 hp
            go_wp2_with fail
            go_quiet (fail)
            have HM2 := Lib.hid (HM1.out.1.kp (HQ.out.drewN nq))
            have HQ2 := Lib.hid (HQ.out.drewN nq)
            go_wp2_with fail
            refine Calls.mono (get_yes HM2.out HLK.out) ?_
            rintro e y2 ⟨rfl, hw⟩
            subst hw
            have eb : ∀ h : 0 < y.size, (((y[0]'h).toNat : Nat) : Int) = (j : Int) := kS_byte HKY.out hj
            have ew : wrap64 (j : Int) = (j : Int) := by unfold wrap64; omega
            go_wp2_with fail
            go_roundw
            case rel => exact ⟨q + 1, Hlt.out, by go_num, HQ2.out⟩
            case measure => have := Hlt.out; simp [intOf]; omega
        · have l1 : decide ((q : Int) < (k : Int)) = false := by simpa using hlt
          have l1' : decide (q < k) = false := by simpa using hlt
          obtain rfl : q = k := by omega
          clear hlt
          go_wp2_with fail
          have HMq : Hid (MapAt wr a L) := HM1.out.1.kp HQ.out
          have HKq := Lib.hid (HK1.out.trans HQ.out)
          have HSq := Lib.hid (HS1.out.kept HQ.out)
          clear HKy HM1 HK1 HS1 HQ
          go_loopw [8, 15] (fun tv i wz => ∃ (h m : Nat) (L2 : List En) (a2 : Option Addr), m = 2 * h ∧ m ≤ q + 1 ∧ i = .int .i64 (m : Int) ∧ tv = .pointer a2 ∧ Hid (MapAt wz a2 L2 ∧ L2.length + h = q ∧ ∀ (j : Nat) (hj : j < L.length), m ≤ j → L[j] ∈ L2) ∧ Hid (Kp [] wr wz)) (fun _ i _ => q + 1 - (intOf i).toNat)
          case atStart => exact ⟨0, 0, L, a, rfl, by omega, rfl, rfl, ⟨HMq.out, Hlen.out, fun j hj _ => List.getElem_mem hj⟩, Kp.refl _ _⟩
          case round =>
            obtain ⟨h, m, L2, a2, hm, hmq, rfl, rfl, HM, HZ⟩ := hrel
            have Hm := Lib.hid hm
            clear hm
            by_cases hlt : m < q
            · have l2 : decide ((m : Int) < (q : Int)) = true := by simpa using hlt
              have l2' : decide (m < q) = true := by simpa using hlt
              have Hlt := Lib.hid hlt
              obtain ⟨g, o, rfl, hg, hc⟩ := HSq.out m hlt
              have hmL : m < L.length := by rw [Hlen.out]; exact hlt
              have hky := keyAt_get hmL
              obtain ⟨y, hy⟩ : ∃ y, y = keyAt L m := ⟨_, rfl⟩
              rw [← hy] at hc hky
              have c1 : wr.cell? ⟨g, o + m, none⟩ = some (.string y) := (HZ.out.cell0 hg).trans hc
              have hin : (y, (L[m]).2) ∈ L2 := by rw [hky]; exact HM.out.2.2 m hmL (Nat.le_refl _)
              have HL2 : Hid ((rem y L2).length + (h + 1) = q ∧ ∀ (j : Nat) (hj : j < L.length), m + 2 ≤ j → L[j] ∈ rem y L2) := by
                refine ⟨by have := len_rem HM.out.1.rise hin; have := HM.out.2.1; omega, fun j hj hmj => mem_rem (HM.out.2.2 j hj (by omega)) ?_⟩
                rw [hky]
                have := rise_lt HMq.out.rise (show m < j by omega) hj
                rw [keyAt_get hmL, keyAt_get hj] at this
                exact (klt_ne this).symm
              clear hc hky hin hy hg hlt hmL
              go_wp2_with fail
              refine Calls.mono (Without_any HM.out.1 y (by have := HM.out.2.1; omega)) ?_
              rintro e wy ⟨a3, rfl, K, M⟩
              have HZ2 := Lib.hid (HZ.out.trans K)
              have HM2 := Lib.hid M
              clear K M HM HZ
              go_wp2_with fail
              go_roundw
              case rel => exact ⟨h + 1, m + 2, _, _, by have := Hm.out; omega, by have := Hlt.out; omega, by go_num, rfl, ⟨HM2.out, HL2.out⟩, HZ2⟩
              case measure => have := Hlt.out; simp [intOf]; omega
            · have l2 : decide ((m : Int) < (q : Int)) = false := by simpa using hlt
              have l2' : decide (m < q) = false := by simpa using hlt
              obtain ⟨z, hz⟩ : ∃ z, z = q / 2 := ⟨_, rfl⟩
              have Hz : Hid (L2.length = z) := by show L2.length = z; have := HM.out.2.1; have := Hm.out; omega
              have q1 : (q : Int) / 2 = (z : Int) := by omega
              have hz2 : z ≤ 1000000 := by omega
              clear hlt hz
              go_wp2_with fail
              refine Calls.mono (len_any HM.out.1) ?_
              rintro e y2 ⟨rfl, hw⟩
              subst hw
              rw [Hz.out]
              go_wp2_with fail
              refine Calls.mono (deep_any HM.out.1) ?_
              rintro e y2 ⟨⟨d2, rfl, hd⟩, hw⟩
              subst hw
              rw [Hz.out] at hd
              have HD := Lib.hid hd
              clear hd
              go_wp2_with fail
              refine Calls.mono (flat_any HD.out hz2 _) ?_
              rintro e y2 ⟨rfl, hw⟩
              subst hw
              clear HD
              go_wp2_with fail
              go_ret
              exact ⟨rfl, HKq.out.trans HZ.out⟩
end Go.Proofs.Ytpocnldljglbgaa
