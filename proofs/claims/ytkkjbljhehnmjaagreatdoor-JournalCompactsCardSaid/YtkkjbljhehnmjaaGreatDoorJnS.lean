/- Contracts of package journal: scrub. -/
import Derived.Test.YtkkjbljhehnmjaaGreatDoorJnR
namespace Go.Proofs.YtkkjbljhehnmjaaGreatDoor
open Go.RowKit

/-- What of the k-th sector is kept; what is behind. -/
def keptS (all : ByteArray) (used k : Nat) : ByteArray := all.extract (64 * k) (max used (64 * k))
def restS (all : ByteArray) (used k : Nat) : ByteArray := all.extract (max used (64 * k)) (64 * k + 64)
/-- The sectors behind the records are written one by one, where something lies: how many, what is wrong, the disk. -/
def Dk.scrb (a : Nat) (all : ByteArray) (used : Nat) : Nat → Nat → Nat → Dk → Nat × Int × Dk
  | 0, _, n, S => (n, 0, S)
  | f + 1, k, n, S => if isZ (restS all used k) = true then Dk.scrb a all used f (k + 1) n S else
      if S.werr ((a + k : Nat) : Int) (keptS all used k).size = 0 then Dk.scrb a all used f (k + 1) (n + 1) (S.wrote ((a + k : Nat) : Int) (keptS all used k)) else (n, S.werr ((a + k : Nat) : Int) (keptS all used k).size, S.wrote ((a + k : Nat) : Int) (keptS all used k))
theorem Dk.scrb_n (a : Nat) (all : ByteArray) (used : Nat) : ∀ (f k n : Nat) (S : Dk), (Dk.scrb a all used f k n S).2.2.n = S.n
  | 0, _, _, _ => rfl
  | f + 1, k, n, S => by
    unfold Dk.scrb
    split
    · exact Dk.scrb_n a all used f _ _ _
    · split
      · rw [Dk.scrb_n a all used f]; exact Dk.wrote_n _ _ _
      · exact Dk.wrote_n _ _ _
theorem Dk.scrb_lim (a : Nat) (all : ByteArray) (used : Nat) : ∀ (f k n : Nat) (S : Dk) (m : Nat), S.Lim m → (Dk.scrb a all used f k n S).2.2.Lim (m + f)
  | 0, _, _, _, _, h => h
  | f + 1, k, n, S, m, h => by
    unfold Dk.scrb
    split
    · exact (Dk.scrb_lim a all used f _ _ _ m h).mono (by omega)
    · split
      · exact (Dk.scrb_lim a all used f _ _ _ (m + 1) (h.wrote _ _)).mono (by omega)
      · exact (h.wrote _ _).mono (by omega)

theorem wrapn {k : Nat} (h : k ≤ 1000000000000) : IntKind.i64.wrap (k : Int) = k := by rw [IntKind.wrap_i64]; omega
/-- Between two rounds of scrub. -/
structure ScMid (a : Nat) (all : ByteArray) (used z : Nat) (f0 : List Nat) (w0 w : World) (b : Nat) (S0 : Dk) (m k n : Nat) : Prop where
  ex : ∃ S f, DkF w f b S ∧ Mv f0 w0 f w ∧ S.Lim (m + n) ∧ S.n = S0.n ∧ Dk.scrb a all used (z - k) k n S = Dk.scrb a all used (z - used / 64) (used / 64) 0 S0
set_option maxHeartbeats 3200000 in
set_option maxRecDepth 20000 in
theorem scrub_any {w : World} {f : List Nat} {b : Nat} {S : Dk} (D : DkF w f b S) (hn : 4 ≤ S.n) (h : Nat) (hh : h ≤ 1) (all : ByteArray) (z : Nat) (hz : all.size = 64 * z) (hzs : z ≤ 1000) (used : Nat) (hu : used ≤ 64 * z) (hG : Gl w) (m : Nat) (hm : S.Lim m) (hmm : m + z < 4294967295) :
    Calls Tryz.prog 67 #[.pointer (some ⟨b, 0, none⟩), .int .i64 (h : Int), .string all, .int .i64 (used : Int)] w fun e w2 => ∃ v f2, e = .returned (.tuple #[.int .i64 ((Dk.scrb (hat S.n h) all used (z - used / 64) (used / 64) 0 S).1 : Int), v]) ∧ DAns (Dk.scrb (hat S.n h) all used (z - used / 64) (used / 64) 0 S).2.1 v ∧ DkF w2 f2 b (Dk.scrb (hat S.n h) all used (z - used / 64) (used / 64) 0 S).2.2 ∧ Mv f w f2 w2 := by
  have hn2 := D.n2
  obtain ⟨a, ha⟩ : ∃ a, a = hat S.n h := ⟨_, rfl⟩
  have ha2 : a ≤ 2000000 := by have := hat_le S.n h (by omega) hh; omega
  have H0 : Hid (ScMid a all used z f w w b S m (used / 64) 0) := ⟨S, f, D, Mv.refl f w, hm, rfl, rfl⟩
  have HG : Hid (∀ f2 w2, Mv f w f2 w2 → Gl w2) := fun f2 w2 h => hG.mv D h
  have HA : Hid (∀ (S2 : Dk) (f2 : List Nat) (w2 : World), S2.n = S.n → DkF w2 f2 b S2 → Calls Tryz.prog 78 #[.pointer (some ⟨b, 0, none⟩), .int .i64 (h : Int)] w2 fun e w3 => e = .returned (.int .i64 (a : Int)) ∧ w2 = w3) := fun S2 f2 w2 h1 h2 => by
    have := halfAt_any h2 (by omega) h hh
    rw [h1, ← ha] at this
    exact this
  rw [← ha]
  obtain ⟨q0, hq0⟩ : ∃ q0, q0 = 64 * (used / 64) := ⟨_, rfl⟩
  have e0 : (used : Int) - (used : Int).tmod 64 = (q0 : Int) := by rw [Int.tmod_eq_emod_of_nonneg (by omega)]; omega
  have e0' : (used : Int) - (used : Int) % 64 = (q0 : Int) := by omega
  have Hq0 := Lib.hid hq0
  have Hz := Lib.hid hz
  clear D hG hm ha hq0 hz
  go_enter Tryz.func67, Tryz.ntmps67
  go_wp2_with fail
  go_loopw [10, 11] (fun c i wr => ∃ (k q n : Nat), q = 64 * k ∧ i = .int .i64 (q : Int) ∧ c = .int .i64 (n : Int) ∧ n + used / 64 ≤ k ∧ used / 64 ≤ k ∧ k ≤ z ∧ Hid (ScMid a all used z f w wr b S m k n)) (fun _ i _ => all.size + 64 - (intOf i).toNat)
  case atStart => exact ⟨used / 64, q0, 0, Hq0.out, rfl, rfl, by omega, by omega, by omega, H0⟩
  case round =>
    clear H0
    have hz := Hz.out
    obtain ⟨k, q, n, hq, rfl, rfl, hnk, hk, hkz, HM⟩ := hrel
    by_cases hlt : q < all.size
    · have l1 : decide ((q : Int) < (all.size : Int)) = true := by simpa using hlt
      have hk1 : k + 1 ≤ z := by omega
      have e1 : (q : Int).tdiv 64 = (k : Int) := by rw [Int.tdiv_eq_ediv_of_nonneg (by omega)]; omega
      obtain ⟨r, hr⟩ : ∃ r, r = max used q := ⟨_, rfl⟩
      have e2 : max (used : Int) (q : Int) = (r : Int) := by omega
      obtain ⟨t, ht⟩ : ∃ t, t = q + 64 := ⟨_, rfl⟩
      have e4 : (q : Int) + 64 = (t : Int) := by omega
      have hqr : q ≤ r := by omega
      have hrt : r ≤ t := by omega
      have hts : t ≤ all.size := by omega
      have hrs : r ≤ all.size := by omega
      have hc1 : all.extract r t = restS all used k := by unfold restS; rw [hr, ht, hq]
      have hc2 : all.extract q r = keptS all used k := by unfold keptS; rw [hr, hq]
      have hc3 : (restS all used k).size ≤ 64 := by unfold restS; rw [ByteArray.size_extract]; omega
      obtain ⟨p, hp⟩ : ∃ p : Nat, p = a + k := ⟨_, rfl⟩
      have e3 : (a : Int) + (k : Int) = (p : Int) := by omega
      have hp1 : p ≤ 4000000 := by omega
      have e5 : IntKind.i64.wrap ((a : Int) + IntKind.i64.wrap (k : Int)) = (p : Int) := by rw [wrapn (by omega), e3, wrapn (by omega)]
      have Hq := Lib.hid hq
      have Hk := Lib.hid (And.intro hnk (And.intro hk (And.intro hkz hk1)))
      have Hp := Lib.hid hp
      have Ht := Lib.hid ht
      have hn9 : n ≤ 1000 := by omega
      have hmn : m + n < 4294967295 := by omega
      have ht9 : t ≤ 100000 := by omega
      have hr9 : r ≤ 100000 := by omega
      clear hq hnk hk hkz hk1 hr hp ht hz
      go_wp2_with fail
      refine Calls.mono (isZero_any (restS all used k) (by omega) _) ?_
      rintro e x1 ⟨rfl, K1⟩
      obtain ⟨Sk, fk, Dk1, Mk, Lk, Nk, Rk⟩ := HM.out.ex
      have Dk2 := Lib.hid (Dk1.kept K1)
      have Mk2 := Lib.hid (Mk.kp0 K1)
      have hwr := Rk
      rw [show z - k = (z - (k + 1)) + 1 by have := Hk.out; omega, Dk.scrb, ← Hp.out] at hwr
      have HWR := Lib.hid hwr
      have HL := Lib.hid Lk
      have HN := Lib.hid Nk
      clear hwr Rk Dk1 Mk K1 Lk Nk HM
      cases hzz : isZ (restS all used k)
      · have HZ := Lib.hid hzz
        clear hzz
        go_wp2_with fail
        focus
          go_region_held3 (fun _ => True) (exact trivial) (first | (go_at_call 78; refine Calls.mono (HA.out Sk fk _ HN.out (Dk2.out.kept (Kp.refl [] x1).drew)) ?_; rintro e x2 ⟨rfl, rfl⟩) | (go_at_call 65; (try rw [e5]); refine Calls.mono (f_write (Dk2.out.kept (Kp.refl [] x1).drew) (p : Int) (keptS all used k) (by omega) (by omega) ((HG.out _ _ Mk2.out).kept (Kp.refl [] x1).drew) (m + n) HL.out hmn) ?_; rintro e x3 ⟨v, f2, rfl, hv, D2, M2⟩))
        have HMv : Hid (Mv f w f2 x3) := Mk2.out.trans ((Mv.of_kp (Kp.refl [] x1).drew fk).trans M2)
        have HD2 := Lib.hid D2
        clear M2 D2 Mk2 Dk2
        have hwr := HWR.out
        rw [if_neg (by rw [HZ.out]; decide)] at hwr
        have HWR2 := Lib.hid hwr
        clear hwr HWR
        rcases hv with ⟨rfl, h0⟩ | ⟨⟨tt, rfl⟩, h0⟩
        · have H5 : Hid (ScMid a all used z f w x3 b S m (k + 1) (n + 1)) := by
            have hwr := HWR2.out
            rw [if_pos h0] at hwr
            exact ⟨_, _, HD2.out, HMv.out, HL.out.wrote _ _, (Dk.wrote_n _ _ _).trans HN.out, hwr⟩
          clear HWR2 HD2 HMv h0
          go_wp2_with fail
          go_roundw
          case rel => exact ⟨k + 1, t, n + 1, by have := Hq.out; have := Ht.out; omega, by go_num, by go_num, by have := Hk.out; omega, by have := Hk.out; omega, by have := Hk.out; omega, H5⟩
          case measure => have hz := Hz.out; simp [intOf]; omega
        · have HO := Lib.hid (ofDisk_ref tt (Sk.werr (p : Int) (keptS all used k).size))
          unfold dkRef at HO
          have H6 := Lib.hid h0
          clear h0
          go_wp2_with fail
          refine Calls.mono (HO.out _) ?_
          rintro e w3 ⟨rfl, rfl⟩
          unfold dErr dkRef
          go_wp2_with fail
          go_ret2
          have hwr := HWR2.out
          rw [if_neg H6.out] at hwr
          rw [← hwr]
          exact ⟨_, _, rfl, .inr ⟨⟨tt, rfl⟩, H6.out⟩, HD2.out, HMv.out⟩
      · have HZ := Lib.hid hzz
        clear hzz
        go_wp2_with fail
        have H5 : Hid (ScMid a all used z f w x1 b S m (k + 1) n) := by
          have hwr := HWR.out
          rw [if_pos HZ.out] at hwr
          exact ⟨_, _, Dk2.out, Mk2.out, HL.out, HN.out, hwr⟩
        go_roundw
        case rel => exact ⟨k + 1, t, n, by have := Hq.out; have := Ht.out; omega, by go_num, rfl, by have := Hk.out; omega, by have := Hk.out; omega, by have := Hk.out; omega, H5⟩
        case measure => have hz := Hz.out; simp [intOf]; omega
    · have l1 : decide ((q : Int) < (all.size : Int)) = false := by simpa using hlt
      have H5 : Hid (∃ f2, DkF wr f2 b (Dk.scrb a all used (z - used / 64) (used / 64) 0 S).2.2 ∧ Mv f w f2 wr ∧ (Dk.scrb a all used (z - used / 64) (used / 64) 0 S).2.1 = 0 ∧ (Dk.scrb a all used (z - used / 64) (used / 64) 0 S).1 = n) := by
        obtain ⟨Sk, fk, Dk1, Mk, Lk, Nk, Rk⟩ := HM.out.ex
        rw [show z - k = 0 by omega, Dk.scrb] at Rk
        rw [← Rk]
        exact ⟨_, Dk1, Mk, rfl, rfl⟩
      clear HM hq hk hnk hkz hz
      go_wp2_with fail
      go_ret2
      obtain ⟨f2, h1, h2, h3, h4⟩ := H5.out
      rw [h4]
      exact ⟨_, f2, rfl, .inl ⟨rfl, h3⟩, h1, h2⟩
end Go.Proofs.YtkkjbljhehnmjaaGreatDoor
