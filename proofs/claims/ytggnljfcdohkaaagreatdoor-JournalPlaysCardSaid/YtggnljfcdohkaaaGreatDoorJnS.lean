/- Contracts of package journal: writeRow. -/
import Derived.Test.YtggnljfcdohkaaaGreatDoorJnA
namespace Go.Proofs.YtggnljfcdohkaaaGreatDoor
open Go.RowKit

/-- The bytes of a row that lie on its k-th sector. -/
def chunk (s : ByteArray) (k : Nat) : ByteArray := s.extract (64 * k) (min (64 * k + 64) s.size)
theorem chunk_size (s : ByteArray) (k : Nat) : (chunk s k).size ≤ 64 := by unfold chunk; rw [ByteArray.size_extract]; omega
/-- How many sectors a row takes. -/
def nch (s : ByteArray) : Nat := (s.size + 63) / 64
/-- The sectors of a row are written one by one, up to the first that isn't. -/
def Dk.wrow (a : Nat) (s : ByteArray) : Nat → Nat → Dk → Int × Dk
  | 0, _, S => (0, S)
  | f + 1, k, S => if S.werr ((a + k : Nat) : Int) (chunk s k).size = 0 then Dk.wrow a s f (k + 1) (S.wrote ((a + k : Nat) : Int) (chunk s k)) else (S.werr ((a + k : Nat) : Int) (chunk s k).size, S.wrote ((a + k : Nat) : Int) (chunk s k))
theorem Dk.wrow_n (a : Nat) (s : ByteArray) : ∀ (f k : Nat) (S : Dk), (Dk.wrow a s f k S).2.n = S.n
  | 0, _, _ => rfl
  | f + 1, k, S => by
    unfold Dk.wrow
    split
    · rw [Dk.wrow_n a s f]; exact Dk.wrote_n _ _ _
    · exact Dk.wrote_n _ _ _
theorem Dk.wrow_lim (a : Nat) (s : ByteArray) : ∀ (f k : Nat) (S : Dk) (m : Nat), S.Lim m → (Dk.wrow a s f k S).2.Lim (m + f)
  | 0, _, _, _, h => h
  | f + 1, k, S, m, h => by
    unfold Dk.wrow
    split
    · exact (Dk.wrow_lim a s f _ _ (m + 1) (h.wrote _ _)).mono (by omega)
    · exact (h.wrote _ _).mono (by omega)

/-- Between two rounds of writeRow. -/
structure WrMid (a : Nat) (s : ByteArray) (f0 : List Nat) (w0 w : World) (b : Nat) (S0 : Dk) (m k : Nat) : Prop where
  ex : ∃ S f, DkF w f b S ∧ Mv f0 w0 f w ∧ S.Lim (m + k) ∧ Dk.wrow a s (nch s - k) k S = Dk.wrow a s (nch s) 0 S0
set_option maxHeartbeats 1600000 in
set_option maxRecDepth 20000 in
theorem writeRow_any {w : World} {f : List Nat} {b : Nat} {S : Dk} (D : DkF w f b S) (a : Nat) (ha : a ≤ 1000000) (s : ByteArray) (hs : s.size ≤ 1000000) (hG : Gl w) (m : Nat) (hm : S.Lim m) (hmm : m + nch s < 4294967295) :
    Calls Tryz.prog 72 #[.pointer (some ⟨b, 0, none⟩), .int .i64 (a : Int), .string s] w fun e w2 => ∃ v f2, e = .returned v ∧ DAns (Dk.wrow a s (nch s) 0 S).1 v ∧ DkF w2 f2 b (Dk.wrow a s (nch s) 0 S).2 ∧ Mv f w f2 w2 := by
  have H0 : Hid (WrMid a s f w w b S m 0) := ⟨S, f, D, Mv.refl f w, hm, rfl⟩
  have HG : Hid (∀ f2 w2, Mv f w f2 w2 → Gl w2) := fun f2 w2 h => hG.mv D h
  clear D hG hm
  go_enter Tryz.func72, Tryz.ntmps72
  go_wp2_with fail
  go_loopw [7] (fun i wr => ∃ (k q : Nat), q = 64 * k ∧ i = .int .i64 (q : Int) ∧ k ≤ nch s ∧ Hid (WrMid a s f w wr b S m k)) (fun i _ => s.size + 64 - (intOf i).toNat)
  case atStart => exact ⟨0, 0, rfl, rfl, Nat.zero_le _, H0⟩
  case round =>
    clear H0
    obtain ⟨k, q, hq, rfl, hk, HM⟩ := hrel
    by_cases hlt : q < s.size
    · have l1 : decide ((q : Int) < (s.size : Int)) = true := by simpa using hlt
      obtain ⟨Sk, fk, Dk1, Mk, Lk, Rk⟩ := HM.out.ex
      have hk1 : k + 1 ≤ nch s := by unfold nch; omega
      have e1 : (q : Int).tdiv 64 = (k : Int) := by rw [Int.tdiv_eq_ediv_of_nonneg (by omega)]; omega
      obtain ⟨r, hr⟩ : ∃ r, r = min (64 * k + 64) s.size := ⟨_, rfl⟩
      have e2 : min ((q : Int) + 64) (s.size : Int) = (r : Int) := by omega
      have hqr : q ≤ r := by omega
      have hrs : r ≤ s.size := by omega
      have hch : s.extract q r = chunk s k := by unfold chunk; rw [hq, hr]
      obtain ⟨p, hp⟩ : ∃ p : Nat, p = a + k := ⟨_, rfl⟩
      have e3 : (a : Int) + (k : Int) = (p : Int) := by omega
      have hp1 : p ≤ 2000000 := by unfold nch at hk; omega
      have HW := Lib.hid (f_write Dk1 (p : Int) (chunk s k) (by omega) (by omega) (HG.out _ _ Mk) (m + k) Lk (by omega))
      have HR := Lib.hid Rk
      have HMk := Lib.hid Mk
      have HL := Lib.hid Lk
      have Hq := Lib.hid hq
      have Hk := Lib.hid (And.intro hk hk1)
      have Hp := Lib.hid hp
      clear Rk Mk Lk Dk1 HM hq hk hk1 hr hp
      go_wp2_with fail
      refine Calls.mono HW.out ?_
      rintro e w2 ⟨v, f2, rfl, hv, D2, M2⟩
      have HN : Hid (Mv f w f2 w2) := HMk.out.trans M2
      have HD2 := Lib.hid D2
      have hwr := HR.out
      rw [show nch s - k = (nch s - (k + 1)) + 1 by have := Hk.out; omega, Dk.wrow, ← Hp.out] at hwr
      have HWR := Lib.hid hwr
      clear hwr M2 D2 HR HMk HW
      rcases hv with ⟨rfl, h0⟩ | ⟨⟨t, rfl⟩, h0⟩
      · have H5 : Hid (WrMid a s f w w2 b S m (k + 1)) := by
          have hwr := HWR.out
          rw [if_pos h0] at hwr
          exact ⟨_, _, HD2.out, HN.out, (HL.out.wrote _ _).mono (by omega), hwr⟩
        clear HWR HD2 HN h0
        go_wp2_with fail
        go_roundw
        case rel => exact ⟨k + 1, q + 64, by have := Hq.out; omega, by go_num, Hk.out.2, H5⟩
        case measure => simp [intOf]; omega
      · have hof := ofDisk_ref t (Sk.werr (p : Int) (chunk s k).size)
        have HO := Lib.hid hof
        unfold dkRef at HO
        have H6 := Lib.hid h0
        clear hof h0
        go_wp2_with fail
        refine Calls.mono (HO.out _) ?_
        rintro e w3 ⟨rfl, rfl⟩
        unfold dErr dkRef
        go_wp2_with fail
        go_ret
        have hwr := HWR.out
        rw [if_neg H6.out] at hwr
        rw [← hwr]
        exact ⟨_, _, rfl, .inr ⟨⟨t, rfl⟩, H6.out⟩, HD2.out, HN.out⟩
    · have l1 : decide ((q : Int) < (s.size : Int)) = false := by simpa using hlt
      have H5 : Hid (∃ f2, DkF wr f2 b (Dk.wrow a s (nch s) 0 S).2 ∧ Mv f w f2 wr ∧ (Dk.wrow a s (nch s) 0 S).1 = 0) := by
        obtain ⟨Sk, fk, Dk1, Mk, Lk, Rk⟩ := HM.out.ex
        rw [show nch s - k = 0 by unfold nch; omega, Dk.wrow] at Rk
        rw [← Rk]
        exact ⟨_, Dk1, Mk, rfl⟩
      clear HM hq hk
      go_wp2_with fail
      go_ret
      obtain ⟨f2, h1, h2, h3⟩ := H5.out
      exact ⟨_, f2, rfl, .inl ⟨rfl, h3⟩, h1, h2⟩
end Go.Proofs.YtggnljfcdohkaaaGreatDoor
/- Contracts of package journal: readHalf. -/
namespace Go.Proofs.YtggnljfcdohkaaaGreatDoor
open Go.RowKit

/-- The bytes of so many sectors. -/
def Dk.span (S : Dk) (a : Nat) : Nat → List UInt8
  | 0 => []
  | k + 1 => S.span a k ++ S.C (a + k)
/-- The bytes of a half. -/
def Dk.half (S : Dk) (h : Nat) : ByteArray := ⟨(S.span (hat S.n h) (hl S.n)).toArray⟩
theorem Dk.span_length {w : World} {f : List Nat} {b : Nat} {S : Dk} (D : DkF w f b S) (a : Nat) : ∀ k, a + k ≤ S.n → (S.span a k).length = 64 * k
  | 0, _ => rfl
  | k + 1, h => by
    unfold Dk.span
    rw [List.length_append, Dk.span_length D a k (by omega), (D.sec (a + k) (by omega)).1]
    omega
theorem hat_le (n h : Nat) (hn : 2 ≤ n) (hh : h ≤ 1) : hat n h + hl n ≤ n := by
  unfold hat
  obtain rfl | rfl : h = 0 ∨ h = 1 := by omega
  · unfold hl; omega
  · unfold hl; omega
theorem Dk.half_size {w : World} {f : List Nat} {b : Nat} {S : Dk} (D : DkF w f b S) (hn : 2 ≤ S.n) (h : Nat) (hh : h ≤ 1) : (S.half h).size = 64 * hl S.n := by
  have := Dk.span_length D (hat S.n h) (hl S.n) (hat_le _ _ hn hh)
  simpa [Dk.half, ByteArray.size] using this

set_option maxHeartbeats 1600000 in
set_option maxRecDepth 20000 in
theorem readHalf_dead {w : World} {f : List Nat} {b : Nat} {S : Dk} (D : DkF w f b S) (hn : 4 ≤ S.n) (h : Nat) (hh : h ≤ 1) (hG : Gl w) (hd : S.dead = true) :
    Calls Tryz.prog 61 #[.pointer (some ⟨b, 0, none⟩), .int .i64 (h : Int)] w fun e w2 => (∃ t, e = .returned (.tuple #[.string ⟨#[]⟩, dErr t 25])) ∧ Kp [] w w2 := by
  have hn2 := D.n2
  have HD := Lib.hid D
  have HG := Lib.hid hG
  obtain ⟨z, hz⟩ : ∃ z, z = hl S.n := ⟨_, rfl⟩
  have HL := Lib.hid (fun w2 (k : Kp [] w w2) => halfLen_any (D.kept k) (by omega))
  have HA := Lib.hid (fun w2 (k : Kp [] w w2) => halfAt_any (D.kept k) (by omega) h hh)
  obtain ⟨p, hp⟩ : ∃ p, p = hat S.n h := ⟨_, rfl⟩
  have hpn : p ≤ 2000000 := by have := hat_le S.n h (by omega) hh; omega
  have hz1 : 1 ≤ z ∧ z ≤ 1000 := by rw [hz]; unfold hl; omega
  rw [← hz] at HL
  rw [← hp] at HA
  have hre : S.rerr (p : Int) = 25 := by simp [Dk.rerr, hd]
  have hrb : S.rbytes (p : Int) = ⟨#[]⟩ := by unfold Dk.rbytes; rw [hre, if_neg (by decide)]
  have HR := Lib.hid (fun w2 (k : Kp [] w w2) => f_read (D.kept k) (p : Int) (by omega) (by omega) (hG.kept k))
  rw [hre, hrb] at HR
  have l1 : decide ((0 : Int) < (z : Int)) = true := by simp; omega
  clear D hG hd hre hrb hp hz
  go_enter Tryz.func61, Tryz.ntmps61
  go_wp2_with fail
  have K1 : Hid (Kp [] w (w.alloc (.cells #[.pointer none, .slice none 0 0] 156))) := (Kp.refl [] w).alloc _
  refine Calls.mono (HL.out _ K1.out) ?_
  rintro e x1 ⟨rfl, rfl⟩
  go_wp2_with fail
  refine wp_loop_rounds 1 ?_
  rw [rounds_succ]
  go_wp2_with fail
  refine Calls.mono (HA.out _ K1.out) ?_
  rintro e x1 ⟨rfl, rfl⟩
  go_wp2_with fail
  refine Calls.mono (HR.out _ K1.out) ?_
  rintro e x1 ⟨v, rfl, hv, K2⟩
  rcases hv with ⟨_, h0⟩ | ⟨⟨t, rfl⟩, _⟩
  · exact absurd h0 (by decide)
  have K3 : Hid (Kp [] w x1) := K1.out.trans K2
  clear K2 K1
  go_wp2_with fail
  have HO := Lib.hid (ofDisk_ref t 25)
  unfold dkRef at HO
  refine Calls.mono (HO.out _) ?_
  rintro e w3 ⟨rfl, rfl⟩
  unfold dErr dkRef
  go_wp2_with fail
  go_ret2
  exact ⟨⟨t, rfl⟩, K3.out⟩

/-- Between two rounds of readHalf. -/
structure RhMid (S : Dk) (a bb : Nat) (w0 w : World) (k : Nat) : Prop where
  kp : Kp [] w0 w
  bd : BdAt w0.heap.size bb (S.span a k) w
set_option maxHeartbeats 1600000 in
set_option maxRecDepth 20000 in
theorem readHalf_ok {w : World} {f : List Nat} {b : Nat} {S : Dk} (D : DkF w f b S) (hn : 4 ≤ S.n) (h : Nat) (hh : h ≤ 1) (hG : Gl w) (hd : S.dead = false) :
    Calls Tryz.prog 61 #[.pointer (some ⟨b, 0, none⟩), .int .i64 (h : Int)] w fun e w2 => e = .returned (.tuple #[.string (S.half h), .nilIface]) ∧ Kp [] w w2 := by
  have hn2 := D.n2
  obtain ⟨z, hz⟩ : ∃ z, z = hl S.n := ⟨_, rfl⟩
  have HL := Lib.hid (fun w2 (k : Kp [] w w2) => halfLen_any (D.kept k) (by omega))
  have HA := Lib.hid (fun w2 (k : Kp [] w w2) => halfAt_any (D.kept k) (by omega) h hh)
  have HSp := Lib.hid (fun k => Dk.span_length D (hat S.n h) k)
  have HSec := Lib.hid (fun k hk => (D.sec k hk).1)
  obtain ⟨p, hp⟩ : ∃ p, p = hat S.n h := ⟨_, rfl⟩
  have hpn : p + z ≤ S.n := by rw [hp, hz]; exact hat_le S.n h (by omega) hh
  have hz1 : 1 ≤ z ∧ z ≤ 1000 := by rw [hz]; unfold hl; omega
  rw [← hz] at HL
  rw [← hp] at HA HSp
  have HR := Lib.hid (fun w2 (k : Kp [] w w2) (q : Nat) (hq : q < S.n) => f_read (D.kept k) (q : Int) (by omega) (by omega) (hG.kept k))
  have HE : Hid (∀ q : Nat, q < S.n → S.rerr (q : Int) = 0 ∧ S.rbytes (q : Int) = ⟨(S.C q).toArray⟩) := fun q hq => by
    have h1 : S.rerr (q : Int) = 0 := by simp [Dk.rerr, hd]; omega
    refine ⟨h1, ?_⟩
    unfold Dk.rbytes
    rw [if_pos h1]
    rfl
  have HF : Hid (S.half h = ⟨(S.span p z).toArray⟩) := by rw [hp, hz]; rfl
  clear D hG hd hp hz
  go_enter Tryz.func61, Tryz.ntmps61
  go_wp2_with fail
  obtain ⟨bb, hbb⟩ : ∃ bb, bb = w.heap.size := ⟨_, rfl⟩
  have M0 : Hid (RhMid S p bb w (w.alloc (.cells #[.pointer none, .slice none 0 0] 156)) 0) := ⟨(Kp.refl [] w).alloc _, by rw [hbb]; exact BdAt.new w _ (Nat.le_refl _)⟩
  rw [← hbb]
  refine Calls.mono (HL.out _ M0.out.kp) ?_
  rintro e x1 ⟨rfl, rfl⟩
  clear hbb HL
  go_wp2_with fail
  go_loopw [12] (fun i wr => ∃ (k : Nat), k ≤ z ∧ i = .int .i64 (k : Int) ∧ Hid (RhMid S p bb w wr k)) (fun i _ => z - (intOf i).toNat)
  case atStart => exact ⟨0, Nat.zero_le _, rfl, M0⟩
  case round =>
    clear M0
    obtain ⟨k, hk, rfl, HM⟩ := hrel
    by_cases hlt : k < z
    · have l1 : decide ((k : Int) < (z : Int)) = true := by simpa using hlt
      go_wp2_with fail
      refine Calls.mono (HA.out _ HM.out.kp) ?_
      rintro e x1 ⟨rfl, rfl⟩
      obtain ⟨q, hq⟩ : ∃ q : Nat, q = p + k := ⟨_, rfl⟩
      have e3 : (p : Int) + (k : Int) = (q : Int) := by omega
      have hqn : q < S.n := by omega
      have Hq := Lib.hid hq
      clear hq
      go_wp2_with fail
      refine Calls.mono (HR.out _ HM.out.kp q hqn) ?_
      rintro e x1 ⟨v, rfl, hv, K2⟩
      rw [(HE.out q hqn).1] at hv
      rcases hv with ⟨rfl, _⟩ | ⟨_, h0⟩
      rotate_left
      · exact absurd rfl h0
      rw [(HE.out q hqn).2]
      have K3 : Hid (Kp [] w x1) := HM.out.kp.trans K2
      have B3 : Hid (BdAt w.heap.size bb (S.span p k) x1) := HM.out.bd.kept K2
      clear K2 HM
      go_wp2_with fail
      have hsz : (⟨(S.C q).toArray⟩ : ByteArray).size = 64 := by have := HSec.out q hqn; simpa [ByteArray.size] using this
      refine Calls.mono (bd_write B3.out ⟨(S.C q).toArray⟩ (by rw [hsz, HSp.out k (by omega)]; omega) K3.out.size) ?_
      rintro e x2 ⟨rfl, B4, L4⟩
      clear hsz
      have H5 : Hid (RhMid S p bb w x2 (k + 1)) := ⟨Kp.of_below ((K3.out.below (Nat.le_refl _) (fun x hx => by cases hx)).trans L4) [], by unfold Dk.span; rw [← Hq.out]; exact B4⟩
      clear B4 L4 B3 K3
      go_wp2_with fail
      go_roundw
      case rel => exact ⟨k + 1, by omega, by go_num, H5⟩
      case measure => simp [intOf]; omega
    · have l1 : decide ((k : Int) < (z : Int)) = false := by simpa using hlt
      obtain rfl : k = z := by omega
      go_wp2_with fail
      refine Calls.mono (bd_string HM.out.bd HM.out.kp.size) ?_
      rintro e x1 ⟨rfl, B4, L4⟩
      rw [← HF.out]
      have K3 : Hid (Kp [] w x1) := Kp.of_below ((HM.out.kp.below (Nat.le_refl _) (fun x hx => by cases hx)).trans L4) []
      clear B4 L4 HM
      go_wp2_with fail
      go_ret2
      exact ⟨rfl, K3.out⟩
end Go.Proofs.YtggnljfcdohkaaaGreatDoor
/- Contracts of package journal: scrub. -/
namespace Go.Proofs.YtggnljfcdohkaaaGreatDoor
open Go.RowKit

/-- What of the k-th sector is kept; what is behind. -/
def keptS (all : ByteArray) (used k : Nat) : ByteArray := all.extract (64 * k) (max used (64 * k))
def restS (all : ByteArray) (used k : Nat) : ByteArray := all.extract (max used (64 * k)) (64 * k + 64)
/-- The sectors behind the records are written one by one, where something lies: how many, what is wrong, the disk. -/
def Dk.scrb (a : Nat) (all : ByteArray) (used : Nat) : Nat → Nat → Nat → Dk → Nat × Int × Dk
  | 0, _, n, S => (n, 0, S)
  | f + 1, k, n, S => if isZ (restS all used k) = true then Dk.scrb a all used f (k + 1) n S else
      if S.werr ((a + k : Nat) : Int) (keptS all used k).size = 0 then Dk.scrb a all used f (k + 1) (n + 1) (S.wrote ((a + k : Nat) : Int) (keptS all used k)) else (n, S.werr ((a + k : Nat) : Int) (keptS all used k).size, S.wrote ((a + k : Nat) : Int) (keptS all used k))
theorem Dk.scrb_n (a : Nat) (all : ByteArray) (used : Nat) : ∀ (f k n : Nat) (S : Dk), (Dk.scrb a all used f k n S).2.2.n = S.n
  | 0, _, _, _ => rfl
  | f + 1, k, n, S => by
    unfold Dk.scrb
    split
    · exact Dk.scrb_n a all used f _ _ _
    · split
      · rw [Dk.scrb_n a all used f]; exact Dk.wrote_n _ _ _
      · exact Dk.wrote_n _ _ _
theorem Dk.scrb_lim (a : Nat) (all : ByteArray) (used : Nat) : ∀ (f k n : Nat) (S : Dk) (m : Nat), S.Lim m → (Dk.scrb a all used f k n S).2.2.Lim (m + f)
  | 0, _, _, _, _, h => h
  | f + 1, k, n, S, m, h => by
    unfold Dk.scrb
    split
    · exact (Dk.scrb_lim a all used f _ _ _ m h).mono (by omega)
    · split
      · exact (Dk.scrb_lim a all used f _ _ _ (m + 1) (h.wrote _ _)).mono (by omega)
      · exact (h.wrote _ _).mono (by omega)

theorem wrapn {k : Nat} (h : k ≤ 1000000000000) : IntKind.i64.wrap (k : Int) = k := by rw [IntKind.wrap_i64]; omega
/-- Between two rounds of scrub. -/
structure ScMid (a : Nat) (all : ByteArray) (used z : Nat) (f0 : List Nat) (w0 w : World) (b : Nat) (S0 : Dk) (m k n : Nat) : Prop where
  ex : ∃ S f, DkF w f b S ∧ Mv f0 w0 f w ∧ S.Lim (m + n) ∧ S.n = S0.n ∧ Dk.scrb a all used (z - k) k n S = Dk.scrb a all used (z - used / 64) (used / 64) 0 S0
set_option maxHeartbeats 3200000 in
set_option maxRecDepth 20000 in
theorem scrub_any {w : World} {f : List Nat} {b : Nat} {S : Dk} (D : DkF w f b S) (hn : 4 ≤ S.n) (h : Nat) (hh : h ≤ 1) (all : ByteArray) (z : Nat) (hz : all.size = 64 * z) (hzs : z ≤ 1000) (used : Nat) (hu : used ≤ 64 * z) (hG : Gl w) (m : Nat) (hm : S.Lim m) (hmm : m + z < 4294967295) :
    Calls Tryz.prog 62 #[.pointer (some ⟨b, 0, none⟩), .int .i64 (h : Int), .string all, .int .i64 (used : Int)] w fun e w2 => ∃ v f2, e = .returned (.tuple #[.int .i64 ((Dk.scrb (hat S.n h) all used (z - used / 64) (used / 64) 0 S).1 : Int), v]) ∧ DAns (Dk.scrb (hat S.n h) all used (z - used / 64) (used / 64) 0 S).2.1 v ∧ DkF w2 f2 b (Dk.scrb (hat S.n h) all used (z - used / 64) (used / 64) 0 S).2.2 ∧ Mv f w f2 w2 := by
  have hn2 := D.n2
  obtain ⟨a, ha⟩ : ∃ a, a = hat S.n h := ⟨_, rfl⟩
  have ha2 : a ≤ 2000000 := by have := hat_le S.n h (by omega) hh; omega
  have H0 : Hid (ScMid a all used z f w w b S m (used / 64) 0) := ⟨S, f, D, Mv.refl f w, hm, rfl, rfl⟩
  have HG : Hid (∀ f2 w2, Mv f w f2 w2 → Gl w2) := fun f2 w2 h => hG.mv D h
  have HA : Hid (∀ (S2 : Dk) (f2 : List Nat) (w2 : World), S2.n = S.n → DkF w2 f2 b S2 → Calls Tryz.prog 73 #[.pointer (some ⟨b, 0, none⟩), .int .i64 (h : Int)] w2 fun e w3 => e = .returned (.int .i64 (a : Int)) ∧ w2 = w3) := fun S2 f2 w2 h1 h2 => by
    have := halfAt_any h2 (by omega) h hh
    rw [h1, ← ha] at this
    exact this
  rw [← ha]
  obtain ⟨q0, hq0⟩ : ∃ q0, q0 = 64 * (used / 64) := ⟨_, rfl⟩
  have e0 : (used : Int) - (used : Int).tmod 64 = (q0 : Int) := by rw [Int.tmod_eq_emod_of_nonneg (by omega)]; omega
  have e0' : (used : Int) - (used : Int) % 64 = (q0 : Int) := by omega
  have Hq0 := Lib.hid hq0
  have Hz := Lib.hid hz
  clear D hG hm ha hq0 hz
  go_enter Tryz.func62, Tryz.ntmps62
  go_wp2_with fail
  go_loopw [10, 11] (fun c i wr => ∃ (k q n : Nat), q = 64 * k ∧ i = .int .i64 (q : Int) ∧ c = .int .i64 (n : Int) ∧ n + used / 64 ≤ k ∧ used / 64 ≤ k ∧ k ≤ z ∧ Hid (ScMid a all used z f w wr b S m k n)) (fun _ i _ => all.size + 64 - (intOf i).toNat)
  case atStart => exact ⟨used / 64, q0, 0, Hq0.out, rfl, rfl, by omega, by omega, by omega, H0⟩
  case round =>
    clear H0
    have hz := Hz.out
    obtain ⟨k, q, n, hq, rfl, rfl, hnk, hk, hkz, HM⟩ := hrel
    by_cases hlt : q < all.size
    · have l1 : decide ((q : Int) < (all.size : Int)) = true := by simpa using hlt
      have hk1 : k + 1 ≤ z := by omega
      have e1 : (q : Int).tdiv 64 = (k : Int) := by rw [Int.tdiv_eq_ediv_of_nonneg (by omega)]; omega
      obtain ⟨r, hr⟩ : ∃ r, r = max used q := ⟨_, rfl⟩
      have e2 : max (used : Int) (q : Int) = (r : Int) := by omega
      obtain ⟨t, ht⟩ : ∃ t, t = q + 64 := ⟨_, rfl⟩
      have e4 : (q : Int) + 64 = (t : Int) := by omega
      have hqr : q ≤ r := by omega
      have hrt : r ≤ t := by omega
      have hts : t ≤ all.size := by omega
      have hrs : r ≤ all.size := by omega
      have hc1 : all.extract r t = restS all used k := by unfold restS; rw [hr, ht, hq]
      have hc2 : all.extract q r = keptS all used k := by unfold keptS; rw [hr, hq]
      have hc3 : (restS all used k).size ≤ 64 := by unfold restS; rw [ByteArray.size_extract]; omega
      obtain ⟨p, hp⟩ : ∃ p : Nat, p = a + k := ⟨_, rfl⟩
      have e3 : (a : Int) + (k : Int) = (p : Int) := by omega
      have hp1 : p ≤ 4000000 := by omega
      have e5 : IntKind.i64.wrap ((a : Int) + IntKind.i64.wrap (k : Int)) = (p : Int) := by rw [wrapn (by omega), e3, wrapn (by omega)]
      have Hq := Lib.hid hq
      have Hk := Lib.hid (And.intro hnk (And.intro hk (And.intro hkz hk1)))
      have Hp := Lib.hid hp
      have Ht := Lib.hid ht
      have hn9 : n ≤ 1000 := by omega
      have hmn : m + n < 4294967295 := by omega
      have ht9 : t ≤ 100000 := by omega
      have hr9 : r ≤ 100000 := by omega
      clear hq hnk hk hkz hk1 hr hp ht hz
      go_wp2_with fail
      refine Calls.mono (isZero_any (restS all used k) (by omega) _) ?_
      rintro e x1 ⟨rfl, K1⟩
      obtain ⟨Sk, fk, Dk1, Mk, Lk, Nk, Rk⟩ := HM.out.ex
      have Dk2 := Lib.hid (Dk1.kept K1)
      have Mk2 := Lib.hid (Mk.kp0 K1)
      have hwr := Rk
      rw [show z - k = (z - (k + 1)) + 1 by have := Hk.out; omega, Dk.scrb, ← Hp.out] at hwr
      have HWR := Lib.hid hwr
      have HL := Lib.hid Lk
      have HN := Lib.hid Nk
      clear hwr Rk Dk1 Mk K1 Lk Nk HM
      cases hzz : isZ (restS all used k)
      · have HZ := Lib.hid hzz
        clear hzz
        go_wp2_with fail
        focus
          go_region_held3 (fun _ => True) (exact trivial) (first | (go_at_call 73; refine Calls.mono (HA.out Sk fk _ HN.out (Dk2.out.kept (Kp.refl [] x1).drew)) ?_; rintro e x2 ⟨rfl, rfl⟩) | (go_at_call 60; (try rw [e5]); refine Calls.mono (f_write (Dk2.out.kept (Kp.refl [] x1).drew) (p : Int) (keptS all used k) (by omega) (by omega) ((HG.out _ _ Mk2.out).kept (Kp.refl [] x1).drew) (m + n) HL.out hmn) ?_; rintro e x3 ⟨v, f2, rfl, hv, D2, M2⟩))
        have HMv : Hid (Mv f w f2 x3) := Mk2.out.trans ((Mv.of_kp (Kp.refl [] x1).drew fk).trans M2)
        have HD2 := Lib.hid D2
        clear M2 D2 Mk2 Dk2
        have hwr := HWR.out
        rw [if_neg (by rw [HZ.out]; decide)] at hwr
        have HWR2 := Lib.hid hwr
        clear hwr HWR
        rcases hv with ⟨rfl, h0⟩ | ⟨⟨tt, rfl⟩, h0⟩
        · have H5 : Hid (ScMid a all used z f w x3 b S m (k + 1) (n + 1)) := by
            have hwr := HWR2.out
            rw [if_pos h0] at hwr
            exact ⟨_, _, HD2.out, HMv.out, HL.out.wrote _ _, (Dk.wrote_n _ _ _).trans HN.out, hwr⟩
          clear HWR2 HD2 HMv h0
          go_wp2_with fail
          go_roundw
          case rel => exact ⟨k + 1, t, n + 1, by have := Hq.out; have := Ht.out; omega, by go_num, by go_num, by have := Hk.out; omega, by have := Hk.out; omega, by have := Hk.out; omega, H5⟩
          case measure => have hz := Hz.out; simp [intOf]; omega
        · have HO := Lib.hid (ofDisk_ref tt (Sk.werr (p : Int) (keptS all used k).size))
          unfold dkRef at HO
          have H6 := Lib.hid h0
          clear h0
          go_wp2_with fail
          refine Calls.mono (HO.out _) ?_
          rintro e w3 ⟨rfl, rfl⟩
          unfold dErr dkRef
          go_wp2_with fail
          go_ret2
          have hwr := HWR2.out
          rw [if_neg H6.out] at hwr
          rw [← hwr]
          exact ⟨_, _, rfl, .inr ⟨⟨tt, rfl⟩, H6.out⟩, HD2.out, HMv.out⟩
      · have HZ := Lib.hid hzz
        clear hzz
        go_wp2_with fail
        have H5 : Hid (ScMid a all used z f w x1 b S m (k + 1) n) := by
          have hwr := HWR.out
          rw [if_pos HZ.out] at hwr
          exact ⟨_, _, Dk2.out, Mk2.out, HL.out, HN.out, hwr⟩
        go_roundw
        case rel => exact ⟨k + 1, t, n, by have := Hq.out; have := Ht.out; omega, by go_num, rfl, by have := Hk.out; omega, by have := Hk.out; omega, by have := Hk.out; omega, H5⟩
        case measure => have hz := Hz.out; simp [intOf]; omega
    · have l1 : decide ((q : Int) < (all.size : Int)) = false := by simpa using hlt
      have H5 : Hid (∃ f2, DkF wr f2 b (Dk.scrb a all used (z - used / 64) (used / 64) 0 S).2.2 ∧ Mv f w f2 wr ∧ (Dk.scrb a all used (z - used / 64) (used / 64) 0 S).2.1 = 0 ∧ (Dk.scrb a all used (z - used / 64) (used / 64) 0 S).1 = n) := by
        obtain ⟨Sk, fk, Dk1, Mk, Lk, Nk, Rk⟩ := HM.out.ex
        rw [show z - k = 0 by omega, Dk.scrb] at Rk
        rw [← Rk]
        exact ⟨_, Dk1, Mk, rfl, rfl⟩
      clear HM hq hk hnk hkz hz
      go_wp2_with fail
      go_ret2
      obtain ⟨f2, h1, h2, h3, h4⟩ := H5.out
      rw [h4]
      exact ⟨_, f2, rfl, .inl ⟨rfl, h3⟩, h1, h2⟩
end Go.Proofs.YtggnljfcdohkaaaGreatDoor
