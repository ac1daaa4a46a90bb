/- The walk of the law JournalNone. -/
import Derived.Test.YtblchlgoejmnmaaGreatDoorJnKn
import Derived.Test.YtblchlgoejmnmaaGreatDoorJnE2
namespace Go.Proofs.YtblchlgoejmnmaaGreatDoor
open Go.RowKit

/-- A sector that begins with a byte that no superblock begins with. -/
theorem superS_long (c : UInt8) (hc : c.toNat = 120 ∨ c.toNat = 121) (s : ByteArray) (hs : (⟨#[c]⟩ ++ s).size ≤ 64) : superS ⟨(fillUp (⟨#[c]⟩ ++ s)).toArray⟩ = none := by
  obtain ⟨T, hT⟩ : ∃ T : ByteArray, T = ⟨(fillUp (⟨#[c]⟩ ++ s)).toArray⟩ := ⟨_, rfl⟩
  have hsz : T.size = 64 := by rw [hT, ba_size, ba_list, fillUp_length _ hs]
  have hl : T.data.toList = c :: (s.data.toList ++ List.replicate (64 - (⟨#[c]⟩ ++ s).size) 0) := by
    rw [hT, ba_list]
    unfold fillUp
    rw [ba_app]
    rfl
  rw [← hT]
  have htk : takeL 0 0 T.data.toList = (0, c.toNat, 1) := by
    rw [hl]
    unfold takeL
    rw [if_neg (by omega), if_pos (by omega)]
    simp
  have ht : turnS T = (13, 0) := by
    unfold turnS ttS
    rw [htk, hsz]
    simp only
    rw [if_pos (by omega)]
  exact superS_turn ht
theorem count_none {S : Dk} (h0 : superS (S.read 0) = none) (h1 : superS (S.read 1) = none) : countV S = (0, 0, 0) := by
  unfold countV
  show bst (superS (S.read 1)) 1 (bst (superS (S.read 0)) 0 (0, 0, 0)) = _
  rw [h0, h1]; rfl
/-- Open where there is no superblock. -/
theorem s_none {w : World} {f : List Nat} {b : Nat} {S : Dk} {m : Nat} (D : DkF w f b S) (hS : S.Fine m) (hG : Gl w) (hm : m ≤ 1000000) (h0 : superS (S.read 0) = none) (h1 : superS (S.read 1) = none) :
    Calls Tryz.prog 13 #[.pointer (some ⟨b, 0, none⟩)] w fun e w2 => (∃ v, JErr 10 v ∧ e = .returned (.tuple #[.pointer none, .slice none 0 0, v])) ∧ ∃ f2, DkF w2 f2 b S ∧ Mv f w f2 w2 := by
  have hc := count_none h0 h1
  have hE : S.OErr = 10 := by unfold Dk.OErr; rw [hS.dead, hc]; rfl
  have hK : S.ODk = S := by unfold Dk.ODk; rw [hS.dead, hc]; rfl
  refine (Open_any D hS.n4 hG (by rw [hc]; decide) m hS.ok.lim (by omega)).mono ?_
  rintro e w2 ⟨f2, hM, ⟨_, ⟨v, rfl, hv⟩, hD⟩ | ⟨h, _⟩⟩
  · rw [hE] at hv
    rw [hK] at hD
    exact ⟨⟨v, hv, rfl⟩, f2, hD, hM⟩
  · rw [hE] at h; cases h
theorem s_write {w : World} {f : List Nat} {b : Nat} {S : Dk} {m : Nat} (D : DkF w f b S) (hS : S.Fine m) (hG : Gl w) (hm : m ≤ 1000000) (p : Nat) (hp : p < S.n) (s : ByteArray) (hs : s.size ≤ 64) :
    Calls Tryz.prog 33 #[.pointer (some ⟨b, 0, none⟩), .int .i64 (p : Int), .string s] w fun e w2 => e = .returned .nilIface ∧ ∃ f2, DkF w2 f2 b (S.wrote (p : Int) s) ∧ Mv f w f2 w2 := by
  have hn2 := D.n2
  refine (f_write D (p : Int) s (by omega) (by omega) hG m hS.ok.lim (by omega)).mono ?_
  rintro e w2 ⟨v, f2, rfl, hv, D2, M2⟩
  rcases hv with ⟨rfl, _⟩ | ⟨_, h0⟩
  · exact ⟨rfl, f2, D2, M2⟩
  · exact absurd (hS.werr p hp s.size hs) h0
def noX (a : ByteArray) : ByteArray := ⟨#[120]⟩ ++ a
def noY (a : ByteArray) : ByteArray := ⟨#[121]⟩ ++ a
set_option maxHeartbeats 6400000 in
set_option maxRecDepth 100000 in
theorem none_any (n : Nat) (hn : n < 256) (a c : ByteArray) (w : World) (hg : 7 ≤ w.heap.size) (hG : Gl w) :
    Calls Tryz.prog 6 #[.int .u8 (n : Int), .string a, .string c] w fun e w2 => e = .returned (.bool true) ∧ Kp [] w w2 := by
  have HG := Lib.hid hG
  have HW := Lib.hid hg
  have HK := Lib.hid (known_any w hg hG)
  clear hG hg
  by_cases hac : 20 < a.size ∨ 20 < c.size
  · have d1 : decide ((20 : Int) < (a.size : Int)) = true ∨ (decide ((20 : Int) < (a.size : Int)) = false ∧ decide ((20 : Int) < (c.size : Int)) = true) := by
      by_cases h : 20 < a.size
      · left; simp; omega
      · right; exact ⟨by simp; omega, by simp; omega⟩
    clear hac
    rcases d1 with d1 | ⟨d1, d2⟩
    all_goals
      go_enter Tryz.func6, Tryz.ntmps6
      go_wp2_with fail
      refine Calls.mono HK.out ?_
      rintro e x1 ⟨rfl, K⟩
      have K1 := Lib.hid K
      clear K
      go_wp2_with fail
      go_ret
      exact ⟨rfl, K1.out⟩
  have d1 : decide ((20 : Int) < (a.size : Int)) = false := by simp; omega
  have d2 : decide ((20 : Int) < (c.size : Int)) = false := by simp; omega
  have ha : a.size ≤ 20 := by omega
  have hc : c.size ≤ 20 := by omega
  have hxs : (noX a).size ≤ 64 := by unfold noX; rw [ByteArray.size_append]; show 1 + a.size ≤ 64; omega
  have hys : (noY c).size ≤ 64 := by unfold noY; rw [ByteArray.size_append]; show 1 + c.size ≤ 64; omega
  obtain ⟨k, hk⟩ : ∃ k, k = n % 40 + 4 := ⟨_, rfl⟩
  have hk4 : 4 ≤ k ∧ k ≤ 44 := by omega
  have hcl : clampN (k : Int) = k := by unfold clampN; omega
  have F0 : (Dk.new k).Fine 0 := Dk.Fine.new k hk4.1 (by omega)
  have hz0 : ∀ i, superS ((Dk.new k).read i) = none := fun i => superS_zero
  obtain ⟨S0, hS0⟩ : ∃ S0, S0 = Dk.new k := ⟨_, rfl⟩
  rw [← hS0] at F0 hz0
  have hn0 : S0.n = k := by rw [hS0]; rfl
  obtain ⟨S1, hS1⟩ : ∃ S1, S1 = S0.fmt.2 := ⟨_, rfl⟩
  have hf1 := F0.fmt
  rw [← hS1] at hf1
  obtain ⟨S2, hS2⟩ : ∃ S2, S2 = S1.wrote (0 : Nat) (noX a) := ⟨_, rfl⟩
  have hf2 := hf1.2.1.wrote 0 (by have := hf1.2.1.n4; omega) (noX a) hxs
  rw [← hS2] at hf2
  obtain ⟨S3, hS3⟩ : ∃ S3, S3 = S2.wrote (1 : Nat) (noY c) := ⟨_, rfl⟩
  have hf3 := hf2.1.wrote 1 (by have := hf2.1.n4; omega) (noY c) hys
  rw [← hS3] at hf3
  have hr0 : superS (S3.read 0) = none := by
    unfold Dk.read
    rw [hf3.2.1]
    show superS ⟨(upd S2.C 1 (fillUp (noY c)) 0).toArray⟩ = none
    rw [hf2.2.1]
    exact superS_long 120 (.inl rfl) a hxs
  have hr1 : superS (S3.read 1) = none := by
    unfold Dk.read
    rw [hf3.2.1]
    exact superS_long 121 (.inr rfl) c hys
  have HF0 := Lib.hid F0
  have HF1 := Lib.hid hf1.2.1
  have HF2 := Lib.hid hf2.1
  have HF3 := Lib.hid hf3.1
  have HZ := Lib.hid (And.intro hz0 (And.intro hr0 hr1))
  have HS := Lib.hid (And.intro hS0 (And.intro hS1 (And.intro hS2 hS3)))
  have HCL := Lib.hid hcl
  have HXY := Lib.hid (And.intro hxs hys)
  have e1 : IntKind.u8.wrap ((n : Int).tmod 40) = ((n % 40 : Nat) : Int) := by rw [Int.tmod_eq_emod_of_nonneg (by omega), IntKind.wrap_u8]; omega
  have e2 : (n : Int).tmod 40 = ((n % 40 : Nat) : Int) := by rw [Int.tmod_eq_emod_of_nonneg (by omega)]; omega
  have e3 : ((n % 40 : Nat) : Int) + 4 = (k : Int) := by omega
  have hno1 : ¬ 9223372036854775807 < 1 + a.size := by omega
  have hno2 : ¬ 9223372036854775807 < 1 + c.size := by omega
  obtain ⟨n40, hn40⟩ : ∃ n40, n40 = n % 40 := ⟨_, rfl⟩
  rw [← hn40] at e1 e2 e3
  have hn409 : n40 ≤ 40 := by omega
  clear F0 hz0 hn0 hf1 hf2 hf3 hr0 hr1 hS0 hS1 hS2 hS3 hcl hxs hys hk hac hn40
  go_enter Tryz.func6, Tryz.ntmps6
  go_wp2_with fail
  refine Calls.mono HK.out ?_
  rintro e x0 ⟨rfl, K⟩
  have K0 := Lib.hid K
  clear K HK
  go_wp2_with fail
  refine (f_new (k : Int) x0 (Nat.le_trans HW.out K0.out.size)).mono ?_
  rintro e x1 ⟨b, f1, rfl, D, K, hnew⟩
  rw [HCL.out, ← HS.out.1] at D
  have D1 := Lib.hid D
  have F1 : Hid (Fr w x1 f1) := ⟨K0.out.trans K, fun y hy => Nat.le_trans K0.out.size (hnew y hy)⟩
  clear D K hnew e1 e2 e3
  go_wp2_with fail
  refine Calls.mono (s_none D1.out HF0.out (F1.out.gl HG.out) (by omega) (HZ.out.1 0) (HZ.out.1 1)) ?_
  rintro e x2 ⟨⟨v, hv, rfl⟩, f2, D, M⟩
  have D2 := Lib.hid D
  have F2 : Hid (Fr w x2 f2) := F1.out.step M
  obtain ⟨vx, rfl⟩ := hv.iface
  have HV1 := Lib.hid hv
  clear D M D1 F1 hv
  go_wp2_with fail
  refine Calls.mono (s_format D2.out HF0.out (F2.out.gl HG.out) (by omega)) ?_
  rintro e x3 ⟨rfl, f3, D, M⟩
  rw [← HS.out.2.1] at D
  have D3 := Lib.hid D
  have F3 : Hid (Fr w x3 f3) := F2.out.step M
  clear D M D2 F2
  go_wp2_with fail
  refine Calls.mono (s_write D3.out HF1.out (F3.out.gl HG.out) (by omega) 0 (by have := HF1.out.n4; omega) (noX a) HXY.out.1) ?_
  rintro e x4 ⟨rfl, f4, D, M⟩
  rw [← HS.out.2.2.1] at D
  have D4 := Lib.hid D
  have F4 : Hid (Fr w x4 f4) := F3.out.step M
  clear D M D3 F3
  go_wp2_with fail
  refine Calls.mono (s_write D4.out HF2.out (F4.out.gl HG.out) (by omega) 1 (by have := HF2.out.n4; omega) (noY c) HXY.out.2) ?_
  rintro e x5 ⟨rfl, f5, D, M⟩
  rw [← HS.out.2.2.2] at D
  have D5 := Lib.hid D
  have F5 : Hid (Fr w x5 f5) := F4.out.step M
  clear D M D4 F4
  go_wp2_with fail
  refine Calls.mono (s_none D5.out HF3.out (F5.out.gl HG.out) (by omega) HZ.out.2.1 HZ.out.2.2) ?_
  rintro e x6 ⟨⟨v, hv, rfl⟩, f6, D, M⟩
  have F6 : Hid (Fr w x6 f6) := F5.out.step M
  obtain ⟨vy, rfl⟩ := hv.iface
  have HV2 := Lib.hid hv
  clear D M D5 F5 hv
  go_wp2_with fail
  refine Calls.mono (is_jerr HV1.out _) ?_
  rintro e x7 ⟨rfl, K⟩
  have F7 : Hid (Fr w x7 f6) := F6.out.kept K
  clear K F6
  go_wp2_with fail
  refine Calls.mono (is_jerr HV2.out _) ?_
  rintro e x8 ⟨rfl, K⟩
  have F8 : Hid (Fr w x8 f6) := F7.out.kept K
  clear K F7
  go_wp2_with fail
  go_ret
  exact ⟨rfl, F8.out.kp⟩
end Go.Proofs.YtblchlgoejmnmaaGreatDoor
