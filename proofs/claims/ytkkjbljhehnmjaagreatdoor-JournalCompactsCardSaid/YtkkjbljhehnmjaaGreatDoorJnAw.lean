/- Records added one behind the other: plain mathematics, for the walk of the law's adds. -/
import Derived.Test.YtkkjbljhehnmjaaGreatDoorJnCs
namespace Go.Proofs.YtkkjbljhehnmjaaGreatDoor
open Go.RowKit

/-- A journal and its disk after so many records of a row. -/
def addSt (S : Dk) (J : Jn) (sx : Nat → ByteArray) : Nat → Dk × Jn
  | 0 => (S, J)
  | k + 1 => ((addWr (addSt S J sx k).1 (addSt S J sx k).2 (sx k)).2, addJ (addSt S J sx k).2 (sx k))
theorem addSt_succ (S : Dk) (J : Jn) (sx : Nat → ByteArray) (k : Nat) : addSt S J sx (k + 1) = ((addWr (addSt S J sx k).1 (addSt S J sx k).2 (sx k)).2, addJ (addSt S J sx k).2 (sx k)) := rfl
theorem addSt_mid {S : Dk} {m : Nat} {J : Jn} {l : List ByteArray} (h : JSt S m J l) (sx : Nat → ByteArray) (n z : Nat) (hz : z ≤ 2010) (hs : ∀ i, i < n → (sx i).size ≤ z) (hc : J.count + n ≤ 1000000) (hu : J.used + (z + 30) * n ≤ hl S.n * 64) :
    ∀ k, k ≤ n → JSt (addSt S J sx k).1 (m + 40 * k) (addSt S J sx k).2 (l ++ firstN sx k) ∧ (addSt S J sx k).1.n = S.n ∧ (addSt S J sx k).1.F = S.F ∧ (addSt S J sx k).2.count = J.count + k ∧ (addSt S J sx k).2.used ≤ J.used + (z + 30) * k
      ∧ (addSt S J sx k).2.turn = J.turn ∧ (addSt S J sx k).2.half = J.half ∧ (addSt S J sx k).2.at_ = J.at_
      ∧ (k < n → (addSt S J sx k).2.count + 1 ≤ 1000000 ∧ (addW (addSt S J sx k).2 (sx k)).size ≤ hl (addSt S J sx k).1.n * 64 - (addSt S J sx k).2.used)
  | 0, _ => by
    refine ⟨?_, rfl, rfl, rfl, Nat.le_refl _, rfl, rfl, rfl, fun hk => ⟨?_, ?_⟩⟩
    · show JSt S (m + 0) J (l ++ [])
      rw [List.append_nil]
      exact h
    · show J.count + 1 ≤ _; omega
    · show (addW J (sx 0)).size ≤ hl S.n * 64 - J.used
      have h1 := addW_le J S.n h.ok (sx 0) (by have := hs 0 hk; omega)
      have h2 := hs 0 hk
      have h3 : (z + 30) * 1 ≤ (z + 30) * n := Nat.mul_le_mul_left _ hk
      omega
  | k + 1, hk => by
    obtain ⟨i1, i2, i3, i4, i5, i6, i7, i8, i9⟩ := addSt_mid h sx n z hz hs hc hu k (by omega)
    obtain ⟨q1, q2⟩ := i9 (by omega)
    have hk2 := hs k (by omega)
    have hw := addW_le _ _ i1.ok (sx k) (by omega)
    obtain ⟨_, a2, a3, a4⟩ := i1.add (sx k) (by omega) q1 q2
    rw [addSt_succ]
    have hm : (z + 30) * (k + 1) = (z + 30) * k + (z + 30) := Nat.mul_succ _ _
    have hu2 : (addJ (addSt S J sx k).2 (sx k)).used ≤ J.used + (z + 30) * (k + 1) := by
      show (addSt S J sx k).2.used + (addW (addSt S J sx k).2 (sx k)).size ≤ _
      omega
    have hc2 : (addJ (addSt S J sx k).2 (sx k)).count = J.count + (k + 1) := by
      show (addSt S J sx k).2.count + 1 = _
      omega
    have hJ : JSt (addWr (addSt S J sx k).1 (addSt S J sx k).2 (sx k)).2 (m + 40 * (k + 1)) (addJ (addSt S J sx k).2 (sx k)) (l ++ firstN sx (k + 1)) := by
      have e1 : l ++ firstN sx (k + 1) = l ++ firstN sx k ++ [sx k] := by
        show l ++ (firstN sx k ++ [sx k]) = _
        rw [List.append_assoc]
      rw [e1, show m + 40 * (k + 1) = m + 40 * k + 40 by omega]
      exact a2
    refine ⟨hJ, a4.trans i2, a3.trans i3, hc2, hu2, i6, i7, i8, fun hk3 => ⟨?_, ?_⟩⟩
    · show (addJ (addSt S J sx k).2 (sx k)).count + 1 ≤ _
      omega
    · show (addW (addJ (addSt S J sx k).2 (sx k)) (sx (k + 1))).size ≤ hl (addWr (addSt S J sx k).1 (addSt S J sx k).2 (sx k)).2.n * 64 - (addJ (addSt S J sx k).2 (sx k)).used
      have h1 := addW_le _ _ hJ.ok (sx (k + 1)) (by have := hs (k + 1) hk3; omega)
      have h2 := hs (k + 1) hk3
      have h3 : (z + 30) * (k + 2) ≤ (z + 30) * n := Nat.mul_le_mul_left _ hk3
      have h4 : (z + 30) * (k + 2) = (z + 30) * (k + 1) + (z + 30) := Nat.mul_succ _ _
      have h5 : (addWr (addSt S J sx k).1 (addSt S J sx k).2 (sx k)).2.n = S.n := a4.trans i2
      rw [h5]
      omega
end Go.Proofs.YtkkjbljhehnmjaaGreatDoor
/- JournalAgain's helpers: long, adds, filled. -/
namespace Go.Proofs.YtkkjbljhehnmjaaGreatDoor
open Go.RowKit

set_option maxHeartbeats 3200000 in
set_option maxRecDepth 20000 in
/-- Is a record longer than 150 bytes? -/
theorem long_any (a : Option Addr) (n c : Nat) (hn : n ≤ 100000) (sx : Nat → ByteArray) (w : World) (hR : StrsAt w w.heap.size a n sx) :
    Calls Tryz.prog 29 #[.slice a n c] w fun e w2 => ((e = .returned (.bool true)) ∨ (e = .returned (.bool false) ∧ ∀ i, i < n → (sx i).size ≤ 150)) ∧ w = w2 := by
  have HR := Lib.hid hR
  clear hR
  go_enter Tryz.func29, Tryz.ntmps29
  go_wp2_with fail
  go_loopw [3] (fun i wr => ∃ (k : Nat), k ≤ n ∧ i = .int .i64 (k : Int) ∧ Hid (∀ i, i < k → (sx i).size ≤ 150) ∧ w = wr) (fun i _ => n - (intOf i).toNat)
  case atStart => exact ⟨0, Nat.zero_le _, rfl, (fun i hi => by omega), rfl⟩
  case round =>
    obtain ⟨k, hk, rfl, HS, rfl⟩ := hrel
    by_cases hlt : k < n
    · have l1 : decide ((k : Int) < (n : Int)) = true := by simpa using hlt
      have l1' : decide (k < n) = true := by simpa using hlt
      obtain ⟨g, o, rfl, hg, hc⟩ := HR.out k hlt
      obtain ⟨s, hs⟩ : ∃ s, s = sx k := ⟨_, rfl⟩
      rw [← hs] at hc
      by_cases h2 : 150 < s.size
      · have d1 : decide ((150 : Int) < (s.size : Int)) = true := by simp; omega
        clear hs HS
        go_wp2_with fail
        go_ret
        exact ⟨.inl rfl, rfl⟩
      · have d1 : decide ((150 : Int) < (s.size : Int)) = false := by simp; omega
        have HX : Hid (∀ i, i < k + 1 → (sx i).size ≤ 150) := fun i hi => by
          rcases Nat.lt_or_ge i k with h | h
          · exact HS.out i h
          · obtain rfl : i = k := by omega
            rw [← hs]; omega
        clear hs HS
        go_wp2_with fail
        go_roundw
        case rel => exact ⟨k + 1, by omega, by go_num, HX, trivial⟩
        case measure => simp [intOf]; omega
    · have l1 : decide ((k : Int) < (n : Int)) = false := by simpa using hlt
      have l1' : decide (k < n) = false := by simpa using hlt
      obtain rfl : k = n := by omega
      clear hlt
      go_wp2_with fail
      go_ret
      exact ⟨.inr ⟨rfl, HS.out⟩, rfl⟩
/-- What adds needs. -/
structure AddsPre (S : Dk) (m : Nat) (J : Jn) (l : List ByteArray) (sx : Nat → ByteArray) (n z : Nat) : Prop where
  st : JSt S m J l
  z9 : z ≤ 2010
  s : ∀ i, i < n → (sx i).size ≤ z
  c : J.count + n ≤ 1000000
  u : J.used + (z + 30) * n ≤ hl S.n * 64
  m : m + 40 * n ≤ 1000000
/-- Between two rounds of adds. -/
def AddsMid (S : Dk) (J : Jn) (sx : Nat → ByteArray) (f : List Nat) (b j : Nat) (w w2 : World) (k : Nat) : Prop :=
  ∃ f2, JF w2 f2 b j (addSt S J sx k).1 (addSt S J sx k).2 ∧ Mv (j :: f) w (j :: f2) w2
set_option maxHeartbeats 3200000 in
set_option maxRecDepth 20000 in
theorem adds_any {w : World} {f : List Nat} {b j : Nat} {S : Dk} {m : Nat} {J : Jn} {l : List ByteArray} {n z : Nat} {sx : Nat → ByteArray} (P : AddsPre S m J l sx n z) (D : JF w f b j S J) (hG : Gl w) (a : Option Addr) (c : Nat) (hn : n ≤ 100000)
    (hR : ∀ w2 f2, Mv (j :: f) w (j :: f2) w2 → StrsAt w2 w2.heap.size a n sx) :
    Calls Tryz.prog 30 #[.pointer (some ⟨j, 0, none⟩), .slice a n c] w fun e w2 => e = .returned (.bool true) ∧ AddsMid S J sx f b j w w2 n := by
  have HR := Lib.hid hR
  have HP := Lib.hid P
  have HG := Lib.hid hG
  have HD := Lib.hid D
  have M0 : Hid (AddsMid S J sx f b j w w 0) := ⟨f, D, Mv.of_kp (Kp.refl _ _) _⟩
  clear hR P D hG
  go_enter Tryz.func30, Tryz.ntmps30
  go_wp2_with fail
  go_loopw [5] (fun i wr => ∃ (k : Nat), k ≤ n ∧ i = .int .i64 (k : Int) ∧ Hid (AddsMid S J sx f b j w wr k)) (fun i _ => n - (intOf i).toNat)
  case atStart => exact ⟨0, Nat.zero_le _, rfl, M0⟩
  case round =>
    clear M0
    obtain ⟨k, hk, rfl, HM⟩ := hrel
    by_cases hlt : k < n
    · have l1 : decide ((k : Int) < (n : Int)) = true := by simpa using hlt
      have l1' : decide (k < n) = true := by simpa using hlt
      obtain ⟨f2, D, M⟩ := HM.out
      obtain ⟨g, o, rfl, hg, hc⟩ := HR.out wr f2 M k hlt
      obtain ⟨i1, _, _, _, _, _, _, _, i9⟩ := addSt_mid HP.out.st sx n z HP.out.z9 HP.out.s HP.out.c HP.out.u k hk
      obtain ⟨q1, q2⟩ := i9 hlt
      have hG2 : Gl wr := HG.out.keep M.kp HD.out.gl
      have HA := Lib.hid (s_add D i1 hG2 (by have := HP.out.m; omega) (sx k) (by have := HP.out.s k hlt; have := HP.out.z9; omega) q1 q2)
      have HM2 := Lib.hid M
      clear D M i1 i9 q1 q2 hG2 HM
      go_wp2_with fail
      refine Calls.mono HA.out ?_
      rintro e x1 ⟨rfl, f3, D3, M3⟩
      have HM3 : Hid (AddsMid S J sx f b j w x1 (k + 1)) := ⟨f3, D3, HM2.out.trans M3⟩
      clear D3 M3 hc
      go_wp2_with fail
      go_roundw
      case rel => exact ⟨k + 1, by omega, by go_num, HM3⟩
      case measure => simp [intOf]; omega
    · have l1 : decide ((k : Int) < (n : Int)) = false := by simpa using hlt
      have l1' : decide (k < n) = false := by simpa using hlt
      obtain rfl : k = n := by omega
      clear hlt
      go_wp2_with fail
      go_ret
      exact ⟨rfl, HM.out⟩
end Go.Proofs.YtkkjbljhehnmjaaGreatDoor
/- The reference's SameTexts over two rows that lie in memory. -/
namespace Go.Proofs.YtkkjbljhehnmjaaGreatDoor
open Go.RowKit

set_option maxHeartbeats 3200000 in
set_option maxRecDepth 20000 in
theorem same_texts (a a2 : Option Addr) (n c c2 : Nat) (hn : n ≤ 100000) (sx sy : Nat → ByteArray) (w : World) (hR : StrsAt w w.heap.size a n sx) (hR2 : StrsAt w w.heap.size a2 n sy) (hs : ∀ i, i < n → sx i = sy i) :
    Calls Tryz.prog 22 #[.slice a n c, .slice a2 n c2] w fun e w2 => e = .returned (.bool true) ∧ Kp [] w w2 := by
  have HR := Lib.hid hR
  have HR2 := Lib.hid hR2
  have HS := Lib.hid hs
  clear hR hR2 hs
  go_enter Tryz.func22, Tryz.ntmps22
  go_wp2_with fail
  go_loopw [5] (fun i wr => ∃ (k : Nat), k ≤ n ∧ i = .int .i64 (k : Int) ∧ Hid (Kp [] w wr)) (fun i _ => n - (intOf i).toNat)
  case atStart => exact ⟨0, Nat.zero_le _, rfl, Kp.refl _ _⟩
  case round =>
    obtain ⟨k, hk, rfl, HK⟩ := hrel
    by_cases hlt : k < n
    · have l1 : decide ((k : Int) < (n : Int)) = true := by simpa using hlt
      have l1' : decide (k < n) = true := by simpa using hlt
      obtain ⟨g, o, rfl, hg, hc⟩ := HR.out k hlt
      obtain ⟨g2, o2, rfl, hg2, hc2⟩ := HR2.out k hlt
      rw [← HS.out k hlt] at hc2
      obtain ⟨s, hs⟩ : ∃ s, s = sx k := ⟨_, rfl⟩
      rw [← hs] at hc hc2
      clear hs
      have Kd : Kp [] w wr.drew := HK.out.drew
      have d1 : wr.drew.cell? ⟨g, o + k, none⟩ = some (.string s) := (Kd.cell0 hg).trans hc
      have d2 : wr.drew.cell? ⟨g2, o2 + k, none⟩ = some (.string s) := (Kd.cell0 hg2).trans hc2
      have HKd := Lib.hid Kd
      clear Kd hc hc2 HK
      go_wp2_with fail
      go_region_held3 (fun w' => w'.cell? ⟨g, o + k, none⟩ = some (.string s) ∧ w'.cell? ⟨g2, o2 + k, none⟩ = some (.string s)) (exact ⟨d1, d2⟩) (fail)
      all_goals
        go_wp2_with fail
        go_roundw
        case rel => exact ⟨k + 1, by omega, by go_num, HKd⟩
        case measure => simp [intOf]; omega
    · have l1 : decide ((k : Int) < (n : Int)) = false := by simpa using hlt
      have l1' : decide (k < n) = false := by simpa using hlt
      obtain rfl : k = n := by omega
      clear hlt
      go_wp2_with fail
      go_ret
      exact ⟨rfl, HK.out⟩
end Go.Proofs.YtkkjbljhehnmjaaGreatDoor
/- JournalAgain's filled. -/
namespace Go.Proofs.YtkkjbljhehnmjaaGreatDoor
open Go.RowKit

def jn1 : Jn := jnOf 0 1 0 0 ⟨#[]⟩
theorem Fr.strs {w0 w : World} {f : List Nat} {a : Option Addr} {n : Nat} {sx : Nat → ByteArray} (F : Fr w0 w f) (h : StrsAt w0 w0.heap.size a n sx) : StrsAt w w.heap.size a n sx := fun i hi => by
  obtain ⟨g, o, h1, h2, h3⟩ := h.kp F.kp (Nat.le_refl _) i hi
  exact ⟨g, o, h1, F.kp.lt h2, h3⟩
set_option maxHeartbeats 6400000 in
set_option maxRecDepth 20000 in
theorem filled_any {w0 w : World} {f : List Nat} {b : Nat} {S : Dk} {m : Nat} (D : DkF w f b S) (hS : JSt S m jn1 []) (F : Fr w0 w f) (hG : Gl w0) (hm : m ≤ 10000) (a : Option Addr) (n c : Nat) (sx : Nat → ByteArray) (hn : n ≤ 10) (hs : ∀ i, i < n → (sx i).size ≤ 150) (hN : S.n = 160) (hR : StrsAt w0 w0.heap.size a n sx) :
    Calls Tryz.prog 31 #[.pointer (some ⟨b, 0, none⟩), .slice a n c] w fun e w2 => e = .returned (.bool true) ∧ ∃ f2 S2, DkF w2 f2 b S2 ∧ S2.Fine 20000 ∧ S2.n = 160 ∧ Fr w0 w2 f2 := by
  have h79 : hl S.n = 79 := by rw [hN]; decide
  have P1 : AddsPre S m jn1 [] sx n 150 := ⟨hS, by decide, hs, by show 0 + n ≤ _; omega, by show 0 + 180 * n ≤ _; omega, by omega⟩
  obtain ⟨q1, q2, _, q4, q5, q6, _, _, _⟩ := addSt_mid hS sx n 150 (by decide) hs P1.c P1.u n (Nat.le_refl _)
  obtain ⟨S1, hS1⟩ : ∃ S1, S1 = (addSt S jn1 sx n).1 := ⟨_, rfl⟩
  obtain ⟨J1, hJ1⟩ : ∃ J1, J1 = (addSt S jn1 sx n).2 := ⟨_, rfl⟩
  have HE := Lib.hid (And.intro hS1 hJ1)
  rw [← hS1, ← hJ1] at q1
  rw [← hS1] at q2
  rw [← hJ1] at q4 q5 q6
  clear hS1 hJ1
  have t1 : J1.turn + 1 ≤ 1000000 := by rw [q6]; decide
  have hr := cRow_le2 J1 sx n 150 (by decide) hs (by omega) t1
  have hfit : (cRow J1 sx n).size ≤ hl S1.n * 64 := by rw [q2, h79]; omega
  have hsm : Small sx n := fun i hi => by have := hs i hi; omega
  obtain ⟨_, c2, c3, _, _⟩ := q1.compact sx n hsm (by omega) t1 hfit
  have P2 : AddsPre (cDk S1 J1 sx n) (m + 40 * n + 1002) (cJn J1 sx n) (firstN sx n) sx n 150 := ⟨c2, by decide, hs, by show n + n ≤ _; omega, by rw [c3, q2, h79]; show (cRow J1 sx n).size + 180 * n ≤ _; omega, by omega⟩
  obtain ⟨r1, r2, _⟩ := addSt_mid c2 sx n 150 (by decide) hs P2.c P2.u n (Nat.le_refl _)
  have HP1 := Lib.hid P1
  have HP2 := Lib.hid P2
  have Hq1 := Lib.hid q1
  have Hr1 := Lib.hid r1
  have HFin : Hid ((addSt (cDk S1 J1 sx n) (cJn J1 sx n) sx n).1.flushed.Fine 20000 ∧ (addSt (cDk S1 J1 sx n) (cJn J1 sx n) sx n).1.flushed.n = 160) := by
    obtain ⟨g1, g2, _⟩ := r1.flushed
    exact ⟨g1.fine.mono (by omega), by rw [g2, r2, c3, q2, hN]⟩
  have HR := Lib.hid hR
  have HG := Lib.hid hG
  have HO := Lib.hid (s_open D hS (F.gl hG) (by omega))
  have HF := Lib.hid F
  have HX := Lib.hid (And.intro t1 (And.intro hfit hsm))
  have HM := Lib.hid (And.intro hm hn)
  clear P1 q1 q2 q4 q5 q6 t1 hr hfit hsm c2 c3 P2 r1 r2 D hS F hG hR h79 hN hs
  go_enter Tryz.func31, Tryz.ntmps31
  go_wp2_with fail
  refine Calls.mono HO.out ?_
  rintro e x1 ⟨j, a9, c9, f1, rfl, D, hj, M, _, _⟩
  have D1 := Lib.hid D
  have F1 : Hid (Fr w0 x1 (j :: f1)) := (HF.out.step M).more (Nat.le_trans HF.out.kp.size hj)
  clear D M hj
  go_wp2_with fail
  refine Calls.mono (adds_any HP1.out D1.out (F1.out.gl HG.out) a c (by omega) (fun w2 f2 M2 => (F1.out.step M2).strs HR.out)) ?_
  rintro e x2 ⟨rfl, f2, D, M⟩
  have D2 : Hid (JF x2 f2 b j S1 J1) := by show JF _ _ _ _ _ _; rw [HE.out.1, HE.out.2]; exact D
  have F2 : Hid (Fr w0 x2 (j :: f2)) := F1.out.step M
  clear D M D1 F1
  go_wp2_with fail
  refine Calls.mono (s_compact D2.out Hq1.out (F2.out.gl HG.out) (by have := HM.out; omega) HX.out.1 a n c (by omega) sx (F2.out.strs HR.out) HX.out.2.2 HX.out.2.1) ?_
  rintro e x3 ⟨rfl, f3, D, M⟩
  have D3 := Lib.hid D
  have F3 : Hid (Fr w0 x3 (j :: f3)) := F2.out.step M
  clear D M D2 F2
  go_wp2_with fail
  refine Calls.mono (adds_any HP2.out D3.out (F3.out.gl HG.out) a c (by omega) (fun w2 f2 M2 => (F3.out.step M2).strs HR.out)) ?_
  rintro e x4 ⟨rfl, f4, D, M⟩
  have D4 := Lib.hid D
  have F4 : Hid (Fr w0 x4 (j :: f4)) := F3.out.step M
  clear D M D3 F3
  go_wp2_with fail
  refine Calls.mono (s_sync D4.out Hr1.out (F4.out.gl HG.out) (by have := HM.out; omega)) ?_
  rintro e x5 ⟨rfl, f5, D, M⟩
  have D5 := Lib.hid D
  have F5 : Hid (Fr w0 x5 (j :: f5)) := F4.out.step M
  clear D M D4 F4
  go_wp2_with fail
  go_ret
  exact ⟨rfl, f5, _, D5.out.d, HFin.out.1, HFin.out.2, F5.out.less⟩
end Go.Proofs.YtkkjbljhehnmjaaGreatDoor
/- The walk of the law JournalAgain. -/
namespace Go.Proofs.YtkkjbljhehnmjaaGreatDoor
open Go.RowKit

theorem firstN_getD (sx : Nat → ByteArray) (d : ByteArray) : ∀ n i, i < n → (firstN sx n).getD i d = sx i
  | 0, i, h => by omega
  | k + 1, i, h => by
    unfold firstN
    by_cases hk : i < k
    · rw [List.getD_eq_getElem?_getD, List.getElem?_append, firstN_len, if_pos hk, ← List.getD_eq_getElem?_getD]
      exact firstN_getD sx d k i hk
    · obtain rfl : i = k := by omega
      rw [List.getD_eq_getElem?_getD, List.getElem?_append, firstN_len, if_neg (by omega), Nat.sub_self]
      rfl
set_option maxHeartbeats 6400000 in
set_option maxRecDepth 100000 in
theorem again_any (a : Option Addr) (n c : Nat) (sx : Nat → ByteArray) (used : Bool) (w : World) (hg : 7 ≤ w.heap.size) (hG : Gl w) (hR : StrsAt w w.heap.size a n sx) :
    Calls Tryz.prog 5 #[.slice a n c, .bool used] w fun e w2 => e = .returned (.bool true) ∧ Kp [] w w2 := by
  have HG := Lib.hid hG
  have HW := Lib.hid hg
  have HR := Lib.hid hR
  have HK := Lib.hid (known_any w hg hG)
  have F0 : Hid (Fr w w []) := ⟨Kp.refl _ _, fun y hy => by cases hy⟩
  clear hG hg hR
  by_cases hn : 10 < n
  · have d1 : decide ((10 : Int) < (n : Int)) = true := by simp; omega
    go_enter Tryz.func5, Tryz.ntmps5
    go_wp2_with fail
    refine Calls.mono HK.out ?_
    rintro e x1 ⟨rfl, K⟩
    have K1 := Lib.hid K
    clear K
    go_wp2_with fail
    go_ret
    exact ⟨rfl, K1.out⟩
  have d1 : decide ((10 : Int) < (n : Int)) = false := by simp; omega
  have hn10 : n ≤ 10 := by omega
  clear hn
  go_enter Tryz.func5, Tryz.ntmps5
  go_wp2_with fail
  refine Calls.mono HK.out ?_
  rintro e x1 ⟨rfl, K⟩
  have F1 : Hid (Fr w x1 []) := F0.out.kept K
  clear K
  go_wp2_with fail
  refine Calls.mono (long_any a n c (by omega) sx x1 (F1.out.strs HR.out)) ?_
  rintro e x2 ⟨hl, hx⟩
  subst hx
  rcases hl with rfl | ⟨rfl, hs⟩
  · go_wp2_with fail
    go_ret
    exact ⟨rfl, F1.out.kp⟩
  go_wp2_with fail
  refine (f_new 160 x1 (Nat.le_trans HW.out F1.out.kp.size)).mono ?_
  rintro e x3 ⟨b, f3, rfl, D, K, hnew⟩
  have D3 : Hid (DkF x3 f3 b (Dk.new 160)) := D
  have F3 : Hid (Fr w x3 f3) := ⟨F1.out.kp.trans K, fun y hy => Nat.le_trans F1.out.kp.size (hnew y hy)⟩
  have S3 : Hid ((Dk.new 160).Fine 0) := Dk.Fine.new 160 (by decide) (by decide)
  clear D K hnew F1
  obtain ⟨z, hz⟩ : ∃ z : Nat, z = 0 := ⟨_, rfl⟩
  have HS := Lib.hid hs
  clear hs hz
  have S3b : Hid ((Dk.new 160).Fine 20000) := S3.out.mono (by omega)
  have HN3 : Hid ((Dk.new 160).n = 160) := rfl
  have HJ3 : Hid (JSt (Dk.new 160).fmt.2 1002 jn1 []) := S3.out.jst
  generalize Dk.new 160 = S at *
  cases used
  case' true =>
    go_wp2_with fail
    refine Calls.mono (s_format D3.out S3.out (F3.out.gl HG.out) (by omega)) ?_
    rintro e y1 ⟨rfl, g1, D, M⟩
    have E1 := Lib.hid D
    have G1 : Hid (Fr w y1 g1) := F3.out.step M
    clear D M D3 F3
    go_wp2_with fail
    refine Calls.mono (filled_any E1.out HJ3.out G1.out HG.out (by omega) a n c sx hn10 HS.out (by rw [Dk.fmt_n]; exact HN3.out) HR.out) ?_
    rintro e y2 ⟨rfl, g2, S2, D, hF, hN2, F⟩
    have D3 := Lib.hid D
    have F3 := Lib.hid F
    have S3b := Lib.hid hF
    have HN3 := Lib.hid hN2
    clear D F hF hN2 E1 G1 HJ3 S3
    generalize S2 = S9 at *
  case' false => generalize S = S9 at *
  all_goals
    go_wp2_with fail
    refine Calls.mono (s_format D3.out S3b.out (F3.out.gl HG.out) (by omega)) ?_
    rintro e y3 ⟨rfl, g3, D, M⟩
    have D4 := Lib.hid D
    have F4 : Hid (Fr w y3 g3) := F3.out.step M
    have HJ4 : Hid (JSt S9.fmt.2 21002 jn1 []) := S3b.out.jst
    have hN4 := (Dk.fmt_n S9).trans HN3.out
    clear D M D3 F3
    have P1 : Hid (AddsPre S9.fmt.2 21002 jn1 [] sx n 150) := ⟨HJ4.out, by decide, HS.out, by show 0 + n ≤ _; omega, by rw [hN4]; show 0 + 180 * n ≤ 79 * 64; omega, by omega⟩
    have HQ := Lib.hid (addSt_mid HJ4.out sx n 150 (by decide) HS.out P1.out.c P1.out.u n (Nat.le_refl _))
    have HJ5 : Hid (JSt (addSt S9.fmt.2 jn1 sx n).1.flushed (21002 + 40 * n) (addSt S9.fmt.2 jn1 sx n).2 (firstN sx n)) := by have h := HQ.out.1.flushed.1; rw [List.nil_append] at h; exact h
    have hlen := firstN_len sx n
    have hcnt : ((addSt S9.fmt.2 jn1 sx n).2.count : Int) = (n : Int) := by rw [HQ.out.2.2.2.1]; show ((0 + n : Nat) : Int) = _; omega
    clear hN4
    go_wp2_with fail
    refine Calls.mono (s_open D4.out HJ4.out (F4.out.gl HG.out) (by omega)) ?_
    rintro e y4 ⟨j, a4, c4, g4, rfl, D, hj, M, _, _⟩
    have D5 := Lib.hid D
    have F5 : Hid (Fr w y4 (j :: g4)) := (F4.out.step M).more (Nat.le_trans F4.out.kp.size hj)
    clear D M hj D4 F4
    go_wp2_with fail
    refine Calls.mono (adds_any P1.out D5.out (F5.out.gl HG.out) a c (by omega) (fun w2 f2 M2 => (F5.out.step M2).strs HR.out)) ?_
    rintro e y5 ⟨rfl, g5, D, M⟩
    have D6 := Lib.hid D
    have F6 : Hid (Fr w y5 (j :: g5)) := F5.out.step M
    clear D M D5 F5
    go_wp2_with fail
    refine Calls.mono (s_sync D6.out HQ.out.1 (F6.out.gl HG.out) (by omega)) ?_
    rintro e y6 ⟨rfl, g6, D, M⟩
    have D7 := Lib.hid D.d
    have F7 : Hid (Fr w y6 g6) := (F6.out.step M).less
    clear D M D6 F6
    go_wp2_with fail
    refine Calls.mono (s_open D7.out HJ5.out (F7.out.gl HG.out) (by omega)) ?_
    rintro e y7 ⟨j2, a7, c7, g7, rfl, D, hj, M, hs7, hb7⟩
    rw [hlen] at hs7
    rw [hlen]
    have D8 := Lib.hid D.d
    have F8 : Hid (Fr w y7 g7) := F7.out.step M
    have HS7 := Lib.hid hs7
    have HB7 := Lib.hid hb7
    clear D M D7 F7 hs7 hb7 hj
    go_wp2_with fail
    refine Calls.mono (f_writes D8.out) ?_
    rintro e y8 ⟨rfl, hy⟩
    subst hy
    go_wp2_with fail
    refine Calls.mono (s_open D8.out HJ5.out (F8.out.gl HG.out) (by omega)) ?_
    rintro e y9 ⟨j3, a9, c9, g9, rfl, D, hj, M, hs9, hb9⟩
    rw [hlen] at hs9
    rw [hlen]
    have JL := Lib.hid D.j_
    have D9 := Lib.hid D.d
    have F9 : Hid (Fr w y9 g9) := F8.out.step M
    have HR9 := Lib.hid (F9.out.strs HR.out)
    have HA7 : Hid (StrsAt y9 y9.heap.size a7 n sx) := fun i hi => by
      obtain ⟨g, o, h1, h2, h3⟩ := HS7.out i hi
      have hb := HB7.out g o h1
      have h3 := h3.trans (congrArg (fun s => some (Value.string s)) (firstN_getD sx _ n i hi))
      exact ⟨g, o, h1, M.kp.lt h2, (M.kp.cell (p := ⟨g, o + i, none⟩) h2 (fun hm => hb.1 (List.mem_cons_of_mem _ hm))).trans h3⟩
    have HA9 : Hid (StrsAt y9 y9.heap.size a9 n sx) := fun i hi => by
      obtain ⟨g, o, h1, h2, h3⟩ := hs9 i hi
      have h3 := h3.trans (congrArg (fun s => some (Value.string s)) (firstN_getD sx _ n i hi))
      exact ⟨g, o, h1, h2, h3⟩
    clear D M D8 F8 HS7 HB7 hs9 hb9 hj
    go_wp2_with fail
    refine Calls.mono (same_texts a7 a n c7 c (by omega) sx sx y9 HA7.out HR9.out (fun i hi => rfl)) ?_
    rintro e z1 ⟨rfl, K⟩
    have K1 := Lib.hid K
    clear K
    go_wp2_with fail
    refine Calls.mono (same_texts a9 a n c9 c (by omega) sx sx z1 (fun i hi => (by obtain ⟨g, o, h1, h2, h3⟩ := HA9.out i hi; exact ⟨g, o, h1, K1.out.lt h2, (K1.out.cell0 h2).trans h3⟩)) (fun i hi => (by obtain ⟨g, o, h1, h2, h3⟩ := HR9.out i hi; exact ⟨g, o, h1, K1.out.lt h2, (K1.out.cell0 h2).trans h3⟩)) (fun i hi => rfl)) ?_
    rintro e z2 ⟨rfl, K⟩
    have K2 : Hid (Kp [] y9 z2) := K1.out.trans K
    clear K K1
    go_wp2_with fail
    refine Calls.mono (JLen_any (JL.out.kept K2.out)) ?_
    rintro e z3 ⟨rfl, hz⟩
    subst hz
    rw [hcnt]
    go_wp2_with fail
    refine Calls.mono (f_writes (D9.out.kept K2.out)) ?_
    rintro e z4 ⟨rfl, hz⟩
    subst hz
    go_wp2_with fail
    go_ret
    exact ⟨rfl, (F9.out.kept K2.out).kp⟩
end Go.Proofs.YtkkjbljhehnmjaaGreatDoor
