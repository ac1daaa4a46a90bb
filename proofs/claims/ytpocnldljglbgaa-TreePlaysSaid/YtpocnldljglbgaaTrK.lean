/- The reference's SameTexts over two rows that lie in memory; the law's known(). -/
import Derived.Test.YtpocnldljglbgaaTrJ
namespace Go.Proofs.Ytpocnldljglbgaa
open Go.RowKit Tr

set_option maxHeartbeats 3200000 in
set_option maxRecDepth 20000 in
theorem same_texts (a a2 : Option Addr) (n c c2 : Nat) (hn : n ≤ 100000) (sx sy : Nat → ByteArray) (w : World) (hR : StrsAt w w.heap.size a n sx) (hR2 : StrsAt w w.heap.size a2 n sy) (hs : ∀ i, i < n → sx i = sy i) :
    Calls Try.prog 18 #[.slice a n c, .slice a2 n c2] w fun e w2 => e = .returned (.bool true) ∧ Kp [] w w2 := by
  have HR := Lib.hid hR
  have HR2 := Lib.hid hR2
  have HS := Lib.hid hs
  clear hR hR2 hs
  go_enter Try.func18, Try.ntmps18
  go_wp2_with fail
  go_loopw [5] (fun i wr => ∃ (k : Nat), k ≤ n ∧ i = .int .i64 (k : Int) ∧ Hid (Kp [] w wr)) (fun i _ => n - (intOf i).toNat)
  case atStart => exact ⟨0, Nat.zero_le _, rfl, Kp.refl _ _⟩
  case round =>
    obtain ⟨k, hk, rfl, HK⟩ := hrel
    by_cases hlt : k < n
    · have l1 : decide ((k : Int) < (n : Int)) = true := by simpa using hlt
      have l1' : decide (k < n) = true := by simpa using hlt
      obtain ⟨g, o, rfl, hg, hc⟩ := HR.out k hlt
      obtain ⟨g2, o2, rfl, hg2, hc2⟩ := HR2.out k hlt
      rw [← HS.out k hlt] at hc2
      obtain ⟨s, hs⟩ : ∃ s, s = sx k := ⟨_, rfl⟩
      rw [← hs] at hc hc2
      clear hs
      have Kd : Kp [] w wr.drew := HK.out.drew
      have d1 : wr.drew.cell? ⟨g, o + k, none⟩ = some (.string s) := (Kd.cell0 hg).trans hc
      have d2 : wr.drew.cell? ⟨g2, o2 + k, none⟩ = some (.string s) := (Kd.cell0 hg2).trans hc2
      have HKd := Lib.hid Kd
      clear Kd hc hc2 HK
      go_wp2_with fail
      go_region_held3 (fun w' => w'.cell? ⟨g, o + k, none⟩ = some (.string s) ∧ w'.cell? ⟨g2, o2 + k, none⟩ = some (.string s)) (exact ⟨d1, d2⟩) (fail)
      all_goals
        go_wp2_with fail
        go_roundw
        case rel => exact ⟨k + 1, by omega, by go_num, HKd⟩
        case measure => simp [intOf]; omega
    · have l1 : decide ((k : Int) < (n : Int)) = false := by simpa using hlt
      have l1' : decide (k < n) = false := by simpa using hlt
      obtain rfl : k = n := by omega
      clear hlt
      go_wp2_with fail
      go_ret
      exact ⟨rfl, HK.out⟩

def sX : ByteArray := ⟨#[120]⟩
def sA : ByteArray := ⟨#[97]⟩
theorem kn1 : put sX 1 [] = [(sX, 1)] := rfl
theorem kn2 : put sX 2 [(sX, 1)] = [(sX, 2)] := by decide
theorem kn3 : put sA 3 [(sX, 2)] = [(sA, 3), (sX, 2)] := by decide
theorem kn4 : rem sX [(sA, 3), (sX, 2)] = [(sA, 3)] := by decide
theorem kl1 : lk sX [(sX, 1)] = some 1 := by decide
theorem kl2 : lk sX [(sA, 3), (sX, 2)] = some 2 := by decide
theorem kl3 : lk sX [(sA, 3)] = none := by decide
theorem get_yes {w : World} {a : Option Addr} {L : List En} (h : MapAt w a L) {k : ByteArray} {n : Int} (hk : lk k L = some n) :
    Calls Try.prog 14 #[.pointer a, .string k] w fun e w2 => e = .returned (.tuple #[.int .i64 n, .bool true]) ∧ w2 = w := by
  have := get_any h k
  rw [hk] at this
  exact this
theorem get_no {w : World} {a : Option Addr} {L : List En} (h : MapAt w a L) {k : ByteArray} (hk : lk k L = none) :
    Calls Try.prog 14 #[.pointer a, .string k] w fun e w2 => e = .returned (.tuple #[.int .i64 0, .bool false]) ∧ w2 = w := by
  have := get_any h k
  rw [hk] at this
  exact this
theorem StrsAt.kept {w w2 : World} {a : Option Addr} {n : Nat} {sx : Nat → ByteArray} (h : StrsAt w w.heap.size a n sx) (K : Kp [] w w2) : StrsAt w2 w2.heap.size a n sx := fun i hi => by
  obtain ⟨g, o, h1, h2, h3⟩ := h i hi
  exact ⟨g, o, h1, K.lt h2, by rw [K.cell0 h2]; exact h3⟩
theorem strs_two (w : World) (x y : ByteArray) : StrsAt (w.alloc (.cells #[.string x, .string y] 9)) (w.alloc (.cells #[.string x, .string y] 9)).heap.size (some ⟨w.heap.size, 0, none⟩) 2 (fun i => [x, y].getD i ⟨#[]⟩) := by
  intro i hi
  refine ⟨w.heap.size, 0, rfl, by simp, ?_⟩
  rw [World.cell?_alloc_new]
  match i, hi with
  | 0, _ => rfl
  | 1, _ => rfl
theorem flat2 {d : Nat} (h : Flat d 2) : d = 2 := by
  obtain ⟨_, h2, h3⟩ := h
  match d, h2, h3 with
  | 0, _, h3 => simp at h3
  | 1, _, h3 => simp at h3
  | 2, _, _ => rfl
  | d + 3, h2, _ => omega
set_option maxHeartbeats 3200000 in
theorem known_any (w : World) :
    Calls Try.prog 6 #[] w fun e w2 => e = .returned (.bool true) ∧ Kp [] w w2 := by
  go_enter Try.func6, Try.ntmps6
  go_wp2_with fail
  refine Calls.mono (new_any _) ?_
  rintro e w1 ⟨a, rfl, k1, m1⟩
  obtain ⟨ga, rfl⟩ := m1.some
  have KA := Lib.hid k1
  have MA := Lib.hid m1
  clear k1 m1
  go_wp2_with fail
  refine Calls.mono (With_any MA.out sX 1 (by decide)) ?_
  rintro e w2 ⟨b, rfl, k2, m2⟩
  rw [kn1] at m2
  obtain ⟨gb, rfl⟩ := m2.some
  have KB := Lib.hid (KA.out.trans k2)
  have MA2 := Lib.hid (MA.out.kp k2)
  have MB := Lib.hid m2
  clear k2 m2 KA MA
  go_wp2_with fail
  refine Calls.mono (With_any MB.out sX 2 (by decide)) ?_
  rintro e w3 ⟨c0, rfl, k3, m3⟩
  rw [kn2] at m3
  have KC := Lib.hid (KB.out.trans k3)
  have MA3 := Lib.hid (MA2.out.kp k3)
  have MB3 := Lib.hid (MB.out.kp k3)
  have MC0 := Lib.hid m3
  clear k3 m3 KB MB MA2
  go_wp2_with fail
  refine Calls.mono (With_any MC0.out sA 3 (by decide)) ?_
  rintro e w4 ⟨c, rfl, k4, m4⟩
  rw [kn3] at m4
  obtain ⟨gc, rfl⟩ := m4.some
  have KD := Lib.hid (KC.out.trans k4)
  have MA4 := Lib.hid (MA3.out.kp k4)
  have MB4 := Lib.hid (MB3.out.kp k4)
  have MC4 := Lib.hid m4
  clear k4 m4 KC MA3 MB3 MC0
  go_wp2_with fail
  refine Calls.mono (Without_any MC4.out sX (by decide)) ?_
  rintro e w5 ⟨d, rfl, k5, m5⟩
  rw [kn4] at m5
  obtain ⟨gd, rfl⟩ := m5.some
  have KE := Lib.hid (KD.out.trans k5)
  have MA5 := Lib.hid (MA4.out.kp k5)
  have MB5 := Lib.hid (MB4.out.kp k5)
  have MC5 := Lib.hid (MC4.out.kp k5)
  have MD5 := Lib.hid m5
  clear k5 m5 KD MA4 MB4 MC4
  go_wp2_with fail
  refine Calls.mono (get_yes MB5.out kl1) ?_
  rintro e w6 ⟨rfl, hw⟩
  have hw := hw.symm
  subst hw
  go_wp2_with fail
  refine Calls.mono (get_yes MC5.out kl2) ?_
  rintro e w6 ⟨rfl, hw⟩
  have hw := hw.symm
  subst hw
  go_wp2_with fail
  refine Calls.mono (get_no MD5.out kl3) ?_
  rintro e w6 ⟨rfl, hw⟩
  have hw := hw.symm
  subst hw
  go_wp2_with fail
  refine Calls.mono (len_any MA5.out) ?_
  rintro e w6 ⟨rfl, hw⟩
  have hw := hw.symm
  subst hw
  rw [show (([] : List En).length : Int) = 0 from rfl]
  go_wp2_with fail
  refine Calls.mono (len_any MC5.out) ?_
  rintro e w6 ⟨rfl, hw⟩
  have hw := hw.symm
  subst hw
  rw [show (([(sA, 3), (sX, 2)] : List En).length : Int) = 2 from rfl]
  go_wp2_with fail
  refine Calls.mono (len_any MD5.out) ?_
  rintro e w6 ⟨rfl, hw⟩
  have hw := hw.symm
  subst hw
  rw [show (([(sA, 3)] : List En).length : Int) = 1 from rfl]
  go_wp2_with fail
  refine Calls.mono (keys_any MC5.out (by decide)) ?_
  rintro e w6 ⟨b6, c6, rfl, k6, s6⟩
  have KF := Lib.hid (KE.out.trans k6)
  have MC6 := Lib.hid (MC5.out.kp k6)
  have HS6 := Lib.hid s6
  clear k6 s6 MA5 MB5 MC5 MD5 KE
  rw [show ([(sA, 3), (sX, 2)] : List En).length = 2 from rfl] at HS6 ⊢
  go_wp2_with fail
  refine Calls.mono (same_texts b6 _ 2 c6 2 (by decide) (keyAt [(sA, 3), (sX, 2)]) (fun i => [sA, sX].getD i ⟨#[]⟩) _ (HS6.out.kept ((Kp.refl [] w6).alloc _)) (strs_two w6 sA sX) (fun i _ => rfl)) ?_
  rintro e w7 ⟨rfl, k7⟩
  have KG := Lib.hid (KF.out.trans (((Kp.refl [] w6).alloc _).trans k7))
  have MC7 := Lib.hid (MC6.out.kp (((Kp.refl [] w6).alloc _).trans k7))
  clear k7 KF MC6 HS6
  go_wp2_with fail
  refine Calls.mono (deep_any MC7.out) ?_
  rintro e w8 ⟨⟨d, rfl, hd⟩, hw⟩
  have hw := hw.symm
  subst hw
  obtain rfl := flat2 hd
  clear hd MC7
  go_wp2_with fail
  go_ret
  exact ⟨rfl, KG.out⟩
end Go.Proofs.Ytpocnldljglbgaa
