/- Contracts: how far a word's bytes go, of the program; symbols, of the reference. -/
import Derived.Test.YtmhnjgnljfkdcaaDoorLxB
import Derived.Deep.Cut
import Derived.Test.YtmhnjgnljfkdcaaDoorProg
namespace Go.Proofs.YtmhnjgnljfkdcaaDoor
open Go.RowKit

theorem byte_eq (b c : UInt8) : ((b.toNat : Int) == (c.toNat : Int)) = (b == c) := by
  by_cases h : b = c
  · subst h; simp
  · have h2 : b.toNat ≠ c.toNat := fun e => h (UInt8.toNat_inj.1 e)
    have e1 : (b == c) = false := by simpa using h
    have e2 : ((b.toNat : Int) == (c.toNat : Int)) = false := by simp; omega
    rw [e1, e2]
def joinsL : List UInt8 → Bool
  | [] => false
  | a :: r => joinB a r
set_option maxRecDepth 20000 in
theorem joins_is (s : ByteArray) (w : World) : Calls Tryd.prog 36 #[.string s] w (IsB (joinsL s.data.toList) w) := by
  by_cases h1 : 1 < s.size
  · have d1 : decide ((1 : Int) < (s.size : Int)) = true := by simp; omega
    have h0 : 0 < s.size := by omega
    have e0 := bytes_at s 0 h0
    have e1 := bytes_at s 1 h1
    simp only [List.drop_zero, Nat.zero_add] at e0
    cases d2 : ((s[0].toNat : Int) == 46) with
    | false =>
      have hv : Hid (joinsL s.data.toList = false) := Lib.hid (by
        rw [e0, joinsL, joinB, ← byte_eq, show ((s[0].toNat : Int) == ((46 : UInt8).toNat : Int)) = false from d2]; rfl)
      clear e0 e1
      go_enter Tryd.func36, Tryd.ntmps36
      go_wp2_with fail
      go_ret
      rw [hv.out]
      exact ⟨rfl, rfl⟩
    | true =>
      have hv : Hid (joinsL s.data.toList = plainI (s[1].toNat : Int)) := Lib.hid (by
        rw [e0, joinsL, joinB, ← byte_eq, show ((s[0].toNat : Int) == ((46 : UInt8).toNat : Int)) = true from d2, e1]; rfl)
      clear e0 e1
      go_enter Tryd.func36, Tryd.ntmps36
      go_wp2_with (go_at_call 24; refine Calls.mono (isPlain_is _ _) ?_; rintro e w2 ⟨rfl, rfl⟩)
      go_ret
      rw [hv.out]
      exact ⟨rfl, rfl⟩
  · have d1 : decide ((1 : Int) < (s.size : Int)) = false := by simp; omega
    have hv : Hid (joinsL s.data.toList = false) := Lib.hid (by
      by_cases h0 : 0 < s.size
      · have e0 := bytes_at s 0 h0
        have e1 := bytes_end s 1 (by omega)
        simp only [List.drop_zero, Nat.zero_add] at e0
        rw [e0, e1, joinsL, joinB, headP, Bool.and_false]
      · have e0 := bytes_end s 0 (by omega)
        rw [List.drop_zero] at e0
        rw [e0, joinsL])
    go_enter Tryd.func36, Tryd.ntmps36
    go_wp2_with fail
    go_ret
    rw [hv.out]
    exact ⟨rfl, rfl⟩
theorem runN_step (s : ByteArray) (k : Nat) (h : k < s.size) : runN (s.data.toList.drop k) = if (plainI (s[k].toNat : Int) || joinsL (s.data.toList.drop k)) = true then runN (s.data.toList.drop (k + 1)) + 1 else 0 := by
  have e := bytes_at s k h
  rw [e, runN, joinsL, plainB]
set_option maxRecDepth 20000 in
set_option maxHeartbeats 1600000 in
theorem run_is (s : ByteArray) (h1 : 1 ≤ s.size) (hs : s.size ≤ 1000000000000000) (w : World) :
    Calls Tryd.prog 25 #[.string s] w fun e w2 => e = .returned (.int .i64 ((runN (s.data.toList.drop 1) + 1 : Nat) : Int)) ∧ w2 = w := by
  obtain ⟨T, hT⟩ : ∃ T, T = runN (s.data.toList.drop 1) + 1 := ⟨_, rfl⟩
  rw [← hT]
  have HT := Lib.hid hT
  have H1 := Lib.hid h1
  clear hT h1
  go_enter Tryd.func25, Tryd.ntmps25
  go_wp2_with fail
  go_loopw [3] (fun i wr => ∃ k : Nat, k ≤ s.size ∧ Hid (T = k + runN (s.data.toList.drop k)) ∧ i = .int .i64 (k : Int) ∧ wr = w) (fun i _ => s.size - (intOf i).toNat)
  case atStart => exact ⟨1, H1.out, Lib.hid (by rw [HT.out]; omega), rfl, rfl⟩
  case round =>
    obtain ⟨k, hk, HK, rfl, hw⟩ := hrel
    have hw := hw.symm
    subst hw
    by_cases hlt : k < s.size
    · have l1 : decide ((k : Int) < (s.size : Int)) = true := by simpa using hlt
      have hk2 : k ≤ s.size := hk
      have hst := Lib.hid (runN_step s k hlt)
      have hx := Lib.extract_to_end s k
      cases hp : plainI ((s[k]'hlt).toNat : Int) with
      | true =>
        have HP := Lib.hid hp
        have Hlt := Lib.hid hlt
        clear hp
        go_wp2_with (first
          | (go_at_call 24; refine Calls.mono (isPlain_is _ _) ?_; rintro e w2 ⟨rfl, rfl⟩; rw [HP.out])
          | (go_at_call 36; refine Calls.mono (joins_is _ _) ?_; rintro e w2 ⟨rfl, rfl⟩))
        go_roundw
        case rel => exact ⟨k + 1, Hlt.out, Lib.hid (by have h2 := hst.out; rw [HP.out, Bool.true_or, if_pos rfl] at h2; have h3 := HK.out; omega), by go_num, by simp⟩
        case measure => have := Hlt.out; simp [intOf]; omega
      | false =>
        have HP := Lib.hid hp
        have Hlt := Lib.hid hlt
        clear hp
        cases hj : joinsL (s.data.toList.drop k) with
        | true =>
          have HJ : Hid (joinsL (s.extract k s.size).data.toList = true) := Lib.hid (by rw [hx]; exact hj)
          have HJ2 := Lib.hid hj
          clear hj hx
          go_wp2_with (first
            | (go_at_call 24; refine Calls.mono (isPlain_is _ _) ?_; rintro e w2 ⟨rfl, rfl⟩; rw [HP.out])
            | (go_at_call 36; refine Calls.mono (joins_is _ _) ?_; rintro e w2 ⟨rfl, rfl⟩; rw [HJ.out]))
          go_roundw
          case rel => exact ⟨k + 1, Hlt.out, Lib.hid (by have h2 := hst.out; rw [HJ2.out, Bool.or_true, if_pos rfl] at h2; have h3 := HK.out; omega), by go_num, by simp⟩
          case measure => have := Hlt.out; simp [intOf]; omega
        | false =>
          have HJ : Hid (joinsL (s.extract k s.size).data.toList = false) := Lib.hid (by rw [hx]; exact hj)
          have HF : Hid (T = k) := Lib.hid (by have h2 := hst.out; rw [HP.out, hj, Bool.or_false, if_neg (by simp)] at h2; have h3 := HK.out; omega)
          clear hj hx
          go_wp2_with (first
            | (go_at_call 24; refine Calls.mono (isPlain_is _ _) ?_; rintro e w2 ⟨rfl, rfl⟩; rw [HP.out])
            | (go_at_call 36; refine Calls.mono (joins_is _ _) ?_; rintro e w2 ⟨rfl, rfl⟩; rw [HJ.out]))
          go_ret
          rw [HF.out]
          exact ⟨rfl, rfl⟩
    · have l1 : decide ((k : Int) < (s.size : Int)) = false := by simpa using hlt
      have HF : Hid (T = k) := Lib.hid (by have h2 := bytes_end s k (by omega); have h3 := HK.out; rw [h2, runN] at h3; exact h3)
      go_wp2_with fail
      go_ret
      rw [HF.out]
      exact ⟨rfl, rfl⟩
end Go.Proofs.YtmhnjgnljfkdcaaDoor
