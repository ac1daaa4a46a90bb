/- Contracts of package journal: wrapped. -/
import Derived.Test.YtkkjbljhehnmjaaGreatDoorJnS
import Derived.Test.YtkkjbljhehnmjaaGreatDoorRowsAt
namespace Go.Proofs.YtkkjbljhehnmjaaGreatDoor
open Go.RowKit

theorem wrapS_le (k : Nat) (hk : k < 128 ^ 8) (s : ByteArray) (hs : s.size ≤ 2010) : (wrapS k s).size ≤ s.size + 30 := by
  have h1 : (numS k).size ≤ 8 := by rw [numS_size]; exact numL_len 7 k hk
  have h2 : (numS k ++ s).size = (numS k).size + s.size := ByteArray.size_append
  have h128 : (128 : Nat) ^ 8 = 72057594037927936 := by decide
  have h3 : (numS (numS k ++ s).size).size ≤ 8 := by
    rw [numS_size]
    exact numL_len 7 _ (by rw [h2]; show _ < (128 : Nat) ^ 8; omega)
  have h4 : (wrapS k s).size = (textS (numS k ++ s)).size + 4 := by unfold wrapS; exact ByteArray.size_append
  have h5 : (textS (numS k ++ s)).size = (numS (numS k ++ s).size).size + (numS k ++ s).size := ByteArray.size_append
  omega
/-- Records one behind the other, from such a seq on. -/
def wrapsL (seq : Nat) (sx : Nat → ByteArray) : Nat → List UInt8
  | 0 => []
  | k + 1 => wrapsL seq sx k ++ (wrapS (seq + k) (sx k)).data.toList
def wrapsS (seq : Nat) (sx : Nat → ByteArray) (n : Nat) : ByteArray := ⟨(wrapsL seq sx n).toArray⟩
theorem wrapsS_size (seq : Nat) (sx : Nat → ByteArray) (n : Nat) : (wrapsS seq sx n).size = (wrapsL seq sx n).length := by simp [wrapsS, ByteArray.size]
theorem wrapsL_mono (seq : Nat) (sx : Nat → ByteArray) : ∀ (n k : Nat), k ≤ n → (wrapsL seq sx k).length ≤ (wrapsL seq sx n).length
  | 0, k, h => by obtain rfl : k = 0 := by omega
                  exact Nat.le_refl _
  | n + 1, k, h => by
    rcases Nat.lt_or_ge n k with h1 | h1
    · obtain rfl : k = n + 1 := by omega
      exact Nat.le_refl _
    · refine Nat.le_trans (wrapsL_mono seq sx n k h1) ?_
      show _ ≤ (wrapsL seq sx n ++ _).length
      rw [List.length_append]; omega
theorem wrapsL_le (seq : Nat) (sx : Nat → ByteArray) (n : Nat) (hs : seq + n ≤ 128 ^ 8) (h : ∀ i, i < n → (sx i).size ≤ 2010) : ∀ k, k ≤ n → (wrapsL seq sx k).length ≤ 2040 * k
  | 0, _ => by simp [wrapsL]
  | k + 1, hk => by
    have h1 := wrapsL_le seq sx n hs h k (by omega)
    have h2 := wrapS_le (seq + k) (by omega) (sx k) (h k (by omega))
    have h3 := h k (by omega)
    show (wrapsL seq sx k ++ _).length ≤ _
    have h4 : (wrapS (seq + k) (sx k)).data.toList.length = (wrapS (seq + k) (sx k)).size := by rw [Array.length_toList]; rfl
    rw [List.length_append, h4]
    omega
/-- What is wrong with so many records, where there is room for so many bytes. -/
def Small (sx : Nat → ByteArray) (n : Nat) : Prop := ∀ i, i < n → (sx i).size ≤ 2010
/-- What wrapped answers. -/
def WrPost (seq : Nat) (sx : Nat → ByteArray) (n rm : Nat) (e : Ending) : Prop :=
  (¬ Small sx n ∧ e = .returned (.tuple #[.string ⟨#[]⟩, errNum 13])) ∨ (Small sx n ∧ rm < (wrapsL seq sx n).length ∧ e = .returned (.tuple #[.string ⟨#[]⟩, errNum 14]))
    ∨ (Small sx n ∧ (wrapsL seq sx n).length ≤ rm ∧ e = .returned (.tuple #[.string (wrapsS seq sx n), .nilIface]))
/-- Between two rounds. -/
structure WpMid (seq : Nat) (sx : Nat → ByteArray) (bb : Nat) (w0 w : World) (k : Nat) : Prop where
  kp : Kp [] w0 w
  bd : BdAt w0.heap.size bb (wrapsL seq sx k) w
set_option maxHeartbeats 3200000 in
set_option maxRecDepth 20000 in
theorem wrapped_any (turn place : Nat) (ht : turn ≤ 1000000) (hp : place ≤ 1000000) (rm : Nat) (hrm : rm ≤ 1000000000) (a : Option Addr) (n c : Nat) (hn : n ≤ 100000) (sx : Nat → ByteArray) (w : World) (hR : StrsAt w w.heap.size a n sx) :
    Calls Tryz.prog 75 #[.int .i64 (turn : Int), .int .i64 (place : Int), .int .i64 (rm : Int), .slice a n c] w fun e w2 => WrPost (turn * 1000000 + place) sx n rm e ∧ Kp [] w w2 := by
  have HR := Lib.hid hR
  obtain ⟨seq, hseq⟩ : ∃ seq, seq = turn * 1000000 + place := ⟨_, rfl⟩
  have hseq9 : seq ≤ 2000000000000 := by rw [hseq]; omega
  obtain ⟨tq, htq⟩ : ∃ tq : Nat, tq = turn * 1000000 := ⟨_, rfl⟩
  have e1 : (turn : Int) * 1000000 = (tq : Int) := by omega
  have e2 : (tq : Int) + (place : Int) = (seq : Int) := by omega
  have htq9 : tq ≤ 2000000000000 := by omega
  have K0 : Hid (Kp [] w w) := Kp.refl [] w
  rw [← hseq]
  clear hR hseq htq
  go_enter Tryz.func75, Tryz.ntmps75
  go_wp2_with fail
  go_loopw [17] (fun i wr => ∃ (k : Nat), k ≤ n ∧ i = .int .i64 (k : Int) ∧ Hid (∀ i, i < k → (sx i).size ≤ 2010) ∧ w = wr) (fun i _ => n - (intOf i).toNat)
  case atStart => exact ⟨0, Nat.zero_le _, rfl, (fun i hi => by omega), rfl⟩
  case round =>
    obtain ⟨k, hk, rfl, HS, rfl⟩ := hrel
    by_cases hlt : k < n
    · have l1 : decide ((k : Int) < (n : Int)) = true := by simpa using hlt
      have l1' : decide (k < n) = true := by simpa using hlt
      obtain ⟨g, o, rfl, hg, hc⟩ := HR.out k hlt
      obtain ⟨s, hs⟩ : ∃ s, s = sx k := ⟨_, rfl⟩
      rw [← hs] at hc
      by_cases h2 : 2010 < s.size
      · have d1 : decide ((2010 : Int) < (s.size : Int)) = true := by simp; omega
        have HX : Hid (¬ Small sx n) := fun h => by have := h k hlt; rw [← hs] at this; omega
        clear hs HS
        go_wp2_with fail
        go_ret2
        exact ⟨.inl ⟨HX.out, rfl⟩, Kp.refl _ _⟩
      · have d1 : decide ((2010 : Int) < (s.size : Int)) = false := by simp; omega
        have HX : Hid (∀ i, i < k + 1 → (sx i).size ≤ 2010) := fun i hi => by
          rcases Nat.lt_or_ge i k with h | h
          · exact HS.out i h
          · obtain rfl : i = k := by omega
            rw [← hs]; omega
        clear hs HS
        go_wp2_with fail
        go_roundw
        case rel => exact ⟨k + 1, by omega, by go_num, HX, trivial⟩
        case measure => simp [intOf]; omega
    · have l1 : decide ((k : Int) < (n : Int)) = false := by simpa using hlt
      have l1' : decide (k < n) = false := by simpa using hlt
      obtain rfl : k = n := by omega
      have HSm : Hid (Small sx k) := HS.out
      clear HS hlt
      go_wp2_with fail
      obtain ⟨bb, hbb⟩ : ∃ bb, bb = w.heap.size := ⟨_, rfl⟩
      have M0 : Hid (WpMid seq sx bb w (w.alloc (.cells #[.pointer none, .slice none 0 0] 162)) 0) := ⟨(Kp.refl [] w).alloc _, by rw [hbb]; exact BdAt.new w _ (Nat.le_refl _)⟩
      rw [← hbb]
      clear hbb l1 l1'
      go_loopw [28] (fun i wr => ∃ (j : Nat), j ≤ k ∧ i = .int .i64 (j : Int) ∧ (wrapsL seq sx j).length ≤ rm ∧ Hid (WpMid seq sx bb w wr j)) (fun i _ => k - (intOf i).toNat)
      case atStart => exact ⟨0, Nat.zero_le _, rfl, Nat.zero_le _, M0⟩
      case round =>
        clear M0
        obtain ⟨j, hj, rfl, hl, HM⟩ := hrel
        by_cases hlt : j < k
        · have l1 : decide ((j : Int) < (k : Int)) = true := by simpa using hlt
          have l1' : decide (j < k) = true := by simpa using hlt
          obtain ⟨g, o, rfl, hg, hc0⟩ := HR.out j hlt
          obtain ⟨s, hs⟩ : ∃ s, s = sx j := ⟨_, rfl⟩
          rw [← hs] at hc0
          have hc : wr.cell? ⟨g, o + j, none⟩ = some (.string s) := (HM.out.kp.cell0 hg).trans hc0
          have hsz : s.size ≤ 2010 := by rw [hs]; exact HSm.out j hlt
          obtain ⟨q, hq⟩ : ∃ q : Nat, q = seq + j := ⟨_, rfl⟩
          have e3 : (seq : Int) + (j : Int) = (q : Int) := by omega
          have hq9 : q ≤ 3000000000000 := by omega
          have HW := Lib.hid (wrap_any (q : Int) (by omega) (by omega) s (by omega))
          rw [Int.toNat_natCast] at HW
          have h128 : (128 : Nat) ^ 8 = 72057594037927936 := by decide
          have hwl := wrapS_le q (by omega) s hsz
          have hll := wrapsL_le seq sx k (by omega) HSm.out j (by omega)
          have HN : Hid (wrapsL seq sx (j + 1) = wrapsL seq sx j ++ (wrapS q s).data.toList) := by rw [hq, hs]; rfl
          have HMo := Lib.hid (wrapsL_mono seq sx k (j + 1) (by omega))
          clear hs hq h128 hc0
          obtain ⟨ws, hws⟩ : ∃ ws, ws = wrapS q s := ⟨_, rfl⟩
          rw [← hws] at HW HN hwl
          clear hws
          obtain ⟨L, hL⟩ : ∃ L, L = wrapsL seq sx j := ⟨_, rfl⟩
          have HLe := Lib.hid hL
          rw [← hL] at hl hll HN
          have HM2 : Hid (Kp [] w wr ∧ BdAt w.heap.size bb L wr) := ⟨HM.out.kp, by rw [hL]; exact HM.out.bd⟩
          clear hL HM
          go_wp2_with fail
          refine Calls.mono (HW.out _) ?_
          rintro e x1 ⟨rfl, K1⟩
          have K2 : Hid (Kp [] w x1) := HM2.out.1.trans K1
          have B2 : Hid (BdAt w.heap.size bb L x1) := HM2.out.2.kept K1
          clear HM2 K1
          go_wp2_with fail
          refine Calls.mono (bd_write B2.out ws (by omega) K2.out.size) ?_
          rintro e x2 ⟨rfl, B4, L4⟩
          have M5 : Hid (WpMid seq sx bb w x2 (j + 1)) := ⟨Kp.of_below ((K2.out.below (Nat.le_refl _) (fun x hx => by cases hx)).trans L4) [], by rw [HN.out]; exact B4⟩
          clear B4 L4 B2 K2
          go_wp2_with fail
          refine Calls.mono (bd_len M5.out.bd) ?_
          rintro e x3 ⟨rfl, rfl⟩
          obtain ⟨y, hy⟩ : ∃ y, y = (wrapsL seq sx (j + 1)).length := ⟨_, rfl⟩
          rw [← hy]
          by_cases h2 : rm < y
          · have d1 : decide ((rm : Int) < (y : Int)) = true := by simpa using h2
            have HX : Hid (rm < (wrapsL seq sx k).length) := by rw [hy] at h2; exact Nat.lt_of_lt_of_le h2 HMo.out
            clear hy
            go_wp2_with fail
            go_ret2
            exact ⟨.inr (.inl ⟨HSm.out, HX.out, rfl⟩), M5.out.kp⟩
          · have d1 : decide ((rm : Int) < (y : Int)) = false := by simpa using h2
            have HX : Hid ((wrapsL seq sx (j + 1)).length ≤ rm) := by rw [hy] at h2; exact Nat.le_of_not_lt h2
            clear hy
            go_wp2_with fail
            go_roundw
            case rel => exact ⟨j + 1, by omega, by go_num, HX.out, M5⟩
            case measure => simp [intOf]; omega
        · have l1 : decide ((j : Int) < (k : Int)) = false := by simpa using hlt
          have l1' : decide (j < k) = false := by simpa using hlt
          obtain rfl : j = k := by omega
          have Hl := Lib.hid hl
          clear hl
          go_wp2_with fail
          refine Calls.mono (bd_string HM.out.bd HM.out.kp.size) ?_
          rintro e x1 ⟨rfl, B4, L4⟩
          have K3 : Hid (Kp [] w x1) := Kp.of_below ((HM.out.kp.below (Nat.le_refl _) (fun x hx => by cases hx)).trans L4) []
          clear B4 L4 HM
          go_wp2_with fail
          go_ret2
          exact ⟨.inr (.inr ⟨HSm.out, Hl.out, rfl⟩), K3.out⟩
end Go.Proofs.YtkkjbljhehnmjaaGreatDoor
