/- Contract of the reference's Words. -/
import Derived.Test.YtmhnjgnljfkdcaaDoorLxF
namespace Go.Proofs.YtmhnjgnljfkdcaaDoor
open Go.RowKit

/-- What the reference's Words answers. -/
def RWordsPost (s : ByteArray) (w : World) (e : Ending) (w2 : World) : Prop :=
  Kp [] w w2 ∧ ((2000 < s.size ∧ e = .returned (.tuple #[.slice none 0 0, .int .i64 13])) ∨
    (s.size ≤ 2000 ∧ res s.data.toList = none ∧ e = .returned (.tuple #[.slice none 0 0, .int .i64 10])) ∨
    (s.size ≤ 2000 ∧ ∃ v ws, res s.data.toList = some ws ∧ e = .returned (.tuple #[v, .int .i64 0]) ∧ OwnStrs w2 w.heap.size v ws))
/-- Between two rounds. -/
structure RMid (all : List UInt8) (w0 w : World) (k m : Nat) (v : Value) : Prop where
  kp : Kp [] w0 w
  ex : ∃ l : List ByteArray, l.length = k ∧ OwnStrs w w0.heap.size v l ∧ (res (all.drop m)).map (l ++ ·) = res all
/-- Behind a byte of a run, or at one. -/
def Pre (s : ByteArray) (m k : Nat) : Prop := headP (s.data.toList.drop k) = true ∨ ∃ h : k - 1 < s.size, m < k ∧ plainI ((s[k - 1]'h).toNat : Int) = true
theorem headP_at (s : ByteArray) (k : Nat) (h : k < s.size) : headP (s.data.toList.drop k) = plainI ((s[k]'h).toNat : Int) := by rw [bytes_at s k h]; rfl
theorem runN_plain (s : ByteArray) (k : Nat) (h : k < s.size) (hp : plainI ((s[k]'h).toNat : Int) = true) : runN (s.data.toList.drop k) = runN (s.data.toList.drop (k + 1)) + 1 := by
  rw [runN_step s k h, hp, Bool.true_or, if_pos rfl]
theorem runN_point (s : ByteArray) (k : Nat) (h : k < s.size) (hp : plainI ((s[k]'h).toNat : Int) = false) (hd : (((s[k]'h).toNat : Int) == 46) = true) : runN (s.data.toList.drop k) = if headP (s.data.toList.drop (k + 1)) = true then runN (s.data.toList.drop (k + 1)) + 1 else 0 := by
  rw [runN_step s k h, hp, Bool.false_or, bytes_at s k h, joinsL, joinB, ← byte_eq, show (((s[k]'h).toNat : Int) == ((46 : UInt8).toNat : Int)) = true from hd, Bool.true_and]
theorem runN_other (s : ByteArray) (k : Nat) (h : k < s.size) (hp : plainI ((s[k]'h).toNat : Int) = false) (hd : (((s[k]'h).toNat : Int) == 46) = false) : runN (s.data.toList.drop k) = 0 := by
  rw [runN_step s k h, hp, Bool.false_or, bytes_at s k h, joinsL, joinB, ← byte_eq, show (((s[k]'h).toNat : Int) == ((46 : UInt8).toNat : Int)) = false from hd, Bool.false_and, if_neg (by simp)]
theorem sizeL_plain (s : ByteArray) (m : Nat) (h : m < s.size) (hp : plainI ((s[m]'h).toNat : Int) = true) : sizeL (s.data.toList.drop m) = runN (s.data.toList.drop m) := by
  rw [runN_plain s m h hp, bytes_at s m h, sizeL, if_pos (show plainB (s[m]'h) = true from hp)]
theorem sizeL_sym (s : ByteArray) (m : Nat) (h : m < s.size) (hp : plainI ((s[m]'h).toNat : Int) = false) : sizeL (s.data.toList.drop m) = symN (s.data.toList.drop m) (s[m]'h) := by
  have hp' : plainB (s[m]'h) = false := hp
  rw [bytes_at s m h, sizeL, hp', if_neg (by simp)]
  rfl
theorem ext_head (s : ByteArray) (m : Nat) (h : m < s.size) (h2 : 0 < (s.extract m s.size).size) : (s.extract m s.size)[0]'h2 = s[m]'h := by
  have e := bytes_at (s.extract m s.size) 0 h2
  rw [List.drop_zero, Lib.extract_to_end, bytes_at s m h] at e
  exact (List.cons.inj e).1.symm
theorem sym_at (s : ByteArray) (m : Nat) (h : m < s.size) (w : World) : Calls Tryd.prog 16 #[.string (s.extract m s.size)] w fun e w2 => e = .returned (.int .i64 ((symN (s.data.toList.drop m) (s[m]'h) : Nat) : Int)) ∧ w2 = w := by
  have h2 : 0 < (s.extract m s.size).size := by rw [ByteArray.size_extract]; omega
  have c := symbol_is (s.extract m s.size) h2 w
  rw [ext_head s m h h2, Lib.extract_to_end] at c
  exact c
theorem news1 (w : World) (t : TypeId) (x : Value) : ∀ (j : Nat) (u : Value), [x][j]? = some u → (w.alloc (.cells #[x] t)).cell? ((⟨w.heap.size, 0, none⟩ : Addr).add j) = some u := by
  intro j u hj
  match j, hj with
  | 0, hj => simp at hj; subst hj; simp [Addr.add]
theorem one_cell (t : ByteArray) : ∀ u ∈ [Value.string t], u.oneCell' = true := by
  intro u hu; simp at hu; subst hu; rfl
def blankI (c : Int) : Bool := c == 32 || c == 9 || c == 10 || c == 13
theorem blankB_I (b : UInt8) : blankB b = blankI (b.toNat : Int) := by
  have h := byte_eq b
  unfold blankB blanks blankI
  rw [show ((b.toNat : Int) == 32) = (b == 32) from h 32, show ((b.toNat : Int) == 9) = (b == 9) from h 9, show ((b.toNat : Int) == 10) = (b == 10) from h 10, show ((b.toNat : Int) == 13) = (b == 13) from h 13]
  simp only [List.contains_cons, List.contains_nil, Bool.or_false, Bool.or_assoc]
theorem res_blank (s : ByteArray) (m : Nat) (h : m < s.size) (hb : blankI ((s[m]'h).toNat : Int) = true) : res (s.data.toList.drop m) = res (s.data.toList.drop (m + 1)) := by
  unfold res
  rw [bytes_at s m h, wordsL_blank (by rw [blankB_I]; exact hb)]
theorem noBlank_at (s : ByteArray) (m : Nat) (h : m < s.size) (hb : blankI ((s[m]'h).toNat : Int) = false) : NoBlank (s.data.toList.drop m) := fun b r e => by
  rw [bytes_at s m h] at e
  rw [← (List.cons.inj e).1, blankB_I]
  exact hb
theorem RMid.step {s : ByteArray} {w0 w3 : World} {k m n K : Nat} {v' : Value} {l : List ByteArray} (h1 : m < s.size) (hb : blankI ((s[m]'h1).toNat : Int) = false) (hn : sizeL (s.data.toList.drop m) = n) (hz : n ≠ 0) (hl : l.length = k) (h3 : (res (s.data.toList.drop m)).map (l ++ ·) = res s.data.toList) (K3 : Kp [] w0 w3) (O3 : OwnStrs w3 w0.heap.size v' (l ++ [s.extract m K])) (hK : K = m + n) : RMid s.data.toList w0 w3 (k + 1) K v' := by
  subst hK
  refine ⟨K3, _, by simp [hl], O3, ?_⟩
  rw [← h3, res_word (noBlank_at s m h1 hb) (by rw [hn]; exact hz), hn, List.drop_drop, Option.map_map]
  have e : s.extract m (m + n) = mkB ((s.data.toList.drop m).take n) := by
    rw [← mkB_of (s.extract m (m + n)), Lib.extract_data, Nat.add_sub_cancel_left]
  rw [e]
  congr 1
  funext x
  simp

set_option maxHeartbeats 12800000 in
set_option maxRecDepth 20000 in
theorem rwords_any (s : ByteArray) (w : World) : Calls Tryd.prog 9 #[.string s] w (RWordsPost s w) := by
  by_cases hs : 2000 < s.size
  · have d1 : decide ((2000 : Int) < (s.size : Int)) = true := by simp; omega
    have Hs := Lib.hid hs
    clear hs
    go_enter Tryd.func9, Tryd.ntmps9
    go_wp2_with fail
    go_ret2
    exact ⟨Kp.refl [] w, .inl ⟨Hs.out, rfl⟩⟩
  have d1 : decide ((2000 : Int) < (s.size : Int)) = false := by simp; omega
  have hs9 : s.size ≤ 2000 := by omega
  obtain ⟨i0, hi0, hz0, hz1, hz2⟩ := info_parts strInfo
  have Hi := Lib.hid hi0
  have M0 : Hid (RMid s.data.toList w w 0 0 (.slice none 0 0)) := ⟨Kp.refl [] w, [], rfl, ⟨rfl, .inl ⟨rfl, rfl⟩⟩, by simp⟩
  clear hi0 hs
  go_enter Tryd.func9, Tryd.ntmps9
  go_wp2_with fail
  go_loopw [4, 5] (fun v i wr => ∃ (k : Nat) (a : Option Addr) (c : Nat) (m : Nat), m ≤ s.size ∧ v = .slice a k c ∧ i = .int .i64 (m : Int) ∧ k ≤ m ∧ Hid (RMid s.data.toList w wr k m (.slice a k c))) (fun _ i _ => s.size - (intOf i).toNat)
  case atStart => exact ⟨0, none, 0, 0, Nat.zero_le _, rfl, rfl, Nat.le_refl _, M0⟩
  case round =>
    clear M0
    obtain ⟨wo, hwo⟩ : ∃ wo, wo = wr := ⟨_, rfl⟩
    subst hwo
    obtain ⟨k, a, c, m, hm, rfl, rfl, hkm, HM⟩ := hrel
    by_cases hlt : m < s.size
    · have l1 : decide ((m : Int) < (s.size : Int)) = true := by simpa using hlt

      cases f0 : (((s[m]'hlt).toNat : Int) == 32) with
      | true =>
        have HR : Hid (RMid s.data.toList w wo k (m + 1) (.slice a k c)) := by
          obtain ⟨l, h1, h2, h3⟩ := HM.out.ex
          exact ⟨HM.out.kp, l, h1, h2, by rw [← res_blank s m hlt (by simp only [blankI, f0]; rfl)]; exact h3⟩
        have Hlt := Lib.hid hlt
        clear HM
        go_wp2_with fail
        go_roundw
        case rel => exact ⟨k, a, c, m + 1, Hlt.out, rfl, by go_num, by omega, HR⟩
        case measure => have := Hlt.out; simp [intOf]; omega
      | false =>
        cases f1 : (((s[m]'hlt).toNat : Int) == 9) with
        | true =>
          have HR : Hid (RMid s.data.toList w wo k (m + 1) (.slice a k c)) := by
            obtain ⟨l, h1, h2, h3⟩ := HM.out.ex
            exact ⟨HM.out.kp, l, h1, h2, by rw [← res_blank s m hlt (by simp only [blankI, f0, f1]; rfl)]; exact h3⟩
          have Hlt := Lib.hid hlt
          clear HM
          go_wp2_with fail
          go_roundw
          case rel => exact ⟨k, a, c, m + 1, Hlt.out, rfl, by go_num, by omega, HR⟩
          case measure => have := Hlt.out; simp [intOf]; omega
        | false =>
          cases f2 : (((s[m]'hlt).toNat : Int) == 10) with
          | true =>
            have HR : Hid (RMid s.data.toList w wo k (m + 1) (.slice a k c)) := by
              obtain ⟨l, h1, h2, h3⟩ := HM.out.ex
              exact ⟨HM.out.kp, l, h1, h2, by rw [← res_blank s m hlt (by simp only [blankI, f0, f1, f2]; rfl)]; exact h3⟩
            have Hlt := Lib.hid hlt
            clear HM
            go_wp2_with fail
            go_roundw
            case rel => exact ⟨k, a, c, m + 1, Hlt.out, rfl, by go_num, by omega, HR⟩
            case measure => have := Hlt.out; simp [intOf]; omega
          | false =>
            cases f3 : (((s[m]'hlt).toNat : Int) == 13) with
            | true =>
              have HR : Hid (RMid s.data.toList w wo k (m + 1) (.slice a k c)) := by
                obtain ⟨l, h1, h2, h3⟩ := HM.out.ex
                exact ⟨HM.out.kp, l, h1, h2, by rw [← res_blank s m hlt (by simp only [blankI, f0, f1, f2, f3]; rfl)]; exact h3⟩
              have Hlt := Lib.hid hlt
              clear HM
              go_wp2_with fail
              go_roundw
              case rel => exact ⟨k, a, c, m + 1, Hlt.out, rfl, by go_num, by omega, HR⟩
              case measure => have := Hlt.out; simp [intOf]; omega
            | false =>
              have HB := Lib.hid (show blankI ((s[m]'hlt).toNat : Int) = false by simp only [blankI, f0, f1, f2, f3]; rfl)
              obtain ⟨l, hl1, hl2, hl3⟩ := HM.out.ex
              unfold OwnStrs at hl2
              rw [hl1] at hl2
              have Hl1 := Lib.hid hl1
              have Hl3 := Lib.hid hl3
              obtain ⟨xs, hxs⟩ : ∃ xs, xs = l.map Value.string := ⟨_, rfl⟩
              rw [← hxs] at hl2
              have Hxs := Lib.hid hxs
              have K2 := Lib.hid HM.out.kp
              have hsz : w.heap.size ≤ wo.heap.size := K2.out.size
              have C3 : Hid (k + 1 ≤ maxLen) := Lib.hid (by unfold maxLen; omega)
              have C4 : Hid ((k + 1) * 16 ≤ 140737488355328) := Lib.hid (by omega)
              clear hl1 hl3 hxs HM
              cases hp : plainI ((s[m]'hlt).toNat : Int) with
              | true =>
                obtain ⟨n, hn⟩ : ∃ n, n = runN (s.data.toList.drop m) := ⟨_, rfl⟩
                have hn1 : n ≠ 0 := by rw [hn, runN_plain s m hlt hp]; omega
                have hmn : m + n ≤ s.size := by
                  have := runN_le (s.data.toList.drop m)
                  rw [List.length_drop, ← Lib.size_eq] at this
                  omega
                have Hz := Lib.hid hn1
                obtain ⟨K, hK⟩ : ∃ K, K = m + n := ⟨_, rfl⟩
                have hK9 : K ≤ s.size := by omega
                have hmK : m < K := by omega
                have hmK2 : m ≤ K := by omega
                have HK := Lib.hid hK
                have Hn := Lib.hid (show sizeL (s.data.toList.drop m) = n by rw [sizeL_plain s m hlt hp, hn])
                have HK0 := Lib.hid (show K = m + runN (s.data.toList.drop m) by rw [hK, hn])
                have HP0 : Hid (Pre s m m) := .inl (by rw [headP_at s m hlt]; exact hp)
                have Hm := Lib.hid hlt
                have zk : ((K : Int) == (m : Int)) = false := by simp; omega
                clear hn hK hmn hn1
                go_wp2_with fail
                go_loopw [6] (fun j wr => ∃ q : Nat, q ≤ s.size ∧ m ≤ q ∧ Hid (K = q + runN (s.data.toList.drop q)) ∧ Hid (Pre s m q) ∧ j = .int .i64 (q : Int) ∧ wr = wo) (fun j _ => s.size - (intOf j).toNat)
                case atStart => exact ⟨m, hm, Nat.le_refl _, HK0, HP0, rfl, rfl⟩
                case round =>
                  clear HK0 HP0
                  obtain ⟨q, hq, hmq, HKq, HP, rfl, hw⟩ := hrel
                  have hw := hw.symm
                  subst hw
                  by_cases hqt : q < s.size
                  · have l2 : decide ((q : Int) < (s.size : Int)) = true := by simpa using hqt
                    cases p1 : plainI ((s[q]'hqt).toNat : Int) with
                    | true =>
                      have HC := Lib.hid (fun W => (rrun_is ((s[q]'hqt).toNat : Int) W))
                      rw [p1] at HC
                      have HKn := Lib.hid (show K = q + 1 + runN (s.data.toList.drop (q + 1)) by have h2 := runN_plain s q hqt p1; have h3 := HKq.out; omega)
                      have HPn : Hid (Pre s m (q + 1)) := .inr ⟨hqt, by omega, p1⟩
                      have Hq := Lib.hid hqt
                      clear p1 HKq HP
                      go_wp2_with (go_at_call 15; refine Calls.mono (HC.out _) ?_; rintro e w2 ⟨rfl, rfl⟩)
                      go_roundw
                      case rel => exact ⟨q + 1, Hq.out, by omega, HKn, HPn, by go_num, by simp⟩
                      case measure => have := Hq.out; simp [intOf]; omega
                    | false =>
              
                      have P1 := Lib.hid p1
                      cases p2 : (((s[q]'hqt).toNat : Int) == 46) with
                      | false =>
                        have hqK : K = q := by have h2 := runN_other s q hqt p1 p2; have h3 := HKq.out; rw [h2] at h3; omega
                        subst hqK
                        clear HKq HP p1
                        go_wp2_with (first | (go_at_call 15; refine Calls.mono (rrun_is _ _) ?_; rintro e w2 ⟨rfl, hw2⟩; have hw2 := hw2.symm; subst hw2; rw [P1.out]) | (at_builtin; refine wpList_append_own _ rfl _ _ 23 rfl w.heap.size 9 i0 (.string ⟨#[]⟩) 1 16 Tryd.underlying23 Hi.out hz0 hz1 hz2 rfl (by decide) _ k xs rfl (hl2.alloc _) ⟨wo.heap.size, 0, none⟩ 1 1 [.string (s.extract m K)] rfl rfl (news1 _ _ _) (one_cell _) C3.out C4.out (by simp; omega) ?_))
                        intro v' w3 hown' hgrow _
                        obtain ⟨K3, O3⟩ := OwnStrs.grown hl2 K2.out hgrow hown' Hl1.out Hxs.out
                        have H5 := Lib.hid (RMid.step Hm.out HB.out Hn.out Hz.out Hl1.out Hl3.out K3 O3 HK.out)
                        obtain ⟨a2, c2, rfl⟩ : ∃ a2 c2, v' = .slice a2 (k + 1) c2 := by
                          obtain ⟨a, c, h4, _, _⟩ := O3.form
                          rw [List.length_append, Hl1.out] at h4
                          exact ⟨a, c, h4⟩
                        clear hown' hgrow hl2 K3 O3
                        go_wp2_with fail
                        go_roundw
                        case rel => exact ⟨k + 1, a2, c2, K, hK9, rfl, rfl, by omega, H5⟩
                        case measure => simp [intOf]; omega
                      | true =>
                        have hpre : ∃ h : q - 1 < s.size, m < q ∧ plainI ((s[q - 1]'h).toNat : Int) = true := by
                          rcases HP.out with h | h
                          · rw [headP_at s q hqt, p1] at h; cases h
                          · exact h
                        obtain ⟨hq1, hmq1, p0⟩ := hpre
                        have P0 := Lib.hid p0
                        have d3 : decide ((m : Int) < (q : Int)) = true := by simpa using hmq1
                        by_cases hq2 : q + 1 < s.size
                        · have d4 : decide ((q : Int) + 1 < (s.size : Int)) = true := by simp; omega
                          cases p3 : plainI ((s[q + 1]'hq2).toNat : Int) with
                          | true =>
                            have P3 := Lib.hid p3
                            have HKn := Lib.hid (show K = q + 1 + runN (s.data.toList.drop (q + 1)) by have h2 := runN_point s q hqt p1 p2; rw [headP_at s (q + 1) hq2, p3, if_pos rfl] at h2; have h3 := HKq.out; omega)
                            have HPn : Hid (Pre s m (q + 1)) := .inl (by rw [headP_at s (q + 1) hq2]; exact p3)
                            have Hq := Lib.hid hqt
                            clear p0 p1 p3 HKq HP
                            go_wp2_with (go_at_call 15; refine Calls.mono (rrun_is _ _) ?_; rintro e w2 ⟨rfl, hw2⟩; have hw2 := hw2.symm; subst hw2; first | rw [P1.out] | rw [P0.out] | rw [P3.out])
                            go_roundw
                            case rel => exact ⟨q + 1, Hq.out, by omega, HKn, HPn, by go_num, by simp⟩
                            case measure => have := Hq.out; simp [intOf]; omega
                          | false =>
                            have P3 := Lib.hid p3
                            have hqK : K = q := by have h2 := runN_point s q hqt p1 p2; rw [headP_at s (q + 1) hq2, p3, if_neg (by simp)] at h2; have h3 := HKq.out; rw [h2] at h3; omega
                            subst hqK
                            clear HKq HP p0 p1 p3
                            go_wp2_with (first | (go_at_call 15; refine Calls.mono (rrun_is _ _) ?_; rintro e w2 ⟨rfl, hw2⟩; have hw2 := hw2.symm; subst hw2; first | rw [P1.out] | rw [P0.out] | rw [P3.out]) | (at_builtin; refine wpList_append_own _ rfl _ _ 23 rfl w.heap.size 9 i0 (.string ⟨#[]⟩) 1 16 Tryd.underlying23 Hi.out hz0 hz1 hz2 rfl (by decide) _ k xs rfl (hl2.alloc _) ⟨wo.heap.size, 0, none⟩ 1 1 [.string (s.extract m K)] rfl rfl (news1 _ _ _) (one_cell _) C3.out C4.out (by simp; omega) ?_))
                            intro v' w3 hown' hgrow _
                            obtain ⟨K3, O3⟩ := OwnStrs.grown hl2 K2.out hgrow hown' Hl1.out Hxs.out
                            have H5 := Lib.hid (RMid.step Hm.out HB.out Hn.out Hz.out Hl1.out Hl3.out K3 O3 HK.out)
                            obtain ⟨a2, c2, rfl⟩ : ∃ a2 c2, v' = .slice a2 (k + 1) c2 := by
                              obtain ⟨a, c, h4, _, _⟩ := O3.form
                              rw [List.length_append, Hl1.out] at h4
                              exact ⟨a, c, h4⟩
                            clear hown' hgrow hl2 K3 O3
                            go_wp2_with fail
                            go_roundw
                            case rel => exact ⟨k + 1, a2, c2, K, hK9, rfl, rfl, by omega, H5⟩
                            case measure => simp [intOf]; omega
                        · have d4 : decide ((q : Int) + 1 < (s.size : Int)) = false := by simp; omega
                          have hqK : K = q := by have h2 := runN_point s q hqt p1 p2; rw [bytes_end s (q + 1) (by omega), headP, if_neg (by simp)] at h2; have h3 := HKq.out; rw [h2] at h3; omega
                          subst hqK
                          clear HKq HP p0 p1
                          go_wp2_with (first | (go_at_call 15; refine Calls.mono (rrun_is _ _) ?_; rintro e w2 ⟨rfl, hw2⟩; have hw2 := hw2.symm; subst hw2; first | rw [P1.out] | rw [P0.out]) | (at_builtin; refine wpList_append_own _ rfl _ _ 23 rfl w.heap.size 9 i0 (.string ⟨#[]⟩) 1 16 Tryd.underlying23 Hi.out hz0 hz1 hz2 rfl (by decide) _ k xs rfl (hl2.alloc _) ⟨wo.heap.size, 0, none⟩ 1 1 [.string (s.extract m K)] rfl rfl (news1 _ _ _) (one_cell _) C3.out C4.out (by simp; omega) ?_))
                          intro v' w3 hown' hgrow _
                          obtain ⟨K3, O3⟩ := OwnStrs.grown hl2 K2.out hgrow hown' Hl1.out Hxs.out
                          have H5 := Lib.hid (RMid.step Hm.out HB.out Hn.out Hz.out Hl1.out Hl3.out K3 O3 HK.out)
                          obtain ⟨a2, c2, rfl⟩ : ∃ a2 c2, v' = .slice a2 (k + 1) c2 := by
                            obtain ⟨a, c, h4, _, _⟩ := O3.form
                            rw [List.length_append, Hl1.out] at h4
                            exact ⟨a, c, h4⟩
                          clear hown' hgrow hl2 K3 O3
                          go_wp2_with fail
                          go_roundw
                          case rel => exact ⟨k + 1, a2, c2, K, hK9, rfl, rfl, by omega, H5⟩
                          case measure => simp [intOf]; omega
                  · have l2 : decide ((q : Int) < (s.size : Int)) = false := by simpa using hqt
                    have hqK : K = q := by have h2 := bytes_end s q (by omega); have h3 := HKq.out; rw [h2, runN] at h3; omega
                    subst hqK
                    clear HKq HP
              
                    go_wp2_with (at_builtin; refine wpList_append_own _ rfl _ _ 23 rfl w.heap.size 9 i0 (.string ⟨#[]⟩) 1 16 Tryd.underlying23 Hi.out hz0 hz1 hz2 rfl (by decide) _ k xs rfl (hl2.alloc _) ⟨wo.heap.size, 0, none⟩ 1 1 [.string (s.extract m K)] rfl rfl (news1 _ _ _) (one_cell _) C3.out C4.out (by simp; omega) ?_)
                    intro v' w3 hown' hgrow _
                    obtain ⟨K3, O3⟩ := OwnStrs.grown hl2 K2.out hgrow hown' Hl1.out Hxs.out
                    have H5 := Lib.hid (RMid.step Hm.out HB.out Hn.out Hz.out Hl1.out Hl3.out K3 O3 HK.out)
                    obtain ⟨a2, c2, rfl⟩ : ∃ a2 c2, v' = .slice a2 (k + 1) c2 := by
                      obtain ⟨a, c, h4, _, _⟩ := O3.form
                      rw [List.length_append, Hl1.out] at h4
                      exact ⟨a, c, h4⟩
                    clear hown' hgrow hl2 K3 O3
                    go_wp2_with fail
                    go_roundw
                    case rel => exact ⟨k + 1, a2, c2, K, hK9, rfl, rfl, by omega, H5⟩
                    case measure => simp [intOf]; omega
              | false =>
                obtain ⟨n, hn⟩ : ∃ n, n = symN (s.data.toList.drop m) (s[m]'hlt) := ⟨_, rfl⟩
                have HSy := Lib.hid (sym_at s m hlt)
                rw [← hn] at HSy
                have Hn := Lib.hid (show sizeL (s.data.toList.drop m) = n by rw [sizeL_sym s m hlt hp, hn])
                have hmn : m + n ≤ s.size := by
                  have := sizeL_le (s.data.toList.drop m)
                  rw [Hn.out, List.length_drop, ← Lib.size_eq] at this
                  omega
                have P1 := Lib.hid hp
                have Hm := Lib.hid hlt
                have hm2 : m ≤ s.size := hm
                clear hn hp
                go_wp2_with fail
                go_loopw [6] (fun j wr => j = .int .i64 (m : Int) ∧ wr = wo) (fun _ _ => 0)
                case atStart => exact ⟨rfl, rfl⟩
                case round =>
                  obtain ⟨rfl, hw⟩ := hrel
                  have hw := hw.symm
                  subst hw
                  by_cases hz : n = 0
                  · subst hz
                    have HN : Hid (res s.data.toList = none) := by
                      rw [← Hl3.out, res_none (noBlank_at s m Hm.out HB.out) (by rw [bytes_at s m Hm.out]; simp) Hn.out]
                      rfl
                    cases p2 : (((s[m]'Hm.out).toNat : Int) == 46) with
                    | false =>
                      go_wp2_with (first
                        | (go_at_call 15; refine Calls.mono (rrun_is _ _) ?_; rintro e w2 ⟨rfl, hw2⟩; have hw2 := hw2.symm; subst hw2; rw [P1.out])
                        | (go_at_call 16; refine Calls.mono (HSy.out _) ?_; rintro e w2 ⟨rfl, hw2⟩; have hw2 := hw2.symm; subst hw2))
                      go_ret2
                      exact ⟨K2.out, .inr (.inl ⟨hs9, HN.out, rfl⟩)⟩
                    | true =>
                      go_wp2_with (first
                        | (go_at_call 15; refine Calls.mono (rrun_is _ _) ?_; rintro e w2 ⟨rfl, hw2⟩; have hw2 := hw2.symm; subst hw2; rw [P1.out])
                        | (go_at_call 16; refine Calls.mono (HSy.out _) ?_; rintro e w2 ⟨rfl, hw2⟩; have hw2 := hw2.symm; subst hw2))
                      go_ret2
                      exact ⟨K2.out, .inr (.inl ⟨hs9, HN.out, rfl⟩)⟩
                  · have Hz := Lib.hid hz
                    obtain ⟨K, hK⟩ : ∃ K, K = m + n := ⟨_, rfl⟩
                    have hK9 : K ≤ s.size := by omega
                    have hmK : m < K := by omega
                    have hmK2 : m ≤ K := by omega
                    have HK := Lib.hid hK
                    have eK : (m : Int) + (n : Int) = (K : Int) := by omega
                    have zk : ((K : Int) == (m : Int)) = false := by simp; omega
                    clear hK hmn hz
                    cases p2 : (((s[m]'Hm.out).toNat : Int) == 46) with
                    | false =>
                        go_wp2_with (first | (go_at_call 15; refine Calls.mono (rrun_is _ _) ?_; rintro e w2 ⟨rfl, hw2⟩; have hw2 := hw2.symm; subst hw2; rw [P1.out]) | (go_at_call 16; refine Calls.mono (HSy.out _) ?_; rintro e w2 ⟨rfl, hw2⟩; have hw2 := hw2.symm; subst hw2) | (at_builtin; refine wpList_append_own _ rfl _ _ 23 rfl w.heap.size 9 i0 (.string ⟨#[]⟩) 1 16 Tryd.underlying23 Hi.out hz0 hz1 hz2 rfl (by decide) _ k xs rfl (hl2.alloc _) ⟨wo.heap.size, 0, none⟩ 1 1 [.string (s.extract m K)] rfl rfl (news1 _ _ _) (one_cell _) C3.out C4.out (by simp; omega) ?_))
                        intro v' w3 hown' hgrow _
                        obtain ⟨K3, O3⟩ := OwnStrs.grown hl2 K2.out hgrow hown' Hl1.out Hxs.out
                        have H5 := Lib.hid (RMid.step Hm.out HB.out Hn.out Hz.out Hl1.out Hl3.out K3 O3 HK.out)
                        obtain ⟨a2, c2, rfl⟩ : ∃ a2 c2, v' = .slice a2 (k + 1) c2 := by
                          obtain ⟨a, c, h4, _, _⟩ := O3.form
                          rw [List.length_append, Hl1.out] at h4
                          exact ⟨a, c, h4⟩
                        clear hown' hgrow hl2 K3 O3
                        go_wp2_with fail
                        go_roundw
                        case rel => exact ⟨k + 1, a2, c2, K, hK9, rfl, rfl, by omega, H5⟩
                        case measure => simp [intOf]; omega
                    | true =>
                        go_wp2_with (first | (go_at_call 15; refine Calls.mono (rrun_is _ _) ?_; rintro e w2 ⟨rfl, hw2⟩; have hw2 := hw2.symm; subst hw2; rw [P1.out]) | (go_at_call 16; refine Calls.mono (HSy.out _) ?_; rintro e w2 ⟨rfl, hw2⟩; have hw2 := hw2.symm; subst hw2) | (at_builtin; refine wpList_append_own _ rfl _ _ 23 rfl w.heap.size 9 i0 (.string ⟨#[]⟩) 1 16 Tryd.underlying23 Hi.out hz0 hz1 hz2 rfl (by decide) _ k xs rfl (hl2.alloc _) ⟨wo.heap.size, 0, none⟩ 1 1 [.string (s.extract m K)] rfl rfl (news1 _ _ _) (one_cell _) C3.out C4.out (by simp; omega) ?_))
                        intro v' w3 hown' hgrow _
                        obtain ⟨K3, O3⟩ := OwnStrs.grown hl2 K2.out hgrow hown' Hl1.out Hxs.out
                        have H5 := Lib.hid (RMid.step Hm.out HB.out Hn.out Hz.out Hl1.out Hl3.out K3 O3 HK.out)
                        obtain ⟨a2, c2, rfl⟩ : ∃ a2 c2, v' = .slice a2 (k + 1) c2 := by
                          obtain ⟨a, c, h4, _, _⟩ := O3.form
                          rw [List.length_append, Hl1.out] at h4
                          exact ⟨a, c, h4⟩
                        clear hown' hgrow hl2 K3 O3
                        go_wp2_with fail
                        go_roundw
                        case rel => exact ⟨k + 1, a2, c2, K, hK9, rfl, rfl, by omega, H5⟩
                        case measure => simp [intOf]; omega
    · have l1 : decide ((m : Int) < (s.size : Int)) = false := by simpa using hlt
      have HR : Hid (∃ l : List ByteArray, l.length = k ∧ OwnStrs wo w.heap.size (.slice a k c) l ∧ res s.data.toList = some l) := by
        obtain ⟨l, h1, h2, h3⟩ := HM.out.ex
        rw [bytes_end s m (by omega)] at h3
        refine ⟨l, h1, h2, ?_⟩
        rw [← h3]
        show (some []).map (l ++ ·) = some l
        simp
      go_wp2_with fail
      go_ret2
      obtain ⟨l, h1, h2, h3⟩ := HR.out
      exact ⟨HM.out.kp, .inr (.inr ⟨hs9, _, l, h3, rfl, h2⟩)⟩
end Go.Proofs.YtmhnjgnljfkdcaaDoor
