/- The walk of the law PackRows. -/
import Derived.Test.YtgnkdcaboljapaaDoorPBkS
import Derived.Test.YtgnkdcaboljapaaDoorRowsAt
import Derived.Test.YtgnkdcaboljapaaDoorPSzW
import Derived.OpenShut
namespace Go.Proofs.YtgnkdcaboljapaaDoor
open Go.RowKit

/-- What is put from place j on: m numbers, a text behind each one that has one. -/
def sufB (z : Nat → Nat) (sx : Nat → ByteArray) (ls : Nat) : Nat → Nat → ByteArray
  | 0, _ => ByteArray.empty
  | m + 1, j => numS (z j) ++ ((if j < ls then numS (sx j).size ++ sx j else ByteArray.empty) ++ sufB z sx ls m (j + 1))
theorem suf_with (z : Nat → Nat) (sx : Nat → ByteArray) (ls m j : Nat) (h : j < ls) : sufB z sx ls (m + 1) j = numS (z j) ++ (numS (sx j).size ++ sx j ++ sufB z sx ls m (j + 1)) := by
  simp only [sufB, if_pos h]
theorem suf_without (z : Nat → Nat) (sx : Nat → ByteArray) (ls m j : Nat) (h : ¬ j < ls) : sufB z sx ls (m + 1) j = numS (z j) ++ sufB z sx ls m (j + 1) := by
  simp only [sufB, if_neg h, ByteArray.empty_append]
theorem suf_size (z : Nat → Nat) (sx : Nat → ByteArray) (ls : Nat) : ∀ (m j : Nat), (∀ i, j ≤ i → i < j + m → z i < 4294967296 ∧ (i < ls → (sx i).size ≤ 60)) → (sufB z sx ls m j).size ≤ 80 * m
  | 0, j, h => by simp [sufB]
  | m + 1, j, h => by
    have ih := suf_size z sx ls m (j + 1) (fun i h1 h2 => h i (by omega) (by omega))
    obtain ⟨h1, h2⟩ := h j (Nat.le_refl _) (by omega)
    have n1 := numS_le (z j) (by omega)
    by_cases hj : j < ls
    · have n2 := numS_le (sx j).size (by have := h2 hj; omega)
      have := h2 hj
      rw [suf_with _ _ _ _ _ hj]
      simp only [ByteArray.size_append]
      omega
    · rw [suf_without _ _ _ _ _ hj]
      simp only [ByteArray.size_append]
      omega
/-- The first loop's state. -/
def PutSt (z : Nat → Nat) (sx : Nat → ByteArray) (ls n j : Nat) (b : ByteArray) : Prop :=
  b.size ≤ 80 * j ∧ b ++ sufB z sx ls (n - j) j = sufB z sx ls n 0 ∧ ∀ i, i < j → i < ls → (sx i).size ≤ 60
theorem PutSt.start (z : Nat → Nat) (sx : Nat → ByteArray) (ls n : Nat) : PutSt z sx ls n 0 ByteArray.empty := ⟨by simp, by simp, fun i h => by omega⟩
theorem PutSt.with {z : Nat → Nat} {sx : Nat → ByteArray} {ls n j : Nat} {b : ByteArray} (h : PutSt z sx ls n j b) (hn : j < n) (hz : z j < 4294967296) (hl : j < ls) (h60 : (sx j).size ≤ 60) :
    PutSt z sx ls n (j + 1) (b ++ numS (z j) ++ (numS (sx j).size ++ sx j)) := by
  obtain ⟨h1, h2, h3⟩ := h
  have n1 := numS_le (z j) (by omega)
  have n2 := numS_le (sx j).size (by omega)
  refine ⟨by simp only [ByteArray.size_append]; omega, ?_, fun i hi hil => ?_⟩
  · rw [← h2, show n - j = (n - (j + 1)) + 1 by omega, suf_with _ _ _ _ _ hl]
    simp only [ByteArray.append_assoc]
  · by_cases e : i = j
    · subst e; exact h60
    · exact h3 i (by omega) hil
theorem PutSt.without {z : Nat → Nat} {sx : Nat → ByteArray} {ls n j : Nat} {b : ByteArray} (h : PutSt z sx ls n j b) (hn : j < n) (hz : z j < 4294967296) (hl : ¬ j < ls) :
    PutSt z sx ls n (j + 1) (b ++ numS (z j)) := by
  obtain ⟨h1, h2, h3⟩ := h
  have n1 := numS_le (z j) (by omega)
  refine ⟨by simp only [ByteArray.size_append]; omega, ?_, fun i hi hil => h3 i (by omega) hil⟩
  rw [← h2, show n - j = (n - (j + 1)) + 1 by omega, suf_without _ _ _ _ _ hl]
  simp only [ByteArray.append_assoc]
theorem PutSt.done {z : Nat → Nat} {sx : Nat → ByteArray} {ls n : Nat} {b : ByteArray} (h : PutSt z sx ls n n b) : b = sufB z sx ls n 0 ∧ ∀ i, i < n → i < ls → (sx i).size ≤ 60 := by
  obtain ⟨h1, h2, h3⟩ := h
  rw [Nat.sub_self] at h2
  exact ⟨by rw [← h2]; simp [sufB], h3⟩
theorem put_size {z : Nat → Nat} {sx : Nat → ByteArray} {ls n j : Nat} {b : ByteArray} (h : PutSt z sx ls n j b) : b.size ≤ 80 * j := h.1
theorem rows_text (s R ts : ByteArray) (h : ts = numS s.size ++ s) (hs : s.size ≤ 60) (hm : R.size ≤ 100000) (w : World) :
    Calls Tryd.prog 10 #[.string (ts ++ R), .int .i64 60] w fun e w2 => e = .returned (.tuple #[.string s, .string R, .nilIface]) ∧ Kp [] w w2 := by
  rw [h]
  exact t_text s R (by omega) hm 60 (by omega) w
set_option maxHeartbeats 6400000 in
set_option maxRecDepth 100000 in
theorem rows_any (ra sa : Option Addr) (rn rc sn sc : Nat) (z : Nat → Nat) (sx : Nat → ByteArray) (w : World) (hz : NatsAt w w.heap.size .u32 ra rn z) (hsx : StrsAt w w.heap.size sa sn sx) :
    Calls Tryd.prog 4 #[.slice ra rn rc, .slice sa sn sc] w fun e w2 => e = .returned (.bool true) ∧ Kp [] w w2 := by
  have H0 : Hid (Kp [] w w) := Kp.refl [] w
  have HN := Lib.hid hz
  have HX := Lib.hid hsx
  clear hz hsx
  by_cases h1 : 20 < rn
  · have d1 : decide ((20 : Int) < (rn : Int)) = true := by simp; omega
    go_enter Tryd.func4, Tryd.ntmps4
    go_wp2_with fail
    refine (known_any _).mono ?_
    rintro e x1 ⟨rfl, K⟩
    have H1 := Kp.step H0 K
    clear K H0
    go_wp2_with fail
    go_ret
    exact ⟨rfl, H1⟩
  by_cases h2 : 20 < sn
  · have d1 : decide ((20 : Int) < (rn : Int)) = false := by simp; omega
    have d2 : decide ((20 : Int) < (sn : Int)) = true := by simp; omega
    go_enter Tryd.func4, Tryd.ntmps4
    go_wp2_with fail
    refine (known_any _).mono ?_
    rintro e x1 ⟨rfl, K⟩
    have H1 := Kp.step H0 K
    clear K H0
    go_wp2_with fail
    go_ret
    exact ⟨rfl, H1⟩
  have d1 : decide ((20 : Int) < (rn : Int)) = false := by simp; omega
  have d2 : decide ((20 : Int) < (sn : Int)) = false := by simp; omega
  go_enter Tryd.func4, Tryd.ntmps4
  go_wp2_with fail
  refine (known_any _).mono ?_
  rintro e x1 ⟨rfl, K⟩
  have H1 := Kp.step H0 K
  clear K H0
  go_wp2_with fail
  go_loopw [5, 6] (fun b i wr => ∃ (j : Nat) (bb : ByteArray), j ≤ rn ∧ i = .int .i64 (j : Int) ∧ b = .string bb ∧ Hid (PutSt z sx sn rn j bb) ∧ Hid (Kp [] w wr)) (fun _ i _ => rn - (intOf i).toNat)
  case atStart => exact ⟨0, ByteArray.empty, Nat.zero_le _, rfl, rfl, PutSt.start _ _ _ _, H1⟩
  case round =>
    clear H1
    obtain ⟨j, bb, hj, rfl, rfl, HP, HK⟩ := hrel
    have hbs : bb.size ≤ 1600 := by have := put_size HP; omega
    by_cases hlt : j < rn
    · have d3 : decide (j < rn) = true := by simpa using hlt
      obtain ⟨wf, g, o, hra, hgl, hc⟩ := (HN.out.kp HK (Nat.le_refl _)) j hlt
      have hb := bounds_u32 wf
      have HRA := Lib.hid hra
      have Hgl := Lib.hid hgl
      clear wf hgl hra
      obtain ⟨zj, hzj⟩ : ∃ zj, zj = z j := ⟨_, rfl⟩
      rw [← hzj] at hb hc
      have HZ := Lib.hid hzj
      clear hzj
      have hn8 := numS_le zj (by omega)
      by_cases hs : j < sn
      · have d4 : decide (j < sn) = true := by simpa using hs
        obtain ⟨g2, o2, hsa, hg2, hc2⟩ := (HX.out.kp HK (Nat.le_refl _)) j hs
        have HSA := Lib.hid hsa
        have Hg2 := Lib.hid hg2
        clear hsa hg2
        obtain ⟨sj, hsj⟩ : ∃ sj, sj = sx j := ⟨_, rfl⟩
        rw [← hsj] at hc2
        have HS := Lib.hid hsj
        clear hsj
        obtain rfl := HRA.out
        obtain rfl := HSA.out
        by_cases h60 : 60 < sj.size
        · have d5 : decide ((60 : Int) < (sj.size : Int)) = true := by simp; omega
          go_wp2_with fail
          refine Calls.mono (num_nat zj (by omega) _) ?_
          rintro e x2 ⟨rfl, K⟩
          have hc3 : x2.cell? ⟨g2, o2 + j, none⟩ = some (.string sj) := by rw [K.cell0 (by have := Hg2.out; have := HK.out.size; omega)]; exact hc2
          have H2 := Kp.step HK K
          clear K HK
          go_wp2_with fail
          go_ret
          exact ⟨rfl, H2⟩
        · have d5 : decide ((60 : Int) < (sj.size : Int)) = false := by simp; omega
          obtain ⟨tj, htj⟩ : ∃ tj, tj = numS sj.size ++ sj := ⟨_, rfl⟩
          have ht8 : tj.size ≤ 68 := by rw [htj, ByteArray.size_append]; have := numS_le sj.size (by omega); omega
          have HTJ := Lib.hid htj
          clear htj
          go_wp2_with fail
          refine Calls.mono (num_nat zj (by omega) _) ?_
          rintro e x2 ⟨rfl, K⟩
          have hc3 : x2.cell? ⟨g2, o2 + j, none⟩ = some (.string sj) := by rw [K.cell0 (by have := Hg2.out; have := HK.out.size; omega)]; exact hc2
          have H2 := Kp.step HK K
          clear K HK
          go_wp2_with fail
          refine Calls.mono (text_any sj (by omega) _) ?_
          rw [← HTJ.out]
          rintro e x3 ⟨rfl, K⟩
          have H3 := Kp.step H2 K
          clear K H2
          go_wp2_with fail
          go_roundw
          case rel => exact ⟨j + 1, _, by omega, by go_num, rfl, by rw [HTJ.out, HZ.out, HS.out]; exact HP.out.with hlt (by have := HZ.out; omega) hs (by have := HS.out; rw [← this]; omega), H3⟩
          case measure => simp [intOf]; omega
      · have d4 : decide (j < sn) = false := by simpa using hs
        obtain rfl := HRA.out
        go_wp2_with fail
        refine Calls.mono (num_nat zj (by omega) _) ?_
        rintro e x2 ⟨rfl, K⟩
        have H2 := Kp.step HK K
        clear K HK
        go_wp2_with fail
        go_roundw
        case rel => exact ⟨j + 1, _, by omega, by go_num, rfl, by rw [HZ.out]; exact HP.out.without hlt (by have := HZ.out; omega) hs, H2⟩
        case measure => simp [intOf]; omega
    · have d3 : decide (j < rn) = false := by simpa using hlt
      obtain rfl : j = rn := by omega
      obtain ⟨hB, h60⟩ := HP.out.done
      have HB := Lib.hid hB
      have H60 := Lib.hid h60
      clear HP hB h60 hbs d3
      go_wp2_with fail
      go_loopw [5, 7] (fun b i wr => ∃ (q : Nat) (bb : ByteArray), q ≤ j ∧ i = .int .i64 (q : Int) ∧ b = .string bb ∧ Hid (bb = sufB z sx sn (j - q) q) ∧ Hid (Kp [] w wr)) (fun _ i _ => j - (intOf i).toNat)
      case atStart => exact ⟨0, bb, Nat.zero_le _, rfl, rfl, HB.out, HK⟩
      case round =>
        clear HB HK
        obtain ⟨q, bq, hq, rfl, rfl, HP, HK⟩ := hrel
        by_cases hlt : q < j
        · have d3 : decide (q < j) = true := by simpa using hlt
          obtain ⟨wf, g, o, hra, hgl, hc⟩ := (HN.out.kp HK (Nat.le_refl _)) q hlt
          have hb := bounds_u32 wf
          have HRA := Lib.hid hra
          have Hgl := Lib.hid hgl
          clear wf hgl hra
          obtain ⟨zj, hzj⟩ : ∃ zj, zj = z q := ⟨_, rfl⟩
          rw [← hzj] at hb hc
          have HZ := Lib.hid hzj
          clear hzj
          obtain ⟨R, hR⟩ : ∃ R, R = sufB z sx sn (j - (q + 1)) (q + 1) := ⟨_, rfl⟩
          have hRs : R.size ≤ 1600 := by
            have h9 := suf_size z sx sn (j - (q + 1)) (q + 1) (fun i i1 i2 => ⟨by have := bounds_u32 (HN.out i (by omega)).1; omega, H60.out i (by omega)⟩)
            rw [hR]; omega
          have HR := Lib.hid hR
          clear hR
          obtain rfl := HRA.out
          by_cases hs : q < sn
          · have d4 : decide (q < sn) = true := by simpa using hs
            obtain ⟨g2, o2, hsa, hg2, hc2⟩ := (HX.out.kp HK (Nat.le_refl _)) q hs
            have HSA := Lib.hid hsa
            have Hg2 := Lib.hid hg2
            clear hsa hg2
            obtain ⟨sj, hsj⟩ : ∃ sj, sj = sx q := ⟨_, rfl⟩
            rw [← hsj] at hc2
            have hs6 : sj.size ≤ 60 := by rw [hsj]; exact H60.out q hlt hs
            obtain ⟨tj, htj⟩ : ∃ tj, tj = numS sj.size ++ sj := ⟨_, rfl⟩
            have ht8 : tj.size ≤ 68 := by rw [htj, ByteArray.size_append]; have := numS_le sj.size (by omega); omega
            obtain rfl : bq = numS zj ++ (tj ++ R) := by
              rw [HP.out, show j - q = (j - (q + 1)) + 1 by omega, suf_with _ _ _ _ _ hs, htj, HZ.out, HR.out, hsj]
            have HTJ := Lib.hid htj
            have HS := Lib.hid hsj
            clear htj hsj HP
            obtain rfl := HSA.out
            go_wp2_with fail
            refine Calls.mono (t_num zj (by omega) (tj ++ R) (by rw [ByteArray.size_append]; omega) _) ?_
            rintro e x2 ⟨rfl, K⟩
            have hc3 : x2.cell? ⟨g, o + q, none⟩ = some (.int .u32 (zj : Int)) := by rw [K.cell0 (by have := Hgl.out; have := HK.out.size; omega)]; exact hc
            have hc4 : x2.cell? ⟨g2, o2 + q, none⟩ = some (.string sj) := by rw [K.cell0 (by have := Hg2.out; have := HK.out.size; omega)]; exact hc2
            have hx2 : g2 < x2.heap.size := by have := Hg2.out; have := HK.out.size; have := K.size; omega
            have H2 := Kp.step HK K
            clear K HK
            go_wp2_with fail
            refine Calls.mono (rows_text sj R tj HTJ.out hs6 (by omega) _) ?_
            rintro e x3 ⟨rfl, K⟩
            have hc5 : x3.cell? ⟨g2, o2 + q, none⟩ = some (.string sj) := by rw [K.cell0 hx2]; exact hc4
            have H3 := Kp.step H2 K
            clear K H2
            go_wp2_with fail
            go_roundw
            case rel => exact ⟨q + 1, _, by omega, by go_num, rfl, HR.out, H3⟩
            case measure => simp [intOf]; omega
          · have d4 : decide (q < sn) = false := by simpa using hs
            obtain rfl : bq = numS zj ++ R := by
              rw [HP.out, show j - q = (j - (q + 1)) + 1 by omega, suf_without _ _ _ _ _ hs, HZ.out, HR.out]
            clear HP
            go_wp2_with fail
            refine Calls.mono (t_num zj (by omega) R (by omega) _) ?_
            rintro e x2 ⟨rfl, K⟩
            have hc3 : x2.cell? ⟨g, o + q, none⟩ = some (.int .u32 (zj : Int)) := by rw [K.cell0 (by have := Hgl.out; have := HK.out.size; omega)]; exact hc
            have H2 := Kp.step HK K
            clear K HK
            go_wp2_with fail
            go_roundw
            case rel => exact ⟨q + 1, _, by omega, by go_num, rfl, HR.out, H2⟩
            case measure => simp [intOf]; omega
        · have d3 : decide (q < j) = false := by simpa using hlt
          obtain rfl : bq = ByteArray.empty := by rw [HP.out, show j - q = 0 by omega]; rfl
          go_wp2_with fail
          go_ret
          exact ⟨rfl, HK⟩
end Go.Proofs.YtgnkdcaboljapaaDoor
