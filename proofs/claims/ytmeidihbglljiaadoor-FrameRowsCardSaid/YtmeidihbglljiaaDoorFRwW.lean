/- The walk of the law FrameRows. -/
import Derived.Test.YtmeidihbglljiaaDoorFrK
import Derived.Test.YtmeidihbglljiaaDoorRowsAt
import Derived.OpenShut
namespace Go.Proofs.YtmeidihbglljiaaDoor
open Go.RowKit

/-- The frames from place j on, m of them. -/
def sufF (f : Nat) (sx : Nat → ByteArray) : Nat → Nat → ByteArray
  | 0, _ => ByteArray.empty
  | m + 1, j => wrapS (f + j) (sx j) ++ sufF f sx m (j + 1)
theorem sufF_size (f : Nat) (hf : f < 65536) (sx : Nat → ByteArray) : ∀ (m j : Nat), j + m ≤ 100 → (∀ i, j ≤ i → i < j + m → (sx i).size ≤ 80) → (sufF f sx m j).size ≤ 110 * m
  | 0, j, _, h => by simp [sufF]
  | m + 1, j, h1, h => by
    have ih := sufF_size f hf sx m (j + 1) (by omega) (fun i h1 h2 => h i (by omega) (by omega))
    have h2 := h j (Nat.le_refl _) (by omega)
    have h3 := (wrapS_size (f + j) (by show _ < 72057594037927936; omega) (sx j) (by omega)).1
    simp only [sufF, ByteArray.size_append]
    omega
/-- The first loop's state. -/
def FPutSt (f : Nat) (sx : Nat → ByteArray) (n j : Nat) (b : ByteArray) : Prop :=
  b.size ≤ 110 * j ∧ b ++ sufF f sx (n - j) j = sufF f sx n 0 ∧ ∀ i, i < j → (sx i).size ≤ 80
theorem FPutSt.start (f : Nat) (sx : Nat → ByteArray) (n : Nat) : FPutSt f sx n 0 ByteArray.empty := ⟨by simp, by simp, fun i h => by omega⟩
theorem FPutSt.next {f : Nat} {sx : Nat → ByteArray} {n j : Nat} {b : ByteArray} (h : FPutSt f sx n j b) (hf : f < 65536) (hn : j < n) (hn2 : n ≤ 12) (h80 : (sx j).size ≤ 80) :
    FPutSt f sx n (j + 1) (b ++ wrapS (f + j) (sx j)) := by
  obtain ⟨h1, h2, h3⟩ := h
  have h4 := (wrapS_size (f + j) (by show _ < 72057594037927936; omega) (sx j) (by omega)).1
  refine ⟨by simp only [ByteArray.size_append]; omega, ?_, fun i hi => ?_⟩
  · rw [← h2, show n - j = (n - (j + 1)) + 1 by omega]
    simp only [sufF, ByteArray.append_assoc]
  · by_cases e : i = j
    · subst e; exact h80
    · exact h3 i (by omega)
theorem FPutSt.done {f : Nat} {sx : Nat → ByteArray} {n : Nat} {b : ByteArray} (h : FPutSt f sx n n b) : b = sufF f sx n 0 ∧ ∀ i, i < n → (sx i).size ≤ 80 := by
  obtain ⟨h1, h2, h3⟩ := h
  rw [Nat.sub_self] at h2
  exact ⟨by rw [← h2]; simp [sufF], h3⟩
theorem fput_size {f : Nat} {sx : Nat → ByteArray} {n j : Nat} {b : ByteArray} (h : FPutSt f sx n j b) : b.size ≤ 110 * j := h.1
theorem row_wrap (f j : Nat) (hf : f < 65536) (hj : j < 12) (s ws : ByteArray) (hs : s.size ≤ 80) (hw : ws = wrapS (f + j) s) (w : World) :
    Calls Tryd.prog 12 #[.int .i64 ((f : Int) + (j : Int)), .string s] w fun e w2 => e = .returned (.string ws) ∧ Kp [] w w2 := by
  rw [hw]
  exact wrap_any ((f : Int) + (j : Int)) (by omega) (by omega) s (by omega) w
theorem row_open (f j : Nat) (hf : f < 65536) (hj : j < 12) (s ws R : ByteArray) (hs : s.size ≤ 80) (hw : ws = wrapS (f + j) s) (hR : R.size ≤ 2000) (w : World) (hE : EHas w) :
    Calls Tryd.prog 8 #[.string (ws ++ R), .int .i64 ((f : Int) + (j : Int))] w fun e w2 => e = .returned (.tuple #[.string s, .string R, .nilIface]) ∧ Kp [] w w2 := by
  rw [hw]
  exact open_wrap (f + j) (by show _ < 72057594037927936; omega) s R (by omega) (by omega) w hE
theorem row_no (f j : Nat) (hf : f < 65536) (hj : j < 12) (s ws R : ByteArray) (hs : s.size ≤ 80) (hw : ws = wrapS (f + j) s) (hR : R.size ≤ 2000) (w : World) (hE : EHas w) :
    Calls Tryd.prog 8 #[.string (ws ++ R), .int .i64 ((f : Int) + (j : Int) + 1)] w (OpNo 10 (ws ++ R) w) := by
  rw [hw]
  exact open_wrap_no (f + j) (by show _ < 72057594037927936; omega) s R (by omega) (by omega) ((f : Int) + (j : Int) + 1) (by omega) w hE
/-- So few bytes are no frame. -/
theorem opS_few (s : ByteArray) (h : s.size ≤ 4) (seq : Int) : (opS s seq).1 = 10 ∨ (opS s seq).1 = 11 ∨ (opS s seq).1 = 13 := by
  have hu : (unS s).1 = 10 ∨ (unS s).1 = 11 ∨ (unS s).1 = 13 := by
    obtain ⟨⟨c, k, u⟩, h0⟩ : ∃ x, takeL 0 0 s.data.toList = x := ⟨_, rfl⟩
    have hf := takeL_fits s.data.toList 0 0 (by decide) (by omega) c k u h0
    rcases hf with ⟨rfl, h1, h2, h3⟩ | ⟨rfl, _⟩ | ⟨rfl, _⟩
    · by_cases h5 : (2020 : Int) < (k : Int)
      · have h6 : ttS s 2020 = (13, ⟨#[]⟩, s) := by unfold ttS; rw [h0]; simp only; rw [if_pos h5]
        rw [un_err h6]; exact .inr (.inr rfl)
      · by_cases h7 : (s.extract u s.size).size < k
        · have h6 : ttS s 2020 = (11, ⟨#[]⟩, s) := by unfold ttS; rw [h0]; simp only; rw [if_neg h5, if_pos h7]
          rw [un_err h6]; exact .inr (.inl rfl)
        · have h6 : ttS s 2020 = (0, (s.extract u s.size).extract 0 k, (s.extract u s.size).extract k (s.extract u s.size).size) := by unfold ttS; rw [h0]; simp only; rw [if_neg h5, if_neg h7]
          have h8 : unS s = (11, ⟨#[]⟩, ⟨#[]⟩) := by
            unfold unS; rw [h6]; simp only; rw [if_pos (by simp only [ByteArray.size_extract]; omega)]
          rw [h8]; exact .inr (.inl rfl)
    · have h6 : ttS s 2020 = (10, ⟨#[]⟩, s) := by unfold ttS; rw [h0]
      rw [un_err h6]; exact .inl rfl
    · have h6 : ttS s 2020 = (11, ⟨#[]⟩, s) := by unfold ttS; rw [h0]
      rw [un_err h6]; exact .inr (.inl rfl)
  unfold opS
  obtain ⟨⟨c, t, r⟩, h0⟩ : ∃ x, unS s = x := ⟨_, rfl⟩
  rw [h0] at hu ⊢
  simp only at hu
  rcases hu with rfl | rfl | rfl
  · exact .inl rfl
  · exact .inr (.inl rfl)
  · exact .inr (.inr rfl)
/-- Open at what is no frame. -/
def OpNo3 (s : ByteArray) (w : World) (e : Ending) (w2 : World) : Prop := ∃ v, e = .returned (.tuple #[.string ⟨#[]⟩, .string s, .iface 58 v]) ∧ Kp [] w w2
theorem open_few (s : ByteArray) (h : s.size ≤ 4) (seq : Int) (w : World) (hE : EHas w) :
    Calls Tryd.prog 8 #[.string s, .int .i64 seq] w (OpNo3 s w) := by
  rcases opS_few s h seq with h1 | h1 | h1
  · exact (open_no s (by omega) seq 10 (by decide) h1 w hE).mono (fun e w2 ⟨v, _, h2, h3⟩ => ⟨v, h2, h3⟩)
  · exact (open_no s (by omega) seq 11 (by decide) h1 w hE).mono (fun e w2 ⟨v, _, h2, h3⟩ => ⟨v, h2, h3⟩)
  · exact (open_no s (by omega) seq 13 (by decide) h1 w hE).mono (fun e w2 ⟨v, _, h2, h3⟩ => ⟨v, h2, h3⟩)
set_option maxHeartbeats 6400000 in
set_option maxRecDepth 100000 in
theorem frows_any (sa : Option Addr) (sn sc : Nat) (f : Nat) (junk : ByteArray) (sx : Nat → ByteArray) (hf : f < 65536) (w : World) (hsx : StrsAt w w.heap.size sa sn sx) (hE : EHas w) :
    Calls Tryd.prog 5 #[.slice sa sn sc, .int .u16 (f : Int), .string junk] w fun e w2 => e = .returned (.bool true) ∧ Kp [] w w2 := by
  have H0 : Hid (Kp [] w w) := Kp.refl [] w
  have HX := Lib.hid hsx
  have HE := Lib.hid hE
  clear hsx hE
  by_cases h1 : 12 < sn
  · have d1 : decide ((12 : Int) < (sn : Int)) = true := by simp; omega
    go_enter Tryd.func5, Tryd.ntmps5
    go_wp2_with fail
    refine Calls.mono (known_any _ HE.out) ?_
    rintro e x1 ⟨rfl, K⟩
    have H1 := Kp.step H0 K
    clear K H0
    go_wp2_with fail
    go_ret
    exact ⟨rfl, H1⟩
  by_cases h2 : 4 < junk.size
  · have d1 : decide ((12 : Int) < (sn : Int)) = false := by simp; omega
    have d2 : decide ((4 : Int) < (junk.size : Int)) = true := by simp; omega
    go_enter Tryd.func5, Tryd.ntmps5
    go_wp2_with fail
    refine Calls.mono (known_any _ HE.out) ?_
    rintro e x1 ⟨rfl, K⟩
    have H1 := Kp.step H0 K
    clear K H0
    go_wp2_with fail
    go_ret
    exact ⟨rfl, H1⟩
  have d1 : decide ((12 : Int) < (sn : Int)) = false := by simp; omega
  have d2 : decide ((4 : Int) < (junk.size : Int)) = false := by simp; omega
  have hjk : junk.size ≤ 4 := by omega
  go_enter Tryd.func5, Tryd.ntmps5
  go_wp2_with fail
  refine Calls.mono (known_any _ HE.out) ?_
  rintro e x1 ⟨rfl, K⟩
  have H1 := Kp.step H0 K
  clear K H0
  go_wp2_with fail
  go_loopw [7, 8] (fun b i wr => ∃ (j : Nat) (bb : ByteArray), j ≤ sn ∧ i = .int .i64 (j : Int) ∧ b = .string bb ∧ Hid (FPutSt f sx sn j bb) ∧ Hid (Kp [] w wr)) (fun _ i _ => sn - (intOf i).toNat)
  case atStart => exact ⟨0, ByteArray.empty, Nat.zero_le _, rfl, rfl, FPutSt.start _ _ _, H1⟩
  case round =>
    clear H1
    obtain ⟨j, bb, hj, rfl, rfl, HP, HK⟩ := hrel
    have hbs : bb.size ≤ 1320 := by have := fput_size HP; omega
    by_cases hlt : j < sn
    · have d3 : decide (j < sn) = true := by simpa using hlt
      obtain ⟨g2, o2, hsa, hg2, hc2⟩ := (HX.out.kp HK (Nat.le_refl _)) j hlt
      have HSA := Lib.hid hsa
      have Hg2 := Lib.hid hg2
      clear hsa hg2
      obtain ⟨sj, hsj⟩ : ∃ sj, sj = sx j := ⟨_, rfl⟩
      rw [← hsj] at hc2
      have HS := Lib.hid hsj
      clear hsj
      obtain rfl := HSA.out
      by_cases h80 : 80 < sj.size
      · have d5 : decide ((80 : Int) < (sj.size : Int)) = true := by simp; omega
        go_wp2_with fail
        go_ret
        exact ⟨rfl, HK⟩
      · have d5 : decide ((80 : Int) < (sj.size : Int)) = false := by simp; omega
        obtain ⟨ws, hws⟩ : ∃ ws, ws = wrapS (f + j) sj := ⟨_, rfl⟩
        have hw8 : ws.size ≤ 110 := by rw [hws]; have := (wrapS_size (f + j) (by show _ < 72057594037927936; omega) sj (by omega)).1; omega
        have HW := Lib.hid hws
        clear hws
        go_wp2_with fail
        refine Calls.mono (row_wrap f j hf (by omega) sj ws (by omega) HW.out _) ?_
        rintro e x2 ⟨rfl, K⟩
        have H2 := Kp.step HK K
        clear K HK
        go_wp2_with fail
        go_roundw
        case rel => exact ⟨j + 1, _, by omega, by go_num, rfl, by rw [HW.out, HS.out]; exact HP.out.next hf hlt (by omega) (by rw [← HS.out]; omega), H2⟩
        case measure => simp [intOf]; omega
    · have d3 : decide (j < sn) = false := by simpa using hlt
      obtain rfl : j = sn := by omega
      obtain ⟨hB, h80⟩ := HP.out.done
      have HB := Lib.hid hB
      have H80 := Lib.hid h80
      clear HP hB h80 d3
      go_wp2_with fail
      go_loopw [7, 9] (fun b i wr => ∃ (q : Nat) (bb : ByteArray), q ≤ j ∧ i = .int .i64 (q : Int) ∧ b = .string bb ∧ Hid (bb = sufF f sx (j - q) q ++ junk) ∧ Hid (Kp [] w wr)) (fun _ i _ => j - (intOf i).toNat)
      case atStart => exact ⟨0, bb ++ junk, Nat.zero_le _, rfl, rfl, congrArg (· ++ junk) HB.out, HK⟩
      case round =>
        clear HB HK
        obtain ⟨q, bq, hq, rfl, rfl, HP, HK⟩ := hrel
        by_cases hlt : q < j
        · have d3 : decide (q < j) = true := by simpa using hlt
          obtain ⟨R, hR⟩ : ∃ R, R = sufF f sx (j - (q + 1)) (q + 1) ++ junk := ⟨_, rfl⟩
          have hRs : R.size ≤ 1400 := by
            have h9 := sufF_size f hf sx (j - (q + 1)) (q + 1) (by omega) (fun i i1 i2 => H80.out i (by omega))
            rw [hR, ByteArray.size_append]; omega
          have HR := Lib.hid hR
          clear hR
          obtain ⟨g2, o2, hsa, hg2, hc2⟩ := (HX.out.kp HK (Nat.le_refl _)) q hlt
          have HSA := Lib.hid hsa
          have Hg2 := Lib.hid hg2
          clear hsa hg2
          obtain ⟨sj, hsj⟩ : ∃ sj, sj = sx q := ⟨_, rfl⟩
          rw [← hsj] at hc2
          have hs8 : sj.size ≤ 80 := by rw [hsj]; exact H80.out q hlt
          obtain ⟨ws, hws⟩ : ∃ ws, ws = wrapS (f + q) sj := ⟨_, rfl⟩
          have hw8 : ws.size ≤ 110 := by rw [hws]; have := (wrapS_size (f + q) (by show _ < 72057594037927936; omega) sj (by omega)).1; omega
          obtain rfl : bq = ws ++ R := by
            rw [HP.out, show j - q = (j - (q + 1)) + 1 by omega, hws, HR.out, hsj]
            simp only [sufF, ByteArray.append_assoc]
          have HW := Lib.hid hws
          clear hws hsj HP
          obtain rfl := HSA.out
          go_wp2_with fail
          refine Calls.mono (row_no f q hf (by omega) sj ws R hs8 HW.out (by omega) _ (HE.out.kept HK)) ?_
          rintro e x2 ⟨v, _, rfl, K⟩
          have hc3 : x2.cell? ⟨g2, o2 + q, none⟩ = some (.string sj) := by rw [K.cell0 (by have := Hg2.out; have := HK.out.size; omega)]; exact hc2
          have hx2 : g2 < x2.heap.size := by have := Hg2.out; have := HK.out.size; have := K.size; omega
          have H2 := Kp.step HK K
          clear K HK hc2
          go_wp2_with fail
          refine Calls.mono (row_open f q hf (by omega) sj ws R hs8 HW.out (by omega) _ (HE.out.kept H2)) ?_
          rintro e x3 ⟨rfl, K⟩
          have hc4 : x3.cell? ⟨g2, o2 + q, none⟩ = some (.string sj) := by rw [K.cell0 hx2]; exact hc3
          have H3 := Kp.step H2 K
          clear K H2 hc3
          go_wp2_with fail
          go_roundw
          case rel => exact ⟨q + 1, _, by omega, by go_num, rfl, HR.out, H3⟩
          case measure => simp [intOf]; omega
        · have d3 : decide (q < j) = false := by simpa using hlt
          obtain rfl : bq = junk := by rw [HP.out, show j - q = 0 by omega]; simp [sufF]
          go_wp2_with fail
          refine Calls.mono (open_few bq hjk _ _ (HE.out.kept HK)) ?_
          rintro e x2 ⟨v, rfl, K⟩
          have H2 := Kp.step HK K
          clear K HK
          go_wp2_with fail
          go_ret
          exact ⟨rfl, H2⟩
end Go.Proofs.YtmeidihbglljiaaDoor
