/- The walk of the law FrameTurned. -/
import Derived.Test.YtmeidihbglljiaaDoorFBy
import Derived.Test.YtmeidihbglljiaaDoorFTuS
namespace Go.Proofs.YtmeidihbglljiaaDoor
open Go.RowKit

set_option maxHeartbeats 6400000 in
set_option maxRecDepth 100000 in
theorem fturned_any (s : ByteArray) (seq at_ m other : Nat) (hseq : seq < 65536) (hat : at_ < 65536) (hm : m < 4294967296) (hot : other < 65536) (w : World) (hE : EHas w) :
    Calls Tryd.prog 4 #[.string s, .int .u16 (seq : Int), .int .u16 (at_ : Int), .int .u32 (m : Int), .int .u16 (other : Int)] w fun e w2 => e = .returned (.bool true) ∧ Kp [] w w2 := by
  have H0 : Hid (Kp [] w w) := Kp.refl [] w
  have HE := Lib.hid hE
  clear hE
  by_cases h1 : s.size < 6
  · have d1 : decide ((s.size : Int) < 6) = true := by simp; omega
    go_enter Tryd.func4, Tryd.ntmps4
    go_wp2_with fail
    refine Calls.mono (known_any _ HE.out) ?_
    rintro e x1 ⟨rfl, K⟩
    have H1 := Kp.step H0 K
    clear K H0
    go_wp2_with fail
    go_ret
    exact ⟨rfl, H1⟩
  have d1 : decide ((s.size : Int) < 6) = false := by simp; omega
  by_cases h2 : 100 < s.size
  · have d2 : decide ((100 : Int) < (s.size : Int)) = true := by simp; omega
    go_enter Tryd.func4, Tryd.ntmps4
    go_wp2_with fail
    refine Calls.mono (known_any _ HE.out) ?_
    rintro e x1 ⟨rfl, K⟩
    have H1 := Kp.step H0 K
    clear K H0
    go_wp2_with fail
    go_ret
    exact ⟨rfl, H1⟩
  have d2 : decide ((100 : Int) < (s.size : Int)) = false := by simp; omega
  by_cases h3 : m = 0
  · have d3 : ((m : Int) == 0) = true := by simp; omega
    go_enter Tryd.func4, Tryd.ntmps4
    go_wp2_with fail
    refine Calls.mono (known_any _ HE.out) ?_
    rintro e x1 ⟨rfl, K⟩
    have H1 := Kp.step H0 K
    clear K H0
    go_wp2_with fail
    go_ret
    exact ⟨rfl, H1⟩
  have d3 : ((m : Int) == 0) = false := by simp; omega
  have hk8 : seq < 128 ^ 8 := by show _ < 72057594037927936; omega
  obtain ⟨t, ht⟩ : ∃ t, t = numS seq ++ s := ⟨_, rfl⟩
  have ht1 : t.size = (numS seq).size + s.size := by rw [ht]; exact ByteArray.size_append
  have hs1 := numS_le9 seq hk8
  have hs2 : 1 ≤ (numS seq).size := by rw [numS_size]; exact numL_pos _
  have hs3 := numS_le9 t.size (by show _ < 72057594037927936; omega)
  have hs4 : 1 ≤ (numS t.size).size := by rw [numS_size]; exact numL_pos _
  have htx : (textS t).size = (numS t.size).size + t.size := ByteArray.size_append
  obtain ⟨ws, hws⟩ : ∃ ws, ws = wrapS seq s := ⟨_, rfl⟩
  have hws2 : ws = textS t ++ sumB (sumL (textS t).data.toList) := by rw [hws, ht]; rfl
  have hwsz : ws.size = (textS t).size + 4 := by rw [hws2]; exact ByteArray.size_append
  obtain ⟨f, hf⟩ : ∃ f, f = (numS t.size).size + (numS seq).size := ⟨_, rfl⟩
  have hwf : ws.size = f + s.size + 4 := by omega
  obtain ⟨r, hr⟩ : ∃ r : Nat, (at_ : Int) % ((s.size : Int) - 4) = (r : Int) := ⟨at_ % (s.size - 4), by rw [show ((s.size : Int) - 4) = ((s.size - 4 : Nat) : Int) by omega]; simp⟩
  have hr1 : r + 4 < s.size := by
    have := Int.emod_lt_of_pos (at_ : Int) (show (0 : Int) < (s.size : Int) - 4 by omega)
    omega
  obtain ⟨k, hk⟩ : ∃ k, k = f + r := ⟨_, rfl⟩
  have hk1 : (numS t.size).size ≤ k := by omega
  have hk2 : k + 3 < (textS t).size := by omega
  have hk3 : k + 3 < ws.size := by omega
  have hk4 : (ws.size : Int) - 4 - (s.size : Int) + (r : Int) = (k : Int) := by omega
  obtain ⟨c, hc⟩ : ∃ c : Nat, (at_ : Int) % (ws.size : Int) = (c : Int) := ⟨at_ % ws.size, by simp⟩
  have hc1 : c < ws.size := by
    have := Int.emod_lt_of_pos (at_ : Int) (show (0 : Int) < (ws.size : Int) by omega)
    omega
  have hwsm : ws.size ≤ 130 := by omega
  have hno : ∀ T : ByteArray, T = ⟨(turned4 ws.data.toList k (m % 256) (m / 256 % 256) (m / 65536 % 256) (m / 16777216 % 256)).toArray⟩ → T.size ≤ 1000 → ∀ w, EHas w → Calls Tryd.prog 8 #[.string T, .int .i64 (seq : Int)] w (OpNo 12 T w) := fun T hT hTs w hE => by
    refine open_no T (by omega) (seq : Int) 12 (by decide) ?_ w hE
    rw [hT, hws2]
    exact op_turned4 t (by omega) k _ _ _ _ hk1 hk2 (by omega) (by omega) (by omega) (by omega) (by omega) _
  have hcut : ∀ w, EHas w → Calls Tryd.prog 8 #[.string (ws.extract 0 c), .int .i64 (seq : Int)] w (OpNo 11 (ws.extract 0 c) w) := fun w hE => by
    refine open_no _ (by rw [ByteArray.size_extract]; omega) (seq : Int) 11 (by decide) ?_ w hE
    rw [hws2] at hc1 ⊢
    exact op_cut t _ (by omega) rfl c hc1 _
  have hyes : (seq : Int) = (other : Int) → ∀ w, EHas w → Calls Tryd.prog 8 #[.string ws, .int .i64 (other : Int)] w fun e w2 => e = .returned (.tuple #[.string s, .string ByteArray.empty, .nilIface]) ∧ Kp [] w w2 := fun he w hE => by
    rw [← he, hws]
    have := open_wrap seq hk8 s ByteArray.empty (by omega) (by decide) w hE
    rw [ByteArray.append_empty] at this
    exact this
  have hnot : (seq : Int) ≠ (other : Int) → ∀ w, EHas w → Calls Tryd.prog 8 #[.string ws, .int .i64 (other : Int)] w (OpNo 10 ws w) := fun he w hE => by
    rw [hws]
    have := open_wrap_no seq hk8 s ByteArray.empty (by omega) (by decide) (other : Int) he w hE
    rw [ByteArray.append_empty] at this
    exact this
  have hwrap : ∀ w, Calls Tryd.prog 12 #[.int .i64 (seq : Int), .string s] w fun e w2 => e = .returned (.string ws) ∧ Kp [] w w2 := fun w => by
    rw [hws]
    exact wrap_any (seq : Int) (by omega) (by omega) s (by omega) w
  have HNO := Lib.hid hno
  have HCUT := Lib.hid hcut
  have HYES := Lib.hid hyes
  have HNOT := Lib.hid hnot
  have HWRAP := Lib.hid hwrap
  clear hno hcut hyes hnot hwrap
  have hzl : decide ((ws.size : Int) < (s.size : Int) + 6) = false := by simp; omega
  have hfr : (ws.size : Int) - 4 - (s.size : Int) = (f : Int) := by omega
  clear hws2 hwsz ht ht1 hws htx hf hk1 hk2 hs1 hs2 hs3 hs4
  have hz1 : (((s.size : Int) - 4) == 0) = false := by rw [beq_eq_false_iff_ne]; omega
  have hz2 : ((ws.size : Int) == 0) = false := by rw [beq_eq_false_iff_ne]; omega
  have hkk : (f : Int) + (r : Int) = (k : Int) := by omega
  have HWF := Lib.hid hwf
  have HK := Lib.hid hk
  clear hwf hk
  go_enter Tryd.func4, Tryd.ntmps4
  go_wp2_with fail
  refine Calls.mono (known_any _ HE.out) ?_
  rintro e x1 ⟨rfl, K⟩
  have H1 := Kp.step H0 K
  clear K H0
  go_wp2_with fail
  refine Calls.mono (HWRAP.out _) ?_
  rintro e x2 ⟨rfl, K⟩
  have H2 := Kp.step H1 K
  clear K H1 HWRAP
  obtain ⟨cap, x3, hr1, N1⟩ := conv_bytes ws x2
  obtain ⟨b, hb⟩ : ∃ b, b = x2.heap.size := ⟨_, rfl⟩
  rw [← hb] at hr1 N1
  have hwl : ws.data.toList.length = ws.size := by rw [Array.length_toList]; rfl
  obtain ⟨a0, ha0⟩ : ∃ a : Nat, a = (ws.data.toList.getD k 0).toNat := ⟨_, rfl⟩
  obtain ⟨a1, ha1⟩ : ∃ a : Nat, a = (ws.data.toList.getD (k + 1) 0).toNat := ⟨_, rfl⟩
  obtain ⟨a2, ha2⟩ : ∃ a : Nat, a = (ws.data.toList.getD (k + 2) 0).toNat := ⟨_, rfl⟩
  obtain ⟨a3, ha3⟩ : ∃ a : Nat, a = (ws.data.toList.getD (k + 3) 0).toNat := ⟨_, rfl⟩
  have l0 : a0 < 256 := by rw [ha0]; exact UInt8.toNat_lt _
  have l1 : a1 < 256 := by rw [ha1]; exact UInt8.toNat_lt _
  have l2 : a2 < 256 := by rw [ha2]; exact UInt8.toNat_lt _
  have l3 : a3 < 256 := by rw [ha3]; exact UInt8.toNat_lt _
  have c0 : x3.cell? ⟨b, k, none⟩ = some (.int .u8 (a0 : Int)) := by rw [N1.cell k (by omega), ha0]
  have c1 : x3.cell? ⟨b, k + 1, none⟩ = some (.int .u8 (a1 : Int)) := by rw [N1.cell (k + 1) (by omega), ha1]
  have c2 : x3.cell? ⟨b, k + 2, none⟩ = some (.int .u8 (a2 : Int)) := by rw [N1.cell (k + 2) (by omega), ha2]
  have c3 : x3.cell? ⟨b, k + 3, none⟩ = some (.int .u8 (a3 : Int)) := by rw [N1.cell (k + 3) (by omega), ha3]
  have f0 : x3.frozen? ⟨b, k, none⟩ = false := N1.free k (by omega)
  have f1 : x3.frozen? ⟨b, k + 1, none⟩ = false := N1.free (k + 1) (by omega)
  have f2 : x3.frozen? ⟨b, k + 2, none⟩ = false := N1.free (k + 2) (by omega)
  have f3 : x3.frozen? ⟨b, k + 3, none⟩ = false := N1.free (k + 3) (by omega)
  obtain ⟨z0, hz0'⟩ : ∃ z : Nat, z = a0 ^^^ (m % 256) := ⟨_, rfl⟩
  obtain ⟨z1, hz1'⟩ : ∃ z : Nat, z = a1 ^^^ (m / 256 % 256) := ⟨_, rfl⟩
  obtain ⟨z2, hz2'⟩ : ∃ z : Nat, z = a2 ^^^ (m / 65536 % 256) := ⟨_, rfl⟩
  obtain ⟨z3, hz3'⟩ : ∃ z : Nat, z = a3 ^^^ (m / 16777216 % 256) := ⟨_, rfl⟩
  have q0 : bits .xor .u8 (a0 : Int) ((m : Int) % 256) = (z0 : Int) := by rw [hz0']; exact u8_xor_nat a0 (m % 256) l0 (by omega)
  have q1 : bits .xor .u8 (a1 : Int) ((m : Int) / 256 % 256) = (z1 : Int) := by rw [hz1']; exact u8_xor_nat a1 (m / 256 % 256) l1 (by omega)
  have q2 : bits .xor .u8 (a2 : Int) ((m : Int) / 65536 % 256) = (z2 : Int) := by rw [hz2']; exact u8_xor_nat a2 (m / 65536 % 256) l2 (by omega)
  have q3 : bits .xor .u8 (a3 : Int) ((m : Int) / 16777216) = (z3 : Int) := by
    rw [hz3', show (m : Int) / 16777216 = ((m / 16777216 % 256 : Nat) : Int) by omega]; exact u8_xor_nat a3 (m / 16777216 % 256) l3 (by omega)
  have y0 : z0 < 256 := by rw [hz0']; exact Nat.xor_lt_two_pow (n := 8) (by omega) (by omega)
  have y1 : z1 < 256 := by rw [hz1']; exact Nat.xor_lt_two_pow (n := 8) (by omega) (by omega)
  have y2 : z2 < 256 := by rw [hz2']; exact Nat.xor_lt_two_pow (n := 8) (by omega) (by omega)
  have y3 : z3 < 256 := by rw [hz3']; exact Nat.xor_lt_two_pow (n := 8) (by omega) (by omega)
  have HA := Lib.hid (And.intro ha0 (And.intro ha1 (And.intro ha2 ha3)))
  have HZ := Lib.hid (And.intro hz0' (And.intro hz1' (And.intro hz2' hz3')))
  have HN1 := Lib.hid N1
  have HB := Lib.hid hb
  have HWL := Lib.hid hwl
  clear N1 hb ha0 ha1 ha2 ha3 hz0' hz1' hz2' hz3' hwl
  go_wp2_with fail
  refine wp_loop_rounds 5 ?_
  rw [rounds_succ]
  go_wp2_with fail
  rw [rounds_succ]
  go_wp2_with fail
  rw [rounds_succ]
  go_wp2_with fail
  rw [rounds_succ]
  go_wp2_with fail
  generalize hW : World.setCell _ _ _ = X4
  have hwl := HWL.out
  obtain ⟨e0, e1, e2, e3⟩ := HA.out
  obtain ⟨g0, g1, g2, g3⟩ := HZ.out
  have A0 : BytesAt x3 b ws.data.toList := fun j hj => HN1.out.cell j hj
  have A4 : BytesAt X4 b (turned4 ws.data.toList k (m % 256) (m / 256 % 256) (m / 65536 % 256) (m / 16777216 % 256)) := by
    rw [← hW]
    unfold turned4
    rw [← e0, ← e1, ← e2, ← e3, ← g0, ← g1, ← g2, ← g3]
    exact (((A0.set (by omega) z0 y0).set (by rw [List.length_set]; omega) z1 y1).set (by rw [List.length_set, List.length_set]; omega) z2 y2).set (by rw [List.length_set, List.length_set, List.length_set]; omega) z3 y3
  have K4 : Hid (Kp [] w X4) := by
    show Kp [] w X4
    rw [← hW]
    have hsz := H2.out.size
    have hb := HB.out
    exact (((((H2.out.trans HN1.out.kp).setCell (.inr (by show w.heap.size ≤ b; omega)) _).setCell (.inr (by show w.heap.size ≤ b; omega)) _).setCell (.inr (by show w.heap.size ≤ b; omega)) _).setCell (.inr (by show w.heap.size ≤ b; omega)) _)
  obtain ⟨T, hT⟩ : ∃ T : ByteArray, T = ⟨(turned4 ws.data.toList k (m % 256) (m / 256 % 256) (m / 65536 % 256) (m / 16777216 % 256)).toArray⟩ := ⟨_, rfl⟩
  have hTl : (turned4 ws.data.toList k (m % 256) (m / 256 % 256) (m / 65536 % 256) (m / 16777216 % 256)).length = ws.size := by
    unfold turned4
    rw [List.length_set, List.length_set, List.length_set, List.length_set, hwl]
  have hTs : T.size = ws.size := by
    rw [hT, ← hTl]
    exact List.size_toArray
  have hcv : (convert 35 9 (.slice (some ⟨b, 0, none⟩) ws.size cap)).run Tryd.prog X4 = .ok (.string T) X4 := by rw [hT]; exact A4.conv ws.size hTl cap
  have HT := Lib.hid (fun w hE => HNO.out T hT (by omega) w hE)
  have hT2 : T.size ≤ 130 := by omega
  clear hW e0 e1 e2 e3 g0 g1 g2 g3 A0 A4 hT hTl hTs HNO hwl c0 c1 c2 c3 f0 f1 f2 f3 q0 q1 q2 q3
  by_cases hso : (seq : Int) = (other : Int)
  · have s1 : ((seq : Int) == (other : Int)) = true := by rw [hso]; simp
    have HY := Lib.hid (HYES.out hso)
    clear HYES HNOT hso
    rw [rounds_succ]
    go_wp2_with fail
    refine Calls.mono (HT.out _ (HE.out.kept K4)) ?_
    rintro e x5 ⟨v, hv, rfl, K⟩
    have HV := Lib.hid hv
    have H5 := Kp.step K4 K
    clear K K4 hv hcv
    go_wp2_with fail
    refine Calls.mono (HCUT.out _ (HE.out.kept H5)) ?_
    rintro e x6 ⟨v2, hv, rfl, K⟩
    have HV2 := Lib.hid hv
    have H6 := Kp.step H5 K
    clear K H5 hv
    go_wp2_with fail
    refine Calls.mono (HY.out _ (HE.out.kept H6)) ?_
    rintro e x7 ⟨rfl, K⟩
    have H7 := Kp.step H6 K
    clear K H6
    go_wp2_with fail
    refine Calls.mono (is_ferr 12 _ HV.out _) ?_
    rintro e x8 ⟨rfl, K⟩
    have H8 := Kp.step H7 K
    clear K H7
    go_wp2_with fail
    refine Calls.mono (is_ferr 11 _ HV2.out _) ?_
    rintro e x9 ⟨rfl, K⟩
    have H9 := Kp.step H8 K
    clear K H8
    go_wp2_with fail
    go_ret
    exact ⟨rfl, H9⟩
  · have s1 : ((seq : Int) == (other : Int)) = false := by simpa using hso
    have HY := Lib.hid (HNOT.out hso)
    clear HYES HNOT hso
    rw [rounds_succ]
    go_wp2_with fail
    refine Calls.mono (HT.out _ (HE.out.kept K4)) ?_
    rintro e x5 ⟨v, hv, rfl, K⟩
    have HV := Lib.hid hv
    have H5 := Kp.step K4 K
    clear K K4 hv hcv
    go_wp2_with fail
    refine Calls.mono (HCUT.out _ (HE.out.kept H5)) ?_
    rintro e x6 ⟨v2, hv, rfl, K⟩
    have HV2 := Lib.hid hv
    have H6 := Kp.step H5 K
    clear K H5 hv
    go_wp2_with fail
    refine Calls.mono (HY.out _ (HE.out.kept H6)) ?_
    rintro e x7 ⟨v3, _, rfl, K⟩
    have H7 := Kp.step H6 K
    clear K H6
    go_wp2_with fail
    refine Calls.mono (is_ferr 12 _ HV.out _) ?_
    rintro e x8 ⟨rfl, K⟩
    have H8 := Kp.step H7 K
    clear K H7
    go_wp2_with fail
    refine Calls.mono (is_ferr 11 _ HV2.out _) ?_
    rintro e x9 ⟨rfl, K⟩
    have H9 := Kp.step H8 K
    clear K H8
    go_wp2_with fail
    go_ret
    exact ⟨rfl, H9⟩
end Go.Proofs.YtmeidihbglljiaaDoor
