/- The walk of the law FrameTells. -/
import Derived.Test.YtmeidihbglljiaaDoorRfO
import Derived.Test.YtmeidihbglljiaaDoorNmAs
namespace Go.Proofs.YtmeidihbglljiaaDoor
open Go.RowKit

theorem tells_code (c : Nat) (v : Value) (hv : (c = 0 ∧ v = .nilIface) ∨ FErr (c : Int) v) (w : World) (hE : EHas w) :
    Calls Tryd.prog 14 #[v] w fun e w2 => e = .returned (.int .i64 (c : Int)) ∧ Kp [] w w2 := by
  rcases hv with ⟨rfl, rfl⟩ | hv
  · exact code_nil w
  · exact code_ferr v (c : Int) hv w hE
/-- What Open answers, in one line. -/
def OpAll (s : ByteArray) (seq : Int) (w : World) (e : Ending) (w2 : World) : Prop :=
  Kp [] w w2 ∧ ∃ (c : Nat) (t r : ByteArray) (v : Value), opS s seq = (c, t, r) ∧ ((c = 0 ∧ v = .nilIface) ∨ FErr (c : Int) v) ∧ e = .returned (.tuple #[.string t, .string r, v])
theorem open_all (s : ByteArray) (hs : s.size ≤ 9223372036854775) (seq : Int) (w : World) (hE : EHas w) :
    Calls Tryd.prog 8 #[.string s, .int .i64 seq] w (OpAll s seq w) := by
  refine (open_any s hs seq w hE).mono ?_
  rintro e w2 ⟨K, ⟨t, r, h, rfl⟩ | ⟨c, v, hc, h, hv, rfl⟩⟩
  · exact ⟨K, 0, t, r, _, h, .inl ⟨rfl, rfl⟩, rfl⟩
  · exact ⟨K, c, _, _, v, h, .inr hv, rfl⟩
set_option maxHeartbeats 6400000 in
set_option maxRecDepth 100000 in
theorem ftells_any (s t : ByteArray) (seq : Int) (h0 : -9223372036854775808 ≤ seq) (h9 : seq ≤ 9223372036854775807) (w : World) (hE : EHas w) :
    Calls Tryd.prog 3 #[.string s, .string t, .int .i64 seq] w fun e w2 => e = .returned (.bool true) ∧ Kp [] w w2 := by
  have H0 : Hid (Kp [] w w) := Kp.refl [] w
  have HE := Lib.hid hE
  clear hE
  by_cases h1 : 300 < s.size
  · have d1 : decide ((300 : Int) < (s.size : Int)) = true := by simp; omega
    go_enter Tryd.func3, Tryd.ntmps3
    go_wp2_with fail
    refine Calls.mono (known_any _ HE.out) ?_
    rintro e x1 ⟨rfl, K⟩
    have H1 := Kp.step H0 K
    clear K H0
    go_wp2_with fail
    go_ret
    exact ⟨rfl, H1⟩
  have d1 : decide ((300 : Int) < (s.size : Int)) = false := by simp; omega
  by_cases h2 : 600 < t.size
  · have d2 : decide ((600 : Int) < (t.size : Int)) = true := by simp; omega
    go_enter Tryd.func3, Tryd.ntmps3
    go_wp2_with fail
    refine Calls.mono (known_any _ HE.out) ?_
    rintro e x1 ⟨rfl, K⟩
    have H1 := Kp.step H0 K
    clear K H0
    go_wp2_with fail
    go_ret
    exact ⟨rfl, H1⟩
  have d2 : decide ((600 : Int) < (t.size : Int)) = false := by simp; omega
  obtain ⟨x, hx⟩ : ∃ x, x = sumL s.data.toList := ⟨_, rfl⟩
  obtain ⟨ws, hws⟩ : ∃ ws, ws = wrapS seq.toNat s := ⟨_, rfl⟩
  have c1 := fun w => sum_any s (by omega) w
  have c2 := fun w => rsum_any s (by omega) w
  have c3 := fun w => wrap_any seq h0 h9 s (by omega) w
  have c4 := fun w => rwrap_any seq h0 h9 s (by omega) w
  have c5 := fun w hE => open_all t (by omega) seq w hE
  have c6 := fun w => rop_any t (by omega) seq w
  rw [← hx] at c1 c2
  rw [← hws] at c3 c4
  have C1 := Lib.hid c1
  have C2 := Lib.hid c2
  have C3 := Lib.hid c3
  have C4 := Lib.hid c4
  have C5 := Lib.hid c5
  have C6 := Lib.hid c6
  clear c1 c2 c3 c4 c5 c6 hx hws
  go_enter Tryd.func3, Tryd.ntmps3
  go_wp2_with fail
  refine Calls.mono (known_any _ HE.out) ?_
  rintro e x1 ⟨rfl, K⟩
  have H1 := Kp.step H0 K
  clear K H0
  go_wp2_with fail
  refine Calls.mono (C5.out _ (HE.out.kept H1)) ?_
  rintro e x2 ⟨K, c, a, r, v, hop, hv, rfl⟩
  have H2 := Kp.step H1 K
  have HOP := Lib.hid hop
  have HV := Lib.hid hv
  clear K H1 hop hv
  go_wp2_with fail
  refine Calls.mono (C6.out _) ?_
  rintro e x3 ⟨K, c', a', r', hop, rfl⟩
  have H3 := Kp.step H2 K
  have he : (c, a, r) = (c', a', r') := HOP.out.symm.trans hop
  simp only [Prod.mk.injEq] at he
  obtain ⟨rfl, rfl, rfl⟩ := he
  clear K H2 hop
  go_wp2_with fail
  refine Calls.mono (C1.out _) ?_
  rintro e x4 ⟨rfl, rfl⟩
  go_wp2_with fail
  refine Calls.mono (C2.out _) ?_
  rintro e x4 ⟨rfl, rfl⟩
  go_wp2_with fail
  refine Calls.mono (C3.out _) ?_
  rintro e x4 ⟨rfl, K⟩
  have H4 := Kp.step H3 K
  clear K H3
  go_wp2_with fail
  refine Calls.mono (C4.out _) ?_
  rintro e x5 ⟨rfl, K⟩
  have H5 := Kp.step H4 K
  clear K H4
  go_wp2_with fail
  refine Calls.mono (tells_code c v HV.out _ (HE.out.kept H5)) ?_
  rintro e x6 ⟨rfl, K⟩
  have H6 := Kp.step H5 K
  clear K H5
  go_wp2_with fail
  go_ret
  exact ⟨rfl, H6⟩
end Go.Proofs.YtmeidihbglljiaaDoor
