/- Contracts of the reference of layers 2 and 3: TakeText, Unwrap, Open. -/
import Derived.Test.YtmeidihbglljiaaDoorRfB
import Derived.Test.YtmeidihbglljiaaDoorFBy
namespace Go.Proofs.YtmeidihbglljiaaDoor
open Go.RowKit

theorem rtake_yes (s : ByteArray) (hs : s.size ≤ 9223372036854775) (k u : Nat) (h : takeS s = (0, k, u)) (w : World) :
    Calls Tryd.prog 31 #[.string s] w fun e w2 => e = .returned (.tuple #[.int .i64 (k : Int), .string (s.extract u s.size), .int .i64 0]) ∧ Kp [] w w2 := by
  refine (rtake_any s hs w).mono ?_
  rintro e w2 ⟨rfl, hk⟩
  rw [h]
  exact ⟨rfl, hk⟩
theorem rtake_no (s : ByteArray) (hs : s.size ≤ 9223372036854775) (c k u : Nat) (h : takeS s = (c, k, u)) (hc : c = 10 ∨ c = 11) (w : World) :
    Calls Tryd.prog 31 #[.string s] w fun e w2 => e = .returned (.tuple #[.int .i64 0, .string s, .int .i64 (c : Int)]) ∧ Kp [] w w2 := by
  refine (rtake_any s hs w).mono ?_
  rintro e w2 ⟨rfl, hk⟩
  rw [h]
  rcases hc with rfl | rfl <;> exact ⟨rfl, hk⟩
theorem rtt_ret {P : Ending → World → Prop} {w2 : World} {a : Act} {v0 v1 v2 : Value} (h2 : a.tmps.getD 4 undef = v0) (h3 : a.tmps.getD 5 undef = v1) (h4 : a.tmps.getD 6 undef = v2) (hd : a.defers = []) (hP : P (.returned (.tuple #[v0, v1, v2])) w2) :
    bodyPost Tryd.prog Tryd.f30 P .ret a w2 :=
  bodyPost_ret (v := .tuple #[v0, v1, v2]) (by simp [results, Tryd.results30, go_sem]; simp at h2 h3 h4; exact ⟨h2, h3, h4⟩) hd hP
/-- What the reference's TakeText answers. -/
def RTtPost (s : ByteArray) (most : Int) (w : World) (e : Ending) (w2 : World) : Prop :=
  Kp [] w w2 ∧ ∃ (c : Nat) (t r : ByteArray), (c = 0 ∨ c = 10 ∨ c = 11 ∨ c = 13) ∧ ttS s most = (c, t, r) ∧ r.size ≤ s.size ∧ t.size ≤ s.size ∧ e = .returned (.tuple #[.string t, .string r, .int .i64 (c : Int)])
set_option maxHeartbeats 1600000 in
theorem rtt_any (s : ByteArray) (hs : s.size ≤ 9223372036854775) (most : Int) (w : World) :
    Calls Tryd.prog 30 #[.string s, .int .i64 most] w (RTtPost s most w) := by
  obtain ⟨⟨c, k, u⟩, h⟩ : ∃ x, takeS s = x := ⟨_, rfl⟩
  have hf := takeL_fits s.data.toList 0 0 (by decide) (by omega) c k u h
  have h' : takeL 0 0 s.data.toList = (c, k, u) := h
  rcases hf with ⟨rfl, _, _, _⟩ | hf
  · obtain ⟨r, hr⟩ : ∃ r, r = s.extract u s.size := ⟨_, rfl⟩
    have hrs : r.size ≤ s.size := by rw [hr, ByteArray.size_extract]; omega
    have hy := rtake_yes s hs k u h
    rw [← hr] at hy
    have HY := Lib.hid hy
    have H' := Lib.hid h'
    have HR := Lib.hid hr
    clear h h' hy hr
    by_cases h1 : most < (k : Int)
    · have d1 : decide (most < (k : Int)) = true := by simpa using h1
      go_enter Tryd.func30, Tryd.ntmps30
      go_wp2_with fail
      refine Calls.mono (HY.out _) ?_
      rintro e w2 ⟨rfl, hk⟩
      have HK := Lib.hid hk
      clear hk HY
      go_wp2_with fail
      refine rtt_ret rfl rfl rfl rfl ⟨HK.out, 13, _, _, by omega, ?_, Nat.le_refl _, Nat.zero_le _, rfl⟩
      unfold ttS; rw [H'.out]; simp only; rw [if_pos h1]
    · have d1 : decide (most < (k : Int)) = false := by simpa using h1
      by_cases h2 : r.size < k
      · have d2 : decide (r.size < k) = true := by simpa using h2
        go_enter Tryd.func30, Tryd.ntmps30
        go_wp2_with fail
        refine Calls.mono (HY.out _) ?_
        rintro e w2 ⟨rfl, hk⟩
        have HK := Lib.hid hk
        clear hk HY
        go_wp2_with fail
        refine rtt_ret rfl rfl rfl rfl ⟨HK.out, 11, _, _, by omega, ?_, Nat.le_refl _, Nat.zero_le _, rfl⟩
        unfold ttS; rw [H'.out]; simp only; rw [if_neg (by omega), ← HR.out, if_pos h2]
      · have d2 : decide (r.size < k) = false := by simpa using h2
        have h3 : k ≤ r.size := by omega
        go_enter Tryd.func30, Tryd.ntmps30
        go_wp2_with fail
        refine Calls.mono (HY.out _) ?_
        rintro e w2 ⟨rfl, hk⟩
        have HK := Lib.hid hk
        clear hk HY
        go_wp2_with fail
        go_quiet (fail)
        go_wp2_with fail
        refine rtt_ret rfl rfl rfl rfl ⟨HK.out.drewN _, 0, _, _, by omega, ?_, ?_, ?_, rfl⟩
        · unfold ttS; rw [H'.out]; simp only; rw [if_neg (by omega), ← HR.out, if_neg (by omega)]
        · rw [ByteArray.size_extract]; omega
        · rw [ByteArray.size_extract]; omega
  · have hc : c = 10 ∨ c = 11 := by omega
    have HN := Lib.hid (rtake_no s hs c k u h hc)
    have H' : Hid (ttS s most = (c, ⟨#[]⟩, s)) := by
      show ttS s most = _
      unfold ttS; rw [h']
      rcases hc with rfl | rfl <;> rfl
    have d1 : ((c : Int) == 0) = false := by rw [beq_eq_false_iff_ne]; omega
    have d2 : ((c : Int) != 0) = true := by rw [bne, d1]; rfl
    have HC := Lib.hid hc
    clear h h' hf hc
    go_enter Tryd.func30, Tryd.ntmps30
    go_wp2_with fail
    refine Calls.mono (HN.out _) ?_
    rintro e w2 ⟨rfl, hk⟩
    have HK := Lib.hid hk
    clear hk HN
    go_wp2_with fail
    exact rtt_ret rfl rfl rfl rfl ⟨HK.out, c, _, _, by have := HC.out; omega, H'.out, Nat.le_refl _, Nat.zero_le _, rfl⟩

/-- Unwrap: the error's number or 0, what is wrapped, its number, what is behind. -/
def uwS (s : ByteArray) : Nat × ByteArray × Nat × ByteArray :=
  match unS s with
  | (0, t, r) => match takeL 0 0 t.data.toList with
    | (0, k, u) => (0, t.extract u t.size, k, r)
    | (c + 1, _, _) => (c + 1, ⟨#[]⟩, 0, s)
  | (c + 1, _, _) => (c + 1, ⟨#[]⟩, 0, s)
theorem uw_ret {P : Ending → World → Prop} {w2 : World} {a : Act} {v0 v1 v2 v3 : Value} (h2 : a.tmps.getD 2 undef = v0) (h3 : a.tmps.getD 3 undef = v1) (h4 : a.tmps.getD 4 undef = v2) (h5 : a.tmps.getD 5 undef = v3) (hd : a.defers = []) (hP : P (.returned (.tuple #[v0, v1, v2, v3])) w2) :
    bodyPost Tryd.prog Tryd.f18 P .ret a w2 :=
  bodyPost_ret (v := .tuple #[v0, v1, v2, v3]) (by simp [results, Tryd.results18, go_sem]; simp at h2 h3 h4 h5; exact ⟨h2, h3, h4, h5⟩) hd hP
/-- What the reference's Unwrap answers. -/
def UwPost (s : ByteArray) (w : World) (e : Ending) (w2 : World) : Prop :=
  Kp [] w w2 ∧ ∃ (c : Nat) (b : ByteArray) (k : Nat) (r : ByteArray), (c = 0 ∨ c = 10 ∨ c = 11 ∨ c = 12 ∨ c = 13) ∧ uwS s = (c, b, k, r) ∧ k < 72057594037927936 ∧ e = .returned (.tuple #[.string b, .int .i64 (k : Int), .string r, .int .i64 (c : Int)])
theorem uw_yes {s t r : ByteArray} {k u : Nat} (h : unS s = (0, t, r)) (h2 : takeS t = (0, k, u)) : uwS s = (0, t.extract u t.size, k, r) := by
  unfold uwS; rw [h]; simp only; rw [show takeL 0 0 t.data.toList = (0, k, u) from h2]
theorem uw_noseq {s t r : ByteArray} {c k u : Nat} (h : unS s = (0, t, r)) (h2 : takeS t = (c + 1, k, u)) : uwS s = (c + 1, ⟨#[]⟩, 0, s) := by
  unfold uwS; rw [h]; simp only; rw [show takeL 0 0 t.data.toList = (c + 1, k, u) from h2]
theorem uw_err {s t r : ByteArray} {c : Nat} (h : unS s = (c + 1, t, r)) : uwS s = (c + 1, ⟨#[]⟩, 0, s) := by
  unfold uwS; rw [h]
theorem un_short {s t r : ByteArray} (h : ttS s 2020 = (0, t, r)) (h4 : r.size < 4) : unS s = (11, ⟨#[]⟩, ⟨#[]⟩) := by
  unfold unS; rw [h]; simp only; rw [if_pos h4]
set_option maxRecDepth 100000 in
set_option maxHeartbeats 3200000 in
theorem ruw_any (s : ByteArray) (hs : s.size ≤ 9223372036854775) (w : World) :
    Calls Tryd.prog 18 #[.string s] w (UwPost s w) := by
  have HT := Lib.hid (rtt_any s hs 2020 w)
  go_enter Tryd.func18, Tryd.ntmps18
  go_wp2_with fail
  refine Calls.mono HT.out ?_
  clear HT
  rintro e w2 ⟨K, c, t, r, hc, htt, hr, ht, rfl⟩
  have HK := Lib.hid K
  have HTT := Lib.hid htt
  clear K htt
  by_cases hc0 : c = 0
  · subst hc0
    clear hc
    by_cases h4 : r.size < 4
    · have d4 : decide ((r.size : Int) < 4) = true := by simp; omega
      have HU := Lib.hid (uw_err (un_short HTT.out h4))
      go_wp2_with fail
      exact uw_ret rfl rfl rfl rfl rfl ⟨HK.out, 11, _, 0, _, by omega, HU.out, by omega, rfl⟩
    · have d4 : decide ((r.size : Int) < 4) = false := by simp; omega
      obtain ⟨m, hm⟩ : ∃ m, s.size = m + r.size := ⟨s.size - r.size, by omega⟩
      have hm1 : IntKind.i64.wrap ((s.size : Int) - (r.size : Int)) = (m : Int) := by rw [hm, IntKind.wrap_i64]; omega
      have hm2 : m ≤ s.size := by omega
      have h44 : 4 ≤ r.size := by omega
      have HM := Lib.hid hm
      clear hm
      have hsz : (s.extract 0 m).size ≤ 9223372036854775 := by rw [ByteArray.size_extract]; omega
      obtain ⟨x, hx⟩ : ∃ x, x = sumL (s.extract 0 m).data.toList := ⟨_, rfl⟩
      have hx2 : x < 4294967296 := by rw [hx]; exact sumL_lt _
      have HS : Hid (∀ w, Calls Tryd.prog 11 #[.string (s.extract 0 m)] w fun e w2 => e = .returned (.int .u32 (x : Int)) ∧ w = w2) := fun w => by rw [hx]; exact rsum_any _ hsz w
      have hcv : ∀ W : World, (convert 35 9 (.slice (some ⟨W.heap.size, 0, none⟩) 4 4)).run Tryd.prog (W.alloc (.cells #[.int .u8 ((x : Int) % 256), .int .u8 ((x : Int) / 256 % 256), .int .u8 ((x : Int) / 65536 % 256), .int .u8 ((x : Int) / 16777216)] 5)) = .ok (.string (sumB x)) (W.alloc (.cells #[.int .u8 ((x : Int) % 256), .int .u8 ((x : Int) / 256 % 256), .int .u8 ((x : Int) / 65536 % 256), .int .u8 ((x : Int) / 16777216)] 5)) := four_conv8 x hx2
      have hcw : ∀ W : World, (convert 35 9 (.slice (some ⟨W.heap.size, 0, none⟩) 4 4)).run Tryd.prog (W.alloc (.cells #[.int .u8 ((x : Int) % 256), .int .u8 ((x : Int) / 256 % 256), .int .u8 ((x : Int) / 65536 % 256), .int .u8 ((x : Int) / 16777216)] 5)).drew = .ok (.string (sumB x)) (W.alloc (.cells #[.int .u8 ((x : Int) % 256), .int .u8 ((x : Int) / 256 % 256), .int .u8 ((x : Int) / 65536 % 256), .int .u8 ((x : Int) / 16777216)] 5)).drew := fun W => four_conv8 x hx2 W.drew
      obtain ⟨sb, hsb⟩ : ∃ sb, sb = sumB x := ⟨_, rfl⟩
      rw [← hsb] at hcv
      rw [← hsb] at hcw
      have HSB : Hid (sb = sumB (sumL (s.extract 0 m).data.toList)) := by rw [← hx]; exact hsb
      have d5 : decide ((4 : Int) ≤ (r.size : Int)) = true := by simp; omega
      clear hsz hsb hx
      by_cases hq : r.extract 0 4 = sb
      · have q1 : ((r.extract 0 4).toList == sb.toList) = true := by rw [hq]; simp
        have q2 : ((r.extract 0 4).toList != sb.toList) = false := by rw [hq]; simp
        have HUN := Lib.hid (un_ok HTT.out h44 HM.out (hq.trans HSB.out))
        clear hq HTT HM
        go_wp2_with fail
        refine Calls.mono (HS.out _) ?_
        rintro e w3 ⟨rfl, rfl⟩
        clear HS
        go_wp2_with fail
        go_region
        generalize hW : World.drew _ = X3
        have K3 : Hid (Kp [] w X3) := by
          show Kp [] w X3
          rw [← hW]
          exact (HK.out.alloc _).drew
        have hts : t.size ≤ 9223372036854775 := by omega
        clear hW HK hcv hcw
        obtain ⟨⟨c, k, u⟩, h⟩ : ∃ x, takeS t = x := ⟨_, rfl⟩
        have hf := takeL_fits t.data.toList 0 0 (by decide) (by omega) c k u h
        rcases hf with ⟨rfl, hk8, _, _⟩ | hf
        · have HU := Lib.hid (uw_yes HUN.out h)
          have HY := Lib.hid (rtake_yes t hts k u h)
          have hk9 : k < 72057594037927936 := hk8
          have HK9 := Lib.hid hk9
          clear h hk8 hk9
          go_wp2_with fail
          refine Calls.mono (HY.out _) ?_
          rintro e w4 ⟨rfl, K⟩
          have HK4 := Lib.hid (K3.out.trans K)
          clear K K3 HY
          go_wp2_with fail
          go_quiet (fail)
          go_wp2_with fail
          exact uw_ret rfl rfl rfl rfl rfl ⟨HK4.out.drewN _, 0, _, _, _, by omega, HU.out, HK9.out, rfl⟩
        · have hc : c = 10 ∨ c = 11 := by omega
          have HU : Hid (uwS s = (c, ⟨#[]⟩, 0, s)) := by
            rcases hc with rfl | rfl <;> exact uw_noseq HUN.out h
          have HY := Lib.hid (rtake_no t hts c k u h hc)
          have d6 : ((c : Int) == 0) = false := by rw [beq_eq_false_iff_ne]; omega
          have d7 : ((c : Int) != 0) = true := by rw [bne, d6]; rfl
          have HC := Lib.hid hc
          clear h hf hc
          go_wp2_with fail
          refine Calls.mono (HY.out _) ?_
          rintro e w4 ⟨rfl, K⟩
          have HK4 := Lib.hid (K3.out.trans K)
          clear K K3 HY
          go_wp2_with fail
          exact uw_ret rfl rfl rfl rfl rfl ⟨HK4.out, c, _, 0, _, by have := HC.out; omega, HU.out, by omega, rfl⟩
      · have q1 : ((r.extract 0 4).toList == sb.toList) = false := tl_ne hq
        have q2 : ((r.extract 0 4).toList != sb.toList) = true := by rw [bne, q1]; rfl
        have HU := Lib.hid (uw_err (un_bad HTT.out h44 HM.out (fun h => hq (h.trans HSB.out.symm))))
        clear hq HTT HM
        go_wp2_with fail
        refine Calls.mono (HS.out _) ?_
        rintro e w3 ⟨rfl, rfl⟩
        clear HS
        go_wp2_with fail
        go_region
        go_wp2_with fail
        exact uw_ret rfl rfl rfl rfl rfl ⟨(HK.out.alloc _).drew, 12, _, 0, _, by omega, HU.out, by omega, rfl⟩
  · have d1 : ((c : Int) == 0) = false := by rw [beq_eq_false_iff_ne]; omega
    have d2 : ((c : Int) != 0) = true := by rw [bne, d1]; rfl
    have HU : Hid (uwS s = (c, ⟨#[]⟩, 0, s)) := by
      have h1 := HTT.out
      rcases hc with rfl | rfl | rfl | rfl
      · exact absurd rfl hc0
      · exact uw_err (un_err h1)
      · exact uw_err (un_err h1)
      · exact uw_err (un_err h1)
    have HC := Lib.hid hc
    clear hc hc0
    go_wp2_with fail
    exact uw_ret rfl rfl rfl rfl rfl ⟨HK.out, c, _, 0, _, by have := HC.out; omega, HU.out, by omega, rfl⟩

theorem rop_ret {P : Ending → World → Prop} {w2 : World} {a : Act} {v0 v1 v2 : Value} (h2 : a.tmps.getD 4 undef = v0) (h3 : a.tmps.getD 5 undef = v1) (h4 : a.tmps.getD 6 undef = v2) (hd : a.defers = []) (hP : P (.returned (.tuple #[v0, v1, v2])) w2) :
    bodyPost Tryd.prog Tryd.f9 P .ret a w2 :=
  bodyPost_ret (v := .tuple #[v0, v1, v2]) (by simp [results, Tryd.results9, go_sem]; simp at h2 h3 h4; exact ⟨h2, h3, h4⟩) hd hP
theorem op_of_uw {s b r : ByteArray} {c k : Nat} {seq : Int} (h : uwS s = (c, b, k, r)) : opS s seq = if c = 0 then (if (k : Int) = seq then (0, b, r) else (10, ⟨#[]⟩, s)) else (c, ⟨#[]⟩, s) := by
  unfold uwS at h
  unfold opS
  split at h
  · next t' r' hu =>
    rw [hu]
    simp only
    split at h
    · next k' u' ht =>
      rw [ht]
      simp only [Prod.mk.injEq] at h
      obtain ⟨rfl, rfl, rfl, rfl⟩ := h
      rfl
    · next c' _ _ ht =>
      rw [ht]
      simp only [Prod.mk.injEq] at h
      obtain ⟨rfl, rfl, rfl, rfl⟩ := h
      rfl
  · next c' _ _ hu =>
    rw [hu]
    simp only [Prod.mk.injEq] at h
    obtain ⟨rfl, rfl, rfl, rfl⟩ := h
    rfl
/-- What the reference's Open answers. -/
def RopPost (s : ByteArray) (seq : Int) (w : World) (e : Ending) (w2 : World) : Prop :=
  Kp [] w w2 ∧ ∃ (c : Nat) (b r : ByteArray), opS s seq = (c, b, r) ∧ e = .returned (.tuple #[.string b, .string r, .int .i64 (c : Int)])
set_option maxHeartbeats 1600000 in
theorem rop_any (s : ByteArray) (hs : s.size ≤ 9223372036854775) (seq : Int) (w : World) :
    Calls Tryd.prog 9 #[.string s, .int .i64 seq] w (RopPost s seq w) := by
  have HT := Lib.hid (ruw_any s hs w)
  go_enter Tryd.func9, Tryd.ntmps9
  go_wp2_with fail
  refine Calls.mono HT.out ?_
  clear HT
  rintro e w2 ⟨K, c, b, k, r, hc, hu, hk, rfl⟩
  have HO := Lib.hid (op_of_uw (seq := seq) hu)
  have HK := Lib.hid K
  clear K hu
  by_cases hc0 : c = 0
  · subst hc0
    clear hc
    by_cases hks : (k : Int) = seq
    · have d1 : ((k : Int) == seq) = true := by simpa using hks
      have d2 : ((k : Int) != seq) = false := by simpa using hks
      have HO2 : Hid (opS s seq = (0, b, r)) := by show opS s seq = _; rw [HO.out, if_pos rfl, if_pos hks]
      clear HO hks
      go_wp2_with fail
      exact rop_ret rfl rfl rfl rfl ⟨HK.out, 0, _, _, HO2.out, rfl⟩
    · have d1 : ((k : Int) == seq) = false := by simpa using hks
      have d2 : ((k : Int) != seq) = true := by simpa using hks
      have HO2 : Hid (opS s seq = (10, ⟨#[]⟩, s)) := by show opS s seq = _; rw [HO.out, if_pos rfl, if_neg hks]
      clear HO hks
      go_wp2_with fail
      exact rop_ret rfl rfl rfl rfl ⟨HK.out, 10, _, _, HO2.out, rfl⟩
  · have d1 : ((c : Int) == 0) = false := by rw [beq_eq_false_iff_ne]; omega
    have d2 : ((c : Int) != 0) = true := by rw [bne, d1]; rfl
    have HO2 : Hid (opS s seq = (c, ⟨#[]⟩, s)) := by show opS s seq = _; rw [HO.out, if_neg hc0]
    clear HO hc hc0
    go_wp2_with fail
    exact rop_ret rfl rfl rfl rfl ⟨HK.out, c, _, _, HO2.out, rfl⟩
end Go.Proofs.YtmeidihbglljiaaDoor
