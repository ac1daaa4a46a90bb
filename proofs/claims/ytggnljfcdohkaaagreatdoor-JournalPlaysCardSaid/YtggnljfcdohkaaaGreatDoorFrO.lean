/- Contracts of package frame: noFrame, takeSummed, dropSeq, Open. -/
import Derived.Test.YtggnljfcdohkaaaGreatDoorPkT
import Derived.Test.YtggnljfcdohkaaaGreatDoorFrA
import Derived.Test.YtggnljfcdohkaaaGreatDoorFrE
import Derived.Deep.RegionWith
namespace Go.Proofs.YtggnljfcdohkaaaGreatDoor
open Go.RowKit

def errNum (c : Int) : Value := .iface 63 (.int .i64 c)
def frErr (what : ByteArray) (v : Value) : Value := .iface 188 (.agg #[.string what, v])
/-- An error of package frame that is the number c. -/
def FErr (c : Int) (v : Value) : Prop := (∃ s, v = frErr s (errNum c)) ∨ ∃ s of u, v = frErr s (pkErr of u c)
def sCut : ByteArray := ⟨#[99, 117, 116, 32, 111, 102, 102]⟩
def sNoFrame : ByteArray := ⟨#[110, 111, 32, 102, 114, 97, 109, 101]⟩
def sNoSeq : ByteArray := ⟨#[110, 111, 32, 115, 101, 113]⟩
def sOtherSum : ByteArray := ⟨#[97, 110, 111, 116, 104, 101, 114, 32, 115, 117, 109]⟩
def sOtherSeq : ByteArray := ⟨#[97, 110, 111, 116, 104, 101, 114, 32, 115, 101, 113]⟩

theorem noFrame_short (of : ByteArray) (u : Int) (w : World) :
    Calls Tryz.prog 122 #[pkErr of u 11] w fun e w2 => e = .returned (frErr sCut (pkErr of u 11)) ∧ Kp [] w w2 := by
  unfold pkErr frErr
  go_enter Tryz.func122, Tryz.ntmps122
  go_wp2_with fail
  refine Calls.mono (is_ref_yes of u 11 _) ?_
  rintro e w2 ⟨rfl, K⟩
  go_wp2_with fail
  go_ret
  exact ⟨rfl, K⟩
theorem noFrame_else (of : ByteArray) (u c : Int) (hc : c ≠ 11) (w : World) :
    Calls Tryz.prog 122 #[pkErr of u c] w fun e w2 => e = .returned (frErr sNoFrame (pkErr of u c)) ∧ Kp [] w w2 := by
  unfold pkErr frErr
  have HC := Lib.hid (is_ref_no of u c 11 hc w)
  clear hc
  go_enter Tryz.func122, Tryz.ntmps122
  go_wp2_with fail
  refine Calls.mono HC.out ?_
  rintro e w2 ⟨rfl, K⟩
  clear HC
  go_wp2_with fail
  go_ret
  exact ⟨rfl, K⟩
theorem noFrame_num (w : World) :
    Calls Tryz.prog 122 #[errNum 11] w fun e w2 => e = .returned (frErr sCut (errNum 11)) ∧ Kp [] w w2 := by
  unfold errNum frErr
  go_enter Tryz.func122, Tryz.ntmps122
  go_wp2_with fail
  refine Calls.mono (is_num_yes 11 _) ?_
  rintro e w2 ⟨rfl, K⟩
  go_wp2_with fail
  go_ret
  exact ⟨rfl, K⟩

/-- What TakeText answers. -/
def TtPost (s : ByteArray) (most : Int) (w : World) (e : Ending) (w2 : World) : Prop :=
  Kp [] w w2 ∧ ((∃ t r, ttS s most = (0, t, r) ∧ r.size ≤ s.size ∧ t.size ≤ s.size ∧ e = .returned (.tuple #[.string t, .string r, .nilIface]))
    ∨ ∃ (c : Nat) (u : Int), (c = 10 ∨ c = 11 ∨ c = 13) ∧ ttS s most = (c, ⟨#[]⟩, s) ∧ e = .returned (.tuple #[.string ⟨#[]⟩, .string s, pkErr sText u (c : Int)]))
theorem ttext_all (s : ByteArray) (hs : s.size ≤ 9223372036854775) (most : Int) (w : World) (hE : EHas w) :
    Calls Tryz.prog 121 #[.string s, .int .i64 most] w (TtPost s most w) := by
  obtain ⟨⟨c, k, u⟩, h⟩ : ∃ x, takeS s = x := ⟨_, rfl⟩
  have hf := takeL_fits s.data.toList 0 0 (by decide) (by omega) c k u h
  have h' : takeL 0 0 s.data.toList = (c, k, u) := h
  rcases hf with ⟨rfl, _, _, _⟩ | ⟨rfl, rfl, _, _⟩ | ⟨rfl, rfl, _, _⟩
  · by_cases h1 : (k : Int) ≤ most
    · by_cases h2 : k ≤ (s.extract u s.size).size
      · refine (ttext_yes s hs most k u h h1 h2 w).mono ?_
        rintro e w2 ⟨rfl, hk⟩
        refine ⟨hk, .inl ⟨_, _, ?_, ?_, ?_, rfl⟩⟩
        · unfold ttS; rw [h']; simp only; rw [if_neg (by omega), if_neg (by omega)]
        · simp only [ByteArray.size_extract]; omega
        · simp only [ByteArray.size_extract]; omega
      · refine (ttext_short s hs most k u h h1 (by omega) w).mono ?_
        rintro e w2 ⟨rfl, hk⟩
        refine ⟨hk, .inr ⟨11, _, .inr (.inl rfl), ?_, rfl⟩⟩
        unfold ttS; rw [h']; simp only; rw [if_neg (by omega), if_pos (by omega)]
    · refine (ttext_large s hs most k u h (by omega) w).mono ?_
      rintro e w2 ⟨rfl, hk⟩
      refine ⟨hk, .inr ⟨13, _, .inr (.inr rfl), ?_, rfl⟩⟩
      unfold ttS; rw [h']; simp only; rw [if_pos (by omega)]
  · refine (ttext_no s hs most 10 _ u h (.inl rfl) w hE).mono ?_
    rintro e w2 ⟨rfl, hk⟩
    exact ⟨hk, .inr ⟨10, _, .inl rfl, by unfold ttS; rw [h'], rfl⟩⟩
  · refine (ttext_no s hs most 11 _ u h (.inr rfl) w hE).mono ?_
    rintro e w2 ⟨rfl, hk⟩
    exact ⟨hk, .inr ⟨11, _, .inr (.inl rfl), by unfold ttS; rw [h'], rfl⟩⟩

theorem tl_ne {a b : ByteArray} (h : a ≠ b) : (a.toList == b.toList) = false := by
  rw [beq_eq_false_iff_ne]
  intro hl
  apply h
  rw [ByteArray.toList_eq, ByteArray.toList_eq] at hl
  cases a; cases b
  simp only [ByteArray.mk.injEq]
  exact Array.toList_inj.1 hl
theorem un_ok {s t r : ByteArray} {m : Nat} (h : ttS s 2020 = (0, t, r)) (h4 : 4 ≤ r.size) (hm : s.size = m + r.size) (hq : r.extract 0 4 = sumB (sumL (s.extract 0 m).data.toList)) : unS s = (0, t, r.extract 4 r.size) := by
  unfold unS; rw [h]; simp only; rw [if_neg (by omega), show s.size - r.size = m by omega, if_pos hq]
theorem un_bad {s t r : ByteArray} {m : Nat} (h : ttS s 2020 = (0, t, r)) (h4 : 4 ≤ r.size) (hm : s.size = m + r.size) (hq : ¬ r.extract 0 4 = sumB (sumL (s.extract 0 m).data.toList)) : unS s = (12, ⟨#[]⟩, ⟨#[]⟩) := by
  unfold unS; rw [h]; simp only; rw [if_neg (by omega), show s.size - r.size = m by omega, if_neg hq]
theorem un_err {s t r : ByteArray} {c : Nat} (h : ttS s 2020 = (c + 1, t, r)) : unS s = (c + 1, ⟨#[]⟩, ⟨#[]⟩) := by
  unfold unS; rw [h]
/-- What takeSummed answers. -/
def UnPost (s : ByteArray) (w : World) (e : Ending) (w2 : World) : Prop :=
  Kp [] w w2 ∧ ((∃ t r, unS s = (0, t, r) ∧ t.size ≤ s.size ∧ r.size ≤ s.size ∧ e = .returned (.tuple #[.string t, .string r, .nilIface]))
    ∨ ∃ (c : Nat) (v : Value), (c = 10 ∨ c = 11 ∨ c = 12 ∨ c = 13) ∧ unS s = (c, ⟨#[]⟩, ⟨#[]⟩) ∧ FErr (c : Int) v ∧ e = .returned (.tuple #[.string ⟨#[]⟩, .string ⟨#[]⟩, v]))
theorem un_ret {P : Ending → World → Prop} {w2 : World} {a : Act} {v0 v1 v2 : Value} (h2 : a.tmps.getD 2 undef = v0) (h3 : a.tmps.getD 3 undef = v1) (h4 : a.tmps.getD 4 undef = v2) (hd : a.defers = []) (hP : P (.returned (.tuple #[v0, v1, v2])) w2) :
    bodyPost Tryz.prog Tryz.f104 P .ret a w2 :=
  bodyPost_ret (v := .tuple #[v0, v1, v2]) (by simp [results, Tryz.results104, go_sem]; simp at h2 h3 h4; exact ⟨h2, h3, h4⟩) hd hP
set_option maxRecDepth 100000 in
set_option maxHeartbeats 3200000 in
theorem takeSummed_any (s : ByteArray) (hs : s.size ≤ 9223372036854775) (w : World) (hE : EHas w) :
    Calls Tryz.prog 104 #[.string s] w (UnPost s w) := by
  have HT := Lib.hid (ttext_all s hs 2020 w hE)
  clear hE
  go_enter Tryz.func104, Tryz.ntmps104
  go_wp2_with fail
  refine Calls.mono HT.out ?_
  clear HT
  rintro e w2 ⟨K, ⟨t, r, htt, hr, ht, rfl⟩ | ⟨c, u, hc, htt, rfl⟩⟩
  · have HTT := Lib.hid htt
    have HK := Lib.hid K
    clear htt K
    by_cases h4 : r.size < 4
    · have d4 : decide ((r.size : Int) < 4) = true := by simp; omega
      go_wp2_with fail
      refine Calls.mono (noFrame_num _) ?_
      unfold frErr errNum
      rintro e w3 ⟨rfl, K⟩
      have HK2 := Lib.hid K
      clear K
      go_wp2_with fail
      refine un_ret rfl rfl rfl rfl ⟨HK.out.trans HK2.out, .inr ⟨11, _, by omega, ?_, .inl ⟨sCut, rfl⟩, rfl⟩⟩
      unfold unS; rw [HTT.out]; simp only; rw [if_pos h4]
    · have d4 : decide ((r.size : Int) < 4) = false := by simp; omega
      obtain ⟨m, hm⟩ : ∃ m, s.size = m + r.size := ⟨s.size - r.size, by omega⟩
      have hm1 : IntKind.i64.wrap ((s.size : Int) - (r.size : Int)) = (m : Int) := by rw [hm, IntKind.wrap_i64]; omega
      have hm2 : m ≤ s.size := by omega
      have h44 : 4 ≤ r.size := by omega
      have HM := Lib.hid hm
      clear hm
      have hsz : (s.extract 0 m).size ≤ 9223372036854775 := by rw [ByteArray.size_extract]; omega
      obtain ⟨sb, hsb⟩ : ∃ sb, sb = sumB (sumL (s.extract 0 m).data.toList) := ⟨_, rfl⟩
      have HS : Hid (∀ w, Calls Tryz.prog 101 #[.string (s.extract 0 m)] w fun e w2 => e = .returned (.string sb) ∧ Kp [] w w2) := fun w => by rw [hsb]; exact sumBytes_any _ hsz w
      have HSB := Lib.hid hsb
      have d5 : decide ((4 : Int) ≤ (r.size : Int)) = true := by simp; omega
      clear hsz hsb
      by_cases hq : r.extract 0 4 = sb
      · have q1 : ((r.extract 0 4).toList == sb.toList) = true := by rw [hq]; simp
        have q2 : ((r.extract 0 4).toList != sb.toList) = false := by rw [hq]; simp
        have HQ := Lib.hid hq
        clear hq
        go_wp2_with fail
        go_region_with ((go_at_call 101; refine Calls.mono (HS.out _) ?_; rintro e w3 ⟨rfl, K3⟩))
        all_goals
          have HK3 := Lib.hid K3
          clear K3
          go_wp2_with fail
          go_quiet (fail)
          go_wp2_with fail
          exact un_ret rfl rfl rfl rfl ⟨(HK.out.drew.trans HK3.out).drewN _, .inl ⟨t, _, un_ok HTT.out h44 HM.out (HQ.out.trans HSB.out), ht, by simp only [ByteArray.size_extract]; omega, rfl⟩⟩
      · have q1 : ((r.extract 0 4).toList == sb.toList) = false := tl_ne hq
        have q2 : ((r.extract 0 4).toList != sb.toList) = true := by rw [bne, q1]; rfl
        have HQ := Lib.hid hq
        clear hq
        go_wp2_with fail
        go_region_with ((go_at_call 101; refine Calls.mono (HS.out _) ?_; rintro e w3 ⟨rfl, K3⟩))
        all_goals
          have HK3 := Lib.hid K3
          clear K3
          go_wp2_with fail
          exact un_ret rfl rfl rfl rfl ⟨HK.out.drew.trans HK3.out, .inr ⟨12, _, by omega, un_bad HTT.out h44 HM.out (fun h => HQ.out (h.trans HSB.out.symm)), .inl ⟨sOtherSum, rfl⟩, rfl⟩⟩
  · have HTT := Lib.hid htt
    have HK := Lib.hid K
    clear htt K
    unfold pkErr
    rcases hc with rfl | rfl | rfl
    · go_wp2_with fail
      refine Calls.mono (noFrame_else sText u 10 (by decide) _) ?_
      unfold frErr pkErr
      rintro e w3 ⟨rfl, K⟩
      have HK2 := Lib.hid K
      clear K
      go_wp2_with fail
      exact un_ret rfl rfl rfl rfl ⟨HK.out.trans HK2.out, .inr ⟨10, _, by omega, un_err HTT.out, .inr ⟨sNoFrame, sText, u, rfl⟩, rfl⟩⟩
    · go_wp2_with fail
      refine Calls.mono (noFrame_short sText u _) ?_
      unfold frErr pkErr
      rintro e w3 ⟨rfl, K⟩
      have HK2 := Lib.hid K
      clear K
      go_wp2_with fail
      exact un_ret rfl rfl rfl rfl ⟨HK.out.trans HK2.out, .inr ⟨11, _, by omega, un_err HTT.out, .inr ⟨sCut, sText, u, rfl⟩, rfl⟩⟩
    · go_wp2_with fail
      refine Calls.mono (noFrame_else sText u 13 (by decide) _) ?_
      unfold frErr pkErr
      rintro e w3 ⟨rfl, K⟩
      have HK2 := Lib.hid K
      clear K
      go_wp2_with fail
      exact un_ret rfl rfl rfl rfl ⟨HK.out.trans HK2.out, .inr ⟨13, _, by omega, un_err HTT.out, .inr ⟨sNoFrame, sText, u, rfl⟩, rfl⟩⟩

/-- What dropSeq answers. -/
def DsPost (t : ByteArray) (seq : Int) (w : World) (e : Ending) (w2 : World) : Prop :=
  Kp [] w w2 ∧ ((∃ k u, takeS t = (0, k, u) ∧ (k : Int) = seq ∧ e = .returned (.tuple #[.string (t.extract u t.size), .nilIface]))
    ∨ (∃ k u v, takeS t = (0, k, u) ∧ (k : Int) ≠ seq ∧ FErr 10 v ∧ e = .returned (.tuple #[.string ⟨#[]⟩, v]))
    ∨ ∃ (c : Nat) (k u : Nat) (v : Value), (c = 10 ∨ c = 11) ∧ takeS t = (c, k, u) ∧ FErr (c : Int) v ∧ e = .returned (.tuple #[.string ⟨#[]⟩, v]))
theorem ds_ret {P : Ending → World → Prop} {w2 : World} {a : Act} {v0 v1 : Value} (h2 : a.tmps.getD 4 undef = v0) (h3 : a.tmps.getD 5 undef = v1) (hd : a.defers = []) (hP : P (.returned (.tuple #[v0, v1])) w2) :
    bodyPost Tryz.prog Tryz.f105 P .ret a w2 :=
  bodyPost_ret (v := .tuple #[v0, v1]) (by simp [results, Tryz.results105, go_sem]; simp at h2 h3; exact ⟨h2, h3⟩) hd hP
set_option maxRecDepth 100000 in
set_option maxHeartbeats 3200000 in
theorem dropSeq_any (t : ByteArray) (ht : t.size ≤ 9223372036854775) (seq : Int) (w : World) :
    Calls Tryz.prog 105 #[.string t, .int .i64 seq] w (DsPost t seq w) := by
  obtain ⟨⟨c, k, u⟩, h⟩ : ∃ x, takeS t = x := ⟨_, rfl⟩
  have hf := takeL_fits t.data.toList 0 0 (by decide) (by omega) c k u h
  have H := Lib.hid h
  clear h
  rcases hf with ⟨rfl, _, _, _⟩ | hf
  · by_cases hs : (k : Int) = seq
    · have d1 : ((k : Int) == seq) = true := by simpa using hs
      have d2 : ((k : Int) != seq) = false := by simpa using hs
      have HS := Lib.hid hs
      clear hs
      go_enter Tryz.func105, Tryz.ntmps105
      go_wp2_with fail
      refine Calls.mono (take_yes t ht k u H.out _) ?_
      rintro e w2 ⟨rfl, K⟩
      have HK := Lib.hid K
      clear K
      go_wp2_with fail
      exact ds_ret rfl rfl rfl ⟨HK.out, .inl ⟨k, u, H.out, HS.out, rfl⟩⟩
    · have d1 : ((k : Int) == seq) = false := by simpa using hs
      have d2 : ((k : Int) != seq) = true := by simpa using hs
      have HS := Lib.hid hs
      clear hs
      go_enter Tryz.func105, Tryz.ntmps105
      go_wp2_with fail
      refine Calls.mono (take_yes t ht k u H.out _) ?_
      rintro e w2 ⟨rfl, K⟩
      have HK := Lib.hid K
      clear K
      go_wp2_with fail
      exact ds_ret rfl rfl rfl ⟨HK.out, .inr (.inl ⟨k, u, _, H.out, HS.out, .inl ⟨sOtherSeq, rfl⟩, rfl⟩)⟩
  · have hc : c = 10 ∨ c = 11 := by omega
    have HC := Lib.hid hc
    clear hc hf
    go_enter Tryz.func105, Tryz.ntmps105
    go_wp2_with fail
    refine Calls.mono (take_no t ht c k u H.out HC.out _) ?_
    unfold pkErr
    rintro e w2 ⟨rfl, K⟩
    have HK := Lib.hid K
    clear K
    go_wp2_with fail
    exact ds_ret rfl rfl rfl ⟨HK.out, .inr (.inr ⟨c, k, u, _, HC.out, H.out, .inr ⟨sNoSeq, sNumber, _, rfl⟩, rfl⟩)⟩

/-- What Open answers. -/
def OpPost (s : ByteArray) (seq : Int) (w : World) (e : Ending) (w2 : World) : Prop :=
  Kp [] w w2 ∧ ((∃ t r, opS s seq = (0, t, r) ∧ e = .returned (.tuple #[.string t, .string r, .nilIface]))
    ∨ ∃ (c : Nat) (v : Value), (c = 10 ∨ c = 11 ∨ c = 12 ∨ c = 13) ∧ opS s seq = (c, ⟨#[]⟩, s) ∧ FErr (c : Int) v ∧ e = .returned (.tuple #[.string ⟨#[]⟩, .string s, v]))
theorem op_ret {P : Ending → World → Prop} {w2 : World} {a : Act} {v0 v1 v2 : Value} (h2 : a.tmps.getD 4 undef = v0) (h3 : a.tmps.getD 5 undef = v1) (h4 : a.tmps.getD 6 undef = v2) (hd : a.defers = []) (hP : P (.returned (.tuple #[v0, v1, v2])) w2) :
    bodyPost Tryz.prog Tryz.f90 P .ret a w2 :=
  bodyPost_ret (v := .tuple #[v0, v1, v2]) (by simp [results, Tryz.results90, go_sem]; simp at h2 h3 h4; exact ⟨h2, h3, h4⟩) hd hP
theorem op_yes {s t r : ByteArray} {k u : Nat} {seq : Int} (h : unS s = (0, t, r)) (h2 : takeS t = (0, k, u)) (hk : (k : Int) = seq) : opS s seq = (0, t.extract u t.size, r) := by
  unfold opS; rw [h]; simp only; rw [show takeL 0 0 t.data.toList = (0, k, u) from h2]; simp only; rw [if_pos hk]
theorem op_other {s t r : ByteArray} {k u : Nat} {seq : Int} (h : unS s = (0, t, r)) (h2 : takeS t = (0, k, u)) (hk : (k : Int) ≠ seq) : opS s seq = (10, ⟨#[]⟩, s) := by
  unfold opS; rw [h]; simp only; rw [show takeL 0 0 t.data.toList = (0, k, u) from h2]; simp only; rw [if_neg hk]
theorem op_noseq {s t r : ByteArray} {c k u : Nat} {seq : Int} (h : unS s = (0, t, r)) (h2 : takeS t = (c + 1, k, u)) : opS s seq = (c + 1, ⟨#[]⟩, s) := by
  unfold opS; rw [h]; simp only; rw [show takeL 0 0 t.data.toList = (c + 1, k, u) from h2]
theorem op_err {s t r : ByteArray} {c : Nat} {seq : Int} (h : unS s = (c + 1, t, r)) : opS s seq = (c + 1, ⟨#[]⟩, s) := by
  unfold opS; rw [h]
/-- No error of the package is nil: it is an interface of its type. -/
theorem FErr.iface {c : Int} {v : Value} (h : FErr c v) : ∃ x, v = .iface 188 x := by
  rcases h with ⟨s, rfl⟩ | ⟨s, of, u, rfl⟩ <;> exact ⟨_, rfl⟩
set_option maxRecDepth 100000 in
set_option maxHeartbeats 3200000 in
theorem open_any (s : ByteArray) (hs : s.size ≤ 9223372036854775) (seq : Int) (w : World) (hE : EHas w) :
    Calls Tryz.prog 90 #[.string s, .int .i64 seq] w (OpPost s seq w) := by
  have HT := Lib.hid (takeSummed_any s hs w hE)
  clear hE
  go_enter Tryz.func90, Tryz.ntmps90
  go_wp2_with fail
  refine Calls.mono HT.out ?_
  clear HT
  rintro e w2 ⟨K, ⟨t, r, htt, ht, hr, rfl⟩ | ⟨c, v, hc, htt, hv, rfl⟩⟩
  · have HTT := Lib.hid htt
    have HK := Lib.hid K
    have hts : t.size ≤ 9223372036854775 := by omega
    clear htt K
    go_wp2_with fail
    refine Calls.mono (dropSeq_any t hts seq _) ?_
    rintro e w3 ⟨K, ⟨k, u, h1, h2, rfl⟩ | ⟨k, u, v, h1, h2, hv, rfl⟩ | ⟨c, k, u, v, hc, h1, hv, rfl⟩⟩
    · have H1 := Lib.hid (op_yes HTT.out h1 h2)
      have HK2 := Lib.hid K
      clear h1 h2 K
      go_wp2_with fail
      exact op_ret rfl rfl rfl rfl ⟨HK.out.trans HK2.out, .inl ⟨_, _, H1.out, rfl⟩⟩
    · have H1 := Lib.hid (op_other HTT.out h1 h2)
      have HK2 := Lib.hid K
      have HV := Lib.hid hv
      obtain ⟨x, rfl⟩ := hv.iface
      clear h1 h2 K hv
      go_wp2_with fail
      exact op_ret rfl rfl rfl rfl ⟨HK.out.trans HK2.out, .inr ⟨10, _, by omega, H1.out, HV.out, rfl⟩⟩
    · have H1 : Hid (opS s seq = (c, ⟨#[]⟩, s)) := by
        rcases hc with rfl | rfl <;> exact op_noseq HTT.out h1
      have HK2 := Lib.hid K
      have HV := Lib.hid hv
      have HC := Lib.hid hc
      obtain ⟨x, rfl⟩ := hv.iface
      clear h1 K hv hc
      go_wp2_with fail
      exact op_ret rfl rfl rfl rfl ⟨HK.out.trans HK2.out, .inr ⟨c, _, by have := HC.out; omega, H1.out, HV.out, rfl⟩⟩
  · have H1 : Hid (opS s seq = (c, ⟨#[]⟩, s)) := by
      rcases hc with rfl | rfl | rfl | rfl <;> exact op_err htt
    have HK := Lib.hid K
    have HV := Lib.hid hv
    have HC := Lib.hid hc
    obtain ⟨x, rfl⟩ := hv.iface
    clear htt K hv hc
    go_wp2_with fail
    exact op_ret rfl rfl rfl rfl ⟨HK.out, .inr ⟨c, _, HC.out, H1.out, HV.out, rfl⟩⟩
end Go.Proofs.YtggnljfcdohkaaaGreatDoor
