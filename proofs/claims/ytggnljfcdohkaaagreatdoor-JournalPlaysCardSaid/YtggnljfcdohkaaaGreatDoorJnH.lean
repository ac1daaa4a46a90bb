/- Contracts of package journal: format. -/
import Derived.Test.YtggnljfcdohkaaaGreatDoorJnO
namespace Go.Proofs.YtggnljfcdohkaaaGreatDoor
open Go.RowKit

theorem Dk.wrote_dead {S : Dk} {p : Int} {s : ByteArray} (h : S.werr p s.size = 0) : (S.wrote p s).dead = false := by
  have hd : S.dead = false := by
    cases hq : S.dead
    · rfl
    · unfold Dk.werr at h; rw [hq] at h; simp at h
  unfold Dk.wrote
  rw [if_pos h]
  exact hd
def sNone : ByteArray := ⟨#[]⟩
/-- A disk is formatted: what is wrong, the disk. -/
def Dk.fScr (S : Dk) : Nat × Int × Dk := Dk.scrb (hat S.n 0) ((S.wrote 1 sNone).half 0) 0 (hl S.n - 0 / 64) (0 / 64) 0 (S.wrote 1 sNone)
def Dk.fmt (S : Dk) : Int × Dk :=
  if S.werr 1 sNone.size ≠ 0 then (S.werr 1 sNone.size, S.wrote 1 sNone) else
  if S.fScr.2.1 ≠ 0 then (S.fScr.2.1, S.fScr.2.2) else
  if S.fScr.2.2.ferr ≠ 0 then (S.fScr.2.2.ferr, S.fScr.2.2.flushed) else
  S.fScr.2.2.flushed.supw 0 1 0
theorem Dk.fmt_n (S : Dk) : S.fmt.2.n = S.n := by
  have h2 : S.fScr.2.2.n = S.n := by unfold Dk.fScr; rw [Dk.scrb_n, Dk.wrote_n]
  unfold Dk.fmt
  split
  · exact Dk.wrote_n _ _ _
  · split
    · exact h2
    · split
      · rw [Dk.flushed_n]; exact h2
      · rw [Dk.supw_n, Dk.flushed_n]; exact h2
theorem Dk.fScr_lim (S : Dk) (m : Nat) (hm : S.Lim m) : S.fScr.2.2.Lim (m + 1 + hl S.n) := (Dk.scrb_lim _ _ _ _ _ _ _ (m + 1) (hm.wrote _ _)).mono (by omega)
theorem Dk.fmt_lim (S : Dk) (m : Nat) (hm : S.Lim m) : S.fmt.2.Lim (m + 2 + hl S.n) := by
  have h2 := S.fScr_lim m hm
  unfold Dk.fmt
  split
  · exact (hm.wrote _ _).mono (by omega)
  · split
    · exact h2.mono (by omega)
    · split
      · exact h2.flushed.mono (by omega)
      · exact (Dk.supw_lim _ _ _ _ _ h2.flushed).mono (by omega)
set_option maxHeartbeats 6400000 in
set_option maxRecDepth 20000 in
theorem format_full {w : World} {f : List Nat} {b : Nat} {S : Dk} (D : DkF w f b S) (h4 : S.n < 4) :
    Calls Tryz.prog 30 #[.pointer (some ⟨b, 0, none⟩)] w fun e w2 => e = .returned (errNum 14) ∧ w2 = w := by
  have HL := Lib.hid (f_len D)
  have l1 : decide ((S.n : Int) < 4) = true := by simp; omega
  unfold errNum
  clear D
  go_enter Tryz.func30, Tryz.ntmps30
  go_wp2_with fail
  refine Calls.mono HL.out ?_
  rintro e x1 ⟨rfl, rfl⟩
  go_wp2_with fail
  go_ret
  exact ⟨rfl, rfl⟩
set_option maxHeartbeats 6400000 in
set_option maxRecDepth 20000 in
theorem format_any {w : World} {f : List Nat} {b : Nat} {S : Dk} (D : DkF w f b S) (h4 : 4 ≤ S.n) (hG : Gl w) (m : Nat) (hm : S.Lim m) (hmm : m + 1003 < 4294967295) :
    Calls Tryz.prog 30 #[.pointer (some ⟨b, 0, none⟩)] w fun e w2 => ∃ v f2, e = .returned v ∧ DAns S.fmt.1 v ∧ DkF w2 f2 b S.fmt.2 ∧ Mv f w f2 w2 := by
  have hn2 := D.n2
  have HL := Lib.hid (f_len D)
  have HW := Lib.hid (f_write D 1 sNone (by omega) (by omega) hG m hm (by omega))
  unfold sNone at HW
  have l1 : decide ((S.n : Int) < 4) = false := by simp; omega
  have HD := Lib.hid D
  have HG := Lib.hid hG
  have HM := Lib.hid hm
  have Hmm := Lib.hid hmm
  have HN := Lib.hid hn2
  clear D hG hm hmm
  go_enter Tryz.func30, Tryz.ntmps30
  go_wp2_with fail
  refine Calls.mono HL.out ?_
  rintro e x1 ⟨rfl, rfl⟩
  go_wp2_with fail
  refine Calls.mono HW.out ?_
  rintro e x1 ⟨v, f1, rfl, hv, D1, M1⟩
  have HD1 : Hid (DkF x1 f1 b (S.wrote 1 sNone)) := D1
  have HM1 := Lib.hid M1
  clear D1 M1 HW HL
  rcases hv with ⟨rfl, h0⟩ | ⟨⟨tt, rfl⟩, h0⟩
  rotate_left
  · have H6 : Hid (S.werr 1 sNone.size ≠ 0) := h0
    have HO := Lib.hid (ofDisk_ref tt (S.werr 1 (ByteArray.mk #[]).size))
    unfold dkRef at HO
    clear h0
    go_wp2_with fail
    refine Calls.mono (HO.out _) ?_
    rintro e w3 ⟨rfl, rfl⟩
    unfold dErr dkRef
    go_wp2_with fail
    go_ret
    have hf : S.fmt = (S.werr 1 sNone.size, S.wrote 1 sNone) := by unfold Dk.fmt; rw [if_pos H6.out]
    rw [hf]
    exact ⟨_, _, rfl, .inr ⟨⟨tt, rfl⟩, H6.out⟩, HD1.out, HM1.out⟩
  have h0' : S.werr 1 sNone.size = 0 := h0
  have hd1 := Dk.wrote_dead h0'
  have H6 := Lib.hid h0'
  have hn1 := Dk.wrote_n S 1 sNone
  have hhs : ((S.wrote 1 sNone).half 0).size = 64 * hl S.n := by have := Dk.half_size HD1.out (by rw [hn1]; omega) 0 (by omega); rw [hn1] at this; exact this
  have HR := Lib.hid (fun w2 (k : Kp [] x1 w2) => readHalf_ok (HD1.out.kept k) (by rw [hn1]; omega) 0 (by omega) (((HG.out.mv HD.out HM1.out)).kept k) hd1)
  obtain ⟨all, hall⟩ : ∃ all, all = (S.wrote 1 sNone).half 0 := ⟨_, rfl⟩
  rw [← hall] at HR hhs
  have hz9 : hl S.n ≤ 1000 := by unfold hl; omega
  have HS := Lib.hid (fun w2 (k : Kp [] x1 w2) => scrub_any (HD1.out.kept k) (by rw [hn1]; omega) 0 (by omega) all (hl S.n) hhs hz9 0 (by omega) (((HG.out.mv HD.out HM1.out)).kept k) (m + 1) (HM.out.wrote _ _) (by have := Hmm.out; omega))
  rw [hn1] at HS
  have HSC : Hid (Dk.scrb (hat S.n 0) all 0 (hl S.n - 0 / 64) (0 / 64) 0 (S.wrote 1 sNone) = S.fScr) := by show _ = _; unfold Dk.fScr; rw [hall]
  rw [HSC.out] at HS
  obtain ⟨sc, hsc⟩ : ∃ sc, sc = S.fScr := ⟨_, rfl⟩
  have HSL : Hid (sc.2.2.Lim (m + 1 + hl S.n)) := by rw [hsc]; exact S.fScr_lim m HM.out
  have HSE := Lib.hid hsc
  rw [← hsc] at HS
  clear h0 h0' hd1 hn1 hhs hall hsc HSC
  go_wp2_with fail
  obtain ⟨X, hX⟩ : ∃ X, X = x1.heap.size := ⟨_, rfl⟩
  have SX : Hid (SupAt (x1.alloc (supO 0 1 0)) X 0 1 0) := by rw [hX]; exact SupAt.new x1 _ _ _
  have K2 : Hid (Kp [] x1 (x1.alloc (supO 0 1 0))) := (Kp.refl [] x1).alloc _
  have HXf : Hid (X ∉ f1) := fun hm => by have := (HD1.out.pos X hm).2; omega
  rw [← hX]
  clear hX
  unfold supO at SX K2
  generalize (x1.alloc (.cells #[.int .i64 0, .int .i64 1, .int .i64 0] 85)) = y0 at *
  refine Calls.mono (HR.out _ K2.out) ?_
  rintro e y1 ⟨rfl, K⟩
  have SX1 : Hid (SupAt y1 X 0 1 0) := SX.out.kept K
  have K3 : Hid (Kp [] x1 y1) := K2.out.trans K
  have x0 := SX1.out.c0
  have x1' := SX1.out.c1
  have x2 := SX1.out.c2
  clear K K2 SX HR
  go_wp2_with fail
  refine Calls.mono (HS.out _ K3.out) ?_
  rintro e y3 ⟨v, f2, rfl, hv, D2, M2⟩
  have SX3 : Hid (SupAt y3 X 0 1 0) := SX1.out.keep M2.kp HXf.out
  have HM3 : Hid (Mv f w f2 y3) := HM1.out.trans ((Mv.of_kp K3.out f1).trans M2)
  have HXf2 : Hid (X ∉ f2) := M2.apart HXf.out SX1.out.lt
  have HD2 := Lib.hid D2
  clear D2 M2 SX1 K3 HS x0 x1' x2
  rcases hv with ⟨rfl, h0⟩ | ⟨⟨tt, rfl⟩, h0⟩
  rotate_left
  · have H7 := Lib.hid h0
    clear h0
    unfold dErr dkRef
    go_wp2_with fail
    go_ret
    have hf : S.fmt = (sc.2.1, sc.2.2) := by unfold Dk.fmt; rw [← HSE.out, if_neg (by rw [H6.out]; simp), if_pos H7.out]
    rw [hf]
    exact ⟨_, _, rfl, .inr ⟨⟨tt, rfl⟩, H7.out⟩, HD2.out, HM3.out⟩
  have H7 := Lib.hid h0
  clear h0
  have HF := Lib.hid (f_flush HD2.out (m + 1 + hl S.n) HSL.out (by have := Hmm.out; omega))
  go_wp2_with fail
  refine Calls.mono HF.out ?_
  rintro e y4 ⟨v, f3, rfl, hv, D3, M3⟩
  have HD3 := Lib.hid D3
  have HM4 := Lib.hid (HM3.out.trans M3)
  have SX4 : Hid (SupAt y4 X 0 1 0) := SX3.out.keep M3.kp HXf2.out
  clear D3 M3 HF SX3 HD2 HM3 HXf2
  rcases hv with ⟨rfl, h0⟩ | ⟨⟨tt, rfl⟩, h0⟩
  rotate_left
  · have H8 := Lib.hid h0
    have HO := Lib.hid (ofDisk_ref tt sc.2.2.ferr)
    unfold dkRef at HO
    clear h0
    go_wp2_with fail
    refine Calls.mono (HO.out _) ?_
    rintro e w3 ⟨rfl, rfl⟩
    unfold dErr dkRef
    go_wp2_with fail
    go_ret
    have hf : S.fmt = (sc.2.2.ferr, sc.2.2.flushed) := by unfold Dk.fmt; rw [← HSE.out, if_neg (by rw [H6.out]; simp), if_neg (by rw [H7.out]; simp), if_pos H8.out]
    rw [hf]
    exact ⟨_, _, rfl, .inr ⟨⟨tt, rfl⟩, H8.out⟩, HD3.out, HM4.out⟩
  have H8 := Lib.hid h0
  clear h0
  have HP := Lib.hid (supWrite_any HD3.out 0 1 0 (by omega) (by omega) (by omega) (HG.out.mv HD.out HM4.out) (m + 1 + hl S.n) HSL.out.flushed (by have := Hmm.out; omega))
  unfold supV at HP
  have x0 := SX4.out.c0
  have x1' := SX4.out.c1
  have x2 := SX4.out.c2
  go_wp2_with fail
  refine Calls.mono HP.out ?_
  rintro e y5 ⟨v, f4, rfl, hv, D4, M4⟩
  have hf : S.fmt = sc.2.2.flushed.supw 0 1 0 := by unfold Dk.fmt; rw [← HSE.out, if_neg (by rw [H6.out]; simp), if_neg (by rw [H7.out]; simp), if_neg (by rw [H8.out]; simp)]
  rw [← hf] at hv D4
  have HV := Lib.hid hv
  have HD4 := Lib.hid D4
  have HM5 := Lib.hid (HM4.out.trans M4)
  clear hv D4 M4 HP hf
  go_wp2_with fail
  go_ret
  exact ⟨_, _, rfl, HV.out, HD4.out, HM5.out⟩
end Go.Proofs.YtggnljfcdohkaaaGreatDoor
/- Contracts of package journal: Format, Open. -/
namespace Go.Proofs.YtggnljfcdohkaaaGreatDoor
open Go.RowKit

/-- An error of the journal of number c, or none. -/
def IErr (c : Int) (v : Value) : Prop := v = errNum c ∨ ∃ t, v = dErr t c
def JErr (c : Int) (v : Value) : Prop := ∃ call x, v = jErr call x ∧ IErr c x
def JAns (c : Int) (v : Value) : Prop := (v = .nilIface ∧ c = 0) ∨ (JErr c v ∧ c ≠ 0)
theorem JErr.iface {c : Int} {v : Value} (h : JErr c v) : ∃ x, v = .iface 72 x := by
  obtain ⟨call, x, rfl, _⟩ := h
  exact ⟨_, rfl⟩
set_option maxHeartbeats 6400000 in
set_option maxRecDepth 20000 in
theorem Format_full {w : World} {f : List Nat} {b : Nat} {S : Dk} (D : DkF w f b S) (h4 : S.n < 4) :
    Calls Tryz.prog 8 #[.pointer (some ⟨b, 0, none⟩)] w fun e w2 => (∃ call, e = .returned (jErr call (errNum 14))) ∧ w2 = w := by
  have HF := Lib.hid (format_full D h4)
  unfold errNum at HF
  unfold jErr errNum
  clear D
  go_enter Tryz.func8, Tryz.ntmps8
  go_wp2_with fail
  refine Calls.mono HF.out ?_
  rintro e x1 ⟨rfl, rfl⟩
  go_wp2_with fail
  go_ret
  exact ⟨⟨_, rfl⟩, rfl⟩
set_option maxHeartbeats 6400000 in
set_option maxRecDepth 20000 in
theorem Format_any {w : World} {f : List Nat} {b : Nat} {S : Dk} (D : DkF w f b S) (h4 : 4 ≤ S.n) (hG : Gl w) (m : Nat) (hm : S.Lim m) (hmm : m + 1003 < 4294967295) :
    Calls Tryz.prog 8 #[.pointer (some ⟨b, 0, none⟩)] w fun e w2 => ∃ v f2, e = .returned v ∧ JAns S.fmt.1 v ∧ DkF w2 f2 b S.fmt.2 ∧ Mv f w f2 w2 := by
  have HF := Lib.hid (format_any D h4 hG m hm hmm)
  clear D hG hm
  go_enter Tryz.func8, Tryz.ntmps8
  go_wp2_with fail
  refine Calls.mono HF.out ?_
  rintro e x1 ⟨v, f2, rfl, hv, D2, M2⟩
  have HD := Lib.hid D2
  have HM := Lib.hid M2
  clear D2 M2 HF
  rcases hv with ⟨rfl, h0⟩ | ⟨⟨tt, rfl⟩, h0⟩
  · have H0 := Lib.hid h0
    clear h0
    go_wp2_with fail
    go_ret
    exact ⟨_, _, rfl, .inl ⟨rfl, H0.out⟩, HD.out, HM.out⟩
  · have H0 := Lib.hid h0
    clear h0
    unfold dErr dkRef
    go_wp2_with fail
    go_ret
    exact ⟨_, _, rfl, .inr ⟨⟨_, _, rfl, .inr ⟨tt, rfl⟩⟩, H0.out⟩, HD.out, HM.out⟩
theorem Open3_ret {P : Ending → World → Prop} {w2 : World} {a : Act} {v0 v1 v2 : Value} (h2 : a.tmps.getD 2 undef = v0) (h3 : a.tmps.getD 3 undef = v1) (h4 : a.tmps.getD 4 undef = v2) (hd : a.defers = []) (hP : P (.returned (.tuple #[v0, v1, v2])) w2) :
    bodyPost Tryz.prog Tryz.f10 P .ret a w2 :=
  bodyPost_ret (v := .tuple #[v0, v1, v2]) (by simp [results, Tryz.results10, go_sem]; simp at h2 h3 h4; exact ⟨h2, h3, h4⟩) hd hP
/-- What Open comes to: its error's number; the disk behind it. -/
def Dk.OErr (S : Dk) : Int := if S.dead then 25 else if (countV S).2.1 = 0 then 10 else S.oErr
def Dk.ODk (S : Dk) : Dk := if S.dead then S else if (countV S).2.1 = 0 then S else S.oDk
theorem Dk.ODk_n (S : Dk) : S.ODk.n = S.n := by
  unfold Dk.ODk
  split
  · rfl
  · split
    · rfl
    · exact S.oDk_n
theorem Dk.ODk_lim (S : Dk) (m : Nat) (hm : S.Lim m) : S.ODk.Lim (m + hl S.n) := by
  unfold Dk.ODk
  split
  · exact hm.mono (by omega)
  · split
    · exact hm.mono (by omega)
    · exact S.oDk_lim m hm
def OPost (S : Dk) (b : Nat) (f : List Nat) (w : World) (e : Ending) (w2 : World) : Prop :=
  ∃ f2, Mv f w f2 w2 ∧ ((S.OErr ≠ 0 ∧ (∃ v, e = .returned (.tuple #[.pointer none, .slice none 0 0, v]) ∧ JErr S.OErr v) ∧ DkF w2 f2 b S.ODk)
    ∨ (S.OErr = 0 ∧ ∃ j v, e = .returned (.tuple #[.pointer (some ⟨j, 0, none⟩), v, .nilIface]) ∧ Opened w2 f2 b j v w.heap.size S.ODk S.oJn S.oUn.1))
set_option maxHeartbeats 6400000 in
set_option maxRecDepth 20000 in
theorem Open_any {w : World} {f : List Nat} {b : Nat} {S : Dk} (D : DkF w f b S) (h4 : 4 ≤ S.n) (hG : Gl w) (hT : (countV S).1 ≤ 1 ∧ (countV S).2.1 ≤ 1000000 ∧ (countV S).2.2 ≤ 1) (m : Nat) (hm : S.Lim m) (hmm : m + 1000 < 4294967295) :
    Calls Tryz.prog 10 #[.pointer (some ⟨b, 0, none⟩)] w (OPost S b f w) := by
  cases hd : S.dead
  · have HF := Lib.hid (open_ok D h4 hG hd hT m hm hmm)
    have HD0 := Lib.hid hd
    clear D hG hm hd
    go_enter Tryz.func10, Tryz.ntmps10
    go_wp2_with fail
    refine Calls.mono HF.out ?_
    rintro e x1 ⟨f2, M2, ⟨hc, rfl, D2⟩ | ⟨hc, he, ⟨tt, rfl⟩, D2⟩ | ⟨hc, he, j, v, rfl, hO⟩⟩
    · have hE : S.OErr = 10 := by unfold Dk.OErr; rw [HD0.out]; simp [hc]
      have hK : S.ODk = S := by unfold Dk.ODk; rw [HD0.out]; simp [hc]
      have HE := Lib.hid (And.intro hE hK)
      have HD := Lib.hid D2
      have HM := Lib.hid M2
      clear D2 M2 HF hE hK hc
      unfold errNum
      go_wp2_with fail
      refine Open3_ret rfl rfl rfl rfl ⟨f2, HM.out, .inl ⟨by rw [HE.out.1]; decide, ⟨_, rfl, _, _, rfl, .inl (by rw [HE.out.1]; rfl)⟩, by rw [HE.out.2]; exact HD.out⟩⟩
    · have hE : S.OErr = S.oErr := by unfold Dk.OErr; rw [HD0.out, if_neg (by simp), if_neg (by omega)]
      have hK : S.ODk = S.oDk := by unfold Dk.ODk; rw [HD0.out, if_neg (by simp), if_neg (by omega)]
      have HE := Lib.hid (And.intro hE hK)
      have HD := Lib.hid D2
      have HM := Lib.hid M2
      have H0 := Lib.hid he
      clear D2 M2 HF hE hK hc he
      unfold dErr dkRef
      go_wp2_with fail
      refine Open3_ret rfl rfl rfl rfl ⟨f2, HM.out, .inl ⟨by rw [HE.out.1]; exact H0.out, ⟨_, rfl, _, _, rfl, .inr ⟨tt, by rw [HE.out.1]; rfl⟩⟩, by rw [HE.out.2]; exact HD.out⟩⟩
    · have hE : S.OErr = S.oErr := by unfold Dk.OErr; rw [HD0.out, if_neg (by simp), if_neg (by omega)]
      have hK : S.ODk = S.oDk := by unfold Dk.ODk; rw [HD0.out, if_neg (by simp), if_neg (by omega)]
      have HE := Lib.hid (And.intro hE hK)
      have HO := Lib.hid hO
      have HM := Lib.hid M2
      have H0 := Lib.hid he
      obtain ⟨va, vc, hv, _, _⟩ := hO.own.form
      subst hv
      clear M2 HF hE hK hc he hO
      go_wp2_with fail
      refine Open3_ret rfl rfl rfl rfl ⟨f2, HM.out, .inr ⟨by rw [HE.out.1]; exact H0.out, j, _, rfl, by rw [HE.out.2]; exact HO.out⟩⟩
  · have HF := Lib.hid (open_dead D h4 hG hd)
    have HD := Lib.hid D
    have hE : S.OErr = 25 := by unfold Dk.OErr; rw [hd]; simp
    have hK : S.ODk = S := by unfold Dk.ODk; rw [hd]; simp
    have HE := Lib.hid (And.intro hE hK)
    clear D hG hm hd hE hK
    go_enter Tryz.func10, Tryz.ntmps10
    go_wp2_with fail
    refine Calls.mono HF.out ?_
    rintro e x1 ⟨⟨tt, rfl⟩, K⟩
    have HK := Lib.hid K
    clear K HF
    unfold dErr dkRef
    go_wp2_with fail
    refine Open3_ret rfl rfl rfl rfl ⟨f, Mv.of_kp HK.out f, .inl ⟨by rw [HE.out.1]; decide, ⟨_, rfl, _, _, rfl, .inr ⟨tt, by rw [HE.out.1]; rfl⟩⟩, by rw [HE.out.2]; exact HD.out.kept HK.out⟩⟩
set_option maxHeartbeats 6400000 in
set_option maxRecDepth 20000 in
theorem Open_full {w : World} {f : List Nat} {b : Nat} {S : Dk} (D : DkF w f b S) (h4 : S.n < 4) :
    Calls Tryz.prog 10 #[.pointer (some ⟨b, 0, none⟩)] w fun e w2 => (∃ call, e = .returned (.tuple #[.pointer none, .slice none 0 0, jErr call (errNum 14)])) ∧ w2 = w := by
  have HF := Lib.hid (open_full D h4)
  unfold errNum at HF
  unfold jErr errNum
  clear D
  go_enter Tryz.func10, Tryz.ntmps10
  go_wp2_with fail
  refine Calls.mono HF.out ?_
  rintro e x1 ⟨rfl, rfl⟩
  go_wp2_with fail
  exact Open3_ret rfl rfl rfl rfl ⟨⟨_, rfl⟩, rfl⟩
end Go.Proofs.YtggnljfcdohkaaaGreatDoor
