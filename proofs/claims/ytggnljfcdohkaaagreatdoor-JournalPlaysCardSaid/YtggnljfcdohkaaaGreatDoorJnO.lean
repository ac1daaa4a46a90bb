/- Contracts of package journal: open. -/
import Derived.Test.YtggnljfcdohkaaaGreatDoorJnF
namespace Go.Proofs.YtggnljfcdohkaaaGreatDoor
open Go.RowKit

theorem DAns.iface {c : Int} {v : Value} (h : DAns c v) (hc : c ≠ 0) : ∃ t, v = dErr t c := by
  rcases h with ⟨_, h0⟩ | ⟨h1, _⟩
  · exact absurd h0 hc
  · exact h1
theorem OwnStrs.keep {f : List Nat} {w w2 : World} {B : Nat} {v : Value} {l : List ByteArray} (h : OwnStrs w B v l) (k : Kp f w w2) (hf : ∀ x ∈ f, x < B) : OwnStrs w2 B v l :=
  k.owns h (fun g hg hm => by
    obtain ⟨a, c, h1, h2, h3⟩ := h.form
    have := (h3 g hg).1
    have := hf g hm
    omega)
/-- What opening comes to, once a superblock counts. -/
def Dk.oAll (S : Dk) : ByteArray := S.half (countV S).2.2
def Dk.oUn (S : Dk) : List ByteArray × ByteArray := unL ((countV S).2.1 * 1000000) 0 S.oAll
def Dk.oUsed (S : Dk) : Nat := S.oAll.size - S.oUn.2.size
def Dk.oScr (S : Dk) : Nat × Int × Dk := Dk.scrb (hat S.n (countV S).2.2) S.oAll S.oUsed (hl S.n - S.oUsed / 64) (S.oUsed / 64) 0 S
def Dk.oErr (S : Dk) : Int := if S.oScr.2.1 ≠ 0 then S.oScr.2.1 else if 0 < S.oScr.1 then S.oScr.2.2.ferr else 0
def Dk.oDk (S : Dk) : Dk := if S.oScr.2.1 = 0 ∧ 0 < S.oScr.1 then S.oScr.2.2.flushed else S.oScr.2.2
def Dk.oJn (S : Dk) : Jn := jnOf (countV S).1 (countV S).2.1 (countV S).2.2 S.oUn.1.length (S.oAll.extract 0 S.oUsed)
theorem Dk.oDk_n (S : Dk) : S.oDk.n = S.n := by
  unfold Dk.oDk
  split
  · rw [Dk.flushed_n]; exact Dk.scrb_n _ _ _ _ _ _ _
  · exact Dk.scrb_n _ _ _ _ _ _ _
theorem Dk.oDk_lim (S : Dk) (m : Nat) (hm : S.Lim m) : S.oDk.Lim (m + hl S.n) := by
  unfold Dk.oDk
  split
  · exact ((Dk.scrb_lim _ _ _ _ _ _ _ m hm).mono (by omega)).flushed
  · exact (Dk.scrb_lim _ _ _ _ _ _ _ m hm).mono (by omega)
/-- A journal that is open, and its records. -/
structure Opened (w : World) (f : List Nat) (b j : Nat) (v : Value) (B : Nat) (S : Dk) (J : Jn) (l : List ByteArray) : Prop where
  d : DkF w f b S
  j_ : JnAt w j (.pointer (some ⟨b, 0, none⟩)) J
  own : OwnStrs w B v l
  jf : j ∉ f
  jB : B ≤ j
  vj : v.ownBlock ≠ some j
  vf : ∀ g, v.ownBlock = some g → g ∉ f
def OpPostJ (S : Dk) (b : Nat) (f : List Nat) (w : World) (e : Ending) (w2 : World) : Prop :=
  ∃ f2, Mv f w f2 w2 ∧ (((countV S).2.1 = 0 ∧ e = .returned (.tuple #[.pointer none, .slice none 0 0, errNum 10]) ∧ DkF w2 f2 b S)
    ∨ (0 < (countV S).2.1 ∧ S.oErr ≠ 0 ∧ (∃ t, e = .returned (.tuple #[.pointer none, .slice none 0 0, dErr t S.oErr])) ∧ DkF w2 f2 b S.oDk)
    ∨ (0 < (countV S).2.1 ∧ S.oErr = 0 ∧ ∃ j v, e = .returned (.tuple #[.pointer (some ⟨j, 0, none⟩), v, .nilIface]) ∧ Opened w2 f2 b j v w.heap.size S.oDk S.oJn S.oUn.1))
theorem opened_mk {w y4 y6 : World} {f f3 : List Nat} {b j y1 : Nat} {S : Dk} {J : Jn} {v : Value} {l : List ByteArray} (hc : 0 < (countV S).2.1) (he : S.oErr = 0) (hJ : S.oJn = J) (hl : S.oUn.1 = l)
    (D : DkF y4 f3 b S.oDk) (M : Mv f w f3 y4) (hv : OwnStrs y4 y1 v l) (hvf : ∀ g, v.ownBlock = some g → g ∉ f3) (hw : w.heap.size ≤ y1)
    (hj : JnAt y6 j (.pointer (some ⟨b, 0, none⟩)) J) (K : Kp [] y4 y6) (hjB : y4.heap.size ≤ j) : OpPostJ S b f w (.returned (.tuple #[.pointer (some ⟨j, 0, none⟩), v, .nilIface])) y6 := by
  refine ⟨f3, M.kp0 K, .inr (.inr ⟨hc, he, j, v, rfl, ?_⟩)⟩
  have D6 := D.kept K
  have hv6 : OwnStrs y6 y1 v l := K.owns hv (fun g hg hm => by cases hm)
  have hvB : OwnStrs y6 w.heap.size v l := by
    obtain ⟨h1, h2⟩ := hv6
    refine ⟨h1, ?_⟩
    rcases h2 with h2 | ⟨g, cap, cur, h3, h4, h5⟩
    · exact .inl h2
    · exact .inr ⟨g, cap, cur, h3, by omega, h5⟩
  have hbnd : ∀ g, v.ownBlock = some g → g < y4.heap.size := fun g hg => by
    obtain ⟨_, _, _, _, h3⟩ := hv.form
    exact (h3 g hg).2
  refine ⟨D6, by rw [hJ]; exact hj, by rw [hl]; exact hvB, fun hm => ?_, ?_, fun h => ?_, hvf⟩
  · have := (D.pos j hm).2; omega
  · have := M.kp.size; omega
  · have := hbnd j h; omega
theorem open3_ret {P : Ending → World → Prop} {w2 : World} {a : Act} {v0 v1 v2 : Value} (h2 : a.tmps.getD 2 undef = v0) (h3 : a.tmps.getD 3 undef = v1) (h4 : a.tmps.getD 4 undef = v2) (hd : a.defers = []) (hP : P (.returned (.tuple #[v0, v1, v2])) w2) :
    bodyPost Tryz.prog Tryz.f35 P .ret a w2 :=
  bodyPost_ret (v := .tuple #[v0, v1, v2]) (by simp [results, Tryz.results35, go_sem]; simp at h2 h3 h4; exact ⟨h2, h3, h4⟩) hd hP
set_option maxHeartbeats 6400000 in
set_option maxRecDepth 20000 in
theorem open_full {w : World} {f : List Nat} {b : Nat} {S : Dk} (D : DkF w f b S) (h4 : S.n < 4) :
    Calls Tryz.prog 35 #[.pointer (some ⟨b, 0, none⟩)] w fun e w2 => e = .returned (.tuple #[.pointer none, .slice none 0 0, errNum 14]) ∧ w2 = w := by
  have HL := Lib.hid (f_len D)
  have l1 : decide ((S.n : Int) < 4) = true := by simp; omega
  unfold errNum
  clear D
  go_enter Tryz.func35, Tryz.ntmps35
  go_wp2_with fail
  refine Calls.mono HL.out ?_
  rintro e x1 ⟨rfl, rfl⟩
  go_wp2_with fail
  exact open3_ret rfl rfl rfl rfl ⟨rfl, rfl⟩
set_option maxHeartbeats 6400000 in
set_option maxRecDepth 20000 in
theorem open_dead {w : World} {f : List Nat} {b : Nat} {S : Dk} (D : DkF w f b S) (h4 : 4 ≤ S.n) (hG : Gl w) (hd : S.dead = true) :
    Calls Tryz.prog 35 #[.pointer (some ⟨b, 0, none⟩)] w fun e w2 => (∃ t, e = .returned (.tuple #[.pointer none, .slice none 0 0, dErr t 25])) ∧ Kp [] w w2 := by
  have HL := Lib.hid (f_len D)
  have HC := Lib.hid (counting_dead D hG hd)
  have l1 : decide ((S.n : Int) < 4) = false := by simp; omega
  clear D
  go_enter Tryz.func35, Tryz.ntmps35
  go_wp2_with fail
  refine Calls.mono HL.out ?_
  rintro e x1 ⟨rfl, rfl⟩
  go_wp2_with fail
  refine Calls.mono HC.out ?_
  rintro e x1 ⟨⟨t, rfl⟩, K⟩
  have HK := Lib.hid (K.alloc (supO 0 0 0))
  clear K
  unfold dErr dkRef supV
  go_wp2_with fail
  exact open3_ret rfl rfl rfl rfl ⟨⟨t, rfl⟩, HK.out⟩
set_option maxHeartbeats 6400000 in
set_option maxRecDepth 20000 in
theorem open_ok {w : World} {f : List Nat} {b : Nat} {S : Dk} (D : DkF w f b S) (h4 : 4 ≤ S.n) (hG : Gl w) (hd : S.dead = false) (hT : (countV S).1 ≤ 1 ∧ (countV S).2.1 ≤ 1000000 ∧ (countV S).2.2 ≤ 1) (m : Nat) (hm : S.Lim m) (hmm : m + 1000 < 4294967295) :
    Calls Tryz.prog 35 #[.pointer (some ⟨b, 0, none⟩)] w (OpPostJ S b f w) := by
  have hn2 := D.n2
  have HL := Lib.hid (f_len D)
  have HC := Lib.hid (counting_ok D h4 hG hd)
  have l1 : decide ((S.n : Int) < 4) = false := by simp; omega
  obtain ⟨a, ha⟩ : ∃ a, a = (countV S).1 := ⟨_, rfl⟩
  obtain ⟨t, ht⟩ : ∃ t, t = (countV S).2.1 := ⟨_, rfl⟩
  obtain ⟨h, hh⟩ : ∃ h, h = (countV S).2.2 := ⟨_, rfl⟩
  obtain ⟨z, hz⟩ : ∃ z, z = hl S.n := ⟨_, rfl⟩
  have hz9 : z ≤ 1000 := by rw [hz]; unfold hl; omega
  have hsz : (S.half h).size = 64 * z := by rw [hz]; exact Dk.half_size D (by omega) h (by omega)
  have HR := Lib.hid (fun w2 (k : Kp [] w w2) => readHalf_ok (D.kept k) h4 h (by omega) (hG.kept k) hd)
  obtain ⟨all, hall⟩ : ∃ all, all = S.half h := ⟨_, rfl⟩
  rw [← hall] at hsz HR
  have HU := Lib.hid (fun w2 (k : Kp [] w w2) => unwrapped_any t (by omega) all (by omega) w2 (hG.kept k).2)
  obtain ⟨un, hun⟩ : ∃ un, un = unL (t * 1000000) 0 all := ⟨_, rfl⟩
  have hus := unL_size all.size (t * 1000000) 0 all (Nat.le_refl _)
  rw [← hun] at HU hus
  obtain ⟨used, hused⟩ : ∃ used, used = all.size - un.2.size := ⟨_, rfl⟩
  rw [← hused] at HU
  have hused9 : used ≤ 64 * z := by omega
  have HS := Lib.hid (fun w2 (k : Kp [] w w2) => scrub_any (D.kept k) h4 h (by omega) all z hsz hz9 used hused9 (hG.kept k) m hm (by omega))
  obtain ⟨sc, hsc⟩ : ∃ sc, sc = Dk.scrb (hat S.n h) all used (z - used / 64) (used / 64) 0 S := ⟨_, rfl⟩
  have hscl : sc.2.2.Lim (m + 1000) := by rw [hsc]; exact (Dk.scrb_lim _ _ _ _ _ _ _ m hm).mono (by omega)
  rw [← hsc] at HS
  have eAll : S.oAll = all := by unfold Dk.oAll; rw [← hh]; exact hall.symm
  have eUn : S.oUn = un := by unfold Dk.oUn; rw [eAll, ← ht]; exact hun.symm
  have eUsed : S.oUsed = used := by unfold Dk.oUsed; rw [eAll, eUn]; exact hused.symm
  have eScr : S.oScr = sc := by unfold Dk.oScr; rw [eAll, eUsed, ← hh, ← hz]; exact hsc.symm
  have eErr : S.oErr = if sc.2.1 ≠ 0 then sc.2.1 else if 0 < sc.1 then sc.2.2.ferr else 0 := by unfold Dk.oErr; rw [eScr]
  have eDk : S.oDk = if sc.2.1 = 0 ∧ 0 < sc.1 then sc.2.2.flushed else sc.2.2 := by unfold Dk.oDk; rw [eScr]
  have eJn : S.oJn = jnOf a t h un.1.length (all.extract 0 used) := by unfold Dk.oJn; rw [eUn, eAll, eUsed, ← ha, ← ht, ← hh]
  have EE := Lib.hid (And.intro eUn (And.intro eErr (And.intro eDk eJn)))
  have HA := Lib.hid (And.intro ha (And.intro ht hh))
  have HD := Lib.hid D
  have HG := Lib.hid hG
  have HT := Lib.hid hT
  have HZ := Lib.hid (And.intro hsz (And.intro hz9 (And.intro hused9 (And.intro hus hmm))))
  have Hsl := Lib.hid hscl
  clear D hG hd hT hm hmm ha ht hh hz hsz hall hun hus hused hused9 hsc hscl eAll eUn eUsed eScr eErr eDk eJn
  go_enter Tryz.func35, Tryz.ntmps35
  go_wp2_with fail
  refine Calls.mono HL.out ?_
  rintro e x1 ⟨rfl, rfl⟩
  go_wp2_with fail
  refine Calls.mono HC.out ?_
  rintro e x1 ⟨⟨hz0, rfl⟩ | ⟨hz0, rfl⟩, K⟩
  · have HK := Lib.hid (K.alloc (supO 0 0 0))
    have H0 := Lib.hid hz0
    clear K hz0
    unfold errNum supV
    go_wp2_with fail
    exact open3_ret rfl rfl rfl rfl ⟨f, Mv.of_kp HK.out f, .inl ⟨H0.out, rfl, HD.out.kept HK.out⟩⟩
  rw [← HA.out.1, ← HA.out.2.1, ← HA.out.2.2]
  have H0 := Lib.hid hz0
  have K1 := Lib.hid K
  clear K hz0 HC
  obtain ⟨X, hX⟩ : ∃ X, X = x1.heap.size := ⟨_, rfl⟩
  have SX : Hid (SupAt (x1.alloc (supO (a : Int) (t : Int) (h : Int))) X (a : Int) (t : Int) (h : Int)) := by rw [hX]; exact SupAt.new x1 _ _ _
  have K2 : Hid (Kp [] w (x1.alloc (supO (a : Int) (t : Int) (h : Int)))) := K1.out.alloc _
  have HXf : Hid (X ∉ f) := fun hm => by have := (HD.out.pos X hm).2; have := K1.out.size; omega
  have HX := Lib.hid hX
  clear hX
  unfold supV
  have x0 := SX.out.c0
  have x1' := SX.out.c1
  have x2 := SX.out.c2
  unfold supO at x0 x1' x2 K2 SX
  go_wp2_with fail
  rw [← HX.out]
  generalize (x1.alloc (.cells #[.int .i64 (a : Int), .int .i64 (t : Int), .int .i64 (h : Int)] 85)) = y0 at *
  clear x0 x1' x2 HX K1
  refine Calls.mono (HR.out _ K2.out) ?_
  rintro e y1 ⟨rfl, K⟩
  have SX1 : Hid (SupAt y1 X (a : Int) (t : Int) (h : Int)) := SX.out.kept K
  have K3 : Hid (Kp [] w y1) := K2.out.trans K
  clear K K2 SX HR
  have x0 := SX1.out.c0
  have x1 := SX1.out.c1
  have x2 := SX1.out.c2
  go_wp2_with fail
  refine Calls.mono (HU.out _ K3.out) ?_
  rintro e y2 ⟨v, rfl, hown, K⟩
  have HOwn := Lib.hid hown
  have HB1 := Lib.hid K3.out.size
  have SX2 : Hid (SupAt y2 X (a : Int) (t : Int) (h : Int)) := SX1.out.kept K
  have K4 : Hid (Kp [] w y2) := K3.out.trans K
  obtain ⟨va, vc, hva⟩ : ∃ va vc, v = .slice va un.1.length vc := by
    obtain ⟨va, vc, h1, _, _⟩ := hown.form
    exact ⟨va, vc, h1⟩
  subst hva
  clear K K3 SX1 HU hown x0 x1 x2
  have x0 := SX2.out.c0
  have x1 := SX2.out.c1
  have x2 := SX2.out.c2
  go_wp2_with fail
  refine Calls.mono (HS.out _ K4.out) ?_
  rintro e y3 ⟨v, f2, rfl, hv, D2, M2⟩
  have HfB : Hid (∀ x ∈ f, x < y1.heap.size) := fun x hx => Nat.lt_of_lt_of_le (HD.out.pos x hx).2 HB1.out
  have HOwn2 : Hid (OwnStrs y3 y1.heap.size (.slice va un.1.length vc) un.1) := HOwn.out.keep M2.kp HfB.out
  have SX3 : Hid (SupAt y3 X (a : Int) (t : Int) (h : Int)) := SX2.out.keep M2.kp HXf.out
  have HM3 : Hid (Mv f w f2 y3) := (Mv.of_kp K4.out f).trans M2
  have HV := Lib.hid hv
  have HD2 := Lib.hid D2
  have HK4 := Lib.hid K4.out.size
  have HXf2 : Hid (X ∉ f2) := M2.apart HXf.out SX2.out.lt
  have Hf2 : Hid (∀ g, Value.ownBlock (.slice va un.1.length vc) = some g → g ∉ f2) := fun g hg => by
    obtain ⟨_, _, _, _, h3⟩ := HOwn.out.form
    have h4 := h3 g hg
    exact M2.apart (fun hm => by have := HfB.out g hm; omega) h4.2
  clear D2 M2 SX2 K4 HOwn hv HS x0 x1 x2
  have hz9 := HZ.out.2.1
  have hus9 : used ≤ 64000 := by have := HZ.out.2.2.1; omega
  obtain ⟨wr, hwr⟩ : ∃ wr, wr = sc.1 := ⟨_, rfl⟩
  rw [← hwr]
  obtain ⟨er, her⟩ : ∃ er, er = sc.2.1 := ⟨_, rfl⟩
  rw [← her] at HV
  have HWR := Lib.hid (And.intro hwr her)
  clear hwr her
  rcases HV.out with ⟨rfl, h0⟩ | ⟨⟨tt, rfl⟩, h0⟩
  rotate_left
  · have HQ : Hid (S.oErr = er ∧ S.oDk = sc.2.2) := ⟨by rw [EE.out.2.1, if_pos (by rw [← HWR.out.2]; exact h0), ← HWR.out.2], by rw [EE.out.2.2.1, if_neg (fun q => h0 (by rw [HWR.out.2]; exact q.1))]⟩
    have H6 := Lib.hid h0
    clear h0 HV
    unfold dErr dkRef
    go_wp2_with fail
    refine open3_ret rfl rfl rfl rfl ⟨f2, HM3.out, .inr (.inl ⟨H0.out, ?_, ⟨tt, ?_⟩, ?_⟩)⟩
    · rw [HQ.out.1]; exact H6.out
    · rw [HQ.out.1]; rfl
    · rw [HQ.out.2]; exact HD2.out
  have e0 : er = 0 := h0
  clear h0 HV
  have HHold := Lib.hid (hold_any b a t h un.1.length (all.extract 0 used) (by rw [ByteArray.size_extract]; omega) (by have := HZ.out.2.2.2.1; have := HZ.out.1; omega))
  unfold supV at HHold
  have hua : used ≤ all.size := by have := HZ.out.1; have := HZ.out.2.2.1; omega
  have hrest : ∀ (y5 : World) (f5 : List Nat), S.oErr = 0 → DkF y5 f5 b S.oDk → Mv f2 y3 f5 y5 → Mv f w f5 y5 ∧ X ∉ f5 ∧ SupAt y5 X (a : Int) (t : Int) (h : Int) ∧ OwnStrs y5 y1.heap.size (.slice va un.1.length vc) un.1 ∧ ∀ g, Value.ownBlock (.slice va un.1.length vc) = some g → g ∉ f5 := fun y5 f5 h1 h2 h3 => by
    obtain ⟨_, _, _, _, h6⟩ := HOwn2.out.form
    refine ⟨HM3.out.trans h3, h3.apart HXf2.out SX3.out.lt, SX3.out.keep h3.kp HXf2.out, h3.kp.owns HOwn2.out (fun g hg => Hf2.out g hg), fun g hg => h3.apart (Hf2.out g hg) (h6 g hg).2⟩
  have HRest := Lib.hid hrest
  clear hrest
  have HQE : Hid (∀ (hw : ¬ 0 < wr), S.oErr = 0 ∧ S.oDk = sc.2.2) := fun hw => ⟨by rw [EE.out.2.1, if_neg (by rw [← HWR.out.2, e0]; simp), if_neg (by rw [← HWR.out.1]; exact hw)], by rw [EE.out.2.2.1, if_neg (fun q => hw (by rw [HWR.out.1]; exact q.2))]⟩
  have HQF : Hid (∀ (hw : 0 < wr), S.oErr = sc.2.2.ferr ∧ S.oDk = sc.2.2.flushed) := fun hw => ⟨by rw [EE.out.2.1, if_neg (by rw [← HWR.out.2, e0]; simp), if_pos (by rw [← HWR.out.1]; exact hw)], by rw [EE.out.2.2.1, if_pos ⟨by rw [← HWR.out.2]; exact e0, by rw [← HWR.out.1]; exact hw⟩]⟩
  clear e0
  have HEJ : Hid (S.oJn = jnOf a t h un.1.length (all.extract 0 used)) := EE.out.2.2.2
  have HEU : Hid (S.oUn = un) := EE.out.1
  by_cases hw : 0 < wr
  · have d1 : decide ((0 : Int) < (wr : Int)) = true := by simpa using hw
    have d1' : decide (0 < wr) = true := by simpa using hw
    have HQ := Lib.hid (HQF.out hw)
    have HF := Lib.hid (f_flush HD2.out (m + 1000) Hsl.out HZ.out.2.2.2.2)
    clear hw HQE HQF
    go_wp2_with fail
    refine Calls.mono HF.out ?_
    rintro e y4 ⟨v, f3, rfl, hv, D3, M3⟩
    have HD3 := Lib.hid D3
    have HM4 := Lib.hid M3
    have HV := Lib.hid hv
    have HO := Lib.hid (ofDisk_any hv)
    clear D3 M3 HF hv
    go_wp2_with fail
    refine Calls.mono (HO.out _) ?_
    rintro e x5 ⟨⟨v2, rfl, hv2⟩, rfl⟩
    rcases hv2 with ⟨rfl, h0⟩ | ⟨⟨tt, rfl⟩, h0⟩
    rotate_left
    · have H6 := Lib.hid h0
      clear h0
      unfold dErr dkRef
      go_wp2_with fail
      refine open3_ret rfl rfl rfl rfl ⟨f3, HM3.out.trans HM4.out, .inr (.inl ⟨H0.out, ?_, ⟨tt, ?_⟩, ?_⟩)⟩
      · rw [HQ.out.1]; exact H6.out
      · rw [HQ.out.1]; rfl
      · rw [HQ.out.2]; exact HD3.out
    have HE0 : Hid (S.oErr = 0) := HQ.out.1.trans h0
    have HD5 : Hid (DkF y4 f3 b S.oDk) := by rw [HQ.out.2]; exact HD3.out
    have HR5 := Lib.hid (HRest.out _ _ HE0.out HD5.out HM4.out)
    have SX5 : Hid (SupAt y4 X (a : Int) (t : Int) (h : Int)) := HR5.out.2.2.1
    clear h0 HQ HD3
    go_wp2_with fail
    have SX6 : Hid (SupAt y4.drew X (a : Int) (t : Int) (h : Int)) := SX5.out.kept (Kp.refl [] y4).drew
    have q0 := SX6.out.c0
    have q1 := SX6.out.c1
    have q2 := SX6.out.c2
    focus
      go_region_held3 (fun w' => w'.cell? ⟨X, 0, none⟩ = some (.int .i64 (a : Int)) ∧ w'.cell? ⟨X, 1, none⟩ = some (.int .i64 (t : Int)) ∧ w'.cell? ⟨X, 2, none⟩ = some (.int .i64 (h : Int))) (first | exact ⟨q0, q1, q2⟩ | exact ⟨r0, r1, r2⟩) (first | (go_at_call 67; refine Calls.mono (HHold.out _) ?_; rintro e y6 ⟨j, rfl, hj, K6, hjB⟩; have SX7 : Hid (SupAt y6 X (a : Int) (t : Int) (h : Int)) := SX6.out.kept K6; have r0 := SX7.out.c0; have r1 := SX7.out.c1; have r2 := SX7.out.c2))
    clear q0 q1 q2 r0 r1 r2
    go_wp2_with fail
    exact open3_ret rfl rfl rfl rfl (opened_mk H0.out HE0.out HEJ.out (by rw [HEU.out]) HD5.out HR5.out.1 HR5.out.2.2.2.1 HR5.out.2.2.2.2 HB1.out hj (((Kp.refl [] y4).drew).trans K6) hjB)
  · have d1 : decide ((0 : Int) < (wr : Int)) = false := by simpa using hw
    have d1' : decide (0 < wr) = false := by simpa using hw
    have HQ := Lib.hid (HQE.out hw)
    clear hw HQE HQF
    have HE0 : Hid (S.oErr = 0) := HQ.out.1
    have HD5 : Hid (DkF y3 f2 b S.oDk) := by rw [HQ.out.2]; exact HD2.out
    have HR5 := Lib.hid (HRest.out _ _ HE0.out HD5.out (Mv.refl _ _))
    have SX5 : Hid (SupAt y3 X (a : Int) (t : Int) (h : Int)) := HR5.out.2.2.1
    clear HQ
    go_wp2_with fail
    have SX6 : Hid (SupAt y3.drew X (a : Int) (t : Int) (h : Int)) := SX5.out.kept (Kp.refl [] y3).drew
    have q0 := SX6.out.c0
    have q1 := SX6.out.c1
    have q2 := SX6.out.c2
    focus
      go_region_held3 (fun w' => w'.cell? ⟨X, 0, none⟩ = some (.int .i64 (a : Int)) ∧ w'.cell? ⟨X, 1, none⟩ = some (.int .i64 (t : Int)) ∧ w'.cell? ⟨X, 2, none⟩ = some (.int .i64 (h : Int))) (first | exact ⟨q0, q1, q2⟩ | exact ⟨r0, r1, r2⟩) (first | (go_at_call 67; refine Calls.mono (HHold.out _) ?_; rintro e y6 ⟨j, rfl, hj, K6, hjB⟩; have SX7 : Hid (SupAt y6 X (a : Int) (t : Int) (h : Int)) := SX6.out.kept K6; have r0 := SX7.out.c0; have r1 := SX7.out.c1; have r2 := SX7.out.c2))
    clear q0 q1 q2 r0 r1 r2
    go_wp2_with fail
    exact open3_ret rfl rfl rfl rfl (opened_mk H0.out HE0.out HEJ.out (by rw [HEU.out]) HD5.out HR5.out.1 HR5.out.2.2.2.1 HR5.out.2.2.2.2 HB1.out hj (((Kp.refl [] y3).drew).trans K6) hjB)
end Go.Proofs.YtggnljfcdohkaaaGreatDoor
