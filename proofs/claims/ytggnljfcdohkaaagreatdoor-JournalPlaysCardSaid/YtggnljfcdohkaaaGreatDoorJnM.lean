/- Contracts of package journal: add. -/
import Derived.Test.YtggnljfcdohkaaaGreatDoorJnH
import Derived.Deep.CutBlock
import Derived.Deep.Cut
namespace Go.Proofs.YtggnljfcdohkaaaGreatDoor
open Go.RowKit

/-- What wrapped answers, by its two results. -/
def WrP (seq : Nat) (sx : Nat → ByteArray) (n rm : Nat) (s : ByteArray) (v : Value) : Prop :=
  (¬ Small sx n ∧ s = ⟨#[]⟩ ∧ v = errNum 13) ∨ (Small sx n ∧ rm < (wrapsL seq sx n).length ∧ s = ⟨#[]⟩ ∧ v = errNum 14) ∨ (Small sx n ∧ (wrapsL seq sx n).length ≤ rm ∧ s = wrapsS seq sx n ∧ v = .nilIface)
theorem WrPost.p {seq : Nat} {sx : Nat → ByteArray} {n rm : Nat} {e : Ending} (h : WrPost seq sx n rm e) : ∃ s v, e = .returned (.tuple #[.string s, v]) ∧ WrP seq sx n rm s v := by
  rcases h with ⟨h1, rfl⟩ | ⟨h1, h2, rfl⟩ | ⟨h1, h2, rfl⟩
  · exact ⟨_, _, rfl, .inl ⟨h1, rfl, rfl⟩⟩
  · exact ⟨_, _, rfl, .inr (.inl ⟨h1, h2, rfl, rfl⟩)⟩
  · exact ⟨_, _, rfl, .inr (.inr ⟨h1, h2, rfl, rfl⟩)⟩
/-- A journal that is as it should be, of a disk of n sectors. -/
structure Jn.Ok (J : Jn) (n : Nat) : Prop where
  a1 : J.at_ ≤ 1
  t1 : 1 ≤ J.turn
  t2 : J.turn ≤ 1000000
  h1 : J.half ≤ 1
  c1 : J.count ≤ 1000000
  u1 : J.used ≤ 64 * hl n
  tl : J.tail.size = J.used % 64
def addW (J : Jn) (r : ByteArray) : ByteArray := wrapS (J.turn * 1000000 + J.count) r
theorem addW_eq (J : Jn) (r : ByteArray) : wrapsS (J.turn * 1000000 + J.count) (fun _ => r) 1 = addW J r := by
  unfold wrapsS addW wrapsL wrapsL
  simp
def addRow (J : Jn) (r : ByteArray) : ByteArray := J.tail ++ addW J r
def addWr (S : Dk) (J : Jn) (r : ByteArray) : Int × Dk := Dk.wrow (hat S.n J.half + J.used / 64) (addRow J r) (nch (addRow J r)) 0 S
def addJ (J : Jn) (r : ByteArray) : Jn := { J with count := J.count + 1, used := J.used + (addW J r).size, tail := tailS (addRow J r) }
/-- A journal with its disk, in the blocks j and f. -/
structure JF (w : World) (f : List Nat) (b j : Nat) (S : Dk) (J : Jn) : Prop where
  d : DkF w f b S
  j_ : JnAt w j (.pointer (some ⟨b, 0, none⟩)) J
  jf : j ∉ f
  jg : 7 ≤ j
theorem JF.kept {w w2 : World} {f : List Nat} {b j : Nat} {S : Dk} {J : Jn} (h : JF w f b j S J) (k : Kp [] w w2) : JF w2 f b j S J := ⟨h.d.kept k, h.j_.kept k, h.jf, h.jg⟩
theorem strs_one (w : World) (r : ByteArray) : StrsAt (w.alloc (.cells #[.string r] 9)).drew (w.alloc (.cells #[.string r] 9)).drew.heap.size (some ⟨w.heap.size, 0, none⟩) 1 (fun _ => r) := by
  intro i hi
  obtain rfl : i = 0 := by omega
  refine ⟨_, 0, rfl, by simp [World.drew], ?_⟩
  show (w.alloc (.cells #[.string r] 9)).cell? _ = _
  simp
theorem JnAt.set4 {w : World} {j : Nat} {dv : Value} {J : Jn} (s : JnAt w j dv J) (x : Nat) : JnAt (w.setCell ⟨j, 4, none⟩ (.int .i64 (x : Int))) j dv { J with count := x } :=
  ⟨(cell_ne w j 4 0 _ (by decide)).trans s.c0, (cell_ne w j 4 1 _ (by decide)).trans s.c1, (cell_ne w j 4 2 _ (by decide)).trans s.c2, (cell_ne w j 4 3 _ (by decide)).trans s.c3, cell_eq w j 4 _ _ s.c4, (cell_ne w j 4 5 _ (by decide)).trans s.c5, (cell_ne w j 4 6 _ (by decide)).trans s.c6, fun o => by simp [s.f o]⟩
theorem JnAt.set5 {w : World} {j : Nat} {dv : Value} {J : Jn} (s : JnAt w j dv J) (x : Nat) : JnAt (w.setCell ⟨j, 5, none⟩ (.int .i64 (x : Int))) j dv { J with used := x } :=
  ⟨(cell_ne w j 5 0 _ (by decide)).trans s.c0, (cell_ne w j 5 1 _ (by decide)).trans s.c1, (cell_ne w j 5 2 _ (by decide)).trans s.c2, (cell_ne w j 5 3 _ (by decide)).trans s.c3, (cell_ne w j 5 4 _ (by decide)).trans s.c4, cell_eq w j 5 _ _ s.c5, (cell_ne w j 5 6 _ (by decide)).trans s.c6, fun o => by simp [s.f o]⟩
theorem JnAt.set6 {w : World} {j : Nat} {dv : Value} {J : Jn} (s : JnAt w j dv J) (x : ByteArray) : JnAt (w.setCell ⟨j, 6, none⟩ (.string x)) j dv { J with tail := x } :=
  ⟨(cell_ne w j 6 0 _ (by decide)).trans s.c0, (cell_ne w j 6 1 _ (by decide)).trans s.c1, (cell_ne w j 6 2 _ (by decide)).trans s.c2, (cell_ne w j 6 3 _ (by decide)).trans s.c3, (cell_ne w j 6 4 _ (by decide)).trans s.c4, (cell_ne w j 6 5 _ (by decide)).trans s.c5, cell_eq w j 6 _ _ s.c6, fun o => by simp [s.f o]⟩
theorem JnAt.set0 {w : World} {j : Nat} {dv : Value} {J : Jn} (s : JnAt w j dv J) (x : Value) : JnAt (w.setCell ⟨j, 0, none⟩ x) j x J :=
  ⟨cell_eq w j 0 _ _ s.c0, (cell_ne w j 0 1 _ (by decide)).trans s.c1, (cell_ne w j 0 2 _ (by decide)).trans s.c2, (cell_ne w j 0 3 _ (by decide)).trans s.c3, (cell_ne w j 0 4 _ (by decide)).trans s.c4, (cell_ne w j 0 5 _ (by decide)).trans s.c5, (cell_ne w j 0 6 _ (by decide)).trans s.c6, fun o => by simp [s.f o]⟩
/-- What add comes to. -/
def AddPost (S : Dk) (J : Jn) (r : ByteArray) (f : List Nat) (b j : Nat) (w : World) (e : Ending) (w2 : World) : Prop :=
  ∃ f2, Mv (j :: f) w (j :: f2) w2 ∧ ((2010 < r.size ∧ e = .returned (errNum 13) ∧ JF w2 f2 b j S J)
    ∨ (r.size ≤ 2010 ∧ hl S.n * 64 - J.used < (addW J r).size ∧ e = .returned (errNum 14) ∧ JF w2 f2 b j S J)
    ∨ (r.size ≤ 2010 ∧ (addW J r).size ≤ hl S.n * 64 - J.used ∧ (addWr S J r).1 ≠ 0 ∧ (∃ t, e = .returned (dErr t (addWr S J r).1)) ∧ JF w2 f2 b j (addWr S J r).2 J)
    ∨ (r.size ≤ 2010 ∧ (addW J r).size ≤ hl S.n * 64 - J.used ∧ (addWr S J r).1 = 0 ∧ e = .returned .nilIface ∧ JF w2 f2 b j (addWr S J r).2 (addJ J r)))
set_option maxHeartbeats 6400000 in
set_option maxRecDepth 20000 in
theorem add_any {w : World} {f : List Nat} {b j : Nat} {S : Dk} {J : Jn} (D : JF w f b j S J) (h4 : 4 ≤ S.n) (hJ : J.Ok S.n) (r : ByteArray) (hG : Gl w) (m : Nat) (hm : S.Lim m) (hmm : m + 40 < 4294967295) :
    Calls Tryz.prog 42 #[.pointer (some ⟨j, 0, none⟩), .string r] w (AddPost S J r f b j w) := by
  have hn2 := D.d.n2
  have hz9 : hl S.n ≤ 1000 := by unfold hl; omega
  obtain ⟨rm, hrm⟩ : ∃ rm, rm = hl S.n * 64 - J.used := ⟨_, rfl⟩
  have hu := hJ.u1
  have e1 : ((hl S.n * 64 : Nat) : Int) - (J.used : Int) = (rm : Int) := by omega
  have HRm := Lib.hid (fun w2 (k : Kp [] w w2) => room_any (D.d.kept k) (by omega))
  have HWr := Lib.hid (fun w2 a c (h : StrsAt w2 w2.heap.size a 1 (fun _ => r)) => wrapped_any J.turn J.count hJ.t2 hJ.c1 rm (by omega) a 1 c (by omega) (fun _ => r) w2 h)
  have HA := Lib.hid (fun w2 (k : Kp [] w w2) => halfAt_any (D.d.kept k) (by omega) J.half hJ.h1)
  obtain ⟨hrz, hhrz⟩ : ∃ hrz, hrz = hl S.n * 64 := ⟨_, rfl⟩
  have hrz9 : hrz ≤ 64000 := by omega
  rw [← hhrz] at HRm e1
  have HD := Lib.hid D
  have HJ := Lib.hid hJ
  have HG := Lib.hid hG
  have HM := Lib.hid hm
  have Hmm := Lib.hid hmm
  have HRM := Lib.hid (And.intro hrm hhrz)
  have H4 := Lib.hid h4
  clear D hJ hG hm hmm hrm hu hhrz h4 hn2 hz9
  have K0 : Hid (Kp [] w w.drew) := (Kp.refl [] w).drew
  have J0 : Hid (JnAt w.drew j (.pointer (some ⟨b, 0, none⟩)) J) := HD.out.j_.kept K0.out
  go_enter Tryz.func42, Tryz.ntmps42
  go_upto_region 1 with fail
  go_cut [5, 6] from 9 (fun s5 s6 wx => ∃ (s : ByteArray) (v : Value), s5 = .string s ∧ s6 = v ∧ Hid (WrP (J.turn * 1000000 + J.count) (fun _ => r) 1 rm s v) ∧ Hid (JnAt wx j (.pointer (some ⟨b, 0, none⟩)) J) ∧ Hid (Kp [] w wx))
  case first =>
    have q0 := J0.out.c0
    have q2 := J0.out.c2
    have q4 := J0.out.c4
    have q5 := J0.out.c5
    have hjl : j < w.drew.heap.size := J0.out.lt
    have K1 : Hid (Kp [] w (w.alloc (.cells #[.string r] 9)).drew) := ((Kp.refl [] w).alloc _).drew
    have J1 : Hid (JnAt (w.alloc (.cells #[.string r] 9)).drew j (.pointer (some ⟨b, 0, none⟩)) J) := HD.out.j_.kept K1.out
    have hS1 := strs_one w r
    have HW2 := Lib.hid (HWr.out _ _ 1 hS1)
    have a0 := J1.out.c0
    have a2 := J1.out.c2
    have a4 := J1.out.c4
    have a5 := J1.out.c5
    have e5 : IntKind.i64.wrap (rm : Int) = (rm : Int) := wrapn (by have := HRM.out.1; have := HRM.out.2; omega)
    clear hS1
    focus
      go_region_held3 (fun w' => w'.cell? ⟨j, 0, none⟩ = some (.pointer (some ⟨b, 0, none⟩)) ∧ w'.cell? ⟨j, 2, none⟩ = some (.int .i64 (J.turn : Int)) ∧ w'.cell? ⟨j, 4, none⟩ = some (.int .i64 (J.count : Int)) ∧ w'.cell? ⟨j, 5, none⟩ = some (.int .i64 (J.used : Int))) (first | exact ⟨q0, q2, q4, q5⟩ | exact ⟨r0, r2, r4, r5⟩ | exact ⟨a0, a2, a4, a5⟩) (first | (go_at_call 71; refine Calls.mono (HRm.out _ K0.out) ?_; rintro e x1 ⟨rfl, rfl⟩) | (go_at_call 71; refine Calls.mono (HRm.out _ K1.out) ?_; rintro e x1 ⟨rfl, rfl⟩) | (go_at_call 70; (try rw [e5]); refine Calls.mono HW2.out ?_; rintro e x2 ⟨hp, K2⟩; obtain ⟨s, v, rfl, hp2⟩ := hp.p; have J2 : Hid (JnAt x2 j (.pointer (some ⟨b, 0, none⟩)) J) := J1.out.kept K2; have K3 : Hid (Kp [] w x2) := K1.out.trans K2; have r0 := J2.out.c0; have r2 := J2.out.c2; have r4 := J2.out.c4; have r5 := J2.out.c5))
    all_goals
      go_wp2_with fail
      go_meet
      case rel => exact ⟨s, v, rfl, rfl, hp2, J2, K3⟩
  case rest =>
    obtain ⟨s, v, rfl, rfl, HP, J2, K3⟩ := hcut
    clear J0 K0 HRm HWr e1
    have HD3 : Hid (DkF wc f b S) := HD.out.d.kept K3.out
    have HJF : Hid (JF wc f b j S J) := HD.out.kept K3.out
    rcases HP.out with ⟨h1, rfl, rfl⟩ | ⟨h1, h2, rfl, rfl⟩ | ⟨h1, h2, hs, rfl⟩
    · have HX : Hid (2010 < r.size) := by
        rcases Nat.lt_or_ge 2010 r.size with h | h
        · exact h
        · exact absurd (fun i hi => h) h1
      clear h1 HP
      unfold errNum
      go_wp2_with fail
      go_ret
      exact ⟨f, Mv.of_kp K3.out _, .inl ⟨HX.out, rfl, HJF.out⟩⟩
    · have HX : Hid (r.size ≤ 2010) := h1 0 (by omega)
      have HY : Hid (hl S.n * 64 - J.used < (addW J r).size) := by rw [← addW_eq, wrapsS_size, ← HRM.out.1]; exact h2
      clear h1 h2 HP
      unfold errNum
      go_wp2_with fail
      go_ret
      exact ⟨f, Mv.of_kp K3.out _, .inr (.inl ⟨HX.out, HY.out, rfl, HJF.out⟩)⟩
    have HX : Hid (r.size ≤ 2010) := h1 0 (by omega)
    have HY : Hid ((addW J r).size ≤ hl S.n * 64 - J.used) := by rw [← addW_eq, wrapsS_size, ← HRM.out.1]; exact h2
    have Hs : Hid (s = addW J r) := by show s = _; rw [hs, addW_eq]
    have hs9 : s.size ≤ 2040 := by
      have := wrapS_le (J.turn * 1000000 + J.count) (by have := HJ.out.t2; have := HJ.out.c1; have : (128 : Nat) ^ 8 = 72057594037927936 := by decide
                                                        omega) r HX.out
      have h3 := HX.out
      have h5 : s = wrapS (J.turn * 1000000 + J.count) r := Hs.out
      rw [h5]
      omega
    clear h1 h2 hs HP
    have htl9 : J.tail.size ≤ 64 := by have := HJ.out.tl; omega
    obtain ⟨row, hrow⟩ : ∃ row, row = J.tail ++ s := ⟨_, rfl⟩
    have hrow9 : row.size ≤ 2200 := by rw [hrow, ByteArray.size_append]; omega
    have Hrow : Hid (row = addRow J r) := by show row = _; rw [hrow, Hs.out]; rfl
    have hno : ¬ 9223372036854775807 < J.tail.size + s.size := by omega
    have c6 := J2.out.c6
    have c0 := J2.out.c0
    have c3 := J2.out.c3
    have c5 := J2.out.c5
    have hrow2 : J.tail ++ s = row := hrow.symm
    clear hrow
    obtain ⟨ad, had⟩ : ∃ ad, ad = hat S.n J.half := ⟨_, rfl⟩
    obtain ⟨ab, hab⟩ : ∃ ab, ab = ad + J.used / 64 := ⟨_, rfl⟩
    have hat9 : ad ≤ 3000 := by rw [had]; have h1 := HJ.out.h1; have := hat_le S.n J.half (by have := H4.out; omega) h1; have := HD.out.d.n2; omega
    have hu9 : J.used ≤ 64000 := by have := HJ.out.u1; have := HRM.out.2; omega
    have e6 : (J.used : Int).tdiv 64 = ((J.used / 64 : Nat) : Int) := by rw [Int.tdiv_eq_ediv_of_nonneg (by omega)]; omega
    obtain ⟨uq, huq⟩ : ∃ uq, uq = J.used / 64 := ⟨_, rfl⟩
    rw [← huq] at e6 hab
    have e6' : (J.used : Int) / 64 = (uq : Int) := by omega
    have e7 : (ad : Int) + (uq : Int) = (ab : Int) := by omega
    have e8 : IntKind.i64.wrap ((ad : Int) + IntKind.i64.wrap (uq : Int)) = (ab : Int) := by rw [wrapn (by omega), e7, wrapn (by omega)]
    have Kd : Hid (Kp [] wc wc.drew) := (Kp.refl [] wc).drew
    have HA2 : Hid (∀ w2, Kp [] wc w2 → Calls Tryz.prog 73 #[.pointer (some ⟨b, 0, none⟩), .int .i64 (J.half : Int)] w2 fun e w3 => e = .returned (.int .i64 (ad : Int)) ∧ w2 = w3) := fun w2 k => by rw [had]; exact HA.out w2 (K3.out.trans k)
    have hnr : nch row ≤ 36 := by unfold nch; omega
    have HWR := Lib.hid (writeRow_any (HD3.out.kept Kd.out) ab (by omega) row (by omega) ((HG.out.kept K3.out).kept Kd.out) m HM.out (by have := Hmm.out; omega))
    have HAW : Hid (Dk.wrow ab row (nch row) 0 S = addWr S J r) := by show _ = _; unfold addWr; rw [Hrow.out, hab, had, huq]
    rw [HAW.out] at HWR
    have HJd := J2.out.kept Kd.out
    have d0 := HJd.c0
    have d3 := HJd.c3
    have d5 := HJd.c5
    have d6 := HJd.c6
    have HJD := Lib.hid HJd
    have HUQ := Lib.hid huq
    clear had hab hat9 huq HA HJd hnr
    go_upto_region 5 with fail
    go_cut [8] from 43 (fun s8 wx => ∃ (v : Value) (f2 : List Nat), s8 = v ∧ Hid (DAns (addWr S J r).1 v) ∧ Hid (DkF wx f2 b (addWr S J r).2) ∧ Hid (Mv f wc f2 wx) ∧ Hid (JnAt wx j (.pointer (some ⟨b, 0, none⟩)) J))
    case first =>
      focus
        go_region_held3 (fun w' => w'.cell? ⟨j, 0, none⟩ = some (.pointer (some ⟨b, 0, none⟩)) ∧ w'.cell? ⟨j, 3, none⟩ = some (.int .i64 (J.half : Int)) ∧ w'.cell? ⟨j, 5, none⟩ = some (.int .i64 (J.used : Int))) (first | exact ⟨d0, d3, d5⟩ | exact ⟨r0, r3, r5⟩) (first | (go_at_call 73; refine Calls.mono (HA2.out _ Kd.out) ?_; rintro e x1 ⟨rfl, rfl⟩) | (go_at_call 72; (try rw [e8]); refine Calls.mono HWR.out ?_; rintro e x3 ⟨v, f2, rfl, hv, D2, M2⟩; have JX : Hid (JnAt x3 j (.pointer (some ⟨b, 0, none⟩)) J) := HJD.out.keep M2.kp HD.out.jf; have r0 := JX.out.c0; have r3 := JX.out.c3; have r5 := JX.out.c5))
      all_goals
        go_wp2_with fail
        go_meet
        case rel => exact ⟨v, f2, rfl, hv, D2, (Mv.of_kp Kd.out f).trans M2, JX⟩
    case rest =>
      obtain ⟨v, f2, rfl, HV, HD4, HM4, JX⟩ := hcut
      have HM5 : Hid (Mv f w f2 wc) := (Mv.of_kp K3.out f).trans HM4.out
      have Hjf2 : Hid (j ∉ f2) := HM5.out.apart HD.out.jf HD.out.j_.lt
      clear d0 d3 d5 d6 HJD HM4 HD3 HJF HA2 HWR e6 e6' e7 e8 Kd K3 J2 c0 c3 c5 c6
      rcases HV.out with ⟨rfl, h0⟩ | ⟨⟨tt, rfl⟩, h0⟩
      rotate_left
      · have H6 := Lib.hid h0
        clear h0 HV
        unfold dErr dkRef
        go_wp2_with fail
        go_ret
        exact ⟨f2, HM5.out.more j, .inr (.inr (.inl ⟨HX.out, HY.out, H6.out, ⟨tt, rfl⟩, HD4.out, JX.out, Hjf2.out, HD.out.jg⟩))⟩
      have H6 := Lib.hid h0
      clear h0 HV
      have d4 := JX.out.c4
      have d5 := JX.out.c5
      have d6 := JX.out.c6
      have g4 := JX.out.f 4
      have g5 := JX.out.f 5
      have g6 := JX.out.f 6
      have hc9 : J.count ≤ 1000000 := HJ.out.c1
      have HT := Lib.hid (tailOf_any row (by omega))
      go_wp2_with fail
      have K7 : Hid (Kp [j] wc ((wc.setCell ⟨j, 4, none⟩ (.int .i64 ((J.count : Int) + 1))).setCell ⟨j, 5, none⟩ (.int .i64 ((J.used : Int) + (s.size : Int))))) := ((Kp.refl [j] wc).setCell (.inl (by simp)) _).setCell (.inl (by simp)) _
      have J7 : Hid (JnAt ((wc.setCell ⟨j, 4, none⟩ (.int .i64 ((J.count : Int) + 1))).setCell ⟨j, 5, none⟩ (.int .i64 ((J.used : Int) + (s.size : Int)))) j (.pointer (some ⟨b, 0, none⟩)) { J with count := J.count + 1, used := J.used + s.size }) := by
        have h1 := (JX.out.set4 (J.count + 1)).set5 (J.used + s.size)
        have e1 : ((J.count + 1 : Nat) : Int) = (J.count : Int) + 1 := by omega
        have e2 : ((J.used + s.size : Nat) : Int) = (J.used : Int) + (s.size : Int) := by omega
        rw [e1, e2] at h1
        exact h1
      generalize ((wc.setCell ⟨j, 4, none⟩ (.int .i64 ((J.count : Int) + 1))).setCell ⟨j, 5, none⟩ (.int .i64 ((J.used : Int) + (s.size : Int)))) = w7 at *
      refine Calls.mono (HT.out _) ?_
      rintro e w8 ⟨rfl, K8⟩
      have J8 : Hid (JnAt w8 j (.pointer (some ⟨b, 0, none⟩)) { J with count := J.count + 1, used := J.used + s.size }) := J7.out.kept K8
      have K9 : Hid (Kp [j] wc w8) := K7.out.trans (K8.mono (fun _ h => by cases h))
      clear d4 d5 d6 g4 g5 g6 K7 K8 J7
      have d6 := J8.out.c6
      have g6 := J8.out.f 6
      go_wp2_with fail
      go_ret
      have J9 := J8.out.set6 (tailS row)
      have K10 : Kp [j] wc (w8.setCell ⟨j, 6, none⟩ (.string (tailS row))) := K9.out.trans ((Kp.refl [j] w8).setCell (.inl (by simp)) _)
      have hM : Mv (j :: f) w (j :: f2) (w8.setCell ⟨j, 6, none⟩ (.string (tailS row))) := (HM5.out.more j).trans ⟨K10.mono (fun x hx => by simp at hx; simp [hx]), fun x hx => .inl hx⟩
      have hJ9 : addJ J r = { J with count := J.count + 1, used := J.used + s.size, tail := tailS row } := by unfold addJ; rw [← Hs.out, ← Hrow.out]
      have hD9 : DkF (w8.setCell ⟨j, 6, none⟩ (.string (tailS row))) f2 b (addWr S J r).2 := HD4.out.keep K10 (fun x hx hm => by simp at hm; rw [hm] at hx; exact Hjf2.out hx)
      exact ⟨f2, hM, .inr (.inr (.inr ⟨HX.out, HY.out, H6.out, rfl, hD9, by rw [hJ9]; exact J9, Hjf2.out, HD.out.jg⟩))⟩
end Go.Proofs.YtggnljfcdohkaaaGreatDoor
