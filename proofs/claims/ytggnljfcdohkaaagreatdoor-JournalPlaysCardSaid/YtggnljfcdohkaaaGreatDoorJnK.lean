/- Contracts of package journal: a superblock's next; compact. -/
import Derived.Test.YtggnljfcdohkaaaGreatDoorJnQ
import Derived.Test.YtggnljfcdohkaaaGreatDoorDkL
import Derived.Lib.Repeat
import Derived.Deep.CutBlock
import Derived.Deep.Cut
namespace Go.Proofs.YtggnljfcdohkaaaGreatDoor
open Go.RowKit

theorem nx_ret {P : Ending → World → Prop} {w : World} {c : Act} {X : Nat} {a t h : Int} (s : SupAt w X a t h) (h4 : c.tmps.getD 2 undef = .pointer (some ⟨X, 0, none⟩)) (hd : c.defers = []) (hP : P (.returned (supV a t h)) w) :
    bodyPost Tryz.prog Tryz.f77 P .ret c w := by
  have c0 := s.c0
  have c1 := s.c1
  have c2 := s.c2
  refine bodyPost_ret (v := supV a t h) ?_ hd hP
  simp [results, Tryz.results77, go_sem] at *
  simp [h4, supV, go_sem, c0, c1, c2]
set_option maxHeartbeats 6400000 in
set_option maxRecDepth 20000 in
theorem next_any (a t h : Nat) (ha : a ≤ 1) (ht : t ≤ 2000000) (hh : h ≤ 1) (w : World) :
    Calls Tryz.prog 77 #[supV a t h] w fun e w2 => e = .returned (supV (1 - a : Nat) (t + 1 : Nat) (1 - h : Nat)) ∧ Kp [] w w2 := by
  obtain ⟨X, hX⟩ : ∃ X, X = w.heap.size := ⟨_, rfl⟩
  obtain ⟨Y, hY⟩ : ∃ Y, Y = w.heap.size + 1 := ⟨_, rfl⟩
  obtain ⟨y, hy⟩ : ∃ y, y = (w.alloc (supO (a : Int) (t : Int) (h : Int))).alloc (supO 0 0 0) := ⟨_, rfl⟩
  have K : Kp [] w y := by rw [hy]; exact ((Kp.refl [] w).alloc _).alloc _
  have SX : SupAt y X a t h := by rw [hy, hX]; exact (SupAt.new w _ _ _).kept ((Kp.refl [] _).alloc _)
  have SY : SupAt y Y 0 0 0 := by
    rw [hy, hY]
    have := SupAt.new (w.alloc (supO (a : Int) (t : Int) (h : Int))) 0 0 0
    simpa using this
  have x0 := SX.c0
  have x1 := SX.c1
  have x2 := SX.c2
  have y0 := SY.c0
  have y1 := SY.c1
  have y2 := SY.c2
  have g0 := SY.f 0
  have g1 := SY.f 1
  have g2 := SY.f 2
  have HY : Hid (w.heap.size ≤ Y) := by show _ ≤ _; omega
  have HK := Lib.hid K
  have HS := Lib.hid SY
  have HE := Lib.hid (And.intro hX (And.intro hY hy))
  clear K SX SY hX hY hy
  have e1 : ((1 - a : Nat) : Int) = 1 - (a : Int) := by omega
  have e2 : ((t + 1 : Nat) : Int) = (t : Int) + 1 := by omega
  have e3 : ((1 - h : Nat) : Int) = 1 - (h : Int) := by omega
  rw [e1, e2, e3]
  clear e1 e2 e3
  unfold supV
  go_enter Tryz.func77, Tryz.ntmps77
  go_upto_region 1 with fail
  have hy := HE.out.2.2
  unfold supO at hy
  rw [← hy, ← HE.out.2.1, ← HE.out.1]
  clear hy
  go_wp2_with fail
  refine nx_ret (HS.out.set (1 - (a : Int)) ((t : Int) + 1) (1 - (h : Int))) rfl rfl ?_
  exact ⟨rfl, ((HK.out.setCell (.inr HY.out) _).setCell (.inr HY.out) _).setCell (.inr HY.out) _⟩
theorem repeat_zero (n : Nat) (hn : n ≤ 1000000) (w : World) : Calls Tryz.prog 78 #[.string ⟨#[0]⟩, .int .i64 (n : Int)] w fun e w2 => e = .returned (.string (zeros n)) ∧ Kp [] w w2 := by
  refine (Tryz.strings_Repeat ⟨#[0]⟩ n w (by omega) (by show 1 * n ≤ _; omega)).mono ?_
  rintro e w2 ⟨rfl, hB⟩
  refine ⟨?_, Kp.of_below hB []⟩
  have h1 : Lib.repeatL (ByteArray.mk #[0]).data.toList n = List.replicate n 0 := by
    have := Lib.repeatL_replicate (0 : UInt8) 1 n
    rw [Nat.mul_one] at this
    exact this
  rw [h1]
  rfl
def cSeq (J : Jn) : Nat := (J.turn + 1) * 1000000
def cRow (J : Jn) (sx : Nat → ByteArray) (n : Nat) : ByteArray := wrapsS (cSeq J) sx n
def cAll (S : Dk) (J : Jn) (sx : Nat → ByteArray) (n : Nat) : ByteArray := cRow J sx n ++ zeros (hl S.n * 64 - (cRow J sx n).size)
/-- A compaction's steps: the other half, flushed, the superblock. -/
def cW1 (S : Dk) (J : Jn) (sx : Nat → ByteArray) (n : Nat) : Int × Dk := Dk.wrow (hat S.n (1 - J.half)) (cAll S J sx n) (nch (cAll S J sx n)) 0 S
def cW3 (S : Dk) (J : Jn) (sx : Nat → ByteArray) (n : Nat) : Int × Dk := (cW1 S J sx n).2.flushed.supw (1 - J.at_) (J.turn + 1) (1 - J.half)
def cErr (S : Dk) (J : Jn) (sx : Nat → ByteArray) (n : Nat) : Int := if (cW1 S J sx n).1 ≠ 0 then (cW1 S J sx n).1 else if (cW1 S J sx n).2.ferr ≠ 0 then (cW1 S J sx n).2.ferr else (cW3 S J sx n).1
def cDk (S : Dk) (J : Jn) (sx : Nat → ByteArray) (n : Nat) : Dk := if (cW1 S J sx n).1 ≠ 0 then (cW1 S J sx n).2 else if (cW1 S J sx n).2.ferr ≠ 0 then (cW1 S J sx n).2.flushed else (cW3 S J sx n).2
def cJn (J : Jn) (sx : Nat → ByteArray) (n : Nat) : Jn := jnOf (1 - J.at_) (J.turn + 1) (1 - J.half) n (cRow J sx n)
theorem JnAt.set1 {w : World} {j : Nat} {dv : Value} {J : Jn} (s : JnAt w j dv J) (x : Nat) : JnAt (w.setCell ⟨j, 1, none⟩ (.int .i64 (x : Int))) j dv { J with at_ := x } :=
  ⟨(cell_ne w j 1 0 _ (by decide)).trans s.c0, cell_eq w j 1 _ _ s.c1, (cell_ne w j 1 2 _ (by decide)).trans s.c2, (cell_ne w j 1 3 _ (by decide)).trans s.c3, (cell_ne w j 1 4 _ (by decide)).trans s.c4, (cell_ne w j 1 5 _ (by decide)).trans s.c5, (cell_ne w j 1 6 _ (by decide)).trans s.c6, fun o => by simp [s.f o]⟩
theorem JnAt.set2 {w : World} {j : Nat} {dv : Value} {J : Jn} (s : JnAt w j dv J) (x : Nat) : JnAt (w.setCell ⟨j, 2, none⟩ (.int .i64 (x : Int))) j dv { J with turn := x } :=
  ⟨(cell_ne w j 2 0 _ (by decide)).trans s.c0, (cell_ne w j 2 1 _ (by decide)).trans s.c1, cell_eq w j 2 _ _ s.c2, (cell_ne w j 2 3 _ (by decide)).trans s.c3, (cell_ne w j 2 4 _ (by decide)).trans s.c4, (cell_ne w j 2 5 _ (by decide)).trans s.c5, (cell_ne w j 2 6 _ (by decide)).trans s.c6, fun o => by simp [s.f o]⟩
theorem JnAt.set3 {w : World} {j : Nat} {dv : Value} {J : Jn} (s : JnAt w j dv J) (x : Nat) : JnAt (w.setCell ⟨j, 3, none⟩ (.int .i64 (x : Int))) j dv { J with half := x } :=
  ⟨(cell_ne w j 3 0 _ (by decide)).trans s.c0, (cell_ne w j 3 1 _ (by decide)).trans s.c1, (cell_ne w j 3 2 _ (by decide)).trans s.c2, cell_eq w j 3 _ _ s.c3, (cell_ne w j 3 4 _ (by decide)).trans s.c4, (cell_ne w j 3 5 _ (by decide)).trans s.c5, (cell_ne w j 3 6 _ (by decide)).trans s.c6, fun o => by simp [s.f o]⟩
theorem JnAt.put {w : World} {j : Nat} {dv : Value} {J : Jn} (s : JnAt w j dv J) (dv2 : Value) (K : Jn) : JnAt (((((((w.setCell ⟨j, 0, none⟩ dv2).setCell ⟨j, 1, none⟩ (.int .i64 (K.at_ : Int))).setCell ⟨j, 2, none⟩ (.int .i64 (K.turn : Int))).setCell ⟨j, 3, none⟩ (.int .i64 (K.half : Int))).setCell ⟨j, 4, none⟩ (.int .i64 (K.count : Int))).setCell ⟨j, 5, none⟩ (.int .i64 (K.used : Int))).setCell ⟨j, 6, none⟩ (.string K.tail)) j dv2 K :=
  ((((((s.set0 dv2).set1 K.at_).set2 K.turn).set3 K.half).set4 K.count).set5 K.used).set6 K.tail
theorem Kp.put {j : Nat} {w x : World} (k : Kp [j] w x) (dv2 : Value) (K : Jn) : Kp [j] w (((((((x.setCell ⟨j, 0, none⟩ dv2).setCell ⟨j, 1, none⟩ (.int .i64 (K.at_ : Int))).setCell ⟨j, 2, none⟩ (.int .i64 (K.turn : Int))).setCell ⟨j, 3, none⟩ (.int .i64 (K.half : Int))).setCell ⟨j, 4, none⟩ (.int .i64 (K.count : Int))).setCell ⟨j, 5, none⟩ (.int .i64 (K.used : Int))).setCell ⟨j, 6, none⟩ (.string K.tail)) :=
  ((((((k.setCell (.inl (by simp)) _).setCell (.inl (by simp)) _).setCell (.inl (by simp)) _).setCell (.inl (by simp)) _).setCell (.inl (by simp)) _).setCell (.inl (by simp)) _).setCell (.inl (by simp)) _
/-- What compact comes to. -/
def CmpPost (S : Dk) (J : Jn) (sx : Nat → ByteArray) (n : Nat) (f : List Nat) (b j : Nat) (w : World) (e : Ending) (w2 : World) : Prop :=
  ∃ f2, Mv (j :: f) w (j :: f2) w2 ∧ ((¬ Small sx n ∧ e = .returned (errNum 13) ∧ JF w2 f2 b j S J)
    ∨ (Small sx n ∧ hl S.n * 64 < (cRow J sx n).size ∧ e = .returned (errNum 14) ∧ JF w2 f2 b j S J)
    ∨ (Small sx n ∧ (cRow J sx n).size ≤ hl S.n * 64 ∧ cErr S J sx n ≠ 0 ∧ (∃ t, e = .returned (dErr t (cErr S J sx n))) ∧ JF w2 f2 b j (cDk S J sx n) J)
    ∨ (Small sx n ∧ (cRow J sx n).size ≤ hl S.n * 64 ∧ cErr S J sx n = 0 ∧ e = .returned .nilIface ∧ JF w2 f2 b j (cDk S J sx n) (cJn J sx n)))
set_option maxHeartbeats 6400000 in
set_option maxRecDepth 20000 in
theorem compact_any {w : World} {f : List Nat} {b j : Nat} {S : Dk} {J : Jn} (D : JF w f b j S J) (h4 : 4 ≤ S.n) (hJ : J.Ok S.n) (ht9 : J.turn + 1 ≤ 1000000) (a : Option Addr) (n c : Nat) (hn : n ≤ 100000) (sx : Nat → ByteArray) (hR : StrsAt w w.heap.size a n sx)
    (hG : Gl w) (m : Nat) (hm : S.Lim m) (hmm : m + 1010 < 4294967295) :
    Calls Tryz.prog 50 #[.pointer (some ⟨j, 0, none⟩), .slice a n c] w (CmpPost S J sx n f b j w) := by
  have hn2 := D.d.n2
  have hz9 : hl S.n ≤ 1000 := by unfold hl; omega
  have hat9 := hat_le S.n (1 - J.half) (by omega) (by omega)
  have HNx := Lib.hid (next_any J.at_ J.turn J.half hJ.a1 (by omega) hJ.h1)
  obtain ⟨a2, ha2⟩ : ∃ a2, a2 = 1 - J.at_ := ⟨_, rfl⟩
  obtain ⟨t2, ht2⟩ : ∃ t2, t2 = J.turn + 1 := ⟨_, rfl⟩
  obtain ⟨h2, hh2⟩ : ∃ h2, h2 = 1 - J.half := ⟨_, rfl⟩
  obtain ⟨rm, hrm⟩ : ∃ rm, rm = hl S.n * 64 := ⟨_, rfl⟩
  rw [← ha2, ← ht2, ← hh2] at HNx
  unfold supV at HNx
  have hrm9 : rm ≤ 64000 := by omega
  have ht29 : t2 ≤ 1000000 := by omega
  have HRm := Lib.hid (fun w2 (k : Kp [] w w2) => room_any (D.d.kept k) (by omega))
  rw [← hrm] at HRm
  have HWr : Hid (∀ w2, Kp [] w w2 → Calls Tryz.prog 70 #[.int .i64 (t2 : Int), .int .i64 0, .int .i64 (rm : Int), .slice a n c] w2 fun e w3 => WrPost (t2 * 1000000 + 0) sx n rm e ∧ Kp [] w2 w3) := fun w2 k =>
    wrapped_any t2 0 ht29 (by omega) rm (by omega) a n c hn sx w2 (fun i hi => by
      obtain ⟨g, o, q1, q2, q3⟩ := hR i hi
      exact ⟨g, o, q1, k.lt q2, (k.cell0 q2).trans q3⟩)
  have HA := Lib.hid (fun w2 (k : Kp [] w w2) => halfAt_any (D.d.kept k) (by omega) h2 (by omega))
  have HD := Lib.hid D
  have HJ := Lib.hid hJ
  have HG := Lib.hid hG
  have HM := Lib.hid hm
  have Hmm := Lib.hid hmm
  have H4 := Lib.hid (And.intro h4 (And.intro hn2 (And.intro hz9 hat9)))
  have HN := Lib.hid (And.intro ha2 (And.intro ht2 (And.intro hh2 hrm)))
  have c0 := D.j_.c0
  have c1 := D.j_.c1
  have c2 := D.j_.c2
  have c3 := D.j_.c3
  clear D hJ hG hm hmm h4 hn2 hz9 hat9 ha2 ht2 hh2 hrm hR
  go_enter Tryz.func50, Tryz.ntmps50
  go_wp2_with fail
  refine Calls.mono (HNx.out _) ?_
  rintro e x1 ⟨rfl, K⟩
  have K1 := Lib.hid K
  clear K c0 c1 c2 c3
  obtain ⟨X, hX⟩ : ∃ X, X = x1.heap.size := ⟨_, rfl⟩
  have SX : Hid (SupAt (x1.alloc (supO (a2 : Int) (t2 : Int) (h2 : Int))) X (a2 : Int) (t2 : Int) (h2 : Int)) := by rw [hX]; exact SupAt.new x1 _ _ _
  have K2 : Hid (Kp [] w (x1.alloc (supO (a2 : Int) (t2 : Int) (h2 : Int)))) := K1.out.alloc _
  have HXf : Hid (X ∉ j :: f ∧ w.heap.size ≤ X) := by
    have h1 := K1.out.size
    refine ⟨fun hm => ?_, by omega⟩
    rcases List.mem_cons.1 hm with h | h
    · have := HD.out.j_.lt; omega
    · have := (HD.out.d.pos X h).2; omega
  have HX := Lib.hid hX
  clear hX
  have J2 : Hid (JnAt (x1.alloc (supO (a2 : Int) (t2 : Int) (h2 : Int))) j (.pointer (some ⟨b, 0, none⟩)) J) := HD.out.j_.kept K2.out
  unfold supO at SX K2 J2
  have c0 := J2.out.c0
  have s0 := SX.out.c0
  have s1 := SX.out.c1
  have s2 := SX.out.c2
  go_wp2_with fail
  rw [← HX.out]
  generalize (x1.alloc (.cells #[.int .i64 (a2 : Int), .int .i64 (t2 : Int), .int .i64 (h2 : Int)] 85)) = y at *
  refine Calls.mono (HRm.out _ K2.out) ?_
  rintro e x2 ⟨rfl, rfl⟩
  clear HX K1 HNx HRm
  go_wp2_with fail
  refine Calls.mono (HWr.out _ K2.out) ?_
  rintro e x3 ⟨hp, K⟩
  obtain ⟨s, v, rfl, hp2⟩ := hp.p
  have K3 : Hid (Kp [] w x3) := K2.out.trans K
  have J3 : Hid (JnAt x3 j (.pointer (some ⟨b, 0, none⟩)) J) := J2.out.kept K
  have SX3 : Hid (SupAt x3 X (a2 : Int) (t2 : Int) (h2 : Int)) := SX.out.kept K
  have HP := Lib.hid hp2
  clear K hp hp2 J2 SX K2 c0 s0 s1 s2 HWr
  have HJF : Hid (JF x3 f b j S J) := HD.out.kept K3.out
  have hseq : Hid (t2 * 1000000 + 0 = cSeq J) := by show _ = _; unfold cSeq; rw [HN.out.2.1, Nat.add_zero]
  rcases HP.out with ⟨h1, rfl, rfl⟩ | ⟨h1, h2', rfl, rfl⟩ | ⟨h1, h2', hs, rfl⟩
  · have HXs := Lib.hid h1
    clear h1 HP
    unfold errNum
    go_wp2_with fail
    go_ret
    exact ⟨f, Mv.of_kp K3.out _, .inl ⟨HXs.out, rfl, HJF.out⟩⟩
  · have HXs := Lib.hid h1
    have HY : Hid (hl S.n * 64 < (cRow J sx n).size) := by show _ < _; unfold cRow; rw [wrapsS_size, ← hseq.out, ← HN.out.2.2.2]; exact h2'
    clear h1 h2' HP
    unfold errNum
    go_wp2_with fail
    go_ret
    exact ⟨f, Mv.of_kp K3.out _, .inr (.inl ⟨HXs.out, HY.out, rfl, HJF.out⟩)⟩
  have HXs := Lib.hid h1
  have Hs : Hid (s = cRow J sx n) := by show s = _; rw [hs]; unfold cRow; rw [hseq.out]
  have hs9 : s.size ≤ rm := by rw [hs, wrapsS_size]; exact h2'
  have HY : Hid ((cRow J sx n).size ≤ hl S.n * 64) := by show _ ≤ _; rw [← Hs.out, ← HN.out.2.2.2]; exact hs9
  clear h1 h2' hs HP
  obtain ⟨pd, hpd⟩ : ∃ pd, pd = rm - s.size := ⟨_, rfl⟩
  have e1 : (rm : Int) - (s.size : Int) = (pd : Int) := by omega
  have hpd9 : pd ≤ 64000 := by omega
  have HRep := Lib.hid (repeat_zero pd (by omega))
  obtain ⟨zs, hzs⟩ : ∃ zs, zs = zeros pd := ⟨_, rfl⟩
  have hzsz : zs.size ≤ 64000 := by rw [hzs, zeros_size]; exact hpd9
  rw [← hzs] at HRep
  obtain ⟨all, hall⟩ : ∃ all, all = s ++ zs := ⟨_, rfl⟩
  have hall9 : all.size ≤ 128000 := by rw [hall, ByteArray.size_append]; omega
  have HAll : Hid (all = cAll S J sx n) := by show all = _; unfold cAll; rw [hall, hzs, hpd, HN.out.2.2.2, Hs.out]
  have hno : ¬ 9223372036854775807 < s.size + zs.size := by omega
  have hall2 : s ++ zs = all := hall.symm
  clear hall hzs hpd
  go_wp2_with fail
  refine Calls.mono (HRep.out _) ?_
  rintro e x4 ⟨rfl, K⟩
  have K4 : Hid (Kp [] w x4) := K3.out.trans K
  have J4 : Hid (JnAt x4 j (.pointer (some ⟨b, 0, none⟩)) J) := J3.out.kept K
  have SX4 : Hid (SupAt x4 X (a2 : Int) (t2 : Int) (h2 : Int)) := SX3.out.kept K
  clear K J3 SX3 K3 HJF HRep
  obtain ⟨ad, had⟩ : ∃ ad, ad = hat S.n h2 := ⟨_, rfl⟩
  have had9 : ad ≤ 3000 := by rw [had, HN.out.2.2.1]; have := H4.out.2.2.2; have := H4.out.2.1; omega
  have hnr : nch all ≤ 2001 := by unfold nch; omega
  rw [← had] at HA
  have Kd : Hid (Kp [] x4 x4.drew) := (Kp.refl [] x4).drew
  have HA2 : Hid (∀ w2, Kp [] x4 w2 → Calls Tryz.prog 73 #[.pointer (some ⟨b, 0, none⟩), .int .i64 (h2 : Int)] w2 fun e w3 => e = .returned (.int .i64 (ad : Int)) ∧ w2 = w3) := fun w2 k => HA.out w2 (K4.out.trans k)
  have hallx : all.size = hl S.n * 64 := by
    rw [HAll.out]
    unfold cAll
    rw [ByteArray.size_append, zeros_size]
    have := HY.out
    omega
  have hnr2 : nch all ≤ 1001 := by unfold nch; rw [hallx]; have := H4.out.2.2.1; omega
  have HWR := Lib.hid (writeRow_any ((HD.out.d.kept K4.out).kept Kd.out) ad (by omega) all (by omega) ((HG.out.kept K4.out).kept Kd.out) m HM.out (by have := Hmm.out; omega))
  have HAW : Hid (Dk.wrow ad all (nch all) 0 S = cW1 S J sx n) := by show _ = _; unfold cW1; rw [← HAll.out, had, HN.out.2.2.1]
  rw [HAW.out] at HWR
  have HLim : Hid ((cW1 S J sx n).2.Lim (m + 1001)) := by rw [← HAW.out]; exact (Dk.wrow_lim _ _ _ _ _ m HM.out).mono (by omega)
  have HJd := J4.out.kept Kd.out
  have HSd := SX4.out.kept Kd.out
  have d0 := HJd.c0
  have z0 := HSd.c0
  have z1 := HSd.c1
  have z2 := HSd.c2
  have HJD := Lib.hid HJd
  have HSD := Lib.hid HSd
  clear had had9 hnr hnr2 hallx HA HJd HSd
  go_upto_region 7 with fail
  go_cut [10] from 41 (fun s10 wx => ∃ (v : Value) (f2 : List Nat), s10 = v ∧ Hid (DAns (cW1 S J sx n).1 v) ∧ Hid (DkF wx f2 b (cW1 S J sx n).2) ∧ Hid (Mv f x4 f2 wx) ∧ Hid (JnAt wx j (.pointer (some ⟨b, 0, none⟩)) J) ∧ Hid (SupAt wx X (a2 : Int) (t2 : Int) (h2 : Int)))
  case first =>
    focus
      go_region_held3 (fun w' => w'.cell? ⟨j, 0, none⟩ = some (.pointer (some ⟨b, 0, none⟩)) ∧ w'.cell? ⟨X, 2, none⟩ = some (.int .i64 (h2 : Int))) (first | exact ⟨d0, z2⟩ | exact ⟨r0, r2⟩) (first | (go_at_call 73; refine Calls.mono (HA2.out _ Kd.out) ?_; rintro e x5 ⟨rfl, rfl⟩) | (go_at_call 72; refine Calls.mono HWR.out ?_; rintro e x5 ⟨v, f2, rfl, hv, D2, M2⟩; have JX : Hid (JnAt x5 j (.pointer (some ⟨b, 0, none⟩)) J) := HJD.out.keep M2.kp HD.out.jf; have SX5 : Hid (SupAt x5 X (a2 : Int) (t2 : Int) (h2 : Int)) := HSD.out.keep M2.kp (fun hm => HXf.out.1 (List.mem_cons_of_mem _ hm)); have r0 := JX.out.c0; have r2 := SX5.out.c2))
    all_goals
      go_wp2_with fail
      go_meet
      case rel => exact ⟨v, f2, rfl, hv, D2, (Mv.of_kp Kd.out f).trans M2, JX, SX5⟩
  case rest =>
    obtain ⟨v, f2, rfl, HV, HD2, HM2, JX, SX5⟩ := hcut
    have HM5 : Hid (Mv f w f2 wc) := (Mv.of_kp K4.out f).trans HM2.out
    have Hjf2 : Hid (j ∉ f2) := HM5.out.apart HD.out.jf HD.out.j_.lt
    have HXf2 : Hid (X ∉ f2) := HM2.out.apart (fun hm => HXf.out.1 (List.mem_cons_of_mem _ hm)) SX4.out.lt
    clear d0 z0 z1 z2 HJD HSD HM2 HA2 HWR Kd K4 J4 SX4
    rcases HV.out with ⟨rfl, h0⟩ | ⟨⟨tt, rfl⟩, h0⟩
    rotate_left
    · have hE : cErr S J sx n = (cW1 S J sx n).1 := by unfold cErr; rw [if_pos h0]
      have hK : cDk S J sx n = (cW1 S J sx n).2 := by unfold cDk; rw [if_pos h0]
      have HE := Lib.hid (And.intro hE (And.intro hK h0))
      clear hE hK h0 HV
      unfold dErr dkRef
      go_wp2_with fail
      go_ret
      refine ⟨f2, HM5.out.more j, .inr (.inr (.inl ⟨HXs.out, HY.out, ?_, ⟨tt, ?_⟩, ?_⟩))⟩
      · rw [HE.out.1]; exact HE.out.2.2
      · rw [HE.out.1]; rfl
      · rw [HE.out.2.1]; exact ⟨HD2.out, JX.out, Hjf2.out, HD.out.jg⟩
    have H6 := Lib.hid h0
    clear h0 HV
    have HF := Lib.hid (f_flush HD2.out (m + 1001) HLim.out (by have := Hmm.out; omega))
    have d0 := JX.out.c0
    go_wp2_with fail
    refine Calls.mono HF.out ?_
    rintro e x6 ⟨v, f3, rfl, hv, D3, M3⟩
    have HD3 := Lib.hid D3
    have HM6 : Hid (Mv f w f3 x6) := HM5.out.trans M3
    have J6 : Hid (JnAt x6 j (.pointer (some ⟨b, 0, none⟩)) J) := JX.out.keep M3.kp Hjf2.out
    have SX6 : Hid (SupAt x6 X (a2 : Int) (t2 : Int) (h2 : Int)) := SX5.out.keep M3.kp HXf2.out
    have Hjf3 : Hid (j ∉ f3) := M3.apart Hjf2.out JX.out.lt
    have HXf3 : Hid (X ∉ f3) := M3.apart HXf2.out SX5.out.lt
    clear D3 M3 HF d0 JX SX5 Hjf2 HXf2 HD2 HM5
    rcases hv with ⟨rfl, h0⟩ | ⟨⟨tt, rfl⟩, h0⟩
    rotate_left
    · have hE : cErr S J sx n = (cW1 S J sx n).2.ferr := by unfold cErr; rw [if_neg (by rw [H6.out]; simp), if_pos h0]
      have hK : cDk S J sx n = (cW1 S J sx n).2.flushed := by unfold cDk; rw [if_neg (by rw [H6.out]; simp), if_pos h0]
      have HE := Lib.hid (And.intro hE (And.intro hK h0))
      have HO := Lib.hid (ofDisk_ref tt (cW1 S J sx n).2.ferr)
      unfold dkRef at HO
      clear hE hK h0
      go_wp2_with fail
      refine Calls.mono (HO.out _) ?_
      rintro e x7 ⟨rfl, rfl⟩
      unfold dErr dkRef
      go_wp2_with fail
      go_ret
      refine ⟨f3, HM6.out.more j, .inr (.inr (.inl ⟨HXs.out, HY.out, ?_, ⟨tt, ?_⟩, ?_⟩))⟩
      · rw [HE.out.1]; exact HE.out.2.2
      · rw [HE.out.1]; rfl
      · rw [HE.out.2.1]; exact ⟨HD3.out, J6.out, Hjf3.out, HD.out.jg⟩
    have H7 := Lib.hid h0
    clear h0
    have Kd : Hid (Kp [] x6 x6.drew) := (Kp.refl [] x6).drew
    have HG6 : Hid (Gl x6) := HG.out.keep (HM6.out.more j).kp HD.out.gl
    have HW3 := Lib.hid (supWrite_any (HD3.out.kept Kd.out) a2 t2 h2 (by have := HN.out.1; omega) (by omega) (by have := HN.out.2.2.1; omega) (HG6.out.kept Kd.out) (m + 1001) HLim.out.flushed (by have := Hmm.out; omega))
    have HCW : Hid ((cW1 S J sx n).2.flushed.supw a2 t2 h2 = cW3 S J sx n) := by show _ = _; unfold cW3; rw [HN.out.1, HN.out.2.1, HN.out.2.2.1]
    rw [HCW.out] at HW3
    unfold supV at HW3
    have HJd := J6.out.kept Kd.out
    have HSd := SX6.out.kept Kd.out
    have d0 := HJd.c0
    have z0 := HSd.c0
    have z1 := HSd.c1
    have z2 := HSd.c2
    have HJD := Lib.hid HJd
    have HSD := Lib.hid HSd
    clear HJd HSd
    go_upto_region 13 with fail
    go_cut [12] from 66 (fun s12 wx => ∃ (v : Value) (f4 : List Nat), s12 = v ∧ Hid (DAns (cW3 S J sx n).1 v) ∧ Hid (DkF wx f4 b (cW3 S J sx n).2) ∧ Hid (Mv f3 x6 f4 wx) ∧ Hid (JnAt wx j (.pointer (some ⟨b, 0, none⟩)) J) ∧ Hid (SupAt wx X (a2 : Int) (t2 : Int) (h2 : Int)))
    case first =>
      focus
        go_region_held3 (fun w' => w'.cell? ⟨j, 0, none⟩ = some (.pointer (some ⟨b, 0, none⟩)) ∧ w'.cell? ⟨X, 0, none⟩ = some (.int .i64 (a2 : Int)) ∧ w'.cell? ⟨X, 1, none⟩ = some (.int .i64 (t2 : Int)) ∧ w'.cell? ⟨X, 2, none⟩ = some (.int .i64 (h2 : Int))) (first | exact ⟨d0, z0, z1, z2⟩ | exact ⟨r0, y0, y1, y2⟩) (first | (go_at_call 63; refine Calls.mono HW3.out ?_; rintro e x7 ⟨v, f4, rfl, hv, D4, M4⟩; have JX : Hid (JnAt x7 j (.pointer (some ⟨b, 0, none⟩)) J) := HJD.out.keep M4.kp Hjf3.out; have SX7 : Hid (SupAt x7 X (a2 : Int) (t2 : Int) (h2 : Int)) := HSD.out.keep M4.kp HXf3.out; have r0 := JX.out.c0; have y0 := SX7.out.c0; have y1 := SX7.out.c1; have y2 := SX7.out.c2))
      all_goals
        go_wp2_with fail
        go_meet
        case rel => exact ⟨v, f4, rfl, hv, D4, (Mv.of_kp Kd.out f3).trans M4, JX, SX7⟩
    case rest =>
      obtain ⟨v, f4, rfl, HV, HD4, HM4, JX, SX7⟩ := hcut
      have HM7 : Hid (Mv f w f4 wc) := HM6.out.trans HM4.out
      have Hjf4 : Hid (j ∉ f4) := HM4.out.apart Hjf3.out J6.out.lt
      have HXj : Hid (X ≠ j) := fun h => HXf.out.1 (by rw [h]; exact List.mem_cons_self ..)
      clear d0 z0 z1 z2 HJD HSD HM4 HW3 Kd J6 SX6 HD3
      have hE : (cW3 S J sx n).1 = cErr S J sx n := by unfold cErr; rw [if_neg (by rw [H6.out]; simp), if_neg (by rw [H7.out]; simp)]
      have hK : (cW3 S J sx n).2 = cDk S J sx n := by unfold cDk; rw [if_neg (by rw [H6.out]; simp), if_neg (by rw [H7.out]; simp)]
      rw [hE] at HV
      rw [hK] at HD4
      clear hE hK HCW
      rcases HV.out with ⟨rfl, h0⟩ | ⟨⟨tt, rfl⟩, h0⟩
      rotate_left
      · have HE := Lib.hid h0
        clear h0 HV
        unfold dErr dkRef
        go_wp2_with fail
        go_ret
        exact ⟨f4, HM7.out.more j, .inr (.inr (.inl ⟨HXs.out, HY.out, HE.out, ⟨tt, rfl⟩, ⟨HD4.out, JX.out, Hjf4.out, HD.out.jg⟩⟩))⟩
      have HE := Lib.hid h0
      clear h0 HV
      have HHold := Lib.hid (hold_any b a2 t2 h2 n s (by omega) (by omega))
      unfold supV at HHold
      have Kd : Hid (Kp [] wc wc.drew) := (Kp.refl [] wc).drew
      have HJd := JX.out.kept Kd.out
      have HSd := SX7.out.kept Kd.out
      have d0 := HJd.c0
      have d1 := HJd.c1
      have d2 := HJd.c2
      have d3 := HJd.c3
      have d4 := HJd.c4
      have d5 := HJd.c5
      have d6 := HJd.c6
      have z0 := HSd.c0
      have z1 := HSd.c1
      have z2 := HSd.c2
      have HJD := Lib.hid HJd
      have HSD := Lib.hid HSd
      clear HJd HSd
      go_wp2_with fail
      go_region_with (go_at_call 67; refine Calls.mono (HHold.out _) ?_; rintro e x8 ⟨j2, rfl, hj2, K8, hjB⟩; have J8 : Hid (JnAt x8 j (.pointer (some ⟨b, 0, none⟩)) J) := HJD.out.kept K8; have SX8 : Hid (SupAt x8 X (a2 : Int) (t2 : Int) (h2 : Int)) := HSD.out.kept K8; have r0 := J8.out.c0; have r1 := J8.out.c1; have r2 := J8.out.c2; have r3 := J8.out.c3; have r4 := J8.out.c4; have r5 := J8.out.c5; have r6 := J8.out.c6; have g0 := J8.out.f 0; have g1 := J8.out.f 1; have g2 := J8.out.f 2; have g3 := J8.out.f 3; have g4 := J8.out.f 4; have g5 := J8.out.f 5; have g6 := J8.out.f 6; have y0 := SX8.out.c0; have y1 := SX8.out.c1; have y2 := SX8.out.c2; have k0 := hj2.c0; have k1 := hj2.c1; have k2 := hj2.c2; have k3 := hj2.c3; have k4 := hj2.c4; have k5 := hj2.c5; have k6 := hj2.c6)
      all_goals
        have JP : Hid (JnAt _ j (.pointer (some ⟨b, 0, none⟩)) (jnOf a2 t2 h2 n s)) := J8.out.put (.pointer (some ⟨b, 0, none⟩)) (jnOf a2 t2 h2 n s)
        have KP : Hid (Kp [j] wc _) := Kp.put ((Kd.out.trans K8).mono (fun _ h => by cases h)) (.pointer (some ⟨b, 0, none⟩)) (jnOf a2 t2 h2 n s)
        clear d0 d1 d2 d3 d4 d5 d6 z0 z1 z2 r0 r1 r2 r3 r4 r5 r6 g0 g1 g2 g3 g4 g5 g6 y0 y1 y2 k0 k1 k2 k3 k4 k5 k6 HJD HSD SX8 J8 K8 hj2
        go_wp2_with fail
        go_ret
        have hcJ : cJn J sx n = jnOf a2 t2 h2 n s := by unfold cJn; rw [HN.out.1, HN.out.2.1, HN.out.2.2.1, Hs.out]
        refine ⟨f4, (HM7.out.more j).trans ⟨KP.out.mono (fun x hx => by simp at hx; simp [hx]), fun x hx => .inl hx⟩, .inr (.inr (.inr ⟨HXs.out, HY.out, HE.out, rfl, ⟨HD4.out.keep KP.out (fun x hx hm => by simp at hm; rw [hm] at hx; exact Hjf4.out hx), ?_, Hjf4.out, HD.out.jg⟩⟩))⟩
        rw [hcJ]
        exact JP.out
def sCompact : ByteArray := ⟨#[99, 111, 109, 112, 97, 99, 116]⟩
/-- What Compact comes to. -/
def CmpThen (S : Dk) (J : Jn) (sx : Nat → ByteArray) (n : Nat) (f : List Nat) (b j : Nat) (w : World) (e : Ending) (w2 : World) : Prop :=
  ∃ f2, Mv (j :: f) w (j :: f2) w2 ∧ ((¬ Small sx n ∧ e = .returned (jErr sCompact (errNum 13)) ∧ JF w2 f2 b j S J)
    ∨ (Small sx n ∧ hl S.n * 64 < (cRow J sx n).size ∧ e = .returned (jErr sCompact (errNum 14)) ∧ JF w2 f2 b j S J)
    ∨ (Small sx n ∧ (cRow J sx n).size ≤ hl S.n * 64 ∧ cErr S J sx n ≠ 0 ∧ (∃ t, e = .returned (jErr sCompact (dErr t (cErr S J sx n)))) ∧ JDead w2 f2 b j (cDk S J sx n) J)
    ∨ (Small sx n ∧ (cRow J sx n).size ≤ hl S.n * 64 ∧ cErr S J sx n = 0 ∧ e = .returned .nilIface ∧ JF w2 f2 b j (cDk S J sx n) (cJn J sx n)))
theorem CmpPost.wans {S : Dk} {J : Jn} {sx : Nat → ByteArray} {n : Nat} {f : List Nat} {b j : Nat} {w w2 : World} {v : Value} (h : CmpPost S J sx n f b j w (.returned v) w2) : WAns v ∧ ∃ J, JnAt w2 j (.pointer (some ⟨b, 0, none⟩)) J := by
  obtain ⟨f2, _, ⟨_, h, q⟩ | ⟨_, _, h, q⟩ | ⟨_, _, _, ⟨t, h⟩, q⟩ | ⟨_, _, _, h, q⟩⟩ := h
  all_goals
    simp only [Ending.returned.injEq] at h
    subst h
  · exact ⟨.inr (.inl ⟨_, rfl⟩), _, q.j_⟩
  · exact ⟨.inr (.inl ⟨_, rfl⟩), _, q.j_⟩
  · exact ⟨.inr (.inr ⟨_, _, rfl⟩), _, q.j_⟩
  · exact ⟨.inl rfl, _, q.j_⟩
theorem cmp_then {S : Dk} {J : Jn} {sx : Nat → ByteArray} {n : Nat} {f : List Nat} {b j : Nat} {w y w2 w3 : World} {v : Value} {e : Ending} (K : Kp [] w y) (hp : CmpPost S J sx n f b j y (.returned v) w2) (hd : DoThen sCompact j v w2 e w3) : CmpThen S J sx n f b j w e w3 ∧ ∃ u, e = .returned u := by
  obtain ⟨f2, hM, hp⟩ := hp
  have hM2 : Mv (j :: f) w (j :: f2) w2 := (Mv.of_kp K _).trans hM
  simp only [Ending.returned.injEq] at hp
  rcases hd with ⟨rfl, rfl, rfl⟩ | ⟨⟨c, hc⟩, rfl, K2⟩ | ⟨⟨t, c, hc⟩, rfl, K2, hset⟩
  · obtain ⟨_, h, _⟩ | ⟨_, _, h, _⟩ | ⟨_, _, _, ⟨t, h⟩, _⟩ | ⟨h1, h2, h3, _, q⟩ := hp
    · cases h
    · cases h
    · cases h
    · exact ⟨⟨f2, hM2, .inr (.inr (.inr ⟨h1, h2, h3, rfl, q⟩))⟩, _, rfl⟩
  · obtain ⟨h1, rfl, q⟩ | ⟨h1, h2, rfl, q⟩ | ⟨_, _, _, ⟨t, h⟩, _⟩ | ⟨_, _, _, h, _⟩ := hp
    · exact ⟨⟨f2, hM2.kp0 K2, .inl ⟨h1, rfl, q.kept K2⟩⟩, _, rfl⟩
    · exact ⟨⟨f2, hM2.kp0 K2, .inr (.inl ⟨h1, h2, rfl, q.kept K2⟩)⟩, _, rfl⟩
    · rw [hc] at h; simp [errNum, dErr] at h
    · rw [hc] at h; cases h
  · obtain ⟨h1, h, q⟩ | ⟨h1, h2, h, q⟩ | ⟨h1, h2, h3, ⟨t', h⟩, q⟩ | ⟨_, _, _, h, _⟩ := hp
    · rw [hc] at h; simp [errNum, dErr] at h
    · rw [hc] at h; simp [errNum, dErr] at h
    · subst h
      exact ⟨⟨f2, hM2.trans ⟨K2.mono (fun x hx => by simp at hx; simp [hx]), fun x hx => .inl hx⟩, .inr (.inr (.inl ⟨h1, h2, h3, ⟨t', rfl⟩, ⟨q.d.keep K2 (fun x hx hm => by simp at hm; rw [hm] at hx; exact q.jf hx), hset _ _ q.j_, q.jf, q.jg⟩⟩))⟩, _, rfl⟩
    · rw [hc] at h; cases h
set_option maxHeartbeats 6400000 in
set_option maxRecDepth 20000 in
theorem Compact1_any {w : World} {f : List Nat} {b j : Nat} {S : Dk} {J : Jn} (D : JF w f b j S J) (h4 : 4 ≤ S.n) (hJ : J.Ok S.n) (ht9 : J.turn + 1 ≤ 1000000) (a : Option Addr) (n c : Nat) (hn : n ≤ 100000) (sx : Nat → ByteArray) (hR : StrsAt w w.heap.size a n sx)
    (hG : Gl w) (m : Nat) (hm : S.Lim m) (hmm : m + 1010 < 4294967295) (X Y : Nat)
    (c1 : w.cell? ⟨X, 0, none⟩ = some (.pointer (some ⟨j, 0, none⟩))) (c2 : w.cell? ⟨Y, 0, none⟩ = some (.slice a n c)) :
    Calls Tryz.prog 49 #[.pointer (some ⟨X, 0, none⟩), .pointer (some ⟨Y, 0, none⟩)] w fun e w2 => ∃ v, e = .returned v ∧ CmpPost S J sx n f b j w (.returned v) w2 := by
  have H := Lib.hid (compact_any D h4 hJ ht9 a n c hn sx hR hG m hm hmm)
  clear D hG hJ hm hR
  go_enter Tryz.func49, Tryz.ntmps49
  go_wp2_with fail
  refine Calls.mono H.out ?_
  intro e w2 hp
  obtain ⟨v, rfl⟩ : ∃ v, e = .returned v := by
    obtain ⟨f2, _, ⟨_, h, _⟩ | ⟨_, _, h, _⟩ | ⟨_, _, _, ⟨t, h⟩, _⟩ | ⟨_, _, _, h, _⟩⟩ := hp
    all_goals exact ⟨_, h⟩
  have HP := Lib.hid hp
  clear hp
  go_wp2_with fail
  go_ret
  exact ⟨_, rfl, HP.out⟩
set_option maxHeartbeats 6400000 in
set_option maxRecDepth 20000 in
theorem Compact_any {w : World} {f : List Nat} {b j : Nat} {S : Dk} {J : Jn} (D : JF w f b j S J) (h4 : 4 ≤ S.n) (hJ : J.Ok S.n) (ht9 : J.turn + 1 ≤ 1000000) (a : Option Addr) (n c : Nat) (hn : n ≤ 100000) (sx : Nat → ByteArray) (hR : StrsAt w w.heap.size a n sx)
    (hG : Gl w) (m : Nat) (hm : S.Lim m) (hmm : m + 1010 < 4294967295) :
    Calls Tryz.prog 16 #[.pointer (some ⟨j, 0, none⟩), .slice a n c] w (CmpThen S J sx n f b j w) := by
  obtain ⟨X, hX⟩ : ∃ X, X = w.heap.size := ⟨_, rfl⟩
  obtain ⟨Y, hY⟩ : ∃ Y, Y = w.heap.size + 1 := ⟨_, rfl⟩
  obtain ⟨y, hy⟩ : ∃ y, y = (w.alloc (.cells #[.pointer (some ⟨j, 0, none⟩)] 33)).alloc (.cells #[.slice a n c] 34) := ⟨_, rfl⟩
  have K : Kp [] w y := by rw [hy]; exact ((Kp.refl [] w).alloc _).alloc _
  have c1 : y.cell? ⟨X, 0, none⟩ = some (.pointer (some ⟨j, 0, none⟩)) := by rw [hy, hX]; simp
  have c2 : y.cell? ⟨Y, 0, none⟩ = some (.slice a n c) := by rw [hy, hY]; simp
  have Dy := D.kept K
  have hRy : StrsAt y y.heap.size a n sx := fun i hi => by
    obtain ⟨g, o, q1, q2, q3⟩ := hR i hi
    exact ⟨g, o, q1, K.lt q2, (K.cell0 q2).trans q3⟩
  have hdo := do_any 49 #[.pointer (some ⟨X, 0, none⟩), .pointer (some ⟨Y, 0, none⟩)] (by intro args w; first | simp [go_sem] | kernel_rfl) j b sCompact y Dy.j_.c0 (fun v w2 => CmpPost S J sx n f b j y (.returned v) w2) (Compact1_any Dy h4 hJ ht9 a n c hn sx hRy (hG.kept K) m hm hmm X Y c1 c2)
    (fun v w2 h => by
      obtain ⟨h1, J2, h2⟩ := h.wans
      obtain ⟨f2, hM, _⟩ := h
      exact ⟨h1, ((hG.kept K).keep hM.kp Dy.gl).2, _, _, h2⟩)
  have HK := Lib.hid K
  have HDO := Lib.hid hdo
  have HY := Lib.hid (And.intro hX (And.intro hY hy))
  have HC := Lib.hid c1
  clear hdo K c1 c2 Dy D hJ hG hm hX hY hy hR hRy
  unfold sCompact at HDO
  go_enter Tryz.func16, Tryz.ntmps16
  go_wp2_with fail
  rw [← HY.out.2.2, ← HY.out.2.1, ← HY.out.1]
  refine Calls.mono HDO.out ?_
  rintro e w3 ⟨v, w2, hp, hd⟩
  obtain ⟨h1, u, rfl⟩ := cmp_then HK.out hp hd
  have H1 := Lib.hid h1
  clear hp hd h1
  go_wp2_with fail
  go_ret
  exact H1.out
end Go.Proofs.YtggnljfcdohkaaaGreatDoor
