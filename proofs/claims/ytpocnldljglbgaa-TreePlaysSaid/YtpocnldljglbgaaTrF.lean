/- Contracts of package tree: takeFirst. -/
import Derived.Test.YtpocnldljglbgaaTrE
import Derived.Deep.Cut
namespace Go.Proofs.Ytpocnldljglbgaa
open Go.RowKit

def entO (k : ByteArray) (n : Int) : Obj := .cells #[.string k, .int .i64 n] 55
/-- A variable of the entry's type. -/
structure VarAt (w : World) (X : Nat) (k : ByteArray) (n : Int) : Prop where
  c0 : w.cell? ⟨X, 0, none⟩ = some (.string k)
  c1 : w.cell? ⟨X, 1, none⟩ = some (.int .i64 n)
  f : ∀ o, w.frozen? ⟨X, o, none⟩ = false
  c5 : w.cell? ⟨X, 5, none⟩ = none
theorem VarAt.new (w : World) (k : ByteArray) (n : Int) : VarAt (w.alloc (entO k n)) w.heap.size k n := ⟨by simp [entO], by simp [entO], fun o => by simp [entO], by simp [entO]⟩
theorem VarAt.lt {w : World} {X : Nat} {k : ByteArray} {n : Int} (s : VarAt w X k n) : X < w.heap.size := World.block_lt_of_cell? w _ s.c0
theorem VarAt.kp {w w2 : World} {X : Nat} {k : ByteArray} {n : Int} (s : VarAt w X k n) (K : Kp [] w w2) : VarAt w2 X k n :=
  ⟨(K.cell0 s.lt).trans s.c0, (K.cell0 s.lt).trans s.c1, fun o => (K.frozen0 s.lt).trans (s.f o), (K.cell0 s.lt).trans s.c5⟩
theorem cell_ne (w : World) (b i j : Nat) (v : Value) (h : i ≠ j) : (w.setCell ⟨b, i, none⟩ v).cell? ⟨b, j, none⟩ = w.cell? ⟨b, j, none⟩ := World.cell?_setCell_other _ _ _ _ (fun e => h (by injection e))
theorem cell_eq (w : World) (b i : Nat) (v u : Value) (h : w.cell? ⟨b, i, none⟩ = some u) : (w.setCell ⟨b, i, none⟩ v).cell? ⟨b, i, none⟩ = some v := World.cell?_setCell_same _ _ _ h
theorem VarAt.set {w : World} {X : Nat} {k : ByteArray} {n : Int} (s : VarAt w X k n) (k2 : ByteArray) (n2 : Int) : VarAt ((w.setCell ⟨X, 0, none⟩ (.string k2)).setCell ⟨X, 1, none⟩ (.int .i64 n2)) X k2 n2 := by
  have e1 := cell_eq w X 0 (.string k2) _ s.c0
  have e2 : (w.setCell ⟨X, 0, none⟩ (.string k2)).cell? ⟨X, 1, none⟩ = some (.int .i64 n) := (cell_ne w X 0 1 _ (by decide)).trans s.c1
  exact ⟨(cell_ne _ X 1 0 _ (by decide)).trans e1, cell_eq _ X 1 _ _ e2, fun o => by simp [s.f o], (cell_ne _ X 1 5 _ (by decide)).trans ((cell_ne w X 0 5 _ (by decide)).trans s.c5)⟩
/-- What is stored into such a variable changes no tree. -/
theorem TAt.var {w w2 : World} {T : Nat} (K : Kp [T] w w2) (h5 : w.cell? ⟨T, 5, none⟩ = none) : ∀ {t : Tr} {p : Option Addr}, TAt w t p → TAt w2 t p
  | .nil, _, h => h
  | .node _ _ _ _, _, ⟨g, pl, pr, h1, N, h3, h4⟩ => by
    have hg : g ∉ [T] := fun h => by
      rw [List.mem_singleton.1 h] at N
      rw [N.c5] at h5
      cases h5
    exact ⟨g, pl, pr, h1, ⟨K.lt N.lt, (K.cell (p := ⟨g, 0, none⟩) N.lt hg).trans N.c0, (K.cell (p := ⟨g, 1, none⟩) N.lt hg).trans N.c1, (K.cell (p := ⟨g, 2, none⟩) N.lt hg).trans N.c2, (K.cell (p := ⟨g, 3, none⟩) N.lt hg).trans N.c3, (K.cell (p := ⟨g, 4, none⟩) N.lt hg).trans N.c4, (K.cell (p := ⟨g, 5, none⟩) N.lt hg).trans N.c5⟩, h3.var K h5, h4.var K h5⟩
theorem tf_ret {P : Ending → World → Prop} {w : World} {c : Act} {X : Nat} {k : ByteArray} {n : Int} {v : Value} (s : VarAt w X k n) (h2 : c.tmps.getD 2 undef = .pointer (some ⟨X, 0, none⟩)) (h3 : c.tmps.getD 3 undef = v) (hd : c.defers = []) (hP : P (.returned (.tuple #[.agg #[.string k, .int .i64 n], v])) w) :
    bodyPost Try.prog Try.f27 P .ret c w := by
  have c0 := s.c0
  have c1 := s.c1
  refine bodyPost_ret (v := .tuple #[.agg #[.string k, .int .i64 n], v]) ?_ hd hP
  simp [results, Try.results27, go_sem] at *
  simp [h2, h3, go_sem, c0, c1]
  done
def FirstPost (t : Tr) (w : World) (e : Ending) (w2 : World) : Prop := ∃ p, e = .returned (.tuple #[.agg #[.string t.first.1.1, .int .i64 t.first.1.2], .pointer p]) ∧ Kp [] w w2 ∧ TAt w2 t.first.2 p
set_option maxHeartbeats 3200000 in
theorem first_any (t : Tr) : ∀ (w : World) (p : Option Addr), t ≠ .nil → TAt w t p → t.sz ≤ 500000 →
    Calls Try.prog 27 #[.pointer p] w (FirstPost t w) := by
  unfold FirstPost
  induction t with
  | nil => intro w p h; exact absurd rfl h
  | node a m l r ihl ihr =>
    intro w p _ hp hs
    obtain ⟨g, px, py, rfl, N, X, Y⟩ := hp
    obtain ⟨T, hT⟩ : ∃ T, T = w.heap.size := ⟨_, rfl⟩
    obtain ⟨y, hy⟩ : ∃ y, y = w.alloc (entO ⟨#[]⟩ 0) := ⟨_, rfl⟩
    have K0 : Hid (Kp [] w y) := by rw [hy]; exact (Kp.refl [] w).alloc _
    have V0 : Hid (VarAt y T ⟨#[]⟩ 0) := by rw [hy, hT]; exact VarAt.new w _ _
    have HT : Hid (w.heap.size ≤ T) := Nat.le_of_eq hT.symm
    have hlg : g < w.heap.size := N.lt
    have hgT : Hid (g ≠ T) := fun h => by rw [hT] at h; omega
    have HE := Lib.hid (And.intro hT hy)
    clear hT hy
    cases l with
    | nil =>
      obtain rfl : px = none := X
      have S0 : Hid (∀ W, Kp [T] y W → W.cell? ⟨g, 0, none⟩ = some (.string a) ∧ W.cell? ⟨g, 1, none⟩ = some (.int .i64 m) ∧ W.cell? ⟨g, 3, none⟩ = some (.pointer py)) :=
        fun W K => ⟨(K.cell (p := ⟨g, 0, none⟩) (K0.out.lt hlg) (by simpa using hgT.out)).trans (N.kp K0.out).c0, (K.cell (p := ⟨g, 1, none⟩) (K0.out.lt hlg) (by simpa using hgT.out)).trans (N.kp K0.out).c1, (K.cell (p := ⟨g, 3, none⟩) (K0.out.lt hlg) (by simpa using hgT.out)).trans (N.kp K0.out).c3⟩
      have c2 := (N.kp K0.out).c2
      have v0 : y.cell? ⟨T, 0, none⟩ = some (.string ⟨#[]⟩) := V0.out.c0
      have v1 : y.cell? ⟨T, 1, none⟩ = some (.int .i64 0) := V0.out.c1
      have f0 : y.frozen? ⟨T, 0, none⟩ = false := V0.out.f 0
      have f1 : y.frozen? ⟨T, 1, none⟩ = false := V0.out.f 1
      have hY : Hid (∀ W, Kp [] w W → TAt W r py) := fun W K => Y.kp K
      clear N Y ihl ihr hs hlg
      go_enter Try.func27, Try.ntmps27
      go_upto_region 1 with fail
      have hy := HE.out.2
      unfold entO at hy
      rw [← hy, ← HE.out.1]
      clear hy
      go_wp2_with fail
      go_region_held3 (fun w' => w'.cell? ⟨g, 0, none⟩ = some (.string a) ∧ w'.cell? ⟨g, 1, none⟩ = some (.int .i64 m) ∧ w'.cell? ⟨g, 3, none⟩ = some (.pointer py)) (first | exact S0.out _ (Kp.refl _ _).drew | exact S0.out _ (((Kp.refl _ _).drew.setCell (.inl (by simp)) _).setCell (.inl (by simp)) _)) (fail)
      all_goals
        go_wp2_with fail
        refine tf_ret ((V0.out.kp (Kp.refl _ _).drew).set a m) rfl rfl rfl ?_
        have K9 : Kp [] w (((y.drew).setCell ⟨T, 0, none⟩ (.string a)).setCell ⟨T, 1, none⟩ (.int .i64 m)) := (K0.out.drew.setCell (.inr HT.out) _).setCell (.inr HT.out) _
        exact ⟨_, rfl, K9, hY.out _ K9⟩
    | node b q x z =>
      have s1 : (Tr.node b q x z).sz ≤ 500000 := by simp only [Tr.sz] at hs ⊢; omega
      have s2 : (Tr.node b q x z).first.2.sz + r.sz ≤ 1000000 := by have := Tr.sz_first (t := Tr.node b q x z) (fun e => by cases e); simp only [Tr.sz] at hs this ⊢; omega
      obtain ⟨g2, px2, py2, hpx, N2, X2, Y2⟩ := id X
      subst hpx
      have e0 : (Tr.node a m (Tr.node b q x z) r).first = ((Tr.node b q x z).first.1, Tr.lev a m (Tr.node b q x z).first.2 r) := rfl
      rw [e0]
      have J1 : Hid (∀ W, Kp [] w W → Calls Try.prog 27 #[.pointer (some ⟨g2, 0, none⟩)] W fun e w2 => ∃ p, e = .returned (.tuple #[.agg #[.string (Tr.node b q x z).first.1.1, .int .i64 (Tr.node b q x z).first.1.2], .pointer p]) ∧ Kp [] W w2 ∧ TAt w2 (Tr.node b q x z).first.2 p) :=
        fun W K => ihl W _ (fun e => by cases e) (X.kp K) s1
      obtain ⟨⟨⟨k1, n1⟩, t1⟩, hf⟩ : ∃ F, F = (Tr.node b q x z).first := ⟨_, rfl⟩
      rw [← hf] at s2 J1 ⊢
      have J2 : Hid (∀ W p1, Kp [] w W → TAt W t1 p1 → Calls Try.prog 26 #[.agg #[.string a, .int .i64 m], .pointer p1, .pointer py] W (LevPost a m t1 r W)) := fun W p1 K T => level_any a m T (Y.kp K) s2
      have HN := Lib.hid N
      have c2 := (N.kp K0.out).c2
      have HLG := Lib.hid hlg
      clear N N2 X2 Y2 X Y ihl ihr hs hlg hf s1 s2 e0
      go_enter Try.func27, Try.ntmps27
      go_upto_region 1 with fail
      have hy := HE.out.2
      unfold entO at hy
      rw [← hy, ← HE.out.1]
      clear hy
      go_wp2_with fail
      refine Calls.mono (J1.out _ K0.out) ?_
      rintro e w1 ⟨p1, rfl, k2, z2⟩
      have K1 := Lib.hid (K0.out.trans k2)
      have V1 := Lib.hid (V0.out.kp k2)
      have HZ := Lib.hid z2
      clear k2 z2 c2
      go_upto_region 4 with fail
      obtain ⟨U, hU⟩ : ∃ U, U = w1.heap.size := ⟨_, rfl⟩
      obtain ⟨y4, hy4⟩ : ∃ y4, y4 = w1.alloc (.cells #[.string k1, .int .i64 n1] 55) := ⟨_, rfl⟩
      rw [← hy4, ← hU]
      have K4 : Kp [] w1 y4 := by rw [hy4]; exact (Kp.refl [] w1).alloc _
      have V4 : VarAt y4 U k1 n1 := by rw [hy4, hU]; exact VarAt.new w1 _ _
      have V14 := Lib.hid (V1.out.kp K4)
      have hUT : U ≠ T := fun h => by have := V1.out.lt; omega
      have hN4 := HN.out.kp (K1.out.trans K4)
      have S0 : Hid (∀ W, Kp [T] y4 W → W.cell? ⟨g, 0, none⟩ = some (.string a) ∧ W.cell? ⟨g, 1, none⟩ = some (.int .i64 m) ∧ W.cell? ⟨g, 3, none⟩ = some (.pointer py) ∧ W.cell? ⟨U, 0, none⟩ = some (.string k1) ∧ W.cell? ⟨U, 1, none⟩ = some (.int .i64 n1)) :=
        fun W K => ⟨(K.cell (p := ⟨g, 0, none⟩) hN4.lt (by simpa using hgT.out)).trans hN4.c0, (K.cell (p := ⟨g, 1, none⟩) hN4.lt (by simpa using hgT.out)).trans hN4.c1, (K.cell (p := ⟨g, 3, none⟩) hN4.lt (by simpa using hgT.out)).trans hN4.c3, (K.cell (p := ⟨U, 0, none⟩) V4.lt (by simpa using hUT)).trans V4.c0, (K.cell (p := ⟨U, 1, none⟩) V4.lt (by simpa using hUT)).trans V4.c1⟩
      have HZ4 := Lib.hid (HZ.out.kp (K4.trans (Kp.refl [] y4).drew))
      have KA := Lib.hid (K1.out.trans (K4.trans (Kp.refl [] y4).drew))
      have K0' : Hid (Kp [] y4 y4.drew) := (Kp.refl [] y4).drew
      clear hU hy4 K4 V4 hUT hN4 V1 HZ K1 HN
      go_region_held3 (fun w' => w'.cell? ⟨g, 0, none⟩ = some (.string a) ∧ w'.cell? ⟨g, 1, none⟩ = some (.int .i64 m) ∧ w'.cell? ⟨g, 3, none⟩ = some (.pointer py) ∧ w'.cell? ⟨U, 0, none⟩ = some (.string k1) ∧ w'.cell? ⟨U, 1, none⟩ = some (.int .i64 n1))
        (first | exact S0.out _ (Kp.refl _ _).drew | exact S0.out _ K2.out | exact S0.out _ ((K2.out.setCell (.inl (by simp)) _).setCell (.inl (by simp)) _))
        ((go_at_call_of 26 py; refine Calls.mono (J2.out _ p1 KA.out HZ4.out) ?_; rintro e w2 ⟨p2, rfl, k2, z2⟩; have K2 : Hid (Kp [T] y4 w2) := (K0'.out.trans k2).mono (fun _ h => by cases h); have V2 := Lib.hid (V14.out.kp (K0'.out.trans k2)); have KB := Lib.hid (KA.out.trans k2); have v0 := V2.out.c0; have v1 := V2.out.c1; have f0 := V2.out.f 0; have f1 := V2.out.f 1; have T2 := Lib.hid z2; clear k2 z2))
      all_goals
        go_wp2_with fail
        refine tf_ret (V2.out.set k1 n1) rfl rfl rfl ?_
        have K9 : Kp [] w ((w2.setCell ⟨T, 0, none⟩ (.string k1)).setCell ⟨T, 1, none⟩ (.int .i64 n1)) := (KB.out.setCell (.inr HT.out) _).setCell (.inr HT.out) _
        exact ⟨_, rfl, K9, T2.out.var (((Kp.refl [T] w2).setCell (.inl (by simp)) _).setCell (.inl (by simp)) _) V2.out.c5⟩
end Go.Proofs.Ytpocnldljglbgaa
