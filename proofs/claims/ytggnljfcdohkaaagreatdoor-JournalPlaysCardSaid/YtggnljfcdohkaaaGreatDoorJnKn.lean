/- The journal's calls where they are done, as the laws' walks use them; the law's known(). -/
import Derived.Test.YtggnljfcdohkaaaGreatDoorJnX
namespace Go.Proofs.YtggnljfcdohkaaaGreatDoor
open Go.RowKit

/-- From w on nothing that was there has changed; the blocks of f are new. -/
structure Fr (w x : World) (f : List Nat) : Prop where
  kp : Kp [] w x
  new : ∀ y ∈ f, w.heap.size ≤ y
theorem Fr.step {w x y : World} {f g : List Nat} (h : Fr w x f) (m : Mv f x g y) : Fr w y g := by
  obtain ⟨h1, h2⟩ := m.fresh h.kp h.new
  exact ⟨h1, h2⟩
theorem Fr.kept {w x y : World} {f : List Nat} (h : Fr w x f) (k : Kp [] x y) : Fr w y f := ⟨h.kp.trans k, h.new⟩
theorem Fr.more {w x : World} {f : List Nat} {j : Nat} (h : Fr w x f) (hj : w.heap.size ≤ j) : Fr w x (j :: f) := ⟨h.kp, fun y hy => by
  rcases List.mem_cons.1 hy with rfl | hy
  · exact hj
  · exact h.new y hy⟩
theorem Fr.less {w x : World} {f : List Nat} {j : Nat} (h : Fr w x (j :: f)) : Fr w x f := ⟨h.kp, fun y hy => h.new y (List.mem_cons_of_mem _ hy)⟩
theorem Fr.gl {w x : World} {f : List Nat} (h : Fr w x f) (hG : Gl w) : Gl x := hG.kept h.kp

theorem s_format {w : World} {f : List Nat} {b : Nat} {S : Dk} {m : Nat} (D : DkF w f b S) (hS : S.Fine m) (hG : Gl w) (hm : m ≤ 1000000) :
    Calls Tryz.prog 8 #[.pointer (some ⟨b, 0, none⟩)] w fun e w2 => e = .returned .nilIface ∧ ∃ f2, DkF w2 f2 b S.fmt.2 ∧ Mv f w f2 w2 := by
  refine (Format_any D hS.n4 hG m hS.ok.lim (by omega)).mono ?_
  rintro e w2 ⟨v, f2, rfl, hv, h1, h2⟩
  rcases hv with ⟨rfl, _⟩ | ⟨_, h0⟩
  · exact ⟨rfl, f2, h1, h2⟩
  · exact absurd hS.fmt.1 h0
theorem s_open {w : World} {f : List Nat} {b : Nat} {S : Dk} {m : Nat} {J : Jn} {l : List ByteArray} (D : DkF w f b S) (hS : JSt S m J l) (hG : Gl w) (hm : m ≤ 1000000) :
    Calls Tryz.prog 10 #[.pointer (some ⟨b, 0, none⟩)] w fun e w2 => ∃ j a c f2, e = .returned (.tuple #[.pointer (some ⟨j, 0, none⟩), .slice a l.length c, .nilIface]) ∧ JF w2 f2 b j S J ∧ w.heap.size ≤ j ∧ Mv f w f2 w2
      ∧ StrsAt w2 w2.heap.size a l.length (fun i => l.getD i ⟨#[]⟩) ∧ (∀ g o, a = some ⟨g, o, none⟩ → g ∉ j :: f2 ∧ g < w2.heap.size ∧ w.heap.size ≤ g) := by
  obtain ⟨h1, h2, h3, h4, h5⟩ := hS.opens
  refine (Open_any D hS.fine.n4 hG h5 m hS.fine.ok.lim (by omega)).mono ?_
  rintro e w2 ⟨f2, hM, ⟨h0, _⟩ | ⟨_, j, v, rfl, hO⟩⟩
  · exact absurd h1 h0
  · rw [h2, h3, h4] at hO
    obtain ⟨a, c, hv, hs, hb⟩ := hO.own.form
    subst hv
    have hg : 7 ≤ w.heap.size := by have := (D.pos b D.mem).1; have := (D.pos b D.mem).2; omega
    refine ⟨j, a, c, f2, rfl, ⟨hO.d, hO.j_, hO.jf, Nat.le_trans hg hO.jB⟩, hO.jB, hM, hs, fun g o ha => ?_⟩
    · subst ha
      have e1 : (Value.slice (some ⟨g, o, none⟩) l.length c).ownBlock = some g := rfl
      have h8 := hO.vj
      refine ⟨fun hm => ?_, (hb g e1).2, (hb g e1).1⟩
      rcases List.mem_cons.1 hm with h9 | h9
      · exact h8 (by rw [e1, h9])
      · exact hO.vf g e1 h9
theorem s_add {w : World} {f : List Nat} {b j : Nat} {S : Dk} {m : Nat} {J : Jn} {l : List ByteArray} (D : JF w f b j S J) (hS : JSt S m J l) (hG : Gl w) (hm : m ≤ 1000000) (r : ByteArray) (hr : r.size ≤ 2010) (hc : J.count + 1 ≤ 1000000) (hfit : (addW J r).size ≤ hl S.n * 64 - J.used) :
    Calls Tryz.prog 12 #[.pointer (some ⟨j, 0, none⟩), .string r] w fun e w2 => e = .returned .nilIface ∧ ∃ f2, JF w2 f2 b j (addWr S J r).2 (addJ J r) ∧ Mv (j :: f) w (j :: f2) w2 := by
  refine (Add_any D hS.fine.n4 hS.ok r hG m hS.fine.ok.lim (by omega)).mono ?_
  obtain ⟨h1, _⟩ := hS.add r hr hc hfit
  rintro e w2 ⟨f2, hM, ⟨h, _⟩ | ⟨_, h, _⟩ | ⟨_, _, h, _⟩ | ⟨_, _, _, rfl, hJ⟩⟩
  · omega
  · omega
  · exact absurd h1 h
  · exact ⟨rfl, f2, hJ, hM⟩
theorem s_sync {w : World} {f : List Nat} {b j : Nat} {S : Dk} {m : Nat} {J : Jn} {l : List ByteArray} (D : JF w f b j S J) (hS : JSt S m J l) (hG : Gl w) (hm : m ≤ 1000000) :
    Calls Tryz.prog 14 #[.pointer (some ⟨j, 0, none⟩)] w fun e w2 => e = .returned .nilIface ∧ ∃ f2, JF w2 f2 b j S.flushed J ∧ Mv (j :: f) w (j :: f2) w2 := by
  refine (Sync_any D hG m hS.fine.ok.lim (by omega)).mono ?_
  have h1 := hS.fine.flushed.1
  rintro e w2 ⟨f2, hM, ⟨_, rfl, hJ⟩ | ⟨h, _⟩⟩
  · exact ⟨rfl, f2, hJ, hM⟩
  · exact absurd h1 h
theorem JSt.flushed {S : Dk} {m : Nat} {J : Jn} {l : List ByteArray} (h : JSt S m J l) : JSt S.flushed m J l ∧ S.flushed.n = S.n ∧ ∀ k, k < S.n → S.flushed.F k = S.C k := by
  obtain ⟨_, h2, h3, _, h5, h6⟩ := h.fine.flushed
  exact ⟨h.congr h2 h6 (fun i _ => by rw [h3]), h6, h5⟩
/-- How long a record's frame is. -/
theorem addW_le (J : Jn) (n : Nat) (h : J.Ok n) (r : ByteArray) (hr : r.size ≤ 2010) : (addW J r).size ≤ r.size + 30 :=
  wrapS_le _ (by have := h.t2; have := h.c1; show _ < 72057594037927936; omega) r hr
end Go.Proofs.YtggnljfcdohkaaaGreatDoor
/- The law's known(): each of its calls is done. -/
namespace Go.Proofs.YtggnljfcdohkaaaGreatDoor
open Go.RowKit

def kAb : ByteArray := ⟨#[97, 98]⟩
def kCd : ByteArray := ⟨#[99, 100]⟩
def kS0 : Dk := Dk.new 20
def kS1 : Dk := kS0.fmt.2
def kJ1 : Jn := jnOf 0 1 0 0 ⟨#[]⟩
def kS2 : Dk := (addWr kS1 kJ1 kAb).2
def kJ2 : Jn := addJ kJ1 kAb
def kS3 : Dk := kS2.flushed
def kS4 : Dk := (addWr kS3 kJ2 kCd).2
def kJ4 : Jn := addJ kJ2 kCd
def kS5 : Dk := kS4.crash [] (-1)
theorem Dk.Fine.new (n : Nat) (h4 : 4 ≤ n) (h2 : n ≤ 2000) : (Dk.new n).Fine 0 := ⟨Dk.Ok.new n (by omega), rfl, rfl, h4, h2, fun k _ => rfl⟩
theorem kF0 : kS0.Fine 0 := Dk.Fine.new 20 (by decide) (by decide)
theorem kI1 : JSt kS1 1002 kJ1 [] := kF0.jst
theorem kn0 : kS0.n = 20 := rfl
theorem kn1 : kS1.n = 20 := by
  unfold kS1
  rw [Dk.fmt_n]
  exact kn0
theorem kh20 : hl 20 = 9 := by decide
theorem kfit1 : (addW kJ1 kAb).size ≤ hl kS1.n * 64 - kJ1.used := by
  have h := addW_le kJ1 _ kI1.ok kAb (by decide)
  have h2 : kAb.size = 2 := by decide
  have h3 : kJ1.used = 0 := by decide
  rw [kn1, kh20]; omega
theorem kadd1 : (addWr kS1 kJ1 kAb).1 = 0 ∧ JSt kS2 1042 kJ2 [kAb] ∧ kS2.F = kS1.F ∧ kS2.n = kS1.n := kI1.add kAb (by decide) (by decide) kfit1
theorem kn2 : kS2.n = 20 := kadd1.2.2.2.trans kn1
theorem kI3 : JSt kS3 1042 kJ2 [kAb] := kadd1.2.1.flushed.1
theorem kn3 : kS3.n = 20 := kadd1.2.1.flushed.2.1.trans (kadd1.2.2.2.trans kn1)
theorem ku2 : kJ2.used ≤ 32 := by
  have h := addW_le kJ1 _ kI1.ok kAb (by decide)
  have h2 : kAb.size = 2 := by decide
  show 0 + (addW kJ1 kAb).size ≤ 32
  omega
theorem kfit2 : (addW kJ2 kCd).size ≤ hl kS3.n * 64 - kJ2.used := by
  have h := addW_le kJ2 _ kI3.ok kCd (by decide)
  have h2 : kCd.size = 2 := by decide
  have h3 := ku2
  rw [kn3, kh20]; omega
theorem kadd2 : (addWr kS3 kJ2 kCd).1 = 0 ∧ JSt kS4 1082 kJ4 ([kAb] ++ [kCd]) ∧ kS4.F = kS3.F ∧ kS4.n = kS3.n := kI3.add kCd (by decide) (by decide) kfit2
theorem kn4 : kS4.n = 20 := kadd2.2.2.2.trans kn3
theorem kI5 : JSt kS5 1083 kJ2 [kAb] := by
  have hF : ∀ k, k < kS4.n → kS4.F k = kS3.C k := fun k hk => by
    rw [kadd2.2.2.1]
    have h := kadd1.2.1.flushed.2.2 k (by rw [kn4] at hk; rw [kn2]; exact hk)
    have h2 : kS3.C = kS2.C := kadd1.2.1.fine.flushed.2.2.1
    rw [h2]; exact h
  have hc := kadd2.2.1.fine.crash_nil (fun k hk => by rw [hF k hk]; exact kI3.fine.ln k (by rw [kadd2.2.2.2] at hk; exact hk)) (-1)
  exact kI3.congr hc.1 kadd2.2.2.2 (fun i hi => (hc.2 i (by rw [kadd2.2.2.2]; exact hi)).trans (hF i (by rw [kadd2.2.2.2]; exact hi)))
set_option maxHeartbeats 6400000 in
set_option maxRecDepth 100000 in
theorem known_any (w : World) (hg : 7 ≤ w.heap.size) (hG : Gl w) :
    Calls Tryz.prog 4 #[] w fun e w2 => e = .returned (.bool true) ∧ Kp [] w w2 := by
  have HG := Lib.hid hG
  have HW := Lib.hid hg
  clear hG hg
  go_enter Tryz.func4, Tryz.ntmps4
  go_wp2_with fail
  refine (f_new 20 w HW.out).mono ?_
  rintro e x1 ⟨b, f1, rfl, D, K, hnew⟩
  have D1 : Hid (DkF x1 f1 b kS0) := D
  have F1 : Hid (Fr w x1 f1) := ⟨K, hnew⟩
  clear D K hnew
  go_wp2_with fail
  refine Calls.mono (s_format D1.out kF0 (F1.out.gl HG.out) (by omega)) ?_
  rintro e x2 ⟨rfl, f2, D, M⟩
  have D2 : Hid (DkF x2 f2 b kS1) := D
  have F2 : Hid (Fr w x2 f2) := F1.out.step M
  clear D M D1 F1
  go_wp2_with fail
  refine Calls.mono (s_open D2.out kI1 (F2.out.gl HG.out) (by omega)) ?_
  rintro e x3 ⟨j, a, c, f3, rfl, D, hj, M, _, _⟩
  have D3 : Hid (JF x3 f3 b j kS1 kJ1) := D
  have F3 : Hid (Fr w x3 (j :: f3)) := (F2.out.step M).more (Nat.le_trans F2.out.kp.size hj)
  clear D M D2 F2 hj
  go_wp2_with fail
  refine Calls.mono (s_add D3.out kI1 (F3.out.gl HG.out) (by omega) kAb (by decide) (by decide) kfit1) ?_
  rintro e x4 ⟨rfl, f4, D, M⟩
  have D4 : Hid (JF x4 f4 b j kS2 kJ2) := D
  have F4 : Hid (Fr w x4 (j :: f4)) := F3.out.step M
  clear D M D3 F3
  go_wp2_with fail
  refine Calls.mono (s_sync D4.out kadd1.2.1 (F4.out.gl HG.out) (by omega)) ?_
  rintro e x5 ⟨rfl, f5, D, M⟩
  have D5 : Hid (JF x5 f5 b j kS3 kJ2) := D
  have F5 : Hid (Fr w x5 (j :: f5)) := F4.out.step M
  clear D M D4 F4
  go_wp2_with fail
  refine Calls.mono (s_add D5.out kI3 (F5.out.gl HG.out) (by omega) kCd (by decide) (by decide) kfit2) ?_
  rintro e x6 ⟨rfl, f6, D, M⟩
  have D6 : Hid (JF x6 f6 b j kS4 kJ4) := D
  have F6 : Hid (Fr w x6 (j :: f6)) := F5.out.step M
  clear D M D5 F5
  go_wp2_with fail
  refine Calls.mono (JLen_any D6.out.j_) ?_
  rintro e x7 ⟨rfl, hx⟩
  subst hx
  go_wp2_with fail
  refine Calls.mono (f_crash D6.out.d 1082 kadd2.2.1.fine.ok.lim (by omega) none 0 [] (fun i hi => by simp at hi) (-1)) ?_
  rintro e x8 ⟨f8, rfl, D, M⟩
  have D8 : Hid (DkF x8 f8 b kS5) := D
  have F8 : Hid (Fr w x8 f8) := F6.out.less.step M
  clear D M D6 F6
  go_wp2_with fail
  refine Calls.mono (s_open D8.out kI5 (F8.out.gl HG.out) (by omega)) ?_
  rintro e x9 ⟨k, a9, c9, f9, rfl, D, hj, M, hs, hb⟩
  have F9 : Hid (Fr w x9 f9) := F8.out.step M
  obtain ⟨g, o, rfl, _, hc⟩ := hs 0 (by decide)
  have hc1 : x9.cell? ⟨g, o, none⟩ = some (.string ⟨#[97, 98]⟩) := hc
  clear D M D8 F8 hj hs hb hc
  have hcnt : (kJ4.count : Int) = 2 := by decide
  have hl1 : ([kAb].length : Int) = 1 := by decide
  go_wp2_with fail
  refine (f_new 3 x9 (Nat.le_trans HW.out F9.out.kp.size)).mono ?_
  rintro e y1 ⟨b3, g1, rfl, D, K, _⟩
  have D10 : Hid (DkF y1 g1 b3 (Dk.new 3)) := D
  have F10 : Hid (Fr w y1 f9) := F9.out.kept K
  clear D K F9 hc1
  go_wp2_with fail
  refine Calls.mono (Format_full D10.out (by decide)) ?_
  rintro e y2 ⟨⟨call, rfl⟩, hy⟩
  subst hy
  unfold jErr errNum
  go_wp2_with fail
  refine Calls.mono (JnE.is_j_yes call 14 _) ?_
  rintro e y3 ⟨rfl, K⟩
  have F11 : Hid (Fr w y3 f9) := F10.out.kept K
  clear K F10 D10
  go_wp2_with fail
  go_ret
  exact ⟨rfl, F11.out.kp⟩
end Go.Proofs.YtggnljfcdohkaaaGreatDoor
