/- The reference's disk by the blocks that it lies in: for callers that hold blocks of their own. -/
import Derived.Test.YtggnljfcdohkaaaGreatDoorRefC
import Derived.Test.YtggnljfcdohkaaaGreatDoorDkF
import Derived.Test.YtggnljfcdohkaaaGreatDoorJnA
namespace Go.Proofs.YtggnljfcdohkaaaGreatDoor
open Go.RowKit

/-- A disk of the reference that lies in the blocks of f. -/
def RkF (w : World) (f : List Nat) (b : Nat) (S : Dk) : Prop := 1 ≤ S.n ∧ ∃ sv av bv, f = rfoot b sv av bv ∧ RfAt w b sv av bv S
theorem RkF.pos {w : World} {f : List Nat} {b : Nat} {S : Dk} (h : RkF w f b S) : ∀ x ∈ f, 7 ≤ x ∧ x < w.heap.size := by
  obtain ⟨_, sv, av, bv, rfl, R⟩ := h
  exact R.foot_lt
theorem RkF.keep {w w2 : World} {f g : List Nat} {b : Nat} {S : Dk} (h : RkF w f b S) (k : Kp g w w2) (hd : ∀ x ∈ f, x ∉ g) : RkF w2 f b S := by
  obtain ⟨h1, sv, av, bv, rfl, R⟩ := h
  exact ⟨h1, sv, av, bv, rfl, R.keep k hd⟩
theorem RkF.kept {w w2 : World} {f : List Nat} {b : Nat} {S : Dk} (h : RkF w f b S) (k : Kp [] w w2) : RkF w2 f b S := h.keep k (by simp)
theorem RkF.n2 {w : World} {f : List Nat} {b : Nat} {S : Dk} (h : RkF w f b S) : 1 ≤ S.n ∧ S.n ≤ 2000 := by
  obtain ⟨h1, sv, av, bv, rfl, R⟩ := h
  exact ⟨h1, R.n2⟩
theorem RkF.len {w : World} {f : List Nat} {b : Nat} {S : Dk} (h : RkF w f b S) : ∃ a c, w.cell? ⟨b, 0, none⟩ = some (.slice a S.n c) := by
  obtain ⟨h1, sv, av, bv, rfl, R⟩ := h
  obtain ⟨⟨a, c, rfl⟩, _⟩ := R.form
  exact ⟨a, c, R.c0⟩
theorem RkF.mem {w : World} {f : List Nat} {b : Nat} {S : Dk} (h : RkF w f b S) : b ∈ f := by
  obtain ⟨h1, sv, av, bv, rfl, R⟩ := h
  simp [rfoot]
theorem RfThen2.mv {b : Nat} {sv av bv : Value} {S : Dk} {w w2 : World} (hn : 1 ≤ S.n) (h : RfThen2 b sv av bv S w w2) : ∃ f2, RkF w2 f2 b S ∧ Mv (rfoot b sv av bv) w f2 w2 := by
  obtain ⟨sv2, av2, bv2, R, K, hx⟩ := h
  exact ⟨_, ⟨hn, sv2, av2, bv2, rfl, R⟩, K, hx⟩
theorem g_write {w : World} {f : List Nat} {b : Nat} {S : Dk} (D : RkF w f b S) (p : Int) (s : ByteArray) (m : Nat) (hm : S.Lim m) (hmm : m < 4294967295) :
    Calls Tryz.prog 31 #[.pointer (some ⟨b, 0, none⟩), .int .i64 p, .string s] w fun e w2 => e = .returned (.int .i64 (S.werr p s.size)) ∧ ∃ f2, RkF w2 f2 b (S.wrote p s) ∧ Mv f w f2 w2 := by
  obtain ⟨h1, sv, av, bv, rfl, R⟩ := D
  refine (rfwrite_any w b sv av bv S R p s (by have := hm.1; omega) (by have := hm.2.1; omega) hm.2.2).mono ?_
  rintro e w2 ⟨rfl, h⟩
  exact ⟨rfl, h.mv (by rw [Dk.wrote_n]; exact h1)⟩
theorem g_read {w : World} {f : List Nat} {b : Nat} {S : Dk} (D : RkF w f b S) (p : Int) (m : Nat) (hm : S.Lim m) (hmm : m < 4294967295) :
    Calls Tryz.prog 26 #[.pointer (some ⟨b, 0, none⟩), .int .i64 p] w fun e w2 => e = .returned (.tuple #[.string (S.lbytes p), .int .i64 (S.rerr p)]) ∧ w = w2 := by
  obtain ⟨h1, sv, av, bv, rfl, R⟩ := D
  exact rfread_any w b sv av bv S R p (by have := hm.2.1; omega)
theorem g_flush {w : World} {f : List Nat} {b : Nat} {S : Dk} (D : RkF w f b S) (m : Nat) (hm : S.Lim m) (hmm : m < 4294967295) :
    Calls Tryz.prog 33 #[.pointer (some ⟨b, 0, none⟩)] w fun e w2 => e = .returned (.int .i64 S.ferr) ∧ ∃ f2, RkF w2 f2 b S.flushed ∧ Mv f w f2 w2 := by
  obtain ⟨h1, sv, av, bv, rfl, R⟩ := D
  cases hd : S.dead
  · refine (rfflush_any w b sv av bv S R h1 (by have := hm.2.1; omega) hd).mono ?_
    rintro e w2 ⟨rfl, h⟩
    refine ⟨by simp [Dk.ferr, hd], ?_⟩
    have := RfThen2.mv (by exact h1) h
    simpa [Dk.flushed, hd] using this
  · refine (rfflush_dead w b sv av bv S R hd).mono ?_
    rintro e w2 ⟨rfl, rfl⟩
    refine ⟨by simp [Dk.ferr, hd], _, ⟨by simpa [Dk.flushed, hd] using h1, sv, av, bv, rfl, by simpa [Dk.flushed, hd] using R⟩, Mv.refl _ _⟩
theorem g_cut {w : World} {f : List Nat} {b : Nat} {S : Dk} (D : RkF w f b S) (p : Int) :
    Calls Tryz.prog 22 #[.pointer (some ⟨b, 0, none⟩), .int .i64 p] w fun e w2 => e = .returned (.tuple #[]) ∧ ∃ f2, RkF w2 f2 b (S.cutAt p) ∧ Mv f w f2 w2 := by
  obtain ⟨h1, sv, av, bv, rfl, R⟩ := D
  refine (rfcut_any w b sv av bv S R p).mono ?_
  rintro e w2 ⟨rfl, h⟩
  exact ⟨rfl, RfThen2.mv (by exact h1) h⟩
theorem g_crash {w : World} {f : List Nat} {b : Nat} {S : Dk} (D : RkF w f b S) (m : Nat) (hm : S.Lim m) (hmm : m < 4294967295) (ka : Option Addr) (kc : Nat) (ks : List Bool) (hk : KeepR w ka ks) (tn : Int) :
    Calls Tryz.prog 19 #[.pointer (some ⟨b, 0, none⟩), .slice ka ks.length kc, .int .i64 tn] w fun e w2 => e = .returned (.tuple #[]) ∧ ∃ f2, RkF w2 f2 b (S.crash ks tn) ∧ Mv f w f2 w2 := by
  obtain ⟨h1, sv, av, bv, rfl, R⟩ := D
  refine (rfcrash_any w b sv av bv S R h1 (by have := hm.2.1; omega) ka kc ks hk tn).mono ?_
  rintro e w2 ⟨rfl, h⟩
  exact ⟨rfl, RfThen2.mv (by exact h1) h⟩
theorem g_new (z : Int) (w : World) (hg : 7 ≤ w.heap.size) :
    Calls Tryz.prog 6 #[.int .i64 z] w fun e w2 => ∃ b f, e = .returned (.pointer (some ⟨b, 0, none⟩)) ∧ RkF w2 f b (Dk.new (clampN z)) ∧ Kp [] w w2 ∧ ∀ x ∈ f, w.heap.size ≤ x := by
  refine (newref_any z w hg).mono ?_
  rintro e w2 ⟨b, sv, rfl, R, K, h⟩
  exact ⟨b, _, rfl, ⟨by show 1 ≤ clampN z; unfold clampN; omega, sv, _, _, rfl, R⟩, K, h⟩
set_option maxHeartbeats 1600000 in
set_option maxRecDepth 20000 in
theorem g_half {w : World} {f : List Nat} {b : Nat} {S : Dk} (D : RkF w f b S) (h4 : 4 ≤ S.n) :
    Calls Tryz.prog 32 #[.pointer (some ⟨b, 0, none⟩)] w fun e w2 => e = .returned (.int .i64 (hl S.n : Int)) ∧ w = w2 := by
  obtain ⟨a, c, c0⟩ := D.len
  have hn2 := D.n2
  clear D
  go_enter Tryz.func32, Tryz.ntmps32
  go_wp2_with fail
  go_ret
  have e : ((S.n : Int) - 2) / 2 = (hl S.n : Int) := by unfold hl; omega
  exact ⟨by rw [e]; rfl, rfl⟩
end Go.Proofs.YtggnljfcdohkaaaGreatDoor
