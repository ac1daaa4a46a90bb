/- Contracts of the reference's journal: OpenJournal. -/
import Derived.Test.YtggnljfcdohkaaaGreatDoorRjf
import Derived.Test.YtggnljfcdohkaaaGreatDoorRjq
import Derived.Deep.RegionHeld3
import Derived.Deep.CutBlock
import Derived.Deep.Cut
import Derived.BigRegion
import Derived.Deep.QuietTactic
import Derived.BigQuiet
namespace Go.Proofs.YtggnljfcdohkaaaGreatDoor
open Go.RowKit

theorem wrapL {k : Nat} (h : k ≤ 4000000000000000) : IntKind.i64.wrap (k : Int) = k := by rw [IntKind.wrap_i64]; omega
/-- What is behind a record is the end of what it was read from. -/
def Suf (r s : ByteArray) : Prop := ∃ x, r.data.toList = s.data.toList.drop x
theorem Suf.refl (s : ByteArray) : Suf s s := ⟨0, rfl⟩
theorem Suf.trans {a b c : ByteArray} (h : Suf a b) (k : Suf b c) : Suf a c := by
  obtain ⟨x, hx⟩ := h
  obtain ⟨y, hy⟩ := k
  exact ⟨y + x, by rw [hx, hy, List.drop_drop]⟩
theorem suf_ext (s : ByteArray) (u : Nat) : Suf (s.extract u s.size) s := ⟨u, by rw [extract_list, List.take_of_length_le (show s.data.toList.length ≤ s.size from Nat.le_refl _)]⟩
theorem Suf.ext {r s : ByteArray} (h : Suf r s) : s.extract (s.size - r.size) s.size = r := by
  obtain ⟨x, hx⟩ := h
  apply ba_ext
  have hl : r.size = s.size - x := by rw [ba_size, hx, List.length_drop]; rfl
  rw [extract_list, List.take_of_length_le (show s.data.toList.length ≤ s.size from Nat.le_refl _), hx, hl]
  rcases Nat.lt_or_ge x s.size with h | h
  · rw [show s.size - (s.size - x) = x by omega]
  · rw [List.drop_eq_nil_of_le (by show s.size ≤ _; omega), List.drop_eq_nil_of_le (by show s.size ≤ _; omega)]
theorem opS_suf {s t r : ByteArray} {q : Int} (h : opS s q = (0, t, r)) : Suf r s := by
  unfold opS at h
  split at h
  · next t' r' hu =>
    split at h
    · split at h
      · simp only [Prod.mk.injEq, true_and] at h
        rw [← h.2]
        unfold unS at hu
        split at hu
        · next t2 r2 ht =>
          have h2 : Suf r2 s := by
            unfold ttS at ht
            split at ht
            · split at ht
              · simp at ht
              · split at ht
                · simp at ht
                · simp only [Prod.mk.injEq, true_and] at ht
                  rw [← ht.2]
                  exact (suf_ext _ _).trans (suf_ext _ _)
            · simp at ht
          split at hu
          · simp at hu
          · split at hu
            · simp only [Prod.mk.injEq, true_and] at hu
              rw [← hu.2]
              exact (suf_ext _ _).trans h2
            · simp at hu
        · simp at hu
      · simp at h
    · simp at h
  · simp at h
theorem blk_getD {s : ByteArray} {w w2 : World} {e : Ending} (h : BlkPost s w e w2) : e = .returned (.tuple #[.int .i64 (((superS s).getD (0, 0)).1 : Int), .int .i64 (((superS s).getD (0, 0)).2 : Int)]) ∧ Kp [] w w2 := by
  obtain ⟨K, ⟨t, h, hs, rfl⟩ | ⟨hs, rfl⟩⟩ := h
  · rw [hs]; exact ⟨rfl, K⟩
  · rw [hs]; exact ⟨rfl, K⟩
theorem count_ref2 (S : Dk) (t h u k : Nat) (e0 : (superS (S.read 0)).getD (0, 0) = (t, h)) (e1 : (superS (S.read 1)).getD (0, 0) = (u, k)) :
    (t < u → countV S = (1, u, k)) ∧ (¬ t < u → 0 < t → countV S = (0, t, h)) ∧ (¬ t < u → t = 0 → (countV S).2.1 = 0) := by
  have hc := count_ref S
  rw [e0, e1] at hc
  simp only at hc
  refine ⟨fun h1 => ?_, fun h1 h2 => ?_, fun h1 h2 => ?_⟩
  · rw [hc, if_pos h1]
  · rw [hc, if_neg h1, if_pos h2]
  · rw [hc, if_neg h1, if_neg (by omega)]
theorem sup_getD {t0 : Nat} {S : Dk} (hs : SecInv t0 S) (ht : t0 ≤ 1000000) (a : Nat) (ha : a ≤ 1) : ((superS (S.read a)).getD (0, 0)).1 ≤ t0 ∧ ((superS (S.read a)).getD (0, 0)).2 ≤ 1 := by
  have h := (hs.c a ha).sup ht
  have e : S.read a = ⟨(S.C a).toArray⟩ := rfl
  rw [← e] at h
  rcases h with h | ⟨u, x, h, h1, h2, h3⟩
  · rw [h]; exact ⟨Nat.zero_le _, by decide⟩
  · rw [h]; exact ⟨h2, h3⟩
theorem QAt.like {w : World} {q r : Nat} {J J2 : Jn} {dd : Bool} (s : QAt w q r J dd) (h1 : J2.turn = J.turn) (h2 : J2.half = J.half) (h3 : J2.at_ = J.at_) (h4 : J2.used = J.used) (h5 : J2.count = J.count) : QAt w q r J2 dd :=
  ⟨s.c0, by rw [h1]; exact s.c1, by rw [h2]; exact s.c2, by rw [h3]; exact s.c3, by rw [h4]; exact s.c4, by rw [h5]; exact s.c5, s.c6, s.f⟩
theorem QAt.new (w : World) (b t h : Nat) : QAt (w.alloc (.cells #[.pointer (some ⟨b, 0, none⟩), .int .i64 (t : Int), .int .i64 (h : Int), .int .i64 0, .int .i64 0, .int .i64 0, .bool false] 53)) w.heap.size b { at_ := 0, turn := t, half := h, count := 0, used := 0, tail := ⟨#[]⟩ } false :=
  ⟨by simp, by simp, by simp, by simp, by simp, by simp, by simp, fun o => by simp⟩
theorem QAt.set123 {w : World} {q r : Nat} {J : Jn} {dd : Bool} (s : QAt w q r J dd) (t h a : Nat) : QAt (((w.setCell ⟨q, 1, none⟩ (.int .i64 (t : Int))).setCell ⟨q, 2, none⟩ (.int .i64 (h : Int))).setCell ⟨q, 3, none⟩ (.int .i64 (a : Int))) q r { J with turn := t, half := h, at_ := a } dd := by
  have c := fun (W : World) (o p : Nat) (v : Value) (hn : o ≠ p) => cell_ne W q o p v hn
  refine ⟨?_, ?_, ?_, ?_, ?_, ?_, ?_, fun o => by simp [s.f o]⟩
  · rw [c _ 3 0 _ (by decide), c _ 2 0 _ (by decide), c _ 1 0 _ (by decide)]; exact s.c0
  · rw [c _ 3 1 _ (by decide), c _ 2 1 _ (by decide)]; exact cell_eq w q 1 _ _ s.c1
  · rw [c _ 3 2 _ (by decide)]; exact cell_eq _ q 2 _ _ (by rw [c _ 1 2 _ (by decide)]; exact s.c2)
  · exact cell_eq _ q 3 _ _ (by rw [c _ 2 3 _ (by decide), c _ 1 3 _ (by decide)]; exact s.c3)
  · rw [c _ 3 4 _ (by decide), c _ 2 4 _ (by decide), c _ 1 4 _ (by decide)]; exact s.c4
  · rw [c _ 3 5 _ (by decide), c _ 2 5 _ (by decide), c _ 1 5 _ (by decide)]; exact s.c5
  · rw [c _ 3 6 _ (by decide), c _ 2 6 _ (by decide), c _ 1 6 _ (by decide)]; exact s.c6
theorem QAt.set45 {w : World} {q r : Nat} {J : Jn} {dd : Bool} (s : QAt w q r J dd) (u n : Nat) : QAt ((w.setCell ⟨q, 4, none⟩ (.int .i64 (u : Int))).setCell ⟨q, 5, none⟩ (.int .i64 (n : Int))) q r { J with used := u, count := n } dd := by
  have c := fun (W : World) (o p : Nat) (v : Value) (hn : o ≠ p) => cell_ne W q o p v hn
  refine ⟨?_, ?_, ?_, ?_, ?_, ?_, ?_, fun o => by simp [s.f o]⟩
  · rw [c _ 5 0 _ (by decide), c _ 4 0 _ (by decide)]; exact s.c0
  · rw [c _ 5 1 _ (by decide), c _ 4 1 _ (by decide)]; exact s.c1
  · rw [c _ 5 2 _ (by decide), c _ 4 2 _ (by decide)]; exact s.c2
  · rw [c _ 5 3 _ (by decide), c _ 4 3 _ (by decide)]; exact s.c3
  · rw [c _ 5 4 _ (by decide)]; exact cell_eq w q 4 _ _ s.c4
  · exact cell_eq _ q 5 _ _ (by rw [c _ 4 5 _ (by decide)]; exact s.c5)
  · rw [c _ 5 6 _ (by decide), c _ 4 6 _ (by decide)]; exact s.c6
/-- A journal of the reference that is open, and its records. -/
structure ROpened (w : World) (f : List Nat) (b q : Nat) (v : Value) (B : Nat) (S : Dk) (J : Jn) (l : List ByteArray) : Prop where
  d : RkF w f b S
  q_ : QAt w q b J false
  own : OwnStrs w B v l
  qf : q ∉ f
  qB : B ≤ q
  vq : v.ownBlock ≠ some q
  vf : ∀ g, v.ownBlock = some g → g ∉ f
def ROPost (S : Dk) (b : Nat) (f : List Nat) (w : World) (e : Ending) (w2 : World) : Prop :=
  ∃ f2, Mv f w f2 w2 ∧ ((S.OErr = 10 ∧ e = .returned (.tuple #[.pointer none, .slice none 0 0, .int .i64 10]) ∧ RkF w2 f2 b S.ODk)
    ∨ (S.OErr = 0 ∧ ∃ q v, e = .returned (.tuple #[.pointer (some ⟨q, 0, none⟩), v, .int .i64 0]) ∧ ROpened w2 f2 b q v w.heap.size S.ODk S.oJn S.oUn.1))
/-- Between two rounds of OpenJournal. -/
structure UoMid (seq : Nat) (all : ByteArray) (b q : Nat) (J : Jn) (w0 w : World) (k : Nat) (rest : ByteArray) (v : Value) : Prop where
  kp : Kp [q] w0 w
  q_ : QAt w q b { J with used := all.size - rest.size, count := k } false
  ex : ∃ l, l.length = k ∧ OwnStrs w w0.heap.size v l ∧ (l ++ (unL seq k rest).1, (unL seq k rest).2) = unL seq 0 all
  suf : Suf rest all
theorem ro_ret {P : Ending → World → Prop} {w2 : World} {a : Act} {v0 v1 v2 : Value} (h2 : a.tmps.getD 2 undef = v0) (h3 : a.tmps.getD 3 undef = v1) (h4 : a.tmps.getD 4 undef = v2) (hd : a.defers = []) (hP : P (.returned (.tuple #[v0, v1, v2])) w2) :
    bodyPost Tryz.prog Tryz.f11 P .ret a w2 :=
  bodyPost_ret (v := .tuple #[v0, v1, v2]) (by simp [results, Tryz.results11, go_sem]; simp at h2 h3 h4; exact ⟨h2, h3, h4⟩) hd hP
theorem ropen_full {w : World} {f : List Nat} {b : Nat} {S : Dk} (D : RkF w f b S) (h4 : S.n < 4) :
    Calls Tryz.prog 11 #[.pointer (some ⟨b, 0, none⟩)] w fun e w2 => e = .returned (.tuple #[.pointer none, .slice none 0 0, .int .i64 14]) ∧ w2 = w := by
  obtain ⟨a, c, c0⟩ := D.len
  have l1 : decide ((S.n : Int) < 4) = true := by simp; omega
  clear D
  go_enter Tryz.func11, Tryz.ntmps11
  go_wp2_with fail
  exact ro_ret rfl rfl rfl rfl ⟨rfl, rfl⟩
end Go.Proofs.YtggnljfcdohkaaaGreatDoor
/- JournalPlays: the steps, dead or alive, and what they keep. Plain mathematics. -/
namespace Go.Proofs.YtggnljfcdohkaaaGreatDoor
open Go.RowKit

/-- Add: its error's number, the disk, the journal behind it, whether that is dead. -/
def aC (dd : Bool) (S : Dk) (J : Jn) (r : ByteArray) : Int := if dd then 25 else if 2010 < r.size then 13 else if hl S.n * 64 - J.used < (addW J r).size then 14 else (addWr S J r).1
def aS (dd : Bool) (S : Dk) (J : Jn) (r : ByteArray) : Dk := if dd then S else if 2010 < r.size then S else if hl S.n * 64 - J.used < (addW J r).size then S else (addWr S J r).2
def aD (dd : Bool) (S : Dk) (J : Jn) (r : ByteArray) : Bool := if dd then true else if 2010 < r.size then false else if hl S.n * 64 - J.used < (addW J r).size then false else decide ((addWr S J r).1 ≠ 0)
def aJ (dd : Bool) (S : Dk) (J : Jn) (r : ByteArray) : Jn := if dd then J else if 2010 < r.size then J else if hl S.n * 64 - J.used < (addW J r).size then J else if (addWr S J r).1 = 0 then addJ J r else J
/-- Sync. -/
def sC (dd : Bool) (S : Dk) : Int := if dd then 25 else S.ferr
def sS (dd : Bool) (S : Dk) : Dk := if dd then S else S.flushed
def sD (dd : Bool) (S : Dk) : Bool := if dd then true else decide (S.ferr ≠ 0)
/-- Compact to n texts, none of them too long. -/
def mC (dd : Bool) (S : Dk) (J : Jn) (sx : Nat → ByteArray) (n : Nat) : Int := if dd then 25 else if hl S.n * 64 < (cRow J sx n).size then 14 else cErr S J sx n
def mS (dd : Bool) (S : Dk) (J : Jn) (sx : Nat → ByteArray) (n : Nat) : Dk := if dd then S else if hl S.n * 64 < (cRow J sx n).size then S else cDk S J sx n
def mD (dd : Bool) (S : Dk) (J : Jn) (sx : Nat → ByteArray) (n : Nat) : Bool := if dd then true else if hl S.n * 64 < (cRow J sx n).size then false else decide (cErr S J sx n ≠ 0)
def mJ (dd : Bool) (S : Dk) (J : Jn) (sx : Nat → ByteArray) (n : Nat) : Jn := if dd then J else if hl S.n * 64 < (cRow J sx n).size then J else if cErr S J sx n = 0 then cJn J sx n else J
/-- What holds behind k steps. -/
structure Inv (k : Nat) (dd : Bool) (S : Dk) (J : Jn) : Prop where
  ok : S.Ok (3000 + 2000 * k)
  n4 : 4 ≤ S.n
  n2 : S.n ≤ 2000
  sec : SecInv (1 + k) S
  al : dd = false → S.dead = false ∧ J.Ok S.n ∧ J.turn ≤ 1 + k ∧ J.count ≤ 20000 + k ∧ TailOk S J
theorem Inv.more {k : Nat} {dd : Bool} {S : Dk} {J : Jn} (h : Inv k dd S J) : Inv (k + 1) dd S J :=
  ⟨h.ok.mono (by omega), h.n4, h.n2, h.sec.mono (by omega), fun e => by obtain ⟨a, b, c, d, e⟩ := h.al e; exact ⟨a, b, by omega, by omega, e⟩⟩
theorem addWr_n (S : Dk) (J : Jn) (r : ByteArray) : (addWr S J r).2.n = S.n := Dk.wrow_n _ _ _ _ _
theorem cDk_n (S : Dk) (J : Jn) (sx : Nat → ByteArray) (n : Nat) : (cDk S J sx n).n = S.n := by
  have h1 : (cW1 S J sx n).2.n = S.n := Dk.wrow_n _ _ _ _ _
  unfold cDk
  split
  · exact h1
  · split
    · rw [Dk.flushed_n]; exact h1
    · unfold cW3
      rw [Dk.supw_n, Dk.flushed_n]; exact h1
theorem nch_le (s : ByteArray) (z : Nat) (h : s.size ≤ 64 * z) : nch s ≤ z := by unfold nch; omega
theorem Inv.add {k : Nat} {dd : Bool} {S : Dk} {J : Jn} (h : Inv k dd S J) (hk : k ≤ 100) (r : ByteArray) : Inv (k + 1) (aD dd S J r) (aS dd S J r) (aJ dd S J r) := by
  have hm := h.more
  unfold aD aS aJ
  cases dd
  · simp only [Bool.false_eq_true, if_false]
    obtain ⟨a1, a2, a3, a4, a5⟩ := h.al rfl
    split
    · exact hm
    next h1 =>
    split
    · exact hm
    next h2 =>
    have hn := addWr_n S J r
    have hh := hat_le2 S.n J.half h.n4 a2.h1
    have ht := a2.tl
    have hz9 : hl S.n ≤ 1000 := by have := h.n2; unfold hl; omega
    have hw9 : (addW J r).size ≤ r.size + 30 := wrapS_le _ (by have := a2.t2; have := a2.c1; show _ < 72057594037927936; omega) r (by omega)
    have hR : (addRow J r).size = J.used % 64 + (addW J r).size := by unfold addRow; rw [ByteArray.size_append, ht]
    have hnc : nch (addRow J r) ≤ 40 := nch_le _ 40 (by omega)
    have hok : (addWr S J r).2.Ok (3000 + 2000 * (k + 1)) := (h.ok.wrow _ _ _ _).mono (by omega)
    have hsec : SecInv (1 + (k + 1)) (addWr S J r).2 := hm.sec.wrow _ (by have := hh.1; omega) _ _ _
    by_cases h3 : (addWr S J r).1 = 0
    · rw [if_pos h3, show decide ((addWr S J r).1 ≠ 0) = false by simpa using h3]
      refine ⟨hok, by rw [hn]; exact h.n4, by rw [hn]; exact h.n2, hsec, fun _ => ⟨Dk.wrow_live _ _ _ _ a1 h3, ⟨a2.a1, a2.t1, a2.t2, a2.h1, ?_, ?_, ?_⟩, ?_, ?_, tail_add a2 h3⟩⟩
      · show J.count + 1 ≤ _; omega
      · show J.used + (addW J r).size ≤ 64 * hl (addWr S J r).2.n
        have := a2.u1
        rw [hn]; omega
      · show (tailS (addRow J r)).size = (J.used + (addW J r).size) % 64
        rw [tailS_size, hR]; omega
      · show J.turn ≤ _; omega
      · show J.count + 1 ≤ _; omega
    · rw [if_neg h3, show decide ((addWr S J r).1 ≠ 0) = true by simpa using h3]
      exact ⟨hok, by rw [hn]; exact h.n4, by rw [hn]; exact h.n2, hsec, fun e => by cases e⟩
  · exact hm
theorem Inv.sync {k : Nat} {dd : Bool} {S : Dk} {J : Jn} (h : Inv k dd S J) : Inv (k + 1) (sD dd S) (sS dd S) J := by
  have hm := h.more
  unfold sD sS
  cases dd
  · simp only [Bool.false_eq_true, if_false]
    obtain ⟨a1, a2, a3, a4, a5⟩ := hm.al rfl
    refine ⟨hm.ok.flushed, by rw [Dk.flushed_n]; exact h.n4, by rw [Dk.flushed_n]; exact h.n2, hm.sec.flushed, fun _ => ⟨by rw [Dk.flushed_dead]; exact a1, by rw [Dk.flushed_n]; exact a2, a3, a4, ?_⟩⟩
    unfold TailOk
    rw [Dk.flushed_C, Dk.flushed_n]
    exact a5
  · exact hm
theorem Inv.compact {k : Nat} {dd : Bool} {S : Dk} {J : Jn} (h : Inv k dd S J) (hk : k ≤ 100) (sx : Nat → ByteArray) (n : Nat) (hn9 : n ≤ 20000) : Inv (k + 1) (mD dd S J sx n) (mS dd S J sx n) (mJ dd S J sx n) := by
  have hm := h.more
  unfold mD mS mJ
  cases dd
  · simp only [Bool.false_eq_true, if_false]
    obtain ⟨a1, a2, a3, a4, a5⟩ := h.al rfl
    split
    · exact hm
    next h2 =>
    have hn := cDk_n S J sx n
    have hh := hat_le2 S.n (1 - J.half) h.n4 (by omega)
    have hz9 : hl S.n ≤ 1000 := by have := h.n2; unfold hl; omega
    have hsz : (cAll S J sx n).size = hl S.n * 64 := by unfold cAll; rw [ByteArray.size_append, zeros_size]; omega
    have hnc : nch (cAll S J sx n) ≤ 1000 := nch_le _ 1000 (by omega)
    have ok1 : (cW1 S J sx n).2.Ok (3000 + 2000 * k + 1000) := (h.ok.wrow _ _ _ _).mono (by omega)
    have ok3 : (cW3 S J sx n).2.Ok (3000 + 2000 * k + 1001) := ok1.flushed.supw _ _ _
    have se1 : SecInv (1 + (k + 1)) (cW1 S J sx n).2 := hm.sec.wrow _ hh.1 _ _ _
    have se3 : SecInv (1 + (k + 1)) (cW3 S J sx n).2 := se1.flushed.supw _ _ _ (by omega) (by omega) (by omega)
    have hok : (cDk S J sx n).Ok (3000 + 2000 * (k + 1)) := by
      unfold cDk
      split
      · exact ok1.mono (by omega)
      · split
        · exact ok1.flushed.mono (by omega)
        · exact ok3.mono (by omega)
    have hsec : SecInv (1 + (k + 1)) (cDk S J sx n) := by
      unfold cDk
      split
      · exact se1
      · split
        · exact se1.flushed
        · exact se3
    by_cases h3 : cErr S J sx n = 0
    · rw [if_pos h3, show decide (cErr S J sx n ≠ 0) = false by simpa using h3]
      have hT := tail_cmp (S := S) (J := J) (sx := sx) (n := n) (by omega) h3
      refine ⟨hok, by rw [hn]; exact h.n4, by rw [hn]; exact h.n2, hsec, fun _ => ⟨hT.2, ⟨?_, ?_, ?_, ?_, ?_, ?_, ?_⟩, ?_, ?_, hT.1⟩⟩
      · show 1 - J.at_ ≤ 1; omega
      · show 1 ≤ J.turn + 1; omega
      · show J.turn + 1 ≤ 1000000; omega
      · show 1 - J.half ≤ 1; omega
      · show n ≤ 1000000; omega
      · show (cRow J sx n).size ≤ 64 * hl (cDk S J sx n).n
        rw [hn]; omega
      · show (tailS (cRow J sx n)).size = (cRow J sx n).size % 64
        exact tailS_size _
      · show J.turn + 1 ≤ 1 + (k + 1); omega
      · show n ≤ 20000 + (k + 1); omega
    · rw [if_neg h3, show decide (cErr S J sx n ≠ 0) = true by simpa using h3]
      exact ⟨hok, by rw [hn]; exact h.n4, by rw [hn]; exact h.n2, hsec, fun e => by cases e⟩
  · exact hm
theorem Inv.cut {k : Nat} {dd : Bool} {S : Dk} {J : Jn} (h : Inv k dd S J) (p : Int) (hp : p ≤ 9223372036854775807) : Inv (k + 1) dd (S.cutAt p) J := by
  have hm := h.more
  exact ⟨(h.ok.cutAt p hp).mono (by omega), h.n4, h.n2, hm.sec.cutAt p, fun e => hm.al e⟩
/-- Behind a crash, opened again: there is none, or it goes on. -/
theorem Inv.crash {k : Nat} {dd : Bool} {S : Dk} {J : Jn} (h : Inv k dd S J) (hk : k ≤ 100) (ks : List Bool) (tn : Int) (hC : ∀ i, i < S.n → ((S.crash ks tn).C i).length = 64) :
    (S.crash ks tn).Fine (3000 + 2000 * k + 1) ∧ SecInv (1 + k) (S.crash ks tn) ∧ ((S.crash ks tn).OErr = 10 ∧ (S.crash ks tn).ODk = S.crash ks tn ∧ (countV (S.crash ks tn)).2.1 = 0
      ∨ (S.crash ks tn).OErr = 0 ∧ 0 < (countV (S.crash ks tn)).2.1 ∧ Inv (k + 1) false (S.crash ks tn).ODk (S.crash ks tn).oJn) := by
  have hF : (S.crash ks tn).Fine (3000 + 2000 * k + 1) := ⟨h.ok.crash ks tn, rfl, rfl, h.n4, h.n2, hC⟩
  have hs := h.sec.crash (by omega) ks tn
  refine ⟨hF, hs, ?_⟩
  by_cases hc : (countV (S.crash ks tn)).2.1 = 0
  · exact .inl ⟨(open_none hF hc).1, (open_none hF hc).2, hc⟩
  · have o := open_inv hF hs (by omega) (by omega)
    refine .inr ⟨o.err, by omega, ⟨o.fine.ok.mono (by omega), o.fine.n4, o.fine.n2, hs.ODk.mono (by omega), fun _ => ⟨o.fine.dead, by rw [Dk.ODk_n]; exact o.jok, by have := o.jt; omega, by have := o.jc; omega, o.tail⟩⟩⟩
theorem Inv.start {S : Dk} (h : S.Fine 1002) (hs : SecInv 1 S) (hc : 0 < (countV S).2.1) : Inv 0 false S.ODk S.oJn := by
  have o := open_inv h hs (by omega) hc
  exact ⟨o.fine.ok.mono (by omega), o.fine.n4, o.fine.n2, hs.ODk, fun _ => ⟨o.fine.dead, by rw [Dk.ODk_n]; exact o.jok, o.jt, by have := o.jc; omega, o.tail⟩⟩
end Go.Proofs.YtggnljfcdohkaaaGreatDoor
/- Contracts of the reference's journal: dies, Sync, Add. -/
namespace Go.Proofs.YtggnljfcdohkaaaGreatDoor
open Go.RowKit

theorem QAt.set6 {w : World} {q r : Nat} {J : Jn} {dd : Bool} (s : QAt w q r J dd) (d : Bool) : QAt (w.setCell ⟨q, 6, none⟩ (.bool d)) q r J d := by
  have c := fun (p : Nat) (hn : 6 ≠ p) => cell_ne w q 6 p (.bool d) hn
  exact ⟨(c 0 (by decide)).trans s.c0, (c 1 (by decide)).trans s.c1, (c 2 (by decide)).trans s.c2, (c 3 (by decide)).trans s.c3, (c 4 (by decide)).trans s.c4, (c 5 (by decide)).trans s.c5, cell_eq w q 6 _ _ s.c6, fun o => by simp [s.f o]⟩
set_option maxHeartbeats 1600000 in
theorem rdies_any {w : World} {q r : Nat} {J : Jn} (Q : QAt w q r J false) (c : Int) :
    Calls Tryz.prog 45 #[.pointer (some ⟨q, 0, none⟩), .int .i64 c] w fun e w2 => e = .returned (.int .i64 c) ∧ QAt w2 q r J (decide (c ≠ 0)) ∧ Kp [q] w w2 := by
  have c6 := Q.c6
  have g6 := Q.f 6
  have HQ := Lib.hid Q
  clear Q
  by_cases h0 : c = 0
  · have l1 : (c != 0) = false := by simpa using h0
    have l2 : decide (c ≠ 0) = false := by simpa using h0
    rw [l2]
    clear h0
    go_enter Tryz.func45, Tryz.ntmps45
    go_wp2_with fail
    go_ret
    exact ⟨rfl, HQ.out.set6 false, (Kp.refl [q] w).setCell (.inl (by simp)) _⟩
  · have l1 : (c != 0) = true := by simpa using h0
    have l2 : decide (c ≠ 0) = true := by simpa using h0
    rw [l2]
    clear h0
    go_enter Tryz.func45, Tryz.ntmps45
    go_wp2_with fail
    go_ret
    exact ⟨rfl, HQ.out.set6 true, (Kp.refl [q] w).setCell (.inl (by simp)) _⟩
/-- A journal of the reference with its disk, in the blocks q and f; dead or alive. -/
structure QF (w : World) (f : List Nat) (b q : Nat) (S : Dk) (J : Jn) (dd : Bool) : Prop where
  d : RkF w f b S
  q_ : QAt w q b J dd
  qf : q ∉ f
  qg : 7 ≤ q
theorem QF.kept {w w2 : World} {f : List Nat} {b q : Nat} {S : Dk} {J : Jn} {dd : Bool} (h : QF w f b q S J dd) (k : Kp [] w w2) : QF w2 f b q S J dd := ⟨h.d.kept k, h.q_.kept k, h.qf, h.qg⟩
/-- The disk has been changed, and then the journal itself. -/
theorem QF.then {w w2 w3 : World} {f f2 : List Nat} {b q : Nat} {S S2 : Dk} {J J3 : Jn} {dd dd3 : Bool} (h : QF w f b q S J dd) (D : RkF w2 f2 b S2) (M : Mv f w f2 w2) (K : Kp [q] w2 w3) (Q : QAt w3 q b J3 dd3) : QF w3 f2 b q S2 J3 dd3 ∧ Mv (q :: f) w (q :: f2) w3 := by
  have hqf := M.apart h.qf h.q_.lt
  exact ⟨⟨D.keep K (fun x hx hm => by simp at hm; subst hm; exact hqf hx), Q, hqf, h.qg⟩, (M.more q).trans ⟨K.mono (fun x hx => by simp at hx; simp [hx]), fun x hx => .inl hx⟩⟩
theorem QF.then0 {w w2 : World} {f f2 : List Nat} {b q : Nat} {S S2 : Dk} {J : Jn} {dd : Bool} (h : QF w f b q S J dd) (D : RkF w2 f2 b S2) (M : Mv f w f2 w2) : QF w2 f2 b q S2 J dd ∧ Mv (q :: f) w (q :: f2) w2 :=
  h.then D M (Kp.refl _ _) (h.q_.keep M.kp h.qf)
set_option maxHeartbeats 1600000 in
theorem rsync_any {w : World} {f : List Nat} {b q : Nat} {S : Dk} {J : Jn} {dd : Bool} (D : QF w f b q S J dd) (m : Nat) (hm : S.Lim m) (hmm : m < 4294967295) :
    Calls Tryz.prog 15 #[.pointer (some ⟨q, 0, none⟩)] w fun e w2 => e = .returned (.int .i64 (sC dd S)) ∧ ∃ f2, QF w2 f2 b q (sS dd S) J (sD dd S) ∧ Mv (q :: f) w (q :: f2) w2 := by
  have c0 := D.q_.c0
  have c6 := D.q_.c6
  have HD := Lib.hid D
  have HF := Lib.hid (g_flush D.d m hm hmm)
  cases dd
  · have e1 : sC false S = S.ferr := rfl
    have e2 : sS false S = S.flushed := rfl
    have e3 : sD false S = decide (S.ferr ≠ 0) := rfl
    rw [e1, e2, e3]
    generalize S.ferr = c at *
    clear D e1 e2 e3 hm
    go_enter Tryz.func15, Tryz.ntmps15
    go_wp2_with fail
    refine Calls.mono HF.out ?_
    rintro e x1 ⟨rfl, f2, D2, M2⟩
    have HD2 := Lib.hid D2
    have HM2 := Lib.hid M2
    have HDi := Lib.hid (rdies_any (HD.out.q_.keep M2.kp HD.out.qf) c)
    clear D2 M2 HF
    go_wp2_with fail
    refine Calls.mono HDi.out ?_
    rintro e x2 ⟨rfl, Q3, K3⟩
    have H := Lib.hid (HD.out.then HD2.out HM2.out K3 Q3)
    clear Q3 K3
    go_wp2_with fail
    go_ret
    exact ⟨rfl, f2, H.out.1, H.out.2⟩
  · have e1 : sC true S = 25 := rfl
    have e2 : sS true S = S := rfl
    have e3 : sD true S = true := rfl
    rw [e1, e2, e3]
    clear D e1 e2 e3 hm HF
    go_enter Tryz.func15, Tryz.ntmps15
    go_wp2_with fail
    go_ret
    exact ⟨rfl, f, HD.out, Mv.refl _ _⟩
end Go.Proofs.YtggnljfcdohkaaaGreatDoor
