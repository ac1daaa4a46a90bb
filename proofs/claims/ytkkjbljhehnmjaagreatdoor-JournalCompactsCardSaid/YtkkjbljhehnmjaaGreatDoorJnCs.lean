/- A journal's disk is compacted: plain mathematics. -/
import Derived.Test.YtkkjbljhehnmjaaGreatDoorJnK
import Derived.Test.YtkkjbljhehnmjaaGreatDoorJnX
import Derived.Test.YtkkjbljhehnmjaaGreatDoorJnKn
namespace Go.Proofs.YtkkjbljhehnmjaaGreatDoor
open Go.RowKit

/-- The first so many of a row. -/
def firstN (sx : Nat → ByteArray) : Nat → List ByteArray
  | 0 => []
  | k + 1 => firstN sx k ++ [sx k]
theorem firstN_len (sx : Nat → ByteArray) : ∀ n, (firstN sx n).length = n
  | 0 => rfl
  | k + 1 => by unfold firstN; rw [List.length_append, firstN_len sx k]; rfl
theorem firstN_mem (sx : Nat → ByteArray) : ∀ (n : Nat) (r : ByteArray), r ∈ firstN sx n → ∃ i, i < n ∧ r = sx i
  | 0, r, h => by cases h
  | k + 1, r, h => by
    unfold firstN at h
    rcases List.mem_append.1 h with h | h
    · obtain ⟨i, h1, h2⟩ := firstN_mem sx k r h
      exact ⟨i, by omega, h2⟩
    · rw [List.mem_singleton] at h
      exact ⟨k, by omega, h⟩
theorem wrapsL_wrp (seq : Nat) (sx : Nat → ByteArray) : ∀ n, wrapsL seq sx n = wrp seq 0 (firstN sx n)
  | 0 => rfl
  | k + 1 => by
    unfold wrapsL firstN
    rw [wrp_snoc, ← wrapsL_wrp seq sx k, firstN_len, Nat.add_zero]
theorem cRow_list (J : Jn) (sx : Nat → ByteArray) (n : Nat) : (cRow J sx n).data.toList = wrp ((J.turn + 1) * 1000000) 0 (firstN sx n) := by
  unfold cRow wrapsS cSeq
  rw [ba_list, wrapsL_wrp]
/-- The other half is written, then the superblock says so. -/
theorem JSt.compact {S : Dk} {m : Nat} {J : Jn} {l : List ByteArray} (h : JSt S m J l) (sx : Nat → ByteArray) (n : Nat) (hs : Small sx n) (hn : n ≤ 1000000) (ht : J.turn + 1 ≤ 1000000) (hfit : (cRow J sx n).size ≤ hl S.n * 64) :
    cErr S J sx n = 0 ∧ JSt (cDk S J sx n) (m + 1002) (cJn J sx n) (firstN sx n) ∧ (cDk S J sx n).n = S.n ∧ (cDk S J sx n).L = [] ∧ (∀ k, k < S.n → (cDk S J sx n).F k = (cDk S J sx n).C k) := by
  have h2 : 1 - J.half ≤ 1 := by omega
  have ha1 := h.ok.a1
  have hh1 := h.ok.h1
  have hh := hat_le2 S.n (1 - J.half) h.fine.n4 h2
  have hn2 := h.fine.n2
  have hz9 : hl S.n ≤ 1000 := by unfold hl; omega
  obtain ⟨P, hP⟩ : ∃ P, P = wrp ((J.turn + 1) * 1000000) 0 (firstN sx n) := ⟨_, rfl⟩
  have hrow : (cRow J sx n).data.toList = P := by rw [hP]; exact cRow_list J sx n
  have hrs : (cRow J sx n).size = P.length := by rw [ba_size, hrow]
  rw [hrs] at hfit
  obtain ⟨R, hR⟩ : ∃ R, R = P ++ List.replicate (hl S.n * 64 - P.length) 0 := ⟨_, rfl⟩
  have hAll : cAll S J sx n = ⟨R.toArray⟩ := by
    apply ba_ext
    unfold cAll
    rw [ba_app, ba_list, hrow, hrs, hR]
    rfl
  have hRl : R.length = 64 * hl S.n := by rw [hR, List.length_append, List.length_replicate]; omega
  have hnc : nch (cAll S J sx n) = hl S.n := by unfold nch; rw [hAll, ba_size, ba_list, hRl]; omega
  have hw := h.fine.wrow (hat S.n (1 - J.half)) (cAll S J sx n) (hl S.n) 0 (by omega)
  have h1 : cW1 S J sx n = Dk.wrow (hat S.n (1 - J.half)) (cAll S J sx n) (hl S.n) 0 S := by unfold cW1; rw [hnc]
  rw [← h1] at hw
  obtain ⟨w1, w2, w3, w4, w5⟩ := hw
  have hfl := w2.flushed
  obtain ⟨f1, f2, f3, f4, f5, f6⟩ := hfl
  have hsb : (supB (J.turn + 1) (1 - J.half)).size ≤ 64 := by have := supB_size (J.turn + 1) (1 - J.half) (by show _ < 72057594037927936; omega) h2; omega
  have h4 := h.fine.n4
  have hpn : 1 - J.at_ < (cW1 S J sx n).2.flushed.n := by rw [f6, w3]; omega
  have hsw := f2.wrote (1 - J.at_) hpn (supB (J.turn + 1) (1 - J.half)) hsb
  have hse := f2.werr (1 - J.at_) hpn (supB (J.turn + 1) (1 - J.half)).size hsb
  have hsf := hsw.1.flushed
  have h3 : cW3 S J sx n = (0, ((cW1 S J sx n).2.flushed.wrote ((1 - J.at_ : Nat) : Int) (supB (J.turn + 1) (1 - J.half))).flushed) := by
    unfold cW3 Dk.supw
    rw [if_pos hse, hsf.1]
  have hE : cErr S J sx n = 0 := by
    unfold cErr
    rw [if_neg (by rw [w1]; simp), if_neg (by rw [f1]; simp), h3]
  have hD : cDk S J sx n = ((cW1 S J sx n).2.flushed.wrote ((1 - J.at_ : Nat) : Int) (supB (J.turn + 1) (1 - J.half))).flushed := by
    unfold cDk
    rw [if_neg (by rw [w1]; simp), if_neg (by rw [f1]; simp), h3]
  obtain ⟨T, hT⟩ : ∃ T, T = (cW1 S J sx n).2.flushed.wrote ((1 - J.at_ : Nat) : Int) (supB (J.turn + 1) (1 - J.half)) := ⟨_, rfl⟩
  rw [← hT] at hD hsf hsw
  rw [hD]
  obtain ⟨s1, s2, s3, s4⟩ := hsw
  obtain ⟨g1, g2, g3, g4, g5, g6⟩ := hsf
  have hnn : T.flushed.n = S.n := by rw [g6, s4, f6, w3]
  have hC : ∀ i, T.flushed.C i = if i = 1 - J.at_ then fillUp (supB (J.turn + 1) (1 - J.half)) else if hat S.n (1 - J.half) + 0 ≤ i ∧ i < hat S.n (1 - J.half) + 0 + hl S.n then fillUp (chunk (cAll S J sx n) (i - hat S.n (1 - J.half))) else S.C i := fun i => by
    rw [g3, s2, f3]
    unfold upd
    split
    · rfl
    · exact w5 i
  clear w5 s2 f3 h1 h3
  refine ⟨hE, ⟨g2.mono (by omega), ⟨?_, ?_, ?_, ?_, ?_, ?_, ?_⟩, ?_, ?_, ?_, ?_, ?_, ?_, fun t x hq => ?_⟩, hnn, g4, fun k hk => ?_⟩
  · show 1 - J.at_ ≤ 1; omega
  · show 1 ≤ J.turn + 1; omega
  · exact ht
  · exact h2
  · exact hn
  · show (cRow J sx n).size ≤ _
    rw [hnn, hrs]; omega
  · show (tailS (cRow J sx n)).size = (cRow J sx n).size % 64
    exact tailS_size _
  · intro r hr
    obtain ⟨i, hi, rfl⟩ := firstN_mem sx n r hr
    exact hs i hi
  · show n = _
    rw [firstN_len]
  · show T.flushed.span (hat T.flushed.n (1 - J.half)) (hl T.flushed.n) = wrp ((J.turn + 1) * 1000000) 0 (firstN sx n) ++ List.replicate (64 * hl T.flushed.n - (cRow J sx n).size) 0
    rw [hnn, ← hP, hrs, show 64 * hl S.n - P.length = hl S.n * 64 - P.length by omega, ← hR]
    refine span_ext _ _ _ _ hRl (fun i hi => ?_)
    rw [hC, if_neg (by omega), if_pos (by omega), show hat S.n (1 - J.half) + i - hat S.n (1 - J.half) = i by omega, hAll, fill_chunk R i (by omega) 0 (by omega)]
    simp
  · show (cRow J sx n).size = _
    rw [hrs, hP]; rfl
  · show tailS (cRow J sx n) = tailS ⟨(wrp ((J.turn + 1) * 1000000) 0 (firstN sx n)).toArray⟩
    congr 1
    apply ba_ext
    rw [ba_list, hrow, hP]
  · show T.flushed.C (1 - J.at_) = _
    rw [hC, if_pos rfl]
    rfl
  · have hj : 1 - (cJn J sx n).at_ = J.at_ := by show 1 - (1 - J.at_) = _; omega
    have hr : T.flushed.read (1 - (cJn J sx n).at_) = ⟨(fillUp (supB J.turn J.half)).toArray⟩ := by
      rw [hj]
      unfold Dk.read
      rw [hC, if_neg (by omega), if_neg (by omega), h.sup]
    rw [hr, superS_fill _ _ h.ok.t1 h.ok.t2 hh1] at hq
    simp only [Option.some.injEq, Prod.mk.injEq] at hq
    show t < J.turn + 1
    omega
  · rw [g5 k (by rw [s4, f6, w3]; exact hk)]
    rw [g3]
end Go.Proofs.YtkkjbljhehnmjaaGreatDoor
/- Compact where it is done, as the laws' walks use it. -/
namespace Go.Proofs.YtkkjbljhehnmjaaGreatDoor
open Go.RowKit

theorem s_compact {w : World} {f : List Nat} {b j : Nat} {S : Dk} {m : Nat} {J : Jn} {l : List ByteArray} (D : JF w f b j S J) (hS : JSt S m J l) (hG : Gl w) (hm : m ≤ 1000000) (ht : J.turn + 1 ≤ 1000000) (a : Option Addr) (n c : Nat) (hn : n ≤ 100000) (sx : Nat → ByteArray) (hR : StrsAt w w.heap.size a n sx)
    (hs : Small sx n) (hfit : (cRow J sx n).size ≤ hl S.n * 64) :
    Calls Tryz.prog 18 #[.pointer (some ⟨j, 0, none⟩), .slice a n c] w fun e w2 => e = .returned .nilIface ∧ ∃ f2, JF w2 f2 b j (cDk S J sx n) (cJn J sx n) ∧ Mv (j :: f) w (j :: f2) w2 := by
  refine (Compact_any D hS.fine.n4 hS.ok ht a n c hn sx hR hG m hS.fine.ok.lim (by omega)).mono ?_
  have h1 := (hS.compact sx n hs (by omega) ht hfit).1
  rintro e w2 ⟨f2, hM, ⟨h, _⟩ | ⟨_, h, _⟩ | ⟨_, _, h, _⟩ | ⟨_, _, _, rfl, hJ⟩⟩
  · exact absurd hs h
  · omega
  · exact absurd h1 h
  · exact ⟨rfl, f2, hJ, hM⟩
/-- How long a row of frames is, at most. -/
theorem cRow_le (J : Jn) (sx : Nat → ByteArray) (n : Nat) (hs : Small sx n) (hn : n ≤ 1000000) (ht : J.turn + 1 ≤ 1000000) : (cRow J sx n).size ≤ 2040 * n := by
  unfold cRow
  rw [wrapsS_size]
  refine wrapsL_le _ sx n ?_ hs n (Nat.le_refl _)
  have : (128 : Nat) ^ 8 = 72057594037927936 := by decide
  unfold cSeq
  omega
theorem wrapsL_le2 (seq : Nat) (sx : Nat → ByteArray) (n z : Nat) (hs : seq + n ≤ 128 ^ 8) (hz : z ≤ 2010) (h : ∀ i, i < n → (sx i).size ≤ z) : ∀ k, k ≤ n → (wrapsL seq sx k).length ≤ (z + 30) * k
  | 0, _ => by simp [wrapsL]
  | k + 1, hk => by
    have h1 := wrapsL_le2 seq sx n z hs hz h k (by omega)
    have h2 := wrapS_le (seq + k) (by omega) (sx k) (by have := h k (by omega); omega)
    have h3 := h k (by omega)
    show (wrapsL seq sx k ++ _).length ≤ _
    have h4 : (wrapS (seq + k) (sx k)).data.toList.length = (wrapS (seq + k) (sx k)).size := by rw [Array.length_toList]; rfl
    rw [List.length_append, h4, Nat.mul_succ]
    omega
/-- And where each record is short. -/
theorem cRow_le2 (J : Jn) (sx : Nat → ByteArray) (n z : Nat) (hz : z ≤ 2010) (h : ∀ i, i < n → (sx i).size ≤ z) (hn : n ≤ 1000000) (ht : J.turn + 1 ≤ 1000000) : (cRow J sx n).size ≤ (z + 30) * n := by
  unfold cRow
  rw [wrapsS_size]
  refine wrapsL_le2 _ sx n z ?_ hz h n (Nat.le_refl _)
  have : (128 : Nat) ^ 8 = 72057594037927936 := by decide
  unfold cSeq
  omega
end Go.Proofs.YtkkjbljhehnmjaaGreatDoor
