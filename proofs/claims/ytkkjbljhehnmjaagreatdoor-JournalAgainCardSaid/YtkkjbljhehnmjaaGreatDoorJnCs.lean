/- Compact where it is done, as the laws' walks use it. -/
import Derived.Test.YtkkjbljhehnmjaaGreatDoorJnC
import Derived.Test.YtkkjbljhehnmjaaGreatDoorJnKn
namespace Go.Proofs.YtkkjbljhehnmjaaGreatDoor
open Go.RowKit

theorem s_compact {w : World} {f : List Nat} {b j : Nat} {S : Dk} {m : Nat} {J : Jn} {l : List ByteArray} (D : JF w f b j S J) (hS : JSt S m J l) (hG : Gl w) (hm : m ≤ 1000000) (ht : J.turn + 1 ≤ 1000000) (a : Option Addr) (n c : Nat) (hn : n ≤ 100000) (sx : Nat → ByteArray) (hR : StrsAt w w.heap.size a n sx)
    (hs : Small sx n) (hfit : (cRow J sx n).size ≤ hl S.n * 64) :
    Calls Tryz.prog 18 #[.pointer (some ⟨j, 0, none⟩), .slice a n c] w fun e w2 => e = .returned .nilIface ∧ ∃ f2, JF w2 f2 b j (cDk S J sx n) (cJn J sx n) ∧ Mv (j :: f) w (j :: f2) w2 := by
  refine (Compact_any D hS.fine.n4 hS.ok ht a n c hn sx hR hG m hS.fine.ok.lim (by omega)).mono ?_
  have h1 := (hS.compact sx n hs (by omega) ht hfit).1
  rintro e w2 ⟨f2, hM, ⟨h, _⟩ | ⟨_, h, _⟩ | ⟨_, _, h, _⟩ | ⟨_, _, _, rfl, hJ⟩⟩
  · exact absurd hs h
  · omega
  · exact absurd h1 h
  · exact ⟨rfl, f2, hJ, hM⟩
/-- How long a row of frames is, at most. -/
theorem cRow_le (J : Jn) (sx : Nat → ByteArray) (n : Nat) (hs : Small sx n) (hn : n ≤ 1000000) (ht : J.turn + 1 ≤ 1000000) : (cRow J sx n).size ≤ 2040 * n := by
  unfold cRow
  rw [wrapsS_size]
  refine wrapsL_le _ sx n ?_ hs n (Nat.le_refl _)
  have : (128 : Nat) ^ 8 = 72057594037927936 := by decide
  unfold cSeq
  omega
theorem wrapsL_le2 (seq : Nat) (sx : Nat → ByteArray) (n z : Nat) (hs : seq + n ≤ 128 ^ 8) (hz : z ≤ 2010) (h : ∀ i, i < n → (sx i).size ≤ z) : ∀ k, k ≤ n → (wrapsL seq sx k).length ≤ (z + 30) * k
  | 0, _ => by simp [wrapsL]
  | k + 1, hk => by
    have h1 := wrapsL_le2 seq sx n z hs hz h k (by omega)
    have h2 := wrapS_le (seq + k) (by omega) (sx k) (by have := h k (by omega); omega)
    have h3 := h k (by omega)
    show (wrapsL seq sx k ++ _).length ≤ _
    have h4 : (wrapS (seq + k) (sx k)).data.toList.length = (wrapS (seq + k) (sx k)).size := by rw [Array.length_toList]; rfl
    rw [List.length_append, h4, Nat.mul_succ]
    omega
/-- And where each record is short. -/
theorem cRow_le2 (J : Jn) (sx : Nat → ByteArray) (n z : Nat) (hz : z ≤ 2010) (h : ∀ i, i < n → (sx i).size ≤ z) (hn : n ≤ 1000000) (ht : J.turn + 1 ≤ 1000000) : (cRow J sx n).size ≤ (z + 30) * n := by
  unfold cRow
  rw [wrapsS_size]
  refine wrapsL_le2 _ sx n z ?_ hz h n (Nat.le_refl _)
  have : (128 : Nat) ^ 8 = 72057594037927936 := by decide
  unfold cSeq
  omega
end Go.Proofs.YtkkjbljhehnmjaaGreatDoor
