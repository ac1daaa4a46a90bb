/- Texts filled up to a sector; rows that are handed over; a torn sector's bytes. -/
import Derived.Test.YtiglipiofclmfaaDoorFluS
namespace Go.Proofs.YtiglipiofclmfaaDoor
open Go.RowKit

/-- A []string that is handed over: what it holds, in blocks below B. -/
def StrsAt (w : World) (B : Nat) (a : Option Addr) (n : Nat) (sx : Nat → ByteArray) : Prop :=
  ∀ i, i < n → ∃ g o, a = some ⟨g, o, none⟩ ∧ g < B ∧ w.cell? ⟨g, o + i, none⟩ = some (.string (sx i))
theorem fill_eq (s : ByteArray) : s ++ zStr (64 - s.size) = ⟨(fillUp s).toArray⟩ := by
  apply ByteArray.ext
  rw [ByteArray.data_append]
  unfold fillUp zStr
  apply Array.ext'
  simp

theorem Up.cell {B : Nat} {w w2 : World} (h : Up B w w2) (hB : B ≤ w.heap.size) {g o : Nat} (hg : g < B) : w2.cell? ⟨g, o, none⟩ = w.cell? ⟨g, o, none⟩ :=
  World.cell?_of_block (w := w) (h.2.2.2.2 g hg (Nat.lt_of_lt_of_le hg hB))
theorem StrsAt.up {B : Nat} {w w2 : World} {a : Option Addr} {n : Nat} {sx : Nat → ByteArray} (h : StrsAt w B a n sx) (u : Up B w w2) (hB : B ≤ w.heap.size) : StrsAt w2 B a n sx := fun i hi => by
  obtain ⟨g, o, h1, h2, h3⟩ := h i hi
  exact ⟨g, o, h1, h2, by rw [u.cell hB h2]; exact h3⟩
/-- A []bool that is handed over. -/
def BoolsAt (w : World) (B : Nat) (a : Option Addr) (ks : List Bool) : Prop :=
  ∀ i, i < ks.length → ∃ g o, a = some ⟨g, o, none⟩ ∧ g < B ∧ w.cell? ⟨g, o + i, none⟩ = some (.bool (ks.getD i false))
theorem BoolsAt.up {B : Nat} {w w2 : World} {a : Option Addr} {ks : List Bool} (h : BoolsAt w B a ks) (u : Up B w w2) (hB : B ≤ w.heap.size) : BoolsAt w2 B a ks := fun i hi => by
  obtain ⟨g, o, h1, h2, h3⟩ := h i hi
  exact ⟨g, o, h1, h2, by rw [u.cell hB h2]; exact h3⟩
theorem use_crash {B : Nat} {w : World} {b : Nat} {S : Dk} (h : DkIn B w b S) (hw : B ≤ w.heap.size) (ka : Option Addr) (kc : Nat) (ks : List Bool) (hk : BoolsAt w B ka ks) (tn : Int) :
    Calls Tryd.prog 14 #[.pointer (some ⟨b, 0, none⟩), .slice ka ks.length kc, .int .i64 tn] w fun e w2 => e = .returned (.tuple #[]) ∧ DkIn B w2 b (S.crash ks tn) ∧ Up B w w2 := by
  obtain ⟨⟨a1, a2, a3⟩, bf, bc, lv, D, hB⟩ := h
  refine (crash_any D a3 ka kc ks (fun i hi => by
    obtain ⟨g, o, h1, h2, h3⟩ := hk i hi
    exact ⟨g, o, h1, fun hm => by have := hB g hm; omega, by omega, h3⟩) tn).mono ?_
  rintro e w2 ⟨rfl, D2, k2⟩
  exact ⟨rfl, ⟨⟨a1, by simp [Dk.crash], by simp [Dk.crash]⟩, bf, bc, _, D2, foot_nil hB⟩, k2.up hB⟩
theorem torn_bytes (A B : List UInt8) (hA : A.length = 64) : (ByteArray.mk (torn A B true).toArray) = (ByteArray.mk B.toArray).extract 0 32 ++ (ByteArray.mk A.toArray).extract 32 64 := by
  apply ByteArray.ext
  rw [ByteArray.data_append, ByteArray.data_extract, ByteArray.data_extract]
  apply Array.ext'
  simp only [torn, if_true, Array.toList_append, Array.toList_extract, List.extract_eq_take_drop]
  rw [List.drop_zero, List.take_of_length_le (l := A.drop 32) (by rw [List.length_drop, hA]; decide)]
end Go.Proofs.YtiglipiofclmfaaDoor
