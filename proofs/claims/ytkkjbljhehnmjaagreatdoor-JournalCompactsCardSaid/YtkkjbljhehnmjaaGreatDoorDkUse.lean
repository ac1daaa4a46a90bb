/- The contracts of package disk in the form that a caller uses: by what the number of the error is. -/
import Derived.Test.YtkkjbljhehnmjaaGreatDoorDkCr
namespace Go.Proofs.YtkkjbljhehnmjaaGreatDoor
open Go.RowKit

/-- Numbers that an int holds. -/
def Dk.Small (S : Dk) : Prop := S.writes < 4611686018427387904 ∧ S.left ≤ 9223372036854775807 ∧ S.L.length < 4294967296
/-- A disk in memory whose numbers an int holds; its blocks but for the head are not told. -/
def DkIn (B : Nat) (w : World) (b : Nat) (S : Dk) : Prop := S.Small ∧ ∃ bf bc lv, DkAt w b bf bc lv S ∧ ∀ x ∈ foot b bf bc lv, B ≤ x
theorem DkIn.kept {B : Nat} {w w2 : World} {b : Nat} {S : Dk} (h : DkIn B w b S) (k : Kp [] w w2) : DkIn B w2 b S := by
  obtain ⟨hs, bf, bc, lv, D, hB⟩ := h
  exact ⟨hs, bf, bc, lv, D.new k, hB⟩
/-- Blocks from B on may have changed. -/
def Up (B : Nat) (w w2 : World) : Prop := w.os = w2.os ∧ w.tape = w2.tape ∧ w.output = w2.output ∧ w.heap.size ≤ w2.heap.size ∧ ∀ k, k < B → k < w.heap.size → w2.heap[k]? = w.heap[k]?
theorem Up.refl (B : Nat) (w : World) : Up B w w := ⟨rfl, rfl, rfl, Nat.le_refl _, fun _ _ _ => rfl⟩
theorem Up.trans {B : Nat} {a b c : World} (h : Up B a b) (k : Up B b c) : Up B a c :=
  ⟨h.1.trans k.1, h.2.1.trans k.2.1, h.2.2.1.trans k.2.2.1, Nat.le_trans h.2.2.2.1 k.2.2.2.1, fun i hi hl => (k.2.2.2.2 i hi (Nat.lt_of_lt_of_le hl h.2.2.2.1)).trans (h.2.2.2.2 i hi hl)⟩
theorem Kp.up {f : List Nat} {w w2 : World} {B : Nat} (h : Kp f w w2) (hf : ∀ x ∈ f, B ≤ x) : Up B w w2 :=
  ⟨h.os.symm, h.tape.symm, h.output.symm, h.size, fun k hk hl => h.block k hl (fun hm => by have := hf k hm; omega)⟩
theorem Kp.up0 {w w2 : World} (h : Kp [] w w2) (B : Nat) : Up B w w2 := h.up (fun x hx => by cases hx)
theorem Up.below {B : Nat} {w w2 : World} (h : Up B w w2) (hB : B ≤ w.heap.size) : Below B w w2 :=
  ⟨h.1.symm, h.2.1.symm, h.2.2.1.symm, h.2.2.2.1, fun k hk => h.2.2.2.2 k hk (by omega)⟩
theorem Up.kp {B : Nat} {w w2 : World} (h : Up B w w2) (hB : w.heap.size ≤ B) : Kp [] w w2 :=
  ⟨h.1.symm, h.2.1.symm, h.2.2.1.symm, h.2.2.2.1, fun k hk _ => h.2.2.2.2 k (by omega) hk⟩
theorem Up.tab {B : Nat} {w w2 : World} (h : Up B w w2) (ht : Tab w) (hB : 7 ≤ B) : Tab w2 := by
  have hk : Kp ((List.range w.heap.size).filter (fun x => B ≤ x)) w w2 := ⟨h.1.symm, h.2.1.symm, h.2.2.1.symm, h.2.2.2.1, fun k hk hn => h.2.2.2.2 k (by
    rcases Nat.lt_or_ge k B with hl | hl
    · exact hl
    · exact absurd (List.mem_filter.2 ⟨List.mem_range.2 hk, by simpa using hl⟩) hn) hk⟩
  refine hk.tab0 ht (fun hm => ?_)
  have := (List.mem_filter.1 hm).2
  simp only [decide_eq_true_eq] at this
  omega

theorem DkIn.then {B : Nat} {w w2 : World} {b bf bc : Nat} {lv : Value} {S2 : Dk} (h : DkThen b bf bc lv S2 w w2) (hs : S2.Small) (hB : ∀ x ∈ foot b bf bc lv, B ≤ x) (hw : B ≤ w.heap.size) : DkIn B w2 b S2 ∧ Up B w w2 := by
  obtain ⟨lv2, D2, K2, hat⟩ := h
  refine ⟨⟨hs, bf, bc, lv2, D2, fun x hx => ?_⟩, K2.up hB⟩
  simp only [foot, List.mem_cons, Option.mem_toList] at hx
  rcases hx with rfl | rfl | rfl | hx
  · exact hB _ (by simp [foot])
  · exact hB _ (by simp [foot])
  · exact hB _ (by simp [foot])
  · rcases hat x hx with hx | hx
    · exact hB x (by simp [foot, hx])
    · omega

theorem use_new (z : Int) (B : Nat) (w : World) (hg : 7 ≤ w.heap.size) (hB : B ≤ w.heap.size) :
    Calls Tryz.prog 7 #[.int .i64 z] w fun e w2 => ∃ b, e = .returned (.pointer (some ⟨b, 0, none⟩)) ∧ DkIn B w2 b (Dk.new (clampN z)) ∧ Kp [] w w2 ∧ w.heap.size ≤ b := by
  refine (new_any z w hg).mono ?_
  rintro e w2 ⟨b, bf, bc, rfl, D, K, h1, h2, h3, _, _, _⟩
  refine ⟨b, rfl, ⟨⟨by simp [Dk.new], by simp [Dk.new], by simp [Dk.new]⟩, bf, bc, _, D, fun x hx => ?_⟩, K, h1⟩
  simp only [foot, Value.ownBlock, Option.toList_none, List.mem_cons, List.not_mem_nil, or_false] at hx
  rcases hx with rfl | rfl | rfl <;> omega
theorem use_write_yes {B : Nat} {w : World} {b : Nat} {S : Dk} (h : DkIn B w b S) (hw : B ≤ w.heap.size) (p : Int) (s : ByteArray) (h0 : -9223372036854775808 ≤ p) (h1 : p ≤ 9223372036854775807) (ht : Tab w)
    (he : S.werr p s.size = 0) (hs : (S.wrote p s).Small) :
    Calls Tryz.prog 65 #[.pointer (some ⟨b, 0, none⟩), .int .i64 p, .string s] w fun e w2 => e = .returned .nilIface ∧ DkIn B w2 b (S.wrote p s) ∧ Up B w w2 := by
  obtain ⟨⟨a1, a2, a3⟩, bf, bc, lv, D, hB⟩ := h
  refine (write_any w b bf bc lv S D p s h0 h1 ht a1 a2 a3).mono ?_
  rintro e w2 ⟨⟨v, rfl, hv⟩, hd⟩
  rw [he] at hv
  rcases hv with ⟨rfl, _⟩ | ⟨_, h0⟩
  · exact ⟨rfl, DkIn.then hd hs hB hw⟩
  · exact absurd rfl h0
theorem use_write_no {B : Nat} {w : World} {b : Nat} {S : Dk} (h : DkIn B w b S) (hw : B ≤ w.heap.size) (p : Int) (s : ByteArray) (h0 : -9223372036854775808 ≤ p) (h1 : p ≤ 9223372036854775807) (ht : Tab w)
    (why : Int) (he : S.werr p s.size = why) (hn : why ≠ 0) :
    Calls Tryz.prog 65 #[.pointer (some ⟨b, 0, none⟩), .int .i64 p, .string s] w fun e w2 => (∃ t, e = .returned (.iface 140 (.agg #[.string t, .int .i64 why]))) ∧ DkIn B w2 b { S with dead := decide (why = 25) } ∧ Up B w w2 := by
  obtain ⟨⟨a1, a2, a3⟩, bf, bc, lv, D, hB⟩ := h
  refine (write_any w b bf bc lv S D p s h0 h1 ht a1 a2 a3).mono ?_
  rintro e w2 ⟨⟨v, rfl, hv⟩, hd⟩
  rw [he] at hv
  rcases hv with ⟨_, h0⟩ | ⟨⟨t, rfl⟩, _⟩
  · exact absurd h0 hn
  · refine ⟨⟨t, rfl⟩, ?_⟩
    have : S.wrote p s = { S with dead := decide (why = 25) } := by
      unfold Dk.wrote
      rw [he, if_neg hn]
    rw [this] at hd
    exact DkIn.then hd ⟨a1, a2, a3⟩ hB hw
theorem use_read_yes {B : Nat} {w : World} {b : Nat} {S : Dk} (h : DkIn B w b S) (p : Int) (h0 : -9223372036854775808 ≤ p) (h1 : p ≤ 9223372036854775807) (ht : Tab w) (t : ByteArray) (he : S.rerr p = 0) (hb : S.rbytes p = t) :
    Calls Tryz.prog 27 #[.pointer (some ⟨b, 0, none⟩), .int .i64 p] w fun e w2 => e = .returned (.tuple #[.string t, .nilIface]) ∧ DkIn B w2 b S ∧ Kp [] w w2 := by
  obtain ⟨hs, bf, bc, lv, D, hB⟩ := h
  refine (read_any D p h0 h1 ht).mono ?_
  rintro e w2 ⟨⟨v, rfl, hv⟩, hk⟩
  rw [he] at hv
  rw [hb]
  rcases hv with ⟨rfl, _⟩ | ⟨_, h0⟩
  · exact ⟨rfl, DkIn.kept ⟨hs, bf, bc, lv, D, hB⟩ hk, hk⟩
  · exact absurd rfl h0
theorem use_read_no {B : Nat} {w : World} {b : Nat} {S : Dk} (h : DkIn B w b S) (p : Int) (h0 : -9223372036854775808 ≤ p) (h1 : p ≤ 9223372036854775807) (ht : Tab w) (why : Int) (he : S.rerr p = why) (hn : why ≠ 0) :
    Calls Tryz.prog 27 #[.pointer (some ⟨b, 0, none⟩), .int .i64 p] w fun e w2 => (∃ t, e = .returned (.tuple #[.string ⟨#[]⟩, .iface 140 (.agg #[.string t, .int .i64 why])])) ∧ DkIn B w2 b S ∧ Kp [] w w2 := by
  obtain ⟨hs, bf, bc, lv, D, hB⟩ := h
  refine (read_any D p h0 h1 ht).mono ?_
  rintro e w2 ⟨⟨v, rfl, hv⟩, hk⟩
  have hb : S.rbytes p = ⟨#[]⟩ := by
    unfold Dk.rbytes
    rw [he, if_neg hn]
  rw [he] at hv
  rw [hb]
  rcases hv with ⟨_, h0⟩ | ⟨⟨t, rfl⟩, _⟩
  · exact absurd h0 hn
  · exact ⟨⟨t, rfl⟩, DkIn.kept ⟨hs, bf, bc, lv, D, hB⟩ hk, hk⟩
theorem use_cut {B : Nat} {w : World} {b : Nat} {S : Dk} (h : DkIn B w b S) (p : Int) (h1 : p ≤ 9223372036854775807) :
    Calls Tryz.prog 23 #[.pointer (some ⟨b, 0, none⟩), .int .i64 p] w fun e w2 => e = .returned (.tuple #[]) ∧ DkIn B w2 b (S.cutAt p) ∧ Up B w w2 := by
  obtain ⟨⟨a1, a2, a3⟩, bf, bc, lv, D, hB⟩ := h
  refine (cut_any D p).mono ?_
  rintro e w2 ⟨rfl, D2, k2⟩
  exact ⟨rfl, ⟨⟨a1, by show (max p 0).toNat ≤ _; omega, a3⟩, bf, bc, lv, D2, hB⟩, k2.up hB⟩
theorem foot_nil {B b bf bc : Nat} {lv : Value} (hB : ∀ x ∈ foot b bf bc lv, B ≤ x) : ∀ x ∈ foot b bf bc (.slice none 0 0), B ≤ x := fun x hx => by
  simp only [foot, Value.ownBlock, Option.toList_none, List.mem_cons, List.not_mem_nil, or_false] at hx
  exact hB x (by simp only [foot, List.mem_cons]; rcases hx with rfl | rfl | rfl <;> simp)
theorem use_crash_nil {B : Nat} {w : World} {b : Nat} {S : Dk} (h : DkIn B w b S) (tn : Int) :
    Calls Tryz.prog 20 #[.pointer (some ⟨b, 0, none⟩), .slice none 0 0, .int .i64 tn] w fun e w2 => e = .returned (.tuple #[]) ∧ DkIn B w2 b (S.crash [] tn) ∧ Up B w w2 := by
  obtain ⟨⟨a1, a2, a3⟩, bf, bc, lv, D, hB⟩ := h
  refine (crash_any D a3 none 0 [] (fun i hi => by simp at hi) tn).mono ?_
  rintro e w2 ⟨rfl, D2, k2⟩
  exact ⟨rfl, ⟨⟨a1, by simp [Dk.crash], by simp [Dk.crash]⟩, bf, bc, _, D2, foot_nil hB⟩, k2.up hB⟩
theorem use_flush_yes {B : Nat} {w : World} {b : Nat} {S : Dk} (h : DkIn B w b S) (hd : S.dead = false) :
    Calls Tryz.prog 53 #[.pointer (some ⟨b, 0, none⟩)] w fun e w2 => e = .returned .nilIface ∧ DkIn B w2 b { S with F := lay S.F S.L, L := [] } ∧ Up B w w2 := by
  obtain ⟨⟨a1, a2, a3⟩, bf, bc, lv, D, hB⟩ := h
  refine (flush_ok D hd a3).mono ?_
  rintro e w2 ⟨rfl, D2, k2⟩
  exact ⟨rfl, ⟨⟨a1, a2, by simp⟩, bf, bc, _, D2, foot_nil hB⟩, k2.up hB⟩
theorem use_flush_no {B : Nat} {w : World} {b : Nat} {S : Dk} (h : DkIn B w b S) (hd : S.dead = true) :
    Calls Tryz.prog 53 #[.pointer (some ⟨b, 0, none⟩)] w fun e w2 => (∃ t, e = .returned (.iface 140 (.agg #[.string t, .int .i64 25]))) ∧ DkIn B w2 b S ∧ Kp [] w w2 := by
  obtain ⟨hs, bf, bc, lv, D, hB⟩ := h
  have h4 := D.c4
  rw [hd] at h4
  refine (flush_dead h4).mono ?_
  rintro e w2 ⟨⟨v, rfl, ⟨t, rfl⟩⟩, hk⟩
  exact ⟨⟨t, rfl⟩, DkIn.kept ⟨hs, bf, bc, lv, D, hB⟩ hk, hk⟩
theorem use_len {B : Nat} {w : World} {b : Nat} {S : Dk} (h : DkIn B w b S) :
    Calls Tryz.prog 64 #[.pointer (some ⟨b, 0, none⟩)] w fun e w2 => e = .returned (.int .i64 S.n) ∧ w = w2 := by
  obtain ⟨hs, bf, bc, lv, D, hB⟩ := h
  exact len_any b S.n S.n _ w D.c1
theorem use_writes {B : Nat} {w : World} {b : Nat} {S : Dk} (h : DkIn B w b S) :
    Calls Tryz.prog 26 #[.pointer (some ⟨b, 0, none⟩)] w fun e w2 => e = .returned (.int .i64 S.writes) ∧ w = w2 := by
  obtain ⟨hs, bf, bc, lv, D, hB⟩ := h
  exact writes_any b S.writes w D.c3
theorem use_is {t : ByteArray} {why c : Int} (hc : c ≠ 0) (w : World) :
    Calls Tryz.prog 32 #[.iface 140 (.agg #[.string t, .int .i64 why]), .iface 69 (.int .i64 c)] w fun e w2 => e = .returned (.bool (decide (why = c))) ∧ Kp [] w w2 :=
  DkE.is_any _ why c (.inr ⟨t, rfl⟩) hc w
end Go.Proofs.YtkkjbljhehnmjaaGreatDoor
