/- The walk of the law DiskLimits. -/
import Derived.Test.YtiglipiofclmfaaDoorKnown
import Derived.Laws.OwnMore
namespace Go.Proofs.YtiglipiofclmfaaDoor
open Go.RowKit

/-- A new row of bytes 0, and its text. -/
def zBytes (n : Nat) : Obj := .cells (madeCells #[.int .u8 0] n) 5
def zStr (n : Nat) : ByteArray := ⟨(List.replicate n (0 : UInt8)).toArray⟩
theorem zStr_size (n : Nat) : (zStr n).size = n := by
  show (List.replicate n (0 : UInt8)).toArray.size = n
  simp
theorem infoByte : (Tryd.prog.info? 5).map (fun i => (i.size, i.bytes, i.zero)) = some (1, 1, some (.int .u8 0)) := by kernel_rfl
theorem make_bytes (x : Int) (n : Nat) (hx : x = n) (hn : n ≤ 100000) (w : World) : (Instr.makeSlice 63 (.int .i64 x) (.int .i64 x)).run Tryd.prog w = .ok (.slice (some ⟨w.heap.size, 0, none⟩) n n) (w.alloc (zBytes n)) := by
  subst hx
  obtain ⟨i, hi, hx⟩ := Option.map_eq_some_iff.1 infoByte
  simp only [Prod.mk.injEq] at hx
  obtain ⟨h1, h2, h3⟩ := hx
  have := run_make (P := Tryd.prog) w 63 5 i (.int .u8 0) Tryd.underlying63 hi h3 .i64 .i64 n n (by omega) (by omega) (by rw [h2]; omega) (by omega)
  rw [this, h1]
  simp [zBytes, Value.cells]
theorem conv_bytes {w : World} {g n : Nat} (h : w.heap[g]? = some (zBytes n)) : (convert 63 9 (.slice (some ⟨g, 0, none⟩) n n)).run Tryd.prog w = .ok (.string (zStr n)) w := by
  have := run_convert_bytes_back (P := Tryd.prog) w 63 9 5 ⟨g, 0, none⟩ n (List.replicate n (0 : UInt8)) Tryd.underlying63 Tryd.underlying5 Tryd.underlying9 (fun j hj => by
    rw [Addr.add_mid, Nat.zero_add]
    simp only [List.length_replicate] at hj
    simp only [World.cell?, h, zBytes]
    rw [← Array.getElem?_toList, toList_madeCells_one, List.getElem?_replicate, if_pos hj, List.getElem_replicate]
    rfl)
  rw [List.length_replicate] at this
  exact this

/-- As 'DkIn'; its blocks lie below T. -/
def DkTop (B T : Nat) (w : World) (b : Nat) (S : Dk) : Prop := S.Small ∧ ∃ bf bc lv, DkAt w b bf bc lv S ∧ ∀ x ∈ foot b bf bc lv, B ≤ x ∧ x < T
theorem DkAt.foot_lt {w : World} {b bf bc : Nat} {lv : Value} {S : Dk} (h : DkAt w b bf bc lv S) : ∀ x ∈ foot b bf bc lv, x < w.heap.size := fun x hx => by
  simp only [foot, List.mem_cons, Option.mem_toList] at hx
  rcases hx with rfl | rfl | rfl | hx
  · exact h.lb
  · exact h.lf
  · exact h.lc
  · exact (h.ll x hx).2
theorem DkIn.top {B : Nat} {w : World} {b : Nat} {S : Dk} (h : DkIn B w b S) : DkTop B w.heap.size w b S := by
  obtain ⟨hs, bf, bc, lv, D, hB⟩ := h
  exact ⟨hs, bf, bc, lv, D, fun x hx => ⟨hB x hx, D.foot_lt x hx⟩⟩
theorem DkTop.kept {B T : Nat} {w w2 : World} {b : Nat} {S : Dk} (h : DkTop B T w b S) (k : Kp [] w w2) : DkTop B T w2 b S := by
  obtain ⟨hs, bf, bc, lv, D, hB⟩ := h
  exact ⟨hs, bf, bc, lv, D.new k, hB⟩
theorem DkTop.dkIn {B T : Nat} {w : World} {b : Nat} {S : Dk} (h : DkTop B T w b S) : DkIn B w b S := by
  obtain ⟨hs, bf, bc, lv, D, hB⟩ := h
  exact ⟨hs, bf, bc, lv, D, fun x hx => (hB x hx).1⟩
/-- Write, with what stays of the blocks from T on. -/
theorem top_write {B T : Nat} {w : World} {b : Nat} {S : Dk} (h : DkTop B T w b S) (hw : B ≤ w.heap.size) (p : Int) (s : ByteArray) (h0 : -9223372036854775808 ≤ p) (h1 : p ≤ 9223372036854775807) (ht : Tab w) (hs : (S.wrote p s).Small) :
    Calls Tryd.prog 8 #[.pointer (some ⟨b, 0, none⟩), .int .i64 p, .string s] w fun e w2 => (∃ v, e = .returned v ∧ Answers (S.werr p s.size) v) ∧ DkIn B w2 b (S.wrote p s) ∧ Up B w w2 ∧ ∀ g, T ≤ g → g < w.heap.size → w2.heap[g]? = w.heap[g]? := by
  obtain ⟨⟨a1, a2, a3⟩, bf, bc, lv, D, hB⟩ := h
  refine (write_any w b bf bc lv S D p s h0 h1 ht a1 a2 a3).mono ?_
  rintro e w2 ⟨hv, hd⟩
  obtain ⟨hd1, hd2⟩ := DkIn.then hd hs (fun x hx => (hB x hx).1) hw
  obtain ⟨lv2, D2, K2, hat⟩ := hd
  exact ⟨hv, hd1, hd2, fun g hg hl => K2.block g hl (fun hm => by have := (hB g hm).2; omega)⟩

/-- Block g is a row of n bytes 0. -/
def IsZ (w : World) (g n : Nat) : Prop := w.heap[g]? = some (zBytes n)
theorem isZ_new (w : World) (n : Nat) : IsZ (w.alloc (zBytes n)) w.heap.size n := heap_alloc_new w _
theorem isZ_new2 (w : World) (o : Obj) (n : Nat) : IsZ ((w.alloc o).alloc (zBytes n)) (w.heap.size + 1) n := by
  have := heap_alloc_new (w.alloc o) (zBytes n)
  simpa [IsZ] using this
theorem isZ_drew {w : World} {g n : Nat} (h : IsZ w g n) : IsZ w.drew g n := h
theorem isZ_alloc {w : World} {g n : Nat} (o : Obj) (h : IsZ w g n) : IsZ (w.alloc o) g n := by
  have hl : g < w.heap.size := by
    rcases Nat.lt_or_ge g w.heap.size with hl | hl
    · exact hl
    · unfold IsZ at h; rw [Array.getElem?_eq_none hl] at h; cases h
  exact (Below.heap_alloc w o g hl).trans h
theorem isZ_drew_iff (w : World) (g n : Nat) : IsZ w.drew g n ↔ IsZ w g n := Iff.rfl
theorem isZ_old2 (w : World) (o : Obj) (n : Nat) : IsZ ((w.alloc (zBytes n)).alloc o) w.heap.size n := isZ_alloc o (isZ_new w n)
theorem isZ_kept {x w w2 : World} {g n : Nat} (h : IsZ w g n) (hx : x.heap.size ≤ g) (hq : ∀ g, x.heap.size ≤ g → g < w.heap.size → w2.heap[g]? = w.heap[g]?) : IsZ w2 g n := by
  have hl : g < w.heap.size := by
    rcases Nat.lt_or_ge g w.heap.size with hl | hl
    · exact hl
    · unfold IsZ at h; rw [Array.getElem?_eq_none hl] at h; cases h
  exact (hq g hx hl).trans h
/-- Write that is done, in a world with new blocks. -/
theorem grown_write_yes {B : Nat} {x w : World} {b : Nat} {S : Dk} (h : DkIn B x b S) (k : Kp [] x w) (hB : B ≤ x.heap.size) (ht : Tab x) (p : Int) (s : ByteArray) (h0 : -9223372036854775808 ≤ p) (h1 : p ≤ 9223372036854775807)
    (he : S.werr p s.size = 0) (hs : (S.wrote p s).Small) (hg : 4 ≤ B) :
    Calls Tryd.prog 8 #[.pointer (some ⟨b, 0, none⟩), .int .i64 p, .string s] w fun e w2 => e = .returned .nilIface ∧ DkIn B w2 b (S.wrote p s) ∧ Up B x w2 ∧ ∀ g, x.heap.size ≤ g → g < w.heap.size → w2.heap[g]? = w.heap[g]? := by
  refine (top_write (h.top.kept k) (Nat.le_trans hB k.size) p s h0 h1 ((k.up0 B).tab ht hg) hs).mono ?_
  rintro e w2 ⟨⟨v, rfl, hv⟩, D, U, hq⟩
  rw [he] at hv
  rcases hv with ⟨rfl, _⟩ | ⟨_, h0⟩
  · exact ⟨rfl, D, (k.up0 B).trans U, hq⟩
  · exact absurd rfl h0
/-- Write that is refused, in a world with new blocks. -/
theorem grown_write_no {B : Nat} {x w : World} {b : Nat} {S : Dk} (h : DkIn B x b S) (k : Kp [] x w) (hB : B ≤ x.heap.size) (ht : Tab x) (p : Int) (s : ByteArray) (h0 : -9223372036854775808 ≤ p) (h1 : p ≤ 9223372036854775807)
    (why : Int) (he : S.werr p s.size = why) (hn : why ≠ 0) (hg : 4 ≤ B) :
    Calls Tryd.prog 8 #[.pointer (some ⟨b, 0, none⟩), .int .i64 p, .string s] w fun e w2 => (∃ t, e = .returned (.iface 65 (.agg #[.string t, .int .i64 why]))) ∧ DkIn B w2 b { S with dead := decide (why = 25) } ∧ Up B x w2 := by
  refine (use_write_no (h.kept k) (Nat.le_trans hB k.size) p s h0 h1 ((k.up0 B).tab ht hg) why he hn).mono ?_
  rintro e w2 ⟨hv, D, U⟩
  exact ⟨hv, D, (k.up0 B).trans U⟩

def z64 : ByteArray := zStr 64
theorem z64_size : z64.size = 64 := zStr_size 64
def limA (m : Nat) : Dk := (Dk.new m).wrote ((m : Int) - 1) sX
def limB (m : Nat) : Dk := { limA m with dead := decide ((14 : Int) = 25) }
def limC (m : Nat) : Dk := (limB m).wrote 0 z64
def limD (m : Nat) : Dk := { limC m with dead := decide ((13 : Int) = 25) }
def limE (m : Nat) : Dk := { limD m with dead := decide ((14 : Int) = 25) }
theorem sX1 : sX.size = 1 := rfl
theorem limA_err (m : Nat) (h : 1 ≤ m) : (Dk.new m).werr ((m : Int) - 1) sX.size = 0 := by
  rw [sX1]
  have h1 : ¬ ((m : Int) - 1 < 0 ∨ (m : Int) ≤ (m : Int) - 1) := by omega
  simp [Dk.werr, Dk.new, h1]
theorem limA_eq (m : Nat) (h : 1 ≤ m) : limA m = (Dk.new m).write ((m : Int) - 1).toNat (fillUp sX) := by
  unfold limA Dk.wrote
  rw [if_pos (limA_err m h)]
theorem limA_small (m : Nat) (h : 1 ≤ m) : (limA m).Small := by
  rw [limA_eq m h]
  exact ⟨by simp [Dk.write, Dk.new], by simp [Dk.write, Dk.new], by simp [Dk.write, Dk.new]⟩
theorem limB_err (m : Nat) (h : 1 ≤ m) : (limA m).werr (m : Int) sX.size = 14 := by
  rw [limA_eq m h]
  simp [Dk.werr, Dk.write, Dk.new]
theorem limC_err (m : Nat) (h : 1 ≤ m) : (limB m).werr 0 z64.size = 0 := by
  unfold limB
  rw [limA_eq m h, z64_size]
  have h1 : ¬ ((0 : Int) < 0 ∨ (m : Int) ≤ 0) := by omega
  simp [Dk.werr, Dk.write, Dk.new]
  omega
theorem limC_eq (m : Nat) (h : 1 ≤ m) : limC m = (limB m).write 0 (fillUp z64) := by
  unfold limC Dk.wrote
  rw [if_pos (limC_err m h)]
  rfl
theorem limC_small (m : Nat) (h : 1 ≤ m) : (limC m).Small := by
  rw [limC_eq m h]
  unfold limB
  rw [limA_eq m h]
  exact ⟨by simp [Dk.write, Dk.new], by simp [Dk.write, Dk.new], by simp [Dk.write, Dk.new]⟩
theorem limD_err (m n : Nat) (h : 1 ≤ m) (hn : 64 < n) : (limC m).werr 0 (zStr n).size = 13 := by
  rw [limC_eq m h]
  unfold limB
  rw [limA_eq m h, zStr_size]
  simp [Dk.werr, Dk.write, Dk.new, hn]
  omega
theorem limE_err (m : Nat) (h : 1 ≤ m) : (limD m).werr (-1) sX.size = 14 := by
  unfold limD
  rw [limC_eq m h]
  unfold limB
  rw [limA_eq m h]
  simp [Dk.werr, Dk.write, Dk.new]
theorem limE_all (m : Nat) (h : 1 ≤ m) : (limE m).n = m ∧ (limE m).writes = 2 ∧ (limE m).L.length = 2 := by
  unfold limE limD
  rw [limC_eq m h]
  unfold limB
  rw [limA_eq m h]
  exact ⟨rfl, rfl, rfl⟩
end Go.Proofs.YtiglipiofclmfaaDoor
