/- Texts filled up to a sector; rows that are handed over; a torn sector's bytes. -/
import Derived.Test.YtggnljfcdohkaaaGreatDoorDkUse
import Derived.Test.YtggnljfcdohkaaaGreatDoorRowsAt
import Derived.Laws.OwnMore
import Derived.Deep.RegionHeld3
import Derived.Deep.RegionLaw
import Derived.Deep.DrawnRows
import Derived.OrdersHeld
import Derived.RegionTactic
namespace Go.Proofs.YtggnljfcdohkaaaGreatDoor
open Go.RowKit

/-- A new row of bytes 0, and its text. -/
def zBytes (n : Nat) : Obj := .cells (madeCells #[.int .u8 0] n) 5
def zStr (n : Nat) : ByteArray := ⟨(List.replicate n (0 : UInt8)).toArray⟩
theorem zStr_size (n : Nat) : (zStr n).size = n := by
  show (List.replicate n (0 : UInt8)).toArray.size = n
  simp
theorem infoByte : (Tryz.prog.info? 5).map (fun i => (i.size, i.bytes, i.zero)) = some (1, 1, some (.int .u8 0)) := by kernel_rfl
theorem make_bytes (x : Int) (n : Nat) (hx : x = n) (hn : n ≤ 100000) (w : World) : (Instr.makeSlice 94 (.int .i64 x) (.int .i64 x)).run Tryz.prog w = .ok (.slice (some ⟨w.heap.size, 0, none⟩) n n) (w.alloc (zBytes n)) := by
  subst hx
  obtain ⟨i, hi, hx⟩ := Option.map_eq_some_iff.1 infoByte
  simp only [Prod.mk.injEq] at hx
  obtain ⟨h1, h2, h3⟩ := hx
  have := run_make (P := Tryz.prog) w 94 5 i (.int .u8 0) Tryz.underlying94 hi h3 .i64 .i64 n n (by omega) (by omega) (by rw [h2]; omega) (by omega)
  rw [this, h1]
  simp [zBytes, Value.cells]
theorem conv_bytes {w : World} {g n : Nat} (h : w.heap[g]? = some (zBytes n)) : (convert 94 9 (.slice (some ⟨g, 0, none⟩) n n)).run Tryz.prog w = .ok (.string (zStr n)) w := by
  have := run_convert_bytes_back (P := Tryz.prog) w 94 9 5 ⟨g, 0, none⟩ n (List.replicate n (0 : UInt8)) Tryz.underlying94 Tryz.underlying5 Tryz.underlying9 (fun j hj => by
    rw [Addr.add_mid, Nat.zero_add]
    simp only [List.length_replicate] at hj
    simp only [World.cell?, h, zBytes]
    rw [← Array.getElem?_toList, toList_madeCells_one, List.getElem?_replicate, if_pos hj, List.getElem_replicate]
    rfl)
  rw [List.length_replicate] at this
  exact this

theorem DkAt.foot_lt {w : World} {b bf bc : Nat} {lv : Value} {S : Dk} (h : DkAt w b bf bc lv S) : ∀ x ∈ foot b bf bc lv, x < w.heap.size := fun x hx => by
  simp only [foot, List.mem_cons, Option.mem_toList] at hx
  rcases hx with rfl | rfl | rfl | hx
  · exact h.lb
  · exact h.lf
  · exact h.lc
  · exact (h.ll x hx).2
/-- Block g is a row of n bytes 0. -/
def IsZ (w : World) (g n : Nat) : Prop := w.heap[g]? = some (zBytes n)
theorem isZ_new (w : World) (n : Nat) : IsZ (w.alloc (zBytes n)) w.heap.size n := heap_alloc_new w _
theorem isZ_new2 (w : World) (o : Obj) (n : Nat) : IsZ ((w.alloc o).alloc (zBytes n)) (w.heap.size + 1) n := by
  have := heap_alloc_new (w.alloc o) (zBytes n)
  simpa [IsZ] using this
theorem isZ_drew {w : World} {g n : Nat} (h : IsZ w g n) : IsZ w.drew g n := h
theorem isZ_alloc {w : World} {g n : Nat} (o : Obj) (h : IsZ w g n) : IsZ (w.alloc o) g n := by
  have hl : g < w.heap.size := by
    rcases Nat.lt_or_ge g w.heap.size with hl | hl
    · exact hl
    · unfold IsZ at h; rw [Array.getElem?_eq_none hl] at h; cases h
  exact (Below.heap_alloc w o g hl).trans h
theorem isZ_drew_iff (w : World) (g n : Nat) : IsZ w.drew g n ↔ IsZ w g n := Iff.rfl
theorem isZ_old2 (w : World) (o : Obj) (n : Nat) : IsZ ((w.alloc (zBytes n)).alloc o) w.heap.size n := isZ_alloc o (isZ_new w n)
theorem isZ_kept {x w w2 : World} {g n : Nat} (h : IsZ w g n) (hx : x.heap.size ≤ g) (hq : ∀ g, x.heap.size ≤ g → g < w.heap.size → w2.heap[g]? = w.heap[g]?) : IsZ w2 g n := by
  have hl : g < w.heap.size := by
    rcases Nat.lt_or_ge g w.heap.size with hl | hl
    · exact hl
    · unfold IsZ at h; rw [Array.getElem?_eq_none hl] at h; cases h
  exact (hq g hx hl).trans h
theorem fill_eq (s : ByteArray) : s ++ zStr (64 - s.size) = ⟨(fillUp s).toArray⟩ := by
  apply ByteArray.ext
  rw [ByteArray.data_append]
  unfold fillUp zStr
  apply Array.ext'
  simp

theorem torn_bytes (A B : List UInt8) (hA : A.length = 64) : (ByteArray.mk (torn A B true).toArray) = (ByteArray.mk B.toArray).extract 0 32 ++ (ByteArray.mk A.toArray).extract 32 64 := by
  apply ByteArray.ext
  rw [ByteArray.data_append, ByteArray.data_extract, ByteArray.data_extract]
  apply Array.ext'
  simp only [torn, if_true, Array.toList_append, Array.toList_extract, List.extract_eq_take_drop]
  rw [List.drop_zero, List.take_of_length_le (l := A.drop 32) (by rw [List.length_drop, hA]; decide)]
end Go.Proofs.YtggnljfcdohkaaaGreatDoor
/- Contracts of the reference's disk: filled, NewDisk. What its disk is in memory. -/
namespace Go.Proofs.YtggnljfcdohkaaaGreatDoor
open Go.RowKit

/-- The text of bytes. -/
def secS (l : List UInt8) : ByteArray := ⟨l.toArray⟩
abbrev strV (l : List UInt8) : Value := .string (secS l)
theorem filled_any (s : ByteArray) (hs : s.size ≤ 64) (w : World) :
    Calls Tryz.prog 28 #[.string s] w fun e w2 => e = .returned (strV (fillUp s)) ∧ Kp [] w w2 := by
  have hmk := make_bytes (64 - (s.size : Int)) (64 - s.size) (by omega) (by omega)
  have hmx : max 0 (64 - (s.size : Int)) = 64 - (s.size : Int) := by omega
  have HF := Lib.hid (fill_eq s)
  generalize hN : 64 - s.size = N at hmk HF
  have hs2 : ¬ 9223372036854775807 < s.size + (zStr N).size := by rw [zStr_size]; omega
  have hcv2 : ∀ (W : World) (g : Nat), IsZ W g N → (convert 94 9 (.slice (some ⟨g, 0, none⟩) N N)).run Tryz.prog W = .ok (.string (zStr N)) W := fun W g h => conv_bytes h
  have hz1 := isZ_new
  clear hN
  go_enter Tryz.func28, Tryz.ntmps28
  go_wp2
  go_ret
  exact ⟨congrArg (fun x => Ending.returned (Value.string x)) HF.out, (Kp.refl [] w).alloc _⟩

/-- The reference's disk in memory: block b; the sectors' row sv; the loose Writes' rows av, bv. -/
structure RfAt (w : World) (b : Nat) (sv av bv : Value) (S : Dk) : Prop where
  n2 : S.n ≤ 2000
  hb : 7 ≤ b
  ns : sv.ownBlock ≠ some b
  na : av.ownBlock ≠ some b
  nb : bv.ownBlock ≠ some b
  c0 : w.cell? ⟨b, 0, none⟩ = some sv
  c1 : w.cell? ⟨b, 1, none⟩ = some av
  c2 : w.cell? ⟨b, 2, none⟩ = some bv
  c3 : w.cell? ⟨b, 3, none⟩ = some (.int .i64 (S.writes : Int))
  c4 : w.cell? ⟨b, 4, none⟩ = some (.int .i64 (if S.cut then (S.left : Int) else -1))
  c5 : w.cell? ⟨b, 5, none⟩ = some (.bool S.dead)
  fr : ∀ o, w.frozen? ⟨b, o, none⟩ = false
  ss : w.ownsRow 7 9 1 sv S.n ((List.range S.n).map fun k => strV (S.F k))
  ats : w.ownsRow 7 3 1 av S.L.length (S.L.map fun x => .int .i64 (x.1 : Int))
  bts : w.ownsRow 7 9 1 bv S.L.length (S.L.map fun x => strV x.2)
  fl : ∀ k, k < S.n → (S.F k).length = 64
  lok : ∀ x ∈ S.L, x.1 < S.n ∧ x.2.length = 64
def rfoot (b : Nat) (sv av bv : Value) : List Nat := b :: (sv.ownBlock.toList ++ av.ownBlock.toList ++ bv.ownBlock.toList)
theorem owns_lt {w : World} {base e size n : Nat} {v : Value} {xs : List Value} (h : w.ownsRow base e size v n xs) : ∀ g, v.ownBlock = some g → base ≤ g ∧ g < w.heap.size := by
  intro g hg
  rcases h.2 with ⟨rfl, _⟩ | ⟨g2, cap, cur, rfl, hb, hh, _⟩
  · cases hg
  · obtain rfl : g2 = g := by simpa [Value.ownBlock] using hg
    refine ⟨hb, ?_⟩
    rcases Nat.lt_or_ge g2 w.heap.size with hlt | hge
    · exact hlt
    · rw [Array.getElem?_eq_none hge] at hh; cases hh
theorem owns_form {w : World} {base e size n : Nat} {v : Value} {xs : List Value} (h : w.ownsRow base e size v n xs) : ∃ a cap, v = .slice a n cap := by
  rcases h.2 with ⟨rfl, h0⟩ | ⟨g2, cap, cur, rfl, hb, hh, _⟩
  · exact ⟨none, 0, by rw [h0]⟩
  · exact ⟨_, cap, rfl⟩
/-- An element of a row of one-cell elements. -/
theorem owns_cell {w : World} {base e n cap : Nat} {a : Option Addr} {xs : List Value} (h : w.ownsRow base e 1 (.slice a n cap) n xs) (i : Nat) (hi : i < n) : ∃ g, a = some ⟨g, 0, none⟩ ∧ w.cell? ⟨g, i, none⟩ = xs[i]? ∧ w.frozen? ⟨g, i, none⟩ = false := by
  rcases h.2 with ⟨_, h0⟩ | ⟨g, cap2, cur, hv, hb, hg, h1, h2, h3, h4⟩
  · omega
  · injection hv with e1 e2 e3
    refine ⟨g, e1, ?_, by simp [World.frozen?, hg]⟩
    rw [← h4, List.getElem?_take, if_pos (by omega)]
    simp [World.cell?, hg]
theorem RfAt.lb {w : World} {b : Nat} {sv av bv : Value} {S : Dk} (h : RfAt w b sv av bv S) : b < w.heap.size := lt_of_cell h.c0
theorem RfAt.foot_lt {w : World} {b : Nat} {sv av bv : Value} {S : Dk} (h : RfAt w b sv av bv S) : ∀ x ∈ rfoot b sv av bv, 7 ≤ x ∧ x < w.heap.size := fun x hx => by
  simp only [rfoot, List.mem_cons, List.mem_append, Option.mem_toList] at hx
  rcases hx with rfl | (hx | hx) | hx
  · exact ⟨h.hb, h.lb⟩
  · exact owns_lt h.ss x hx
  · exact owns_lt h.ats x hx
  · exact owns_lt h.bts x hx
theorem RfAt.keep {f : List Nat} {w w2 : World} {b : Nat} {sv av bv : Value} {S : Dk} (h : RfAt w b sv av bv S) (k : Kp f w w2) (hd : ∀ x ∈ rfoot b sv av bv, x ∉ f) : RfAt w2 b sv av bv S := by
  have hb : b ∉ f := hd b (by simp [rfoot])
  have lb := h.lb
  exact { h with
    c0 := by rw [k.cell (p := ⟨b, 0, none⟩) lb hb]; exact h.c0
    c1 := by rw [k.cell (p := ⟨b, 1, none⟩) lb hb]; exact h.c1
    c2 := by rw [k.cell (p := ⟨b, 2, none⟩) lb hb]; exact h.c2
    c3 := by rw [k.cell (p := ⟨b, 3, none⟩) lb hb]; exact h.c3
    c4 := by rw [k.cell (p := ⟨b, 4, none⟩) lb hb]; exact h.c4
    c5 := by rw [k.cell (p := ⟨b, 5, none⟩) lb hb]; exact h.c5
    fr := fun o => by rw [k.frozen (p := ⟨b, o, none⟩) lb hb]; exact h.fr o
    ss := k.owns h.ss (fun g hg => hd g (by simp [rfoot, hg]))
    ats := k.owns h.ats (fun g hg => hd g (by simp [rfoot, hg]))
    bts := k.owns h.bts (fun g hg => hd g (by simp [rfoot, hg])) }
theorem RfAt.new {w w2 : World} {b : Nat} {sv av bv : Value} {S : Dk} (h : RfAt w b sv av bv S) (k : Kp [] w w2) : RfAt w2 b sv av bv S := h.keep k (by simp)
theorem infoStr : (Tryz.prog.info? 9).map (fun i => (i.zero, i.size, i.bytes)) = some (some (.string ByteArray.empty), 1, 16) := by kernel_rfl
theorem infoInt : (Tryz.prog.info? 3).map (fun i => (i.zero, i.size, i.bytes)) = some (some (.int .i64 0), 1, 8) := by kernel_rfl
theorem RfAt.nofoot_b {w : World} {b : Nat} {sv av bv : Value} {S : Dk} (h : RfAt w b sv av bv S) : (∀ g, sv.ownBlock = some g → g ∉ [b]) ∧ (∀ g, av.ownBlock = some g → g ∉ [b]) ∧ ∀ g, bv.ownBlock = some g → g ∉ [b] :=
  ⟨fun g hg hm => h.ns (by rw [hg, List.mem_singleton.1 hm]), fun g hg hm => h.na (by rw [hg, List.mem_singleton.1 hm]), fun g hg hm => h.nb (by rw [hg, List.mem_singleton.1 hm])⟩
/-- The sectors' row has been replaced. -/
theorem RfAt.setS {w : World} {b : Nat} {sv av bv : Value} {S : Dk} (h : RfAt w b sv av bv S) (n : Nat) (F : Nat → List UInt8) (sv2 : Value) (hn : n ≤ 2000) (hne : sv2.ownBlock ≠ some b)
    (hown : w.ownsRow 7 9 1 sv2 n ((List.range n).map fun k => strV (F k))) (hf : ∀ k, k < n → (F k).length = 64) (hl : S.n ≤ n) :
    RfAt (w.setCell ⟨b, 0, none⟩ sv2) b sv2 av bv { S with n := n, F := F } := by
  have kp := Kp.set1 w b 0 sv2
  obtain ⟨n1, n2, n3⟩ := h.nofoot_b
  exact { h with
    n2 := hn
    ns := hne
    c0 := cell_eq _ _ _ _ _ h.c0
    c1 := by rw [cell_ne _ _ _ _ _ (by decide)]; exact h.c1
    c2 := by rw [cell_ne _ _ _ _ _ (by decide)]; exact h.c2
    c3 := by rw [cell_ne _ _ _ _ _ (by decide)]; exact h.c3
    c4 := by rw [cell_ne _ _ _ _ _ (by decide)]; exact h.c4
    c5 := by rw [cell_ne _ _ _ _ _ (by decide)]; exact h.c5
    fr := fun o => by rw [frozen_setCell]; exact h.fr o
    ss := kp.owns hown (fun g hg hm => hne (by rw [hg, List.mem_singleton.1 hm]))
    ats := kp.owns h.ats n2
    bts := kp.owns h.bts n3
    fl := hf
    lok := fun x hx => ⟨by have := (h.lok x hx).1; show x.1 < n; omega, (h.lok x hx).2⟩ }

/-- The sectors' row has grown, and was stored. -/
theorem RfAt.growS {w w1 : World} {b : Nat} {sv : Value} {S : Dk} (h : RfAt w b sv (.slice none 0 0) (.slice none 0 0) S) (hL : S.L = []) (hg : w.grownBy w1 sv.ownBlock) (n : Nat) (F : Nat → List UInt8) (sv2 : Value) (hn : n ≤ 2000) (hne : sv2.ownBlock ≠ some b)
    (hown : w1.ownsRow 7 9 1 sv2 n ((List.range n).map fun k => strV (F k))) (hf : ∀ k, k < n → (F k).length = 64) :
    RfAt (w1.setCell ⟨b, 0, none⟩ sv2) b sv2 (.slice none 0 0) (.slice none 0 0) { S with n := n, F := F } := by
  have k1 : Kp sv.ownBlock.toList w w1 := (Kp.refl _ w).grown hg (fun k hk => .inl (by simp [hk]))
  have hb : b ∉ sv.ownBlock.toList := fun hm => h.ns (by simpa using hm)
  have lb := h.lb
  have c (o : Nat) : w1.cell? ⟨b, o, none⟩ = w.cell? ⟨b, o, none⟩ := k1.cell (p := ⟨b, o, none⟩) lb hb
  have kp := Kp.set1 w1 b 0 sv2
  exact { h with
    n2 := hn
    ns := hne
    c0 := cell_eq _ _ _ _ sv (by rw [c]; exact h.c0)
    c1 := by rw [cell_ne _ _ _ _ _ (by decide), c]; exact h.c1
    c2 := by rw [cell_ne _ _ _ _ _ (by decide), c]; exact h.c2
    c3 := by rw [cell_ne _ _ _ _ _ (by decide), c]; exact h.c3
    c4 := by rw [cell_ne _ _ _ _ _ (by decide), c]; exact h.c4
    c5 := by rw [cell_ne _ _ _ _ _ (by decide), c]; exact h.c5
    fr := fun o => by rw [frozen_setCell, k1.frozen (p := ⟨b, o, none⟩) lb hb]; exact h.fr o
    ss := kp.owns hown (fun g hg hm => hne (by rw [hg, List.mem_singleton.1 hm]))
    ats := by show World.ownsRow _ _ _ _ _ S.L.length _; rw [hL]; exact ⟨by simp, .inl ⟨rfl, rfl⟩⟩
    bts := by show World.ownsRow _ _ _ _ _ S.L.length _; rw [hL]; exact ⟨by simp, .inl ⟨rfl, rfl⟩⟩
    fl := hf
    lok := fun x hx => by
      have : x ∈ S.L := hx
      rw [hL] at this
      cases this }
theorem ref_start {W : World} {b : Nat} (hb : W.heap[b]? = some (.cells #[.slice none 0 0, .slice none 0 0, .slice none 0 0, .int .i64 0, .int .i64 (-1), .bool false] 56 (0, 0))) (hg : 7 ≤ b) :
    RfAt W b (.slice none 0 0) (.slice none 0 0) (.slice none 0 0) (Dk.new 0) :=
  { n2 := by decide
    hb := hg
    ns := fun h => by cases h
    na := fun h => by cases h
    nb := fun h => by cases h
    c0 := by simp [World.cell?, hb]
    c1 := by simp [World.cell?, hb]
    c2 := by simp [World.cell?, hb]
    c3 := by simp [World.cell?, hb, Dk.new]
    c4 := by simp [World.cell?, hb, Dk.new]
    c5 := by simp [World.cell?, hb, Dk.new]
    fr := fun o => by simp [World.frozen?, hb]
    ss := ⟨by simp [Dk.new], .inl ⟨rfl, rfl⟩⟩
    ats := ⟨by simp [Dk.new], .inl ⟨rfl, rfl⟩⟩
    bts := ⟨by simp [Dk.new], .inl ⟨rfl, rfl⟩⟩
    fl := fun k hk => by simp [Dk.new] at hk
    lok := fun x hx => by cases hx }

set_option maxHeartbeats 1600000 in
set_option maxRecDepth 20000 in
theorem newref_any (z : Int) (w : World) (hg : 7 ≤ w.heap.size) :
    Calls Tryz.prog 6 #[.int .i64 z] w fun e w2 => ∃ b sv, e = .returned (.pointer (some ⟨b, 0, none⟩)) ∧ RfAt w2 b sv (.slice none 0 0) (.slice none 0 0) (Dk.new (clampN z)) ∧ Kp [] w w2 ∧ ∀ x ∈ rfoot b sv (.slice none 0 0) (.slice none 0 0), w.heap.size ≤ x := by
  have hm : max 1 (min z 2000) = (clampN z : Int) := by unfold clampN; omega
  have hle := clampN_le z
  generalize clampN z = m at hm hle
  go_enter Tryz.func6, Tryz.ntmps6
  go_wp2_with fail
  obtain ⟨i0, hi0, hz0, hz1, hz2⟩ := info_parts infoStr
  have Hi0 := Lib.hid hi0
  clear hi0
  have R0 : RfAt (w.alloc (.cells #[.slice none 0 0, .slice none 0 0, .slice none 0 0, .int .i64 0, .int .i64 (-1), .bool false] 56)) w.heap.size (.slice none 0 0) (.slice none 0 0) (.slice none 0 0) (Dk.new 0) := ref_start (heap_alloc_new w _) hg
  have HR0 := Lib.hid R0
  have HK0 : Hid (Kp [] w (w.alloc (.cells #[.slice none 0 0, .slice none 0 0, .slice none 0 0, .int .i64 0, .int .i64 (-1), .bool false] 56))) := (Kp.refl [] w).alloc _
  have HW := Lib.hid (Nat.le_refl w.heap.size)
  clear R0
  generalize w.alloc (.cells #[.slice none 0 0, .slice none 0 0, .slice none 0 0, .int .i64 0, .int .i64 (-1), .bool false] 56) = w0 at *
  generalize hb0 : w.heap.size = b at *
  go_loopw [4] (fun i wr => ∃ (k : Nat) (sv : Value), k ≤ m ∧ i = .int .i64 k ∧ RfAt wr b sv (.slice none 0 0) (.slice none 0 0) (Dk.new k) ∧ Kp [] w wr ∧ ∀ g, sv.ownBlock = some g → b ≤ g) (fun i _ => m - (intOf i).toNat)
  case atStart => exact ⟨0, .slice none 0 0, Nat.zero_le _, rfl, HR0.out, HK0.out, fun g h => by cases h⟩
  case round =>
    clear HR0 HK0
    obtain ⟨k, sv, hk, rfl, R, K, hsb⟩ := hrel
    have HR := Lib.hid R
    have HK := Lib.hid K
    have Hsb := Lib.hid hsb
    have c0 := R.c0
    have f0 := R.fr 0
    have hown := R.ss
    have hlb := R.lb
    have hbs : some b ≠ sv.ownBlock := fun e => R.ns e.symm
    have hg4 : 7 ≤ wr.heap.size := by have := R.hb; omega
    clear R K hsb
    by_cases hlt : k < m
    · have hn1 : k + 1 ≤ maxLen := by unfold maxLen; omega
      have hn2 : (k + 1) * 16 ≤ 140737488355328 := by omega
      go_wp2_with fail
      go_region_law (first | (refine step_append_lies _ (by rfl) _ _ _ (by rfl) 7 9 i0 _ 1 16 Tryz.underlying34 Hi0.out hz0 hz1 hz2 rfl (by omega) sv k ((List.range k).map fun j => strV ((Dk.new k).F j)) (by rfl) ((kq.owns hown (fun g _ hm => by cases hm)).alloc _) ⟨x1.heap.size, 0, none⟩ 1 1 [strV zSec] (by rfl) (by rfl) (World.news_of_block (cs := #[strV zSec]) (t := 9) (fr := (0, 0)) (heap_alloc_new x1 _)) (by intro u hu; simp at hu; subst hu; rfl) (by omega) hn1 hn2 (by have := kq.size; simp; omega) (x1.heap.size + 1) (by simp) ?_; intro gg cap w1 hown1 hgrow hat hlt2; have hq2 : w1.cell? ⟨b, 0, none⟩ = some sv := (hgrow.cell_far ⟨b, 0, none⟩ (((Kp.refl [] x1).alloc _).lt hl1) hbs).trans ((((Kp.refl [] x1).alloc _).cell0 hl1).trans hc1); have hq3 : w1.frozen? ⟨b, 0, none⟩ = false := (hgrow.frozen_far ⟨b, 0, none⟩ (((Kp.refl [] x1).alloc _).lt hl1) hbs).trans ((((Kp.refl [] x1).alloc _).frozen0 hl1).trans hf1)) | (go_simp; go_at_call 28; refine (filled_any _ (by decide) _).mono ?_; rintro e x1 ⟨rfl, kq⟩; rw [show fillUp { data := #[] } = zSec from rfl]; have hl1 : b < x1.heap.size := kq.lt (by (first | (simp; done) | (simp; omega))); have hc1 : x1.cell? ⟨b, 0, none⟩ = some sv := (kq.cell0 (by (first | (simp; done) | (simp; omega)))).trans c0; have hf1 : x1.frozen? ⟨b, 0, none⟩ = false := (kq.frozen0 (by (first | (simp; done) | (simp; omega)))).trans f0))
      all_goals
        go_wp2
        go_roundw
        case rel =>
          have kx : Kp [] wr x1 := by first | exact kq | exact ((Kp.refl [] wr).drew).trans kq
          have gb : gg ≠ b := by
            rcases hat with h | h
            · exact fun e => hbs (by rw [h, e])
            · omega
          have gB : b ≤ gg := by
            rcases hat with h | h
            · exact Hsb.out gg h
            · omega
          refine ⟨k + 1, .slice (some ⟨gg, 0, none⟩) (k + 1) cap, by omega, by go_num, ?_, ?_, fun g hg => by
            obtain rfl : gg = g := by simpa [Value.ownBlock] using hg
            exact gB⟩
          · exact ((HR.out.new kx).new ((Kp.refl [] x1).alloc (.cells #[strV zSec] 9))).growS rfl hgrow (k + 1) (fun _ => zSec) _ (by omega) (fun h => gb (by simpa [Value.ownBlock] using h)) (by
              have := hown1
              rw [List.range_succ, List.map_append]
              exact this) (fun _ _ => rfl)
          · exact ((((HK.out.trans kx).alloc (.cells #[strV zSec] 9)).grown hgrow (fun g hg => .inr (by rw [hb0]; exact Hsb.out g hg))).setCell (p := ⟨b, 0, none⟩) (.inr (by rw [hb0]; exact Nat.le_refl _)) _)
        case measure => simp [intOf]; omega
    · have hkm : k = m := by omega
      subst hkm
      go_wp2
      go_ret
      exact ⟨b, sv, rfl, HR.out, HK.out, fun x hx => by
        simp only [rfoot, Value.ownBlock, Option.toList_none, List.append_nil, List.mem_cons, Option.mem_toList] at hx
        rw [hb0]
        rcases hx with rfl | hx
        · exact Nat.le_refl _
        · exact Hsb.out x hx⟩
end Go.Proofs.YtggnljfcdohkaaaGreatDoor
/- A law for 'append([]T(nil), xs...)' at a step of a region that draws its order: a fresh copy, or nil. -/
namespace Go.Proofs.YtggnljfcdohkaaaGreatDoor
open Go.RowKit

theorem run_append_none {P : Program} (w : World) (t ty e : TypeId) (a : Option Addr) (c : Nat) (ht : P.underlying t = some (.slice e)) (hi : ((P.info? e).map (·.size)).isSome = true) :
    (Builtin.append_ #[t, t] ty #[.slice none 0 0, .slice a 0 c]).run P w = .ok (.slice none 0 0) w := by
  cases hq : P.info? e with
  | none => simp [hq] at hi
  | some i =>
    cases a <;> simp [Builtin.append_, run_underlying ht, Builtin.lenOf, Builtin.firstCells, sizeOf, typeInfo, hq, loadCells, loadCellsFrom]
theorem step_append_copy {P : Program} {ops : Array Oper} {o : Oper} {a : Act} {w : World} {K : Act → World → Prop} {Q : Exit → Act → World → Prop} {E : Prop} (hgd : o.guard = none) (s x : Operand) (t : TypeId)
    (ho : o.op = .call { callee := .builtin .append, args := #[s, x], argTypes := #[t, t] })
    (base : Nat) (e : TypeId) (i : TypeInfo) (z : Value) (bytes : Nat) (ht : P.underlying t = some (.slice e)) (hi : P.info? e = some i) (hz : i.zero = some z)
    (hsize : i.size = 1) (hby : i.bytes = bytes) (hzs : z.cells.size = 1)
    (hs : a.eval s = .slice none 0 0) (v : Value) (n : Nat) (xs : List Value) (hx : a.eval x = v) (hown : w.ownsRow base e 1 v n xs) (h1 : ∀ u ∈ xs, u.oneCell' = true)
    (h63 : n ≤ maxLen) (hbytes : n * bytes ≤ 140737488355328) (hbase : base ≤ w.heap.size)
    (h : ∀ v2 w2, w2.ownsRow base e 1 v2 n xs → Kp [] w w2 → (∀ g, v2.ownBlock = some g → w.heap.size ≤ g) → K (a.put o.dst v2) w2) :
    if Region.wanted o (yielded ops a.tmps) = true then Oper.wp P o a w K Q else E := by
  have hw : Region.wanted o (yielded ops a.tmps) = true := by simp [Region.wanted, hgd]
  have hlen : xs.length = n := by have := hown.1; omega
  rcases Nat.eq_zero_or_pos n with h0 | hp
  · subst h0
    have hxs : xs = [] := List.eq_nil_of_length_eq_zero hlen
    subst hxs
    obtain ⟨ad, c, rfl⟩ := owns_form hown
    rw [if_pos hw]
    have hr := run_append_none (P := P) w t o.type e ad c ht (by rw [hi]; rfl)
    unfold Oper.wp execOp
    simp only [ho, resolve, invoke, builtin, Sem.run_bind, Sem.run_pure, Result.andThen_ok, List.map_toArray, List.map_cons, List.map_nil, hs, hx, hr]
    exact h (.slice none 0 0) w ⟨rfl, .inl ⟨rfl, rfl⟩⟩ (Kp.refl [] w) (fun g hg => by cases hg)
  · obtain ⟨ad, c, rfl⟩ := owns_form hown
    obtain ⟨g, hg, _, _⟩ := owns_cell hown 0 hp
    subst hg
    refine step_append_lies w hgd s x t ho base e i z 1 bytes ht hi hz hsize hby hzs (by decide) (.slice none 0 0) 0 [] hs ⟨rfl, .inl ⟨rfl, rfl⟩⟩ ⟨g, 0, none⟩ n c xs hx (by omega) (fun j u hu => ?_) h1 hp (by omega) (by simpa using hbytes) hbase w.heap.size rfl ?_
    · have hj : j < n := by
        have := (List.getElem?_eq_some_iff.1 hu).1
        omega
      obtain ⟨g2, e2, hc, _⟩ := owns_cell hown j hj
      injection e2 with e2
      injection e2 with e2
      subst e2
      rw [Addr.add_mid, Nat.zero_add, hc]
      exact hu
    · intro g2 cap w2 hown2 hgrow hat _
      refine Eq.mp (congrArg (fun q => K (a.put o.dst (.slice (some ⟨g2, 0, none⟩) q cap)) w2) (Nat.zero_add n).symm) (h _ w2 (by simpa using hown2) ((Kp.refl [] w).grown hgrow (fun k hk => by cases hk)) (fun g3 hg3 => ?_))
      obtain rfl : g2 = g3 := by simpa [Value.ownBlock] using hg3
      rcases hat with hat | hat
      · cases hat
      · omega
end Go.Proofs.YtggnljfcdohkaaaGreatDoor
/- Regions that draw their order: a load may be taken first where nobody writes its cell before it has come up. After the guide's own law on loads; here the condition need not hold behind those operations that wait for the load. -/
namespace Go.Proofs.YtggnljfcdohkaaaGreatDoor
open Go

section
variable {P : Program} {ops : Array Oper} {Q : Exit → Act → World → Prop} {md : Region.Mode} {S : World → Prop} {m : Nat}

/-- Whatever order is picked from here on; S holds behind every operation, as long as number m has not come up. -/
def wpAnyM (P : Program) (md : Region.Mode) (ops : Array Oper) (Q : Exit → Act → World → Prop) (S : World → Prop) (m : Nat) : Nat → Array Bool → Act → World → Prop
  | 0, listed, a, w => Region.ready md ops listed = [] ∧ Q .normal a w
  | fuel + 1, listed, a, w =>
    (Region.ready md ops listed = [] → Q .normal a w) ∧
    ∀ i ∈ Region.ready md ops listed, wpOp P ops Q i (fun a2 w2 => ((listed.setIfInBounds i true).getD m true = false → S w2) ∧ wpAnyM P md ops Q S m fuel (listed.setIfInBounds i true) a2 w2) a w

theorem wpAny_of_M : ∀ (fuel : Nat) (listed : Array Bool) (a : Act) (w : World), wpAnyM P md ops Q S m fuel listed a w → wpAny P md ops Q fuel listed a w
  | 0, _, _, _, h => h
  | fuel + 1, _, _, _, h => ⟨h.1, fun i hi => wpOp_mono (fun a2 w2 h2 => wpAny_of_M fuel _ a2 w2 h2.2) (h.2 i hi)⟩

theorem wpAnyM_firstY {i : Nat} {oi : Oper} {v : Value} (hi : ops[i]? = some oi) (hsel : ∀ (j : Nat) (o : Oper) cs b, ops[j]? = some o → o.op ≠ .select cs b)
    (hQ : ∀ c a w, Q (.panic c) (a.put oi.dst v) w → Q (.panic c) a w) (him : i ≠ m)  :
    ∀ (fuel : Nat) (listed : Array Bool) (a : Act) (w : World),
      (∀ j oj, ops[j]? = some oj → j ≠ i → listed.getD j true = false → (∀ e ∈ oj.after, Region.binds md e = true → e.on ≠ i) → oi.apart ops oj = true) →
      i ∈ Region.ready md ops listed → YieldsIf P ops (fun _ => True) oi v a → (listed.getD m true = false → S w) →
      wpAnyM P md ops Q S m fuel (listed.setIfInBounds i true) (a.put oi.dst v) w → wpAnyM P md ops Q S m (fuel + 1) listed a w := by
  intro fuel
  induction fuel with
  | zero =>
    intro listed a w _ hr hy hS H
    refine ⟨fun h => (by rw [h] at hr; cases hr), fun j hj => ?_⟩
    by_cases hji : j = i
    · subst hji; exact hy.wpOp hi trivial ⟨fun h => hS (by rw [getD_set_ne true him] at h; exact h), H⟩
    · have := ready_mono hj hji
      rw [H.1] at this
      cases this
  | succ fuel ih =>
    intro listed a w hfree hr hy hS H
    refine ⟨fun h => (by rw [h] at hr; cases hr), fun j hj => ?_⟩
    by_cases hji : j = i
    · subst hji; exact hy.wpOp hi trivial ⟨fun h => hS (by rw [getD_set_ne true him] at h; exact h), H⟩
    · have h1 := H.2 j (ready_mono hj hji)
      obtain ⟨hjun, oj, hoj, hall⟩ := mem_ready.1 hj
      have hnot : ∀ e ∈ oj.after, Region.binds md e = true → e.on ≠ i := fun e he hb heq => by
        have h1 := hall e he hb
        have h0 := (mem_ready.1 hr).1
        rw [heq] at h1
        rcases Nat.lt_or_ge i listed.size with h2 | h2
        · simp [h2] at h0 h1; rw [h0] at h1; cases h1
        · simp [Array.getElem?_eq_none h2] at h1
      have h2 := wpOp_putIf hoj (hfree j oj hoj hji hjun hnot) (fun cs b => hsel i oi cs b hi) (fun cs b => hsel j oj cs b hoj) hQ hy h1
      have hfree2 : ∀ k ok, ops[k]? = some ok → k ≠ i → (listed.setIfInBounds j true).getD k true = false →
          (∀ e ∈ ok.after, Region.binds md e = true → e.on ≠ i) → oi.apart ops ok = true := fun k ok hk hki hun hno => by
        refine hfree k ok hk hki ?_ hno
        by_cases hjk : j = k
        · subst hjk; exact hjun
        · rw [getD_set_ne true hjk] at hun; exact hun
      have hs2 : ∀ w2, (((listed.setIfInBounds i true).setIfInBounds j true).getD m true = false → S w2) → ((listed.setIfInBounds j true).getD m true = false → S w2) := fun w2 q h => q (by rw [Array.setIfInBounds_comm _ _ (Ne.symm hji), getD_set_ne true him]; exact h)
      refine wpOp_mono (fun a2 w2 h3 => ⟨hs2 w2 h3.2.1, ih (listed.setIfInBounds j true) a2 w2 hfree2 (ready_mono hr (Ne.symm hji)) h3.1 (hs2 w2 h3.2.1) ?_⟩) h2
      rw [Array.setIfInBounds_comm _ _ hji]
      exact h3.2.2
theorem wpAnyM_firstL {i : Nat} {oi : Oper} {v : Value} (hi : ops[i]? = some oi) (hsel : ∀ (j : Nat) (o : Oper) cs b, ops[j]? = some o → o.op ≠ .select cs b)
    (hQ : ∀ c a w, Q (.panic c) (a.put oi.dst v) w → Q (.panic c) a w) (him : i ≠ m) (hmw : ∀ oj, ops[m]? = some oj → ∃ e ∈ oj.after, Region.binds md e = true ∧ e.on = i) :
    ∀ (fuel : Nat) (listed : Array Bool) (a : Act) (w : World),
      (∀ j oj, ops[j]? = some oj → j ≠ i → listed.getD j true = false → (∀ e ∈ oj.after, Region.binds md e = true → e.on ≠ i) → oi.apart ops oj = true) →
      i ∈ Region.ready md ops listed → YieldsIf P ops S oi v a → listed.getD m true = false → S w →
      wpAnyM P md ops Q S m fuel (listed.setIfInBounds i true) (a.put oi.dst v) w → wpAnyM P md ops Q S m (fuel + 1) listed a w := by
  intro fuel
  induction fuel with
  | zero =>
    intro listed a w _ hr hy hm0 hS H
    refine ⟨fun h => (by rw [h] at hr; cases hr), fun j hj => ?_⟩
    by_cases hji : j = i
    · subst hji; exact hy.wpOp hi hS ⟨fun _ => hS, H⟩
    · have := ready_mono hj hji
      rw [H.1] at this
      cases this
  | succ fuel ih =>
    intro listed a w hfree hr hy hm0 hS H
    refine ⟨fun h => (by rw [h] at hr; cases hr), fun j hj => ?_⟩
    by_cases hji : j = i
    · subst hji; exact hy.wpOp hi hS ⟨fun _ => hS, H⟩
    · have h1 := H.2 j (ready_mono hj hji)
      obtain ⟨hjun, oj, hoj, hall⟩ := mem_ready.1 hj
      have hnot : ∀ e ∈ oj.after, Region.binds md e = true → e.on ≠ i := fun e he hb heq => by
        have h1 := hall e he hb
        have h0 := (mem_ready.1 hr).1
        rw [heq] at h1
        rcases Nat.lt_or_ge i listed.size with h2 | h2
        · simp [h2] at h0 h1; rw [h0] at h1; cases h1
        · simp [Array.getElem?_eq_none h2] at h1
      have h2 := wpOp_putIf hoj (hfree j oj hoj hji hjun hnot) (fun cs b => hsel i oi cs b hi) (fun cs b => hsel j oj cs b hoj) hQ hy h1
      have hfree2 : ∀ k ok, ops[k]? = some ok → k ≠ i → (listed.setIfInBounds j true).getD k true = false →
          (∀ e ∈ ok.after, Region.binds md e = true → e.on ≠ i) → oi.apart ops ok = true := fun k ok hk hki hun hno => by
        refine hfree k ok hk hki ?_ hno
        by_cases hjk : j = k
        · subst hjk; exact hjun
        · rw [getD_set_ne true hjk] at hun; exact hun
      have hjm : j ≠ m := fun e => by
        subst e
        obtain ⟨e2, he2, hb2, hon⟩ := hmw oj hoj
        exact hnot e2 he2 hb2 hon
      have hm2 : (listed.setIfInBounds j true).getD m true = false := by rw [getD_set_ne true hjm]; exact hm0
      have hs2 : ∀ w2, (((listed.setIfInBounds i true).setIfInBounds j true).getD m true = false → S w2) → S w2 := fun w2 q => q (by rw [Array.setIfInBounds_comm _ _ (Ne.symm hji), getD_set_ne true him]; exact hm2)
      refine wpOp_mono (fun a2 w2 h3 => ⟨fun _ => hs2 w2 h3.2.1, ih (listed.setIfInBounds j true) a2 w2 hfree2 (ready_mono hr (Ne.symm hji)) h3.1 hm2 (hs2 w2 h3.2.1) ?_⟩) h2
      rw [Array.setIfInBounds_comm _ _ hji]
      exact h3.2.2
/-! ### The moves of a walk -/
theorem wpAnyM_takeY {i : Nat} {oi : Oper} {v : Value} {fuel : Nat} {listed : Array Bool} {a : Act} {w : World} (hi : ops[i]? = some oi)
    (hs : Region.noSelect ops = true) (hf : Region.free md ops listed i = true) (hr : (Region.ready md ops listed).contains i = true)
    (hQ : ∀ c a w, Q (.panic c) (a.put oi.dst v) w → Q (.panic c) a w) (him : i ≠ m) (hy : Yields P ops oi v a) (hS : listed.getD m true = false → S w)
    (h : wpAnyM P md ops Q S m fuel (listed.setIfInBounds i true) (a.put oi.dst v) w) : wpAnyM P md ops Q S m (fuel + 1) listed a w :=
  wpAnyM_firstY hi (Region.noSelect_spec hs) hQ him fuel listed a w (Region.free_spec hi hf) (by simpa using hr) hy.yieldsIf hS h
/-- Number m waits for number i. -/
def waitsB (md : Region.Mode) (ops : Array Oper) (m i : Nat) : Bool :=
  match ops[m]? with
  | some o => o.after.any fun e => Region.binds md e && e.on == i
  | none => false
theorem waitsB_spec {m i : Nat} (h : waitsB md ops m i = true) : ∀ oj, ops[m]? = some oj → ∃ e ∈ oj.after, Region.binds md e = true ∧ e.on = i := by
  intro oj hj
  unfold waitsB at h
  rw [hj] at h
  obtain ⟨e, he, hb⟩ := Array.any_eq_true'.1 h
  simp only [Bool.and_eq_true, beq_iff_eq] at hb
  exact ⟨e, he, hb.1, hb.2⟩
theorem wpAnyM_takeL {i : Nat} {oi : Oper} {v : Value} {fuel : Nat} {listed : Array Bool} {a : Act} {w : World} (hi : ops[i]? = some oi)
    (hs : Region.noSelect ops = true) (hf : Region.free md ops listed i = true) (hr : (Region.ready md ops listed).contains i = true)
    (hQ : ∀ c a w, Q (.panic c) (a.put oi.dst v) w → Q (.panic c) a w) (him : i ≠ m) (hmw : waitsB md ops m i = true) (hm0 : listed.getD m true = false) (hy : YieldsIf P ops S oi v a) (hS : S w)
    (h : wpAnyM P md ops Q S m fuel (listed.setIfInBounds i true) (a.put oi.dst v) w) : wpAnyM P md ops Q S m (fuel + 1) listed a w :=
  wpAnyM_firstL hi (Region.noSelect_spec hs) hQ him (waitsB_spec hmw) fuel listed a w (Region.free_spec hi hf) (by simpa using hr) hy hm0 hS h
theorem wpAnyM_all {rs : List Nat} {fuel : Nat} {listed : Array Bool} {a : Act} {w : World} (hr : Region.ready md ops listed = rs) (hne : rs ≠ [])
    (h : ∀ i ∈ rs, wpOp P ops Q i (fun a2 w2 => ((listed.setIfInBounds i true).getD m true = false → S w2) ∧ wpAnyM P md ops Q S m fuel (listed.setIfInBounds i true) a2 w2) a w) : wpAnyM P md ops Q S m (fuel + 1) listed a w :=
  ⟨fun h0 => absurd (hr ▸ h0) hne, hr ▸ h⟩
/-- One operation alone may come up. -/
theorem wpAnyM_one {i : Nat} {o : Oper} {fuel : Nat} {listed : Array Bool} {a : Act} {w : World} (hr : Region.ready md ops listed = [i]) (ho : ops[i]? = some o)
    (h : ∀ K : Act → World → Prop, (∀ a2 w2, ((listed.setIfInBounds i true).getD m true = false → S w2) → wpAnyM P md ops Q S m fuel (listed.setIfInBounds i true) a2 w2 → K a2 w2) → if Region.wanted o (yielded ops a.tmps) = true then Oper.wp P o a w K Q else K (a.put o.dst undef) w) :
    wpAnyM P md ops Q S m (fuel + 1) listed a w :=
  wpAnyM_all hr (by simp) (fun j hj => by
    obtain rfl := List.mem_singleton.1 hj
    exact wpOp_step ho (fun K hK => h K (fun a2 w2 h1 h2 => hK a2 w2 ⟨h1, h2⟩)))
/-- Two may. -/
theorem wpAnyM_two {i j : Nat} {o p : Oper} {fuel : Nat} {listed : Array Bool} {a : Act} {w : World} (hr : Region.ready md ops listed = [i, j]) (ho : ops[i]? = some o) (hp : ops[j]? = some p)
    (h : ∀ K : Act → World → Prop, (∀ a2 w2, ((listed.setIfInBounds i true).getD m true = false → S w2) → wpAnyM P md ops Q S m fuel (listed.setIfInBounds i true) a2 w2 → K a2 w2) → if Region.wanted o (yielded ops a.tmps) = true then Oper.wp P o a w K Q else K (a.put o.dst undef) w)
    (h2 : ∀ K : Act → World → Prop, (∀ a2 w2, ((listed.setIfInBounds j true).getD m true = false → S w2) → wpAnyM P md ops Q S m fuel (listed.setIfInBounds j true) a2 w2 → K a2 w2) → if Region.wanted p (yielded ops a.tmps) = true then Oper.wp P p a w K Q else K (a.put p.dst undef) w) :
    wpAnyM P md ops Q S m (fuel + 1) listed a w :=
  wpAnyM_all hr (by simp) (fun q hq => by
    rcases List.mem_cons.1 hq with rfl | hq
    · exact wpOp_step ho (fun K hK => h K (fun a2 w2 h1 h2 => hK a2 w2 ⟨h1, h2⟩))
    · obtain rfl := List.mem_singleton.1 hq
      exact wpOp_step hp (fun K hK => h2 K (fun a2 w2 h1 h2 => hK a2 w2 ⟨h1, h2⟩)))
theorem wpAnyM_done {listed : Array Bool} {a : Act} {w : World} (hr : Region.ready md ops listed = []) (h : Q .normal a w) : ∀ fuel, wpAnyM P md ops Q S m fuel listed a w
  | 0 => ⟨hr, h⟩
  | _ + 1 => ⟨fun _ => h, by rw [hr]; simp⟩
/-- The beginning. -/
theorem wp_region_M {id : Nat} {a : Act} {w : World} (S : World → Prop) (m : Nat) (hm : P.follows .mixedOrders = true)
    (h : wpAnyM P .any ops Q S m ops.size (Array.replicate ops.size false) a w.drew) : (Code.region id ops true).wp P Q a w :=
  wp_region_any hm (wpAny_of_M _ _ _ _ h)
end
end Go.Proofs.YtggnljfcdohkaaaGreatDoor
