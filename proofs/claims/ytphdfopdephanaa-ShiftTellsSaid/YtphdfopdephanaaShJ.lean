/- Contract of at: what it makes of a place. -/
import Derived.Test.YtphdfopdephanaaShI
namespace Go.Proofs.Ytphdfopdephanaa
open Go.RowKit Go.ChangeMaps

/-- What was done ahead of a call that makes a place's answer. -/
theorem AtPost.ahead {w w1 : World} {A : Nat} {X : List Nat} {m : Mv} {ta : Option Addr} {tn tc : Nat} {ps : List (Option Addr)} {M : Option Nat} {O : List Key} {r : Tm} (K : Kp [] w w1) {e : Ending} {w2 : World} (h : AtPost w1 A X m ta tn tc ps M O r e w2) : AtPost w A X m ta tn tc ps M O r e w2 := by
  obtain ⟨q, M2, nd2, h1, h2, h3, h4, h5⟩ := h
  refine ⟨q, M2, nd2, h1, (K.mono (fun _ h => by cases h)).trans h2, ?_, h4, h5⟩
  rcases h3 with h3 | ⟨h3, b, h6, h7⟩
  · exact .inl h3
  · exact .inr ⟨h3, b, h6, Nat.le_trans K.size h7⟩
/-- Add, whatever parts there are. -/
theorem add_any {w : World} {A : Nat} {X : List Nat} {m : Mv} {ta : Option Addr} {tn tc : Nat} {ps : List (Option Addr)} {nd : Int} {M : Option Nat} {O : List Key} (h : Env w A X m ta tn tc ps nd M O)
    {t0 : Tm} {g0 : Nat} (ht0 : TmP w (fun b => b ∉ X) t0 (some ⟨g0, 0, none⟩)) (ar li : Int) (hc : Clr w X O li t0) (har : 0 ≤ ar) (k n : Int) (s : ByteArray) {a b c : Tm} {pa pb pc : Option Addr}
    (ha : TmP w (fun b => b ∉ X) a pa) (hb : TmP w (fun b => b ∉ X) b pb) (hcc : TmP w (fun b => b ∉ X) c pc) (sa : a.sz < t0.sz) (sb : b.sz < t0.sz) (sc : c.sz < t0.sz)
    (ca : CAt m li a) (cb : CAt m li b) (cc : CAt m li c) (la : ar + a.ht ≤ 131072) (lb : ar + 1 + b.ht ≤ 131072) (lc : ar + 1 + c.ht ≤ 131072)
    (hr : res m li ar t0 = .node k n s (res m li ar a) (res m li (ar + hB k) b) (res m li (ar + hC k) c)) :
    Calls Try.prog 48 #[.pointer (some ⟨A, 0, none⟩), pv (some ⟨g0, 0, none⟩) ar li, nv k n s pa pb pc] w (AtPost w A X m ta tn tc ps M O (res m li ar t0)) := by
  by_cases hne : pa = none ∧ pb = none ∧ pc = none
  · obtain ⟨rfl, rfl, rfl⟩ := hne
    have na : a = .nil := by
      cases a with
      | nil => rfl
      | node _ _ _ _ _ _ => obtain ⟨_, _, _, _, h1, _⟩ := ha; cases h1
    have nb : b = .nil := by
      cases b with
      | nil => rfl
      | node _ _ _ _ _ _ => obtain ⟨_, _, _, _, h1, _⟩ := hb; cases h1
    have nc : c = .nil := by
      cases c with
      | nil => rfl
      | node _ _ _ _ _ _ => obtain ⟨_, _, _, _, h1, _⟩ := hcc; cases h1
    subst na nb nc
    have hnil : ∀ d, res m li d .nil = .nil := fun d => by unfold res; split <;> rfl
    rw [hnil, hnil, hnil] at hr
    rw [hr]
    exact add_leaf h _ ar li k n s
  · exact add_node h ht0 ar li hc har k n s ha hb hcc sa sb sc ca cb cc la lb lc hr hne
/-- A move as it is told for a place. -/
def MvCalls (w : World) (A : Nat) (p : Option Addr) (ar li : Int) (pfr pby : Int) (pta : Option Addr) (ptn ptc : Nat) (pbd : Bool) (pnm : ByteArray) : Prop :=
  ∀ W, Kp [] w W → Calls Try.prog 44 #[.pointer (some ⟨A, 0, none⟩), .agg #[.pointer p, .int .i64 ar, .int .i64 li]] W fun e w2 => e = .returned (.agg #[.int .i64 pfr, .int .i64 pby, .slice pta ptn ptc, .bool pbd, .string pnm]) ∧ Kp [] W w2
theorem PlAt.ne {w : World} {T B : Nat} {p : Option Addr} {ar li k n : Int} {s : ByteArray} {pa pb pc : Option Addr} (h : PlAt w T p ar li) (N : NdAt w B k n s pa pb pc) : T ≠ B := fun e => by
  unfold PlAt plO at h
  unfold NdAt at N
  rw [e, N] at h
  injection h with h1
  injection h1 with h1
  have := congrArg Array.size h1
  simp at this
set_option maxHeartbeats 6400000 in
theorem at_bound {w : World} {A g : Nat} {ar li pfr pby : Int} {pta : Option Addr} {ptn ptc : Nat} {pbd : Bool} {pnm : ByteArray} (hm : MvCalls w A (some ⟨g, 0, none⟩) ar li pfr pby pta ptn ptc pbd pnm)
    {k n : Int} {s : ByteArray} {pa pb pc : Option Addr} (N : NdAt w g k n s pa pb pc) (har2 : ar ≤ 131072) (hb : (pbd && decide (k = 3) && decide (s = pnm) && decide (n = 0)) = true)
    {R : Ending → World → Prop} (hadd : ∀ W, Kp [] w W → Calls Try.prog 48 #[.pointer (some ⟨A, 0, none⟩), .agg #[.pointer (some ⟨g, 0, none⟩), .int .i64 ar, .int .i64 li], .agg #[.int .i64 2, .int .i64 ar, .string ⟨#[]⟩, .pointer none, .pointer none, .pointer none]] W (fun e w2 => ∃ q, e = .returned (.pointer q) ∧ R e w2)) :
    Calls Try.prog 40 #[.pointer (some ⟨A, 0, none⟩), .agg #[.pointer (some ⟨g, 0, none⟩), .int .i64 ar, .int .i64 li]] w R := by
  have d1 : decide ((131072 : Int) < ar) = false := by simp; omega
  obtain ⟨T, hT⟩ : ∃ T, T = w.heap.size := ⟨_, rfl⟩
  obtain ⟨y1, hy1⟩ : ∃ y, y = w.alloc (plO (some ⟨g, 0, none⟩) ar li) := ⟨_, rfl⟩
  have k1 : Kp [] w y1 := by rw [hy1]; exact (Kp.refl [] w).alloc _
  have pl1 : PlAt y1 T (some ⟨g, 0, none⟩) ar li := by rw [hy1, hT]; exact (MapKept.heap_alloc w _).1
  obtain ⟨p0, p1, p2⟩ : y1.cell? ⟨T, 0, none⟩ = some (.pointer (some ⟨g, 0, none⟩)) ∧ y1.cell? ⟨T, 1, none⟩ = some (.int .i64 ar) ∧ y1.cell? ⟨T, 2, none⟩ = some (.int .i64 li) := ⟨cell_of pl1 0, cell_of pl1 1, cell_of pl1 2⟩
  have HY := Lib.hid (And.intro hy1 hT)
  have HM := Lib.hid hm
  have HA := Lib.hid hadd
  have K1 := Lib.hid k1
  have HN := Lib.hid N
  have HP1 := Lib.hid pl1
  clear hy1 hT hm hadd k1 N pl1
  have HB := Lib.hid hb
  clear hb har2
  go_enter Try.func40, Try.ntmps40
  go_upto_region 1 with fail
  have hy1 := HY.out.1
  unfold plO at hy1
  rw [← hy1, ← HY.out.2]
  clear hy1 HY
  go_upto_region 4 with (go_at_call 44; refine Calls.mono (HM.out _ K1.out) ?_; rintro e w2 ⟨rfl, kk⟩)
  obtain ⟨b, hb9⟩ : ∃ b, b = w2.heap.size := ⟨_, rfl⟩
  obtain ⟨y3, hy3⟩ : ∃ y, y = w2.alloc (mvO pfr pby (.slice pta ptn ptc) pbd pnm) := ⟨_, rfl⟩
  have k3 : Kp [] w2 y3 := by rw [hy3]; exact (Kp.refl [] w2).alloc _
  have M3 : MovAt y3 b pfr pby (.slice pta ptn ptc) pbd pnm := by rw [hy3, hb9]; exact MovAt.new _ _ _ _ _ _
  have hy3' := hy3
  unfold mvO at hy3'
  rw [← hy3', ← hb9]
  have kA := K1.out.trans (kk.trans k3)
  have N3 : NdAt y3 g k n s pa pb pc := HN.out.kp0 kA
  have P3 : PlAt y3 T (some ⟨g, 0, none⟩) ar li := ((kk.trans k3).block T ((Array.getElem?_eq_some_iff.1 HP1.out).1) (by simp)).trans HP1.out
  clear p0 p1 p2 hy3 hy3' hb9 k3 HM HP1 K1 HN kk
  obtain ⟨z0, z1, z2, z3, z4, z5⟩ := N3.cells
  have p0 : y3.cell? ⟨T, 0, none⟩ = some (.pointer (some ⟨g, 0, none⟩)) := cell_of P3 0
  have HM3 := Lib.hid M3
  have HN3 := Lib.hid N3
  have HP3 := Lib.hid P3
  have KA := Lib.hid kA
  clear M3 N3 P3 kA
  go_upto_region 5 with fail
  obtain ⟨B, hB9⟩ : ∃ b, b = y3.heap.size := ⟨_, rfl⟩
  obtain ⟨y4, hy4⟩ : ∃ y, y = y3.alloc (ndO k n s pa pb pc) := ⟨_, rfl⟩
  have k4 : Kp [] y3 y4 := by rw [hy4]; exact (Kp.refl [] y3).alloc _
  have B4 : NdAt y4 B k n s pa pb pc := by rw [hy4, hB9]; exact NdAt.new _ _ _ _ _ _ _
  have hy4' := hy4
  unfold ndO at hy4'
  rw [← hy4', ← hB9]
  have M4 := HM3.out.kp k4 (by simp)
  have N4 := HN3.out.kp0 k4
  have P4 : PlAt y4 T (some ⟨g, 0, none⟩) ar li := (k4.block T ((Array.getElem?_eq_some_iff.1 HP3.out).1) (by simp)).trans HP3.out
  have K4 : Hid (Kp [] w y4) := KA.out.trans k4
  have hwB : Hid (w.heap.size ≤ B) := by rw [hB9]; exact KA.out.size
  clear p0 z0 z1 z2 z3 z4 z5 hy4 hy4' hB9 k4 HM3 HN3 HP3 KA
  have p0 : y4.cell? ⟨T, 0, none⟩ = some (.pointer (some ⟨g, 0, none⟩)) := cell_of P4 0
  have p1 : y4.cell? ⟨T, 1, none⟩ = some (.int .i64 ar) := cell_of P4 1
  have p2 : y4.cell? ⟨T, 2, none⟩ = some (.int .i64 li) := cell_of P4 2
  have HM4 := Lib.hid M4
  have HN4 := Lib.hid N4
  have HB4 := Lib.hid B4
  have HP4 := Lib.hid P4
  clear M4 N4 B4 P4
  have IB : Hid (Calls Try.prog 45 #[.pointer (some ⟨b, 0, none⟩), .pointer (some ⟨g, 0, none⟩)] y4 fun e w2 => e = .returned (.bool true) ∧ ∃ m, w2 = y4.drewN m) := by
    have := isBound_any HM4.out HN4.out
    rw [HB.out] at this
    exact this
  go_upto_region 6 with (go_at_call 45; refine Calls.mono IB.out ?_; rintro e w5 ⟨rfl, i5, rfl⟩)
  obtain ⟨z0, z1, z2, z3, z4, z5⟩ := HB4.out.cells
  have f0 := frozen_of HB4.out 0
  have f1 := frozen_of HB4.out 1
  have f2 := frozen_of HB4.out 2
  have f3 := frozen_of HB4.out 3
  have f4 := frozen_of HB4.out 4
  have f5 := frozen_of HB4.out 5
  go_upto_region 12 with fail
  obtain ⟨y7, hy7⟩ : ∃ y, y = (((((((y4.drewN i5).setCell ⟨B, 0, none⟩ (.int .i64 2)).setCell ⟨B, 1, none⟩ (.int .i64 ar)).setCell ⟨B, 2, none⟩ (.string ⟨#[]⟩)).setCell ⟨B, 3, none⟩ (.pointer none)).setCell ⟨B, 4, none⟩ (.pointer none)).setCell ⟨B, 5, none⟩ (.pointer none)) := ⟨_, rfl⟩
  rw [← hy7]
  have K7 : Hid (Kp [] w y7) := by rw [hy7]; exact ((((((K4.out.drewN i5).setCell (.inr hwB.out) _).setCell (.inr hwB.out) _).setCell (.inr hwB.out) _).setCell (.inr hwB.out) _).setCell (.inr hwB.out) _).setCell (.inr hwB.out) _
  have P7 : PlAt y7 T (some ⟨g, 0, none⟩) ar li := ((show Kp [B] y4 y7 from by rw [hy7]; exact (((((((Kp.refl [B] y4).drewN i5).setCell (.inl (by simp)) _).setCell (.inl (by simp)) _).setCell (.inl (by simp)) _).setCell (.inl (by simp)) _).setCell (.inl (by simp)) _).setCell (.inl (by simp)) _).block T ((Array.getElem?_eq_some_iff.1 HP4.out).1) (by simpa using HP4.out.ne HB4.out)).trans HP4.out
  have N7 : NdAt y7 B 2 ar ⟨#[]⟩ none none none := by rw [hy7]; exact heap_set (heap_set (heap_set (heap_set (heap_set (heap_set (w := y4.drewN i5) HB4.out _) _) _) _) _) _
  clear p0 p1 p2 z0 z1 z2 z3 z4 z5 f0 f1 f2 f3 f4 f5 hy7 HM4 HN4 HB4 HP4
  obtain ⟨z0, z1, z2, z3, z4, z5⟩ := N7.cells
  have p0 : y7.cell? ⟨T, 0, none⟩ = some (.pointer (some ⟨g, 0, none⟩)) := cell_of P7 0
  have p1 : y7.cell? ⟨T, 1, none⟩ = some (.int .i64 ar) := cell_of P7 1
  have p2 : y7.cell? ⟨T, 2, none⟩ = some (.int .i64 li) := cell_of P7 2
  clear P7 N7
  go_wp2_with (go_at_call 48; refine Calls.mono (HA.out _ K7.out) ?_; rintro e w8 ⟨q, rfl, hR⟩)
  exact hR
set_option maxHeartbeats 6400000 in
theorem at_plain {w : World} {A g : Nat} {ar li pfr pby : Int} {pta : Option Addr} {ptn ptc : Nat} {pbd : Bool} {pnm : ByteArray} (hm : MvCalls w A (some ⟨g, 0, none⟩) ar li pfr pby pta ptn ptc pbd pnm)
    {k n : Int} {s : ByteArray} {pa pb pc : Option Addr} (N : NdAt w g k n s pa pb pc) (har : 0 ≤ ar) (har2 : ar ≤ 131072) (hn0 : k = 2 → -1000000000000 ≤ n) (hn1 : k = 2 → n ≤ 100000000000000) (hb : (pbd && decide (k = 3) && decide (s = pnm) && decide (n = 0)) = false) (hv : (decide (k = 2) && decide (pfr ≤ n - ar)) = false)
    {R : Ending → World → Prop} (hadd : ∀ W, Kp [] w W → Calls Try.prog 48 #[.pointer (some ⟨A, 0, none⟩), .agg #[.pointer (some ⟨g, 0, none⟩), .int .i64 ar, .int .i64 li], .agg #[.int .i64 k, .int .i64 n, .string s, .pointer pa, .pointer pb, .pointer pc]] W (fun e w2 => ∃ q, e = .returned (.pointer q) ∧ R e w2)) :
    Calls Try.prog 40 #[.pointer (some ⟨A, 0, none⟩), .agg #[.pointer (some ⟨g, 0, none⟩), .int .i64 ar, .int .i64 li]] w R := by
  have d1 : decide ((131072 : Int) < ar) = false := by simp; omega
  obtain ⟨T, hT⟩ : ∃ T, T = w.heap.size := ⟨_, rfl⟩
  obtain ⟨y1, hy1⟩ : ∃ y, y = w.alloc (plO (some ⟨g, 0, none⟩) ar li) := ⟨_, rfl⟩
  have k1 : Kp [] w y1 := by rw [hy1]; exact (Kp.refl [] w).alloc _
  have pl1 : PlAt y1 T (some ⟨g, 0, none⟩) ar li := by rw [hy1, hT]; exact (MapKept.heap_alloc w _).1
  obtain ⟨p0, p1, p2⟩ : y1.cell? ⟨T, 0, none⟩ = some (.pointer (some ⟨g, 0, none⟩)) ∧ y1.cell? ⟨T, 1, none⟩ = some (.int .i64 ar) ∧ y1.cell? ⟨T, 2, none⟩ = some (.int .i64 li) := ⟨cell_of pl1 0, cell_of pl1 1, cell_of pl1 2⟩
  have HY := Lib.hid (And.intro hy1 hT)
  have HM := Lib.hid hm
  have HA := Lib.hid hadd
  have K1 := Lib.hid k1
  have HN := Lib.hid N
  have HP1 := Lib.hid pl1
  clear hy1 hT hm hadd k1 N pl1
  have HB := Lib.hid hb
  have HV := Lib.hid hv
  have HC := Lib.hid (And.intro har (And.intro har2 (And.intro hn0 hn1)))
  clear hb hv har har2 hn0 hn1
  go_enter Try.func40, Try.ntmps40
  go_upto_region 1 with fail
  have hy1 := HY.out.1
  unfold plO at hy1
  rw [← hy1, ← HY.out.2]
  clear hy1 HY
  go_upto_region 4 with (go_at_call 44; refine Calls.mono (HM.out _ K1.out) ?_; rintro e w2 ⟨rfl, kk⟩)
  obtain ⟨b, hb9⟩ : ∃ b, b = w2.heap.size := ⟨_, rfl⟩
  obtain ⟨y3, hy3⟩ : ∃ y, y = w2.alloc (mvO pfr pby (.slice pta ptn ptc) pbd pnm) := ⟨_, rfl⟩
  have k3 : Kp [] w2 y3 := by rw [hy3]; exact (Kp.refl [] w2).alloc _
  have M3 : MovAt y3 b pfr pby (.slice pta ptn ptc) pbd pnm := by rw [hy3, hb9]; exact MovAt.new _ _ _ _ _ _
  have hy3' := hy3
  unfold mvO at hy3'
  rw [← hy3', ← hb9]
  have kA := K1.out.trans (kk.trans k3)
  have N3 : NdAt y3 g k n s pa pb pc := HN.out.kp0 kA
  have P3 : PlAt y3 T (some ⟨g, 0, none⟩) ar li := ((kk.trans k3).block T ((Array.getElem?_eq_some_iff.1 HP1.out).1) (by simp)).trans HP1.out
  clear p0 p1 p2 hy3 hy3' hb9 k3 HM HP1 K1 HN kk
  obtain ⟨z0, z1, z2, z3, z4, z5⟩ := N3.cells
  have p0 : y3.cell? ⟨T, 0, none⟩ = some (.pointer (some ⟨g, 0, none⟩)) := cell_of P3 0
  have HM3 := Lib.hid M3
  have HN3 := Lib.hid N3
  have HP3 := Lib.hid P3
  have KA := Lib.hid kA
  clear M3 N3 P3 kA
  go_upto_region 5 with fail
  obtain ⟨B, hB9⟩ : ∃ b, b = y3.heap.size := ⟨_, rfl⟩
  obtain ⟨y4, hy4⟩ : ∃ y, y = y3.alloc (ndO k n s pa pb pc) := ⟨_, rfl⟩
  have k4 : Kp [] y3 y4 := by rw [hy4]; exact (Kp.refl [] y3).alloc _
  have B4 : NdAt y4 B k n s pa pb pc := by rw [hy4, hB9]; exact NdAt.new _ _ _ _ _ _ _
  have hy4' := hy4
  unfold ndO at hy4'
  rw [← hy4', ← hB9]
  have M4 := HM3.out.kp k4 (by simp)
  have N4 := HN3.out.kp0 k4
  have P4 : PlAt y4 T (some ⟨g, 0, none⟩) ar li := (k4.block T ((Array.getElem?_eq_some_iff.1 HP3.out).1) (by simp)).trans HP3.out
  have K4 : Hid (Kp [] w y4) := KA.out.trans k4
  have hwB : Hid (w.heap.size ≤ B) := by rw [hB9]; exact KA.out.size
  clear p0 z0 z1 z2 z3 z4 z5 hy4 hy4' hB9 k4 HM3 HN3 HP3 KA
  have p0 : y4.cell? ⟨T, 0, none⟩ = some (.pointer (some ⟨g, 0, none⟩)) := cell_of P4 0
  have p1 : y4.cell? ⟨T, 1, none⟩ = some (.int .i64 ar) := cell_of P4 1
  have p2 : y4.cell? ⟨T, 2, none⟩ = some (.int .i64 li) := cell_of P4 2
  have HM4 := Lib.hid M4
  have HN4 := Lib.hid N4
  have HB4 := Lib.hid B4
  have HP4 := Lib.hid P4
  clear M4 N4 B4 P4
  have IB : Hid (Calls Try.prog 45 #[.pointer (some ⟨b, 0, none⟩), .pointer (some ⟨g, 0, none⟩)] y4 fun e w2 => e = .returned (.bool false) ∧ ∃ m, w2 = y4.drewN m) := by
    have := isBound_any HM4.out HN4.out
    rw [HB.out] at this
    exact this
  have IM : Hid (∀ i, Calls Try.prog 46 #[.pointer (some ⟨b, 0, none⟩), .pointer (some ⟨g, 0, none⟩), .int .i64 ar] (y4.drewN i) fun e w2 => e = .returned (.bool false) ∧ ∃ m, w2 = (y4.drewN i).drewN m) := fun i => by
    have := isMoved_any (HM4.out.kp ((Kp.refl [] y4).drewN i) (by simp)) (HN4.out.kp0 ((Kp.refl [] y4).drewN i)) ar HC.out.1 (by have := HC.out.2.1; omega) HC.out.2.2.1 HC.out.2.2.2
    rw [HV.out] at this
    exact this
  go_upto_region 12 with (first
    | (go_at_call 45; refine Calls.mono IB.out ?_; rintro e w5 ⟨rfl, i5, rfl⟩)
    | (go_at_call 46; refine Calls.mono (IM.out _) ?_; rintro e w6 ⟨rfl, i6, rfl⟩; rw [World.drewN_drewN]))
  obtain ⟨y7, hy7⟩ : ∃ y, y = y4.drewN (i5 + i6) := ⟨_, rfl⟩
  rw [← hy7]
  have K7 : Hid (Kp [] w y7) := by rw [hy7]; exact K4.out.drewN _
  have P7 : PlAt y7 T (some ⟨g, 0, none⟩) ar li := ((show Kp [B] y4 y7 from by rw [hy7]; exact (Kp.refl [B] y4).drewN _).block T ((Array.getElem?_eq_some_iff.1 HP4.out).1) (by simpa using HP4.out.ne HB4.out)).trans HP4.out
  have N7 : NdAt y7 B k n s pa pb pc := by rw [hy7]; exact HB4.out
  clear p0 p1 p2 IB IM hy7 HM4 HN4 HB4 HP4
  obtain ⟨z0, z1, z2, z3, z4, z5⟩ := N7.cells
  have p0 : y7.cell? ⟨T, 0, none⟩ = some (.pointer (some ⟨g, 0, none⟩)) := cell_of P7 0
  have p1 : y7.cell? ⟨T, 1, none⟩ = some (.int .i64 ar) := cell_of P7 1
  have p2 : y7.cell? ⟨T, 2, none⟩ = some (.int .i64 li) := cell_of P7 2
  clear P7 N7
  go_wp2_with (go_at_call 48; refine Calls.mono (HA.out _ K7.out) ?_; rintro e w8 ⟨q, rfl, hR⟩)
  exact hR
set_option maxHeartbeats 6400000 in
theorem at_moved {w : World} {A g : Nat} {ar li pfr pby : Int} {pta : Option Addr} {ptn ptc : Nat} {pbd : Bool} {pnm : ByteArray} (hm : MvCalls w A (some ⟨g, 0, none⟩) ar li pfr pby pta ptn ptc pbd pnm)
    {k n : Int} {s : ByteArray} {pa pb pc : Option Addr} (N : NdAt w g k n s pa pb pc) (har : 0 ≤ ar) (har2 : ar ≤ 131072) (hn0 : k = 2 → -1000000000000 ≤ n) (hn1 : k = 2 → n ≤ 100000000000000) (hb : (pbd && decide (k = 3) && decide (s = pnm) && decide (n = 0)) = false) (hv : (decide (k = 2) && decide (pfr ≤ n - ar)) = true) (hf0 : 0 ≤ pfr) (hf1 : pfr ≤ 1000000000000) (htn : ptn ≤ 100000) (hh : (ptn : Int) ≤ n - ar - pfr) (n2 : Int) (hn2 : IntKind.i64.wrap (n + pby) = n2)
    {R : Ending → World → Prop} (hadd : ∀ W, Kp [] w W → Calls Try.prog 48 #[.pointer (some ⟨A, 0, none⟩), .agg #[.pointer (some ⟨g, 0, none⟩), .int .i64 ar, .int .i64 li], .agg #[.int .i64 k, .int .i64 n2, .string s, .pointer pa, .pointer pb, .pointer pc]] W (fun e w2 => ∃ q, e = .returned (.pointer q) ∧ R e w2)) :
    Calls Try.prog 40 #[.pointer (some ⟨A, 0, none⟩), .agg #[.pointer (some ⟨g, 0, none⟩), .int .i64 ar, .int .i64 li]] w R := by
  have d1 : decide ((131072 : Int) < ar) = false := by simp; omega
  obtain ⟨T, hT⟩ : ∃ T, T = w.heap.size := ⟨_, rfl⟩
  obtain ⟨y1, hy1⟩ : ∃ y, y = w.alloc (plO (some ⟨g, 0, none⟩) ar li) := ⟨_, rfl⟩
  have k1 : Kp [] w y1 := by rw [hy1]; exact (Kp.refl [] w).alloc _
  have pl1 : PlAt y1 T (some ⟨g, 0, none⟩) ar li := by rw [hy1, hT]; exact (MapKept.heap_alloc w _).1
  obtain ⟨p0, p1, p2⟩ : y1.cell? ⟨T, 0, none⟩ = some (.pointer (some ⟨g, 0, none⟩)) ∧ y1.cell? ⟨T, 1, none⟩ = some (.int .i64 ar) ∧ y1.cell? ⟨T, 2, none⟩ = some (.int .i64 li) := ⟨cell_of pl1 0, cell_of pl1 1, cell_of pl1 2⟩
  have HY := Lib.hid (And.intro hy1 hT)
  have HM := Lib.hid hm
  have HA := Lib.hid hadd
  have K1 := Lib.hid k1
  have HN := Lib.hid N
  have HP1 := Lib.hid pl1
  clear hy1 hT hm hadd k1 N pl1
  have HB := Lib.hid hb
  have HV := Lib.hid hv
  have HC := Lib.hid (And.intro har (And.intro har2 (And.intro hn0 hn1)))
  clear hb hv har har2 hn0 hn1
  have HF := Lib.hid (And.intro hf0 (And.intro hf1 (And.intro htn hh)))
  have HK2 := Lib.hid (show k = 2 ∧ pfr ≤ n - ar by have := HV.out; simp only [Bool.and_eq_true] at this; exact ⟨of_decide_eq_true this.1, of_decide_eq_true this.2⟩)
  clear hf0 hf1 htn hh
  go_enter Try.func40, Try.ntmps40
  go_upto_region 1 with fail
  have hy1 := HY.out.1
  unfold plO at hy1
  rw [← hy1, ← HY.out.2]
  clear hy1 HY
  go_upto_region 4 with (go_at_call 44; refine Calls.mono (HM.out _ K1.out) ?_; rintro e w2 ⟨rfl, kk⟩)
  obtain ⟨b, hb9⟩ : ∃ b, b = w2.heap.size := ⟨_, rfl⟩
  obtain ⟨y3, hy3⟩ : ∃ y, y = w2.alloc (mvO pfr pby (.slice pta ptn ptc) pbd pnm) := ⟨_, rfl⟩
  have k3 : Kp [] w2 y3 := by rw [hy3]; exact (Kp.refl [] w2).alloc _
  have M3 : MovAt y3 b pfr pby (.slice pta ptn ptc) pbd pnm := by rw [hy3, hb9]; exact MovAt.new _ _ _ _ _ _
  have hy3' := hy3
  unfold mvO at hy3'
  rw [← hy3', ← hb9]
  have kA := K1.out.trans (kk.trans k3)
  have N3 : NdAt y3 g k n s pa pb pc := HN.out.kp0 kA
  have P3 : PlAt y3 T (some ⟨g, 0, none⟩) ar li := ((kk.trans k3).block T ((Array.getElem?_eq_some_iff.1 HP1.out).1) (by simp)).trans HP1.out
  clear p0 p1 p2 hy3 hy3' hb9 k3 HM HP1 K1 HN kk
  obtain ⟨z0, z1, z2, z3, z4, z5⟩ := N3.cells
  have p0 : y3.cell? ⟨T, 0, none⟩ = some (.pointer (some ⟨g, 0, none⟩)) := cell_of P3 0
  have HM3 := Lib.hid M3
  have HN3 := Lib.hid N3
  have HP3 := Lib.hid P3
  have KA := Lib.hid kA
  clear M3 N3 P3 kA
  go_upto_region 5 with fail
  obtain ⟨B, hB9⟩ : ∃ b, b = y3.heap.size := ⟨_, rfl⟩
  obtain ⟨y4, hy4⟩ : ∃ y, y = y3.alloc (ndO k n s pa pb pc) := ⟨_, rfl⟩
  have k4 : Kp [] y3 y4 := by rw [hy4]; exact (Kp.refl [] y3).alloc _
  have B4 : NdAt y4 B k n s pa pb pc := by rw [hy4, hB9]; exact NdAt.new _ _ _ _ _ _ _
  have hy4' := hy4
  unfold ndO at hy4'
  rw [← hy4', ← hB9]
  have M4 := HM3.out.kp k4 (by simp)
  have N4 := HN3.out.kp0 k4
  have P4 : PlAt y4 T (some ⟨g, 0, none⟩) ar li := (k4.block T ((Array.getElem?_eq_some_iff.1 HP3.out).1) (by simp)).trans HP3.out
  have K4 : Hid (Kp [] w y4) := KA.out.trans k4
  have hwB : Hid (w.heap.size ≤ B) := by rw [hB9]; exact KA.out.size
  clear p0 z0 z1 z2 z3 z4 z5 hy4 hy4' hB9 k4 HM3 HN3 HP3 KA
  have p0 : y4.cell? ⟨T, 0, none⟩ = some (.pointer (some ⟨g, 0, none⟩)) := cell_of P4 0
  have p1 : y4.cell? ⟨T, 1, none⟩ = some (.int .i64 ar) := cell_of P4 1
  have p2 : y4.cell? ⟨T, 2, none⟩ = some (.int .i64 li) := cell_of P4 2
  have HM4 := Lib.hid M4
  have HN4 := Lib.hid N4
  have HB4 := Lib.hid B4
  have HP4 := Lib.hid P4
  clear M4 N4 B4 P4
  have IB : Hid (Calls Try.prog 45 #[.pointer (some ⟨b, 0, none⟩), .pointer (some ⟨g, 0, none⟩)] y4 fun e w2 => e = .returned (.bool false) ∧ ∃ m, w2 = y4.drewN m) := by
    have := isBound_any HM4.out HN4.out
    rw [HB.out] at this
    exact this
  have IM : Hid (∀ i, Calls Try.prog 46 #[.pointer (some ⟨b, 0, none⟩), .pointer (some ⟨g, 0, none⟩), .int .i64 ar] (y4.drewN i) fun e w2 => e = .returned (.bool true) ∧ ∃ m, w2 = (y4.drewN i).drewN m) := fun i => by
    have := isMoved_any (HM4.out.kp ((Kp.refl [] y4).drewN i) (by simp)) (HN4.out.kp0 ((Kp.refl [] y4).drewN i)) ar HC.out.1 (by have := HC.out.2.1; omega) HC.out.2.2.1 HC.out.2.2.2
    rw [HV.out] at this
    exact this
  have IP : Hid (∀ i, Calls Try.prog 47 #[.pointer (some ⟨b, 0, none⟩), .pointer (some ⟨g, 0, none⟩), .int .i64 ar] (y4.drewN i) fun e w2 => e = .returned (.tuple #[.pointer none, .bool false]) ∧ ∃ m, w2 = (y4.drewN i).drewN m) := fun i =>
    put_no (HM4.out.kp ((Kp.refl [] y4).drewN i) (by simp)) (HN4.out.kp0 ((Kp.refl [] y4).drewN i)) ar HC.out.1 (by have := HC.out.2.1; omega) (HC.out.2.2.1 HK2.out.1) (HC.out.2.2.2 HK2.out.1) HF.out.1 HF.out.2.1 HK2.out.2 HF.out.2.2.1 HF.out.2.2.2
  obtain ⟨z0, z1, z2, z3, z4, z5⟩ := HB4.out.cells
  have f1 := frozen_of HB4.out 1
  have m1 := HM4.out.cells.2.1
  go_upto_region 12 with (first
    | (go_at_call 45; refine Calls.mono IB.out ?_; rintro e w5 ⟨rfl, i5, rfl⟩)
    | (go_at_call 46; refine Calls.mono (IM.out _) ?_; rintro e w6 ⟨rfl, i6, rfl⟩; rw [World.drewN_drewN])
    | (go_at_call 47; refine Calls.mono (IP.out _) ?_; rintro e w6 ⟨rfl, i7, rfl⟩; rw [World.drewN_drewN]))
  obtain ⟨y7, hy7⟩ : ∃ y, y = (y4.drewN (i5 + i6 + i7)).setCell ⟨B, 1, none⟩ (.int .i64 n2) := ⟨_, rfl⟩
  rw [← hy7]
  have K7 : Hid (Kp [] w y7) := by rw [hy7]; exact (K4.out.drewN _).setCell (.inr hwB.out) _
  have P7 : PlAt y7 T (some ⟨g, 0, none⟩) ar li := ((show Kp [B] y4 y7 from by rw [hy7]; exact ((Kp.refl [B] y4).drewN _).setCell (.inl (by simp)) _).block T ((Array.getElem?_eq_some_iff.1 HP4.out).1) (by simpa using HP4.out.ne HB4.out)).trans HP4.out
  have N7 : NdAt y7 B k n2 s pa pb pc := by rw [hy7]; exact heap_set (w := y4.drewN _) HB4.out _
  clear p0 p1 p2 z0 z1 z2 z3 z4 z5 f1 m1 IB IM IP hy7 HM4 HN4 HB4 HP4
  obtain ⟨z0, z1, z2, z3, z4, z5⟩ := N7.cells
  have p0 : y7.cell? ⟨T, 0, none⟩ = some (.pointer (some ⟨g, 0, none⟩)) := cell_of P7 0
  have p1 : y7.cell? ⟨T, 1, none⟩ = some (.int .i64 ar) := cell_of P7 1
  have p2 : y7.cell? ⟨T, 2, none⟩ = some (.int .i64 li) := cell_of P7 2
  clear P7 N7
  go_wp2_with (go_at_call 48; refine Calls.mono (HA.out _ K7.out) ?_; rintro e w8 ⟨q, rfl, hR⟩)
  exact hR
set_option maxHeartbeats 6400000 in
theorem at_put {w : World} {A g : Nat} {ar li pfr pby : Int} {pta : Option Addr} {ptn ptc : Nat} {pbd : Bool} {pnm : ByteArray} (hm : MvCalls w A (some ⟨g, 0, none⟩) ar li pfr pby pta ptn ptc pbd pnm)
    {k n : Int} {s : ByteArray} {pa pb pc : Option Addr} (N : NdAt w g k n s pa pb pc) (har : 0 ≤ ar) (har2 : ar ≤ 131072) (hn0 : k = 2 → -1000000000000 ≤ n) (hn1 : k = 2 → n ≤ 100000000000000) (hb : (pbd && decide (k = 3) && decide (s = pnm) && decide (n = 0)) = false) (hv : (decide (k = 2) && decide (pfr ≤ n - ar)) = true) (hf0 : 0 ≤ pfr) (hf1 : pfr ≤ 1000000000000) (htn : ptn ≤ 100000) (j : Nat) (hh : (j : Int) + 1 + (n - ar - pfr) = ptn) {tb to : Nat} (hpt : pta = some ⟨tb, to, none⟩) (q : Option Addr) (hq : w.cell? ⟨tb, to + j, none⟩ = some (.pointer q))
    {R : Ending → World → Prop} (hadd : ∀ W, Kp [] w W → Calls Try.prog 40 #[.pointer (some ⟨A, 0, none⟩), .agg #[.pointer q, .int .i64 0, .int .i64 ar]] W (fun e w2 => ∃ q, e = .returned (.pointer q) ∧ R e w2)) :
    Calls Try.prog 40 #[.pointer (some ⟨A, 0, none⟩), .agg #[.pointer (some ⟨g, 0, none⟩), .int .i64 ar, .int .i64 li]] w R := by
  subst hpt
  have d1 : decide ((131072 : Int) < ar) = false := by simp; omega
  obtain ⟨T, hT⟩ : ∃ T, T = w.heap.size := ⟨_, rfl⟩
  obtain ⟨y1, hy1⟩ : ∃ y, y = w.alloc (plO (some ⟨g, 0, none⟩) ar li) := ⟨_, rfl⟩
  have k1 : Kp [] w y1 := by rw [hy1]; exact (Kp.refl [] w).alloc _
  have pl1 : PlAt y1 T (some ⟨g, 0, none⟩) ar li := by rw [hy1, hT]; exact (MapKept.heap_alloc w _).1
  obtain ⟨p0, p1, p2⟩ : y1.cell? ⟨T, 0, none⟩ = some (.pointer (some ⟨g, 0, none⟩)) ∧ y1.cell? ⟨T, 1, none⟩ = some (.int .i64 ar) ∧ y1.cell? ⟨T, 2, none⟩ = some (.int .i64 li) := ⟨cell_of pl1 0, cell_of pl1 1, cell_of pl1 2⟩
  have HY := Lib.hid (And.intro hy1 hT)
  have HM := Lib.hid hm
  have HA := Lib.hid hadd
  have K1 := Lib.hid k1
  have HN := Lib.hid N
  have HP1 := Lib.hid pl1
  clear hy1 hT hm hadd k1 N pl1
  have HB := Lib.hid hb
  have HV := Lib.hid hv
  have HC := Lib.hid (And.intro har (And.intro har2 (And.intro hn0 hn1)))
  clear hb hv har har2 hn0 hn1
  have HF := Lib.hid (And.intro hf0 (And.intro hf1 (And.intro htn hh)))
  have HK2 := Lib.hid (show k = 2 ∧ pfr ≤ n - ar by have := HV.out; simp only [Bool.and_eq_true] at this; exact ⟨of_decide_eq_true this.1, of_decide_eq_true this.2⟩)
  have HQ := Lib.hid hq
  clear hf0 hf1 htn hh hq
  go_enter Try.func40, Try.ntmps40
  go_upto_region 1 with fail
  have hy1 := HY.out.1
  unfold plO at hy1
  rw [← hy1, ← HY.out.2]
  clear hy1 HY
  go_upto_region 4 with (go_at_call 44; refine Calls.mono (HM.out _ K1.out) ?_; rintro e w2 ⟨rfl, kk⟩)
  obtain ⟨b, hb9⟩ : ∃ b, b = w2.heap.size := ⟨_, rfl⟩
  obtain ⟨y3, hy3⟩ : ∃ y, y = w2.alloc (mvO pfr pby (.slice (some ⟨tb, to, none⟩) ptn ptc) pbd pnm) := ⟨_, rfl⟩
  have k3 : Kp [] w2 y3 := by rw [hy3]; exact (Kp.refl [] w2).alloc _
  have M3 : MovAt y3 b pfr pby (.slice (some ⟨tb, to, none⟩) ptn ptc) pbd pnm := by rw [hy3, hb9]; exact MovAt.new _ _ _ _ _ _
  have hy3' := hy3
  unfold mvO at hy3'
  rw [← hy3', ← hb9]
  have kA := K1.out.trans (kk.trans k3)
  have N3 : NdAt y3 g k n s pa pb pc := HN.out.kp0 kA
  have P3 : PlAt y3 T (some ⟨g, 0, none⟩) ar li := ((kk.trans k3).block T ((Array.getElem?_eq_some_iff.1 HP1.out).1) (by simp)).trans HP1.out
  clear p0 p1 p2 hy3 hy3' hb9 k3 HM HP1 K1 HN kk
  obtain ⟨z0, z1, z2, z3, z4, z5⟩ := N3.cells
  have p0 : y3.cell? ⟨T, 0, none⟩ = some (.pointer (some ⟨g, 0, none⟩)) := cell_of P3 0
  have HM3 := Lib.hid M3
  have HN3 := Lib.hid N3
  have HP3 := Lib.hid P3
  have KA := Lib.hid kA
  clear M3 N3 P3 kA
  go_upto_region 5 with fail
  obtain ⟨B, hB9⟩ : ∃ b, b = y3.heap.size := ⟨_, rfl⟩
  obtain ⟨y4, hy4⟩ : ∃ y, y = y3.alloc (ndO k n s pa pb pc) := ⟨_, rfl⟩
  have k4 : Kp [] y3 y4 := by rw [hy4]; exact (Kp.refl [] y3).alloc _
  have B4 : NdAt y4 B k n s pa pb pc := by rw [hy4, hB9]; exact NdAt.new _ _ _ _ _ _ _
  have hy4' := hy4
  unfold ndO at hy4'
  rw [← hy4', ← hB9]
  have M4 := HM3.out.kp k4 (by simp)
  have N4 := HN3.out.kp0 k4
  have P4 : PlAt y4 T (some ⟨g, 0, none⟩) ar li := (k4.block T ((Array.getElem?_eq_some_iff.1 HP3.out).1) (by simp)).trans HP3.out
  have K4 : Hid (Kp [] w y4) := KA.out.trans k4
  have hwB : Hid (w.heap.size ≤ B) := by rw [hB9]; exact KA.out.size
  clear p0 z0 z1 z2 z3 z4 z5 hy4 hy4' hB9 k4 HM3 HN3 HP3 KA
  have p0 : y4.cell? ⟨T, 0, none⟩ = some (.pointer (some ⟨g, 0, none⟩)) := cell_of P4 0
  have p1 : y4.cell? ⟨T, 1, none⟩ = some (.int .i64 ar) := cell_of P4 1
  have p2 : y4.cell? ⟨T, 2, none⟩ = some (.int .i64 li) := cell_of P4 2
  have HM4 := Lib.hid M4
  have HN4 := Lib.hid N4
  have HB4 := Lib.hid B4
  have HP4 := Lib.hid P4
  clear M4 N4 B4 P4
  have IB : Hid (Calls Try.prog 45 #[.pointer (some ⟨b, 0, none⟩), .pointer (some ⟨g, 0, none⟩)] y4 fun e w2 => e = .returned (.bool false) ∧ ∃ m, w2 = y4.drewN m) := by
    have := isBound_any HM4.out HN4.out
    rw [HB.out] at this
    exact this
  have IM : Hid (∀ i, Calls Try.prog 46 #[.pointer (some ⟨b, 0, none⟩), .pointer (some ⟨g, 0, none⟩), .int .i64 ar] (y4.drewN i) fun e w2 => e = .returned (.bool true) ∧ ∃ m, w2 = (y4.drewN i).drewN m) := fun i => by
    have := isMoved_any (HM4.out.kp ((Kp.refl [] y4).drewN i) (by simp)) (HN4.out.kp0 ((Kp.refl [] y4).drewN i)) ar HC.out.1 (by have := HC.out.2.1; omega) HC.out.2.2.1 HC.out.2.2.2
    rw [HV.out] at this
    exact this
  have IP : Hid (∀ i, Calls Try.prog 47 #[.pointer (some ⟨b, 0, none⟩), .pointer (some ⟨g, 0, none⟩), .int .i64 ar] (y4.drewN i) fun e w2 => e = .returned (.tuple #[.pointer q, .bool true]) ∧ ∃ m, w2 = (y4.drewN i).drewN m) := fun i =>
    put_yes (HM4.out.kp ((Kp.refl [] y4).drewN i) (by simp)) (HN4.out.kp0 ((Kp.refl [] y4).drewN i)) ar HC.out.1 (by have := HC.out.2.1; omega) (HC.out.2.2.1 HK2.out.1) (HC.out.2.2.2 HK2.out.1) HF.out.1 HF.out.2.1 HK2.out.2 HF.out.2.2.1 j HF.out.2.2.2 q (by
      have h := HQ.out
      exact (K4.out.drewN i).cell0 (World.block_lt_of_cell? w _ h) |>.trans h)
  go_wp2_with (first
    | (go_at_call 45; refine Calls.mono IB.out ?_; rintro e w5 ⟨rfl, i5, rfl⟩)
    | (go_at_call 46; refine Calls.mono (IM.out _) ?_; rintro e w6 ⟨rfl, i6, rfl⟩; rw [World.drewN_drewN])
    | (go_at_call 47; refine Calls.mono (IP.out _) ?_; rintro e w6 ⟨rfl, i7, rfl⟩; rw [World.drewN_drewN])
    | (go_at_call 40; refine Calls.mono (HA.out _ (K4.out.drewN _)) ?_; rintro e w8 ⟨q9, rfl, hR⟩))
  exact hR
end Go.Proofs.Ytphdfopdephanaa
