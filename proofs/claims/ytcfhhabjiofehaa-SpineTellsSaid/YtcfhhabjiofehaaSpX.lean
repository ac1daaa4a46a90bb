/- Contracts of Apply, Pi, Lam, Vars of package spine. -/
import Derived.Test.YtcfhhabjiofehaaSpW
namespace Go.Proofs.Ytcfhhabjiofehaa
open Go.RowKit

theorem wrap_k {a b : Int} (h : a = b) (h1 : -1000000000000000 ≤ b) (h2 : b ≤ 1000000000000000) : IntKind.i64.wrap a = b := by
  rw [IntKind.wrap_i64]; omega
theorem PtrsAt.kp {w w2 : World} {n₀ : Nat} {a : Option Addr} {ps : List (Option Addr)} (h : PtrsAt w n₀ a ps) (hn : n₀ ≤ w.heap.size) {m₀ : Nat} (hm : n₀ ≤ m₀) (K : Kp [] w w2) : PtrsAt w2 m₀ a ps := fun i q hq => by
  obtain ⟨g, o, h1, h2, h3⟩ := h i q hq
  exact ⟨g, o, h1, by omega, by rw [K.cell0 (by omega)]; exact h3⟩
theorem Row.ptrs {w : World} {B n c : Nat} {a : Option Addr} {ps : List (Option Addr)} {ts : List Tm} (h : Row w B (.slice a n c) ps ts) : PtrsAt w w.heap.size a ps ∧ n = ps.length := by
  obtain ⟨a2, c2, h2⟩ := h.slice
  injection h2 with h2 h3 h4
  refine ⟨fun i q hq => ?_, h3⟩
  have hi : i < ps.length := by
    rcases Nat.lt_or_ge i ps.length with h | h
    · exact h
    · rw [List.getElem?_eq_none h] at hq; cases hq
  obtain ⟨g, c3, q2, t, h5, h6, _, h7, _⟩ := h.cell i hi
  injection h5 with h5
  rw [hq] at h7
  injection h7 with h7
  subst h7
  exact ⟨g, 0, h5, World.block_lt_of_cell? w _ h6, by rw [Nat.zero_add]; exact h6⟩
set_option maxHeartbeats 3200000 in
theorem sapply_any {w : World} {a : Option Addr} {n c : Nat} {ps : List (Option Addr)} {ts : List Tm} (hn : n = ps.length) (hreach : ps.length ≤ 1000000000000) (hP : PtrsAt w w.heap.size a ps) (hT : TmsAt w ps ts) {t : Tm} {p : Option Addr} (hp : TmAt w t p) :
    Calls Try.prog 15 #[.pointer p, .slice a n c] w (MkPost (apply t ts) w) := by
  subst hn
  obtain ⟨y, hy⟩ : ∃ y, y = w.alloc (.cells #[.slice a ps.length c] 26) := ⟨_, rfl⟩
  have ky : Kp [] w y := by rw [hy]; exact (Kp.refl [] w).alloc _
  have hc : y.cell? ⟨w.heap.size, 0, none⟩ = some (.slice a ps.length c) := by rw [hy]; exact cell_of (World.alloc_heap_new w _) 0
  have hsz : y.heap.size = w.heap.size + 1 := by rw [hy]; simp
  have HA : Hid (Calls Try.prog 34 #[.int .i64 6, .func (.func 41) #[] #[.pointer (some ⟨w.heap.size, 0, none⟩)], .pointer p] y (MkPost (around 6 ts t) y)) :=
    around_any (n₀ := w.heap.size + 1) (ik := fun k => (k : Int)) (all_iter hreach (hP.kp (Nat.le_refl _) (Nat.le_succ _) ky) (Nat.lt_succ_self _) hc) (by omega) (enters_of Try.func41 (by kernel_rfl) rfl) (hT.kp ky) (hp.kp0 ky)
  have HY := Lib.hid (And.intro hy ky)
  clear hP hT hp hy ky hc hsz
  unfold MkPost apply at *
  go_enter Try.func15, Try.ntmps15
  go_wp2_with (first
    | (go_at_call 35; refine Calls.mono (all_new a ps.length c w) ?_; rintro e w2 ⟨rfl, rfl⟩)
    | (go_at_call 34; rw [← HY.out.1]; refine Calls.mono HA.out ?_; rintro e w2 ⟨q, rfl, kk, tt⟩))
  go_ret
  exact ⟨q, rfl, HY.out.2.trans kk, tt⟩
/-- Around a row, its first part outermost: Pi, Lam. -/
theorem wrap_call {w : World} {a : Option Addr} {c : Nat} {ps : List (Option Addr)} {ts : List Tm} (k : Int) (hreach : ps.length ≤ 1000000000000) (hP : PtrsAt w w.heap.size a ps) (hT : TmsAt w ps ts) {t : Tm} {p : Option Addr} (hp : TmAt w t p) :
    Calls Try.prog 34 #[.int .i64 k, .func (.func 42) #[] #[.pointer (some ⟨w.heap.size, 0, none⟩)], .pointer p] (w.alloc (.cells #[.slice a ps.length c] 26)) (MkPost (wrapK k ts t) w) := by
  obtain ⟨y, hy⟩ : ∃ y, y = w.alloc (.cells #[.slice a ps.length c] 26) := ⟨_, rfl⟩
  have ky : Kp [] w y := by rw [hy]; exact (Kp.refl [] w).alloc _
  have hc : y.cell? ⟨w.heap.size, 0, none⟩ = some (.slice a ps.length c) := by rw [hy]; exact cell_of (World.alloc_heap_new w _) 0
  have hsz : y.heap.size = w.heap.size + 1 := by rw [hy]; simp
  rw [← hy]
  have hT2 : TmsAt y ps.reverse ts.reverse := by
    obtain ⟨h1, h2⟩ := hT.kp ky
    refine ⟨by simp [h1], fun i q t hq ht => ?_⟩
    have hi : i < ps.length := by
      rcases Nat.lt_or_ge i ps.length with h | h
      · exact h
      · rw [List.getElem?_eq_none (by simpa using h)] at hq; cases hq
    rw [List.getElem?_reverse hi] at hq
    rw [List.getElem?_reverse (by rw [h1]; exact hi), h1] at ht
    exact h2 _ _ _ hq ht
  have hseq := back_iter hreach (hP.kp (Nat.le_refl _) (Nat.le_succ _) ky) (Nat.lt_succ_self _) hc
  rw [← List.length_reverse] at hseq
  refine (around_any (k := k) (n₀ := w.heap.size + 1) (ik := fun i => ((ps.reverse.length : Int) - 1 - (i : Int))) (by simpa using hseq) (by omega) (enters_of Try.func42 (by kernel_rfl) rfl) hT2 (hp.kp0 ky)).mono ?_
  rintro e w2 ⟨q, rfl, kk, tt⟩
  exact ⟨q, rfl, ky.trans kk, tt⟩
set_option maxHeartbeats 3200000 in
theorem spi_any {w : World} {a : Option Addr} {n c : Nat} {ps : List (Option Addr)} {ts : List Tm} (hn : n = ps.length) (hreach : ps.length ≤ 1000000000000) (hP : PtrsAt w w.heap.size a ps) (hT : TmsAt w ps ts) {t : Tm} {p : Option Addr} (hp : TmAt w t p) :
    Calls Try.prog 17 #[.slice a n c, .pointer p] w (MkPost (wrapK 4 ts t) w) := by
  subst hn
  have HA := Lib.hid (wrap_call (c := c) 4 hreach hP hT hp)
  clear hP hT hp
  unfold MkPost at *
  go_enter Try.func17, Try.ntmps17
  go_wp2_with (first
    | (go_at_call 36; refine Calls.mono (back_new a ps.length c w) ?_; rintro e w2 ⟨rfl, rfl⟩)
    | (go_at_call 34; refine Calls.mono HA.out ?_; rintro e w2 ⟨q, rfl, kk, tt⟩))
  go_ret
  exact ⟨q, rfl, kk, tt⟩
set_option maxHeartbeats 3200000 in
theorem slam_any {w : World} {a : Option Addr} {n c : Nat} {ps : List (Option Addr)} {ts : List Tm} (hn : n = ps.length) (hreach : ps.length ≤ 1000000000000) (hP : PtrsAt w w.heap.size a ps) (hT : TmsAt w ps ts) {t : Tm} {p : Option Addr} (hp : TmAt w t p) :
    Calls Try.prog 19 #[.slice a n c, .pointer p] w (MkPost (wrapK 5 ts t) w) := by
  subst hn
  have HA := Lib.hid (wrap_call (c := c) 5 hreach hP hT hp)
  clear hP hT hp
  unfold MkPost at *
  go_enter Try.func19, Try.ntmps19
  go_wp2_with (first
    | (go_at_call 36; refine Calls.mono (back_new a ps.length c w) ?_; rintro e w2 ⟨rfl, rfl⟩)
    | (go_at_call 34; refine Calls.mono HA.out ?_; rintro e w2 ⟨q, rfl, kk, tt⟩))
  go_ret
  exact ⟨q, rfl, kk, tt⟩
/-- Variables, falling by one each. -/
def vars (n : Nat) (f : Int) : List Tm := (List.range n).map fun (j : Nat) => vr (f + (n : Int) - 1 - (j : Int))
def varsUpto (n i : Nat) (f : Int) : List Tm := (List.range n).map fun (j : Nat) => if j < i then vr (f + (n : Int) - 1 - (j : Int)) else .nil
theorem varsUpto_all (n : Nat) (f : Int) : varsUpto n n f = vars n f := by
  unfold varsUpto vars
  apply List.map_congr_left
  intro j hj
  rw [if_pos (List.mem_range.1 hj)]
theorem varsUpto_step (n i : Nat) (f : Int) : varsUpto n (i + 1) f = (varsUpto n i f).set i (vr (f + (n : Int) - 1 - (i : Int))) := by
  apply List.ext_getElem?
  intro j
  unfold varsUpto
  rw [List.getElem?_set]
  by_cases hj : j < n
  · rw [List.getElem?_map, List.getElem?_range hj]
    by_cases e : i = j
    · subst e
      simp [hj]
    · rw [if_neg e, List.getElem?_map, List.getElem?_range hj]
      simp only [Option.map_some, Option.some.injEq]
      by_cases h2 : j < i
      · rw [if_pos (by omega), if_pos h2]
      · rw [if_neg (by omega), if_neg h2]
  · rw [List.getElem?_eq_none (by simpa using hj)]
    by_cases e : i = j
    · subst e
      simp [hj]
    · rw [if_neg e, List.getElem?_eq_none (by simpa using hj)]
/-- A store of a term into a row. -/
theorem Row.set {w : World} {B g n c : Nat} {ps : List (Option Addr)} {ts : List Tm} (h : Row w B (.slice (some ⟨g, 0, none⟩) n c) ps ts) (k : Nat) {q : Option Addr} {t : Tm} (hq : TmAt w t q) : Row (w.setCell ⟨g, k, none⟩ (.pointer q)) B (.slice (some ⟨g, 0, none⟩) n c) (ps.set k q) (ts.set k t) := by
  have K : Kp [g] w (w.setCell ⟨g, k, none⟩ (.pointer q)) := (Kp.refl [g] w).setCell (.inl (by simp)) _
  have hF : ∀ x ∈ [g], NoNode w x := fun x hx => (h.own_ge x (by simpa [Value.ownBlock] using hx)).2
  obtain ⟨a2, c2, h2⟩ := h.slice
  injection h2 with h2 h3 h4
  refine ⟨?_, by simp [h.len], fun i q2 t2 h5 h6 => ?_⟩
  · have ho := h.own
    rw [← h3] at ho
    have := (ho.stored k (.pointer q)).1
    rw [List.length_set, ← h3, List.map_set]
    exact this
  · rw [List.getElem?_set] at h5 h6
    by_cases e : k = i
    · subst e
      rw [if_pos rfl] at h5 h6
      split at h5
      · split at h6
        · injection h5 with h5
          injection h6 with h6
          subst h5
          subst h6
          exact hq.row K hF
        · cases h6
      · cases h5
    · rw [if_neg e] at h5 h6
      exact (h.trm i q2 t2 h5 h6).row K hF
def zPtrs (n : Nat) : Obj := .cells (madeCells #[.pointer none] n) 24
theorem make_ptrs (x : Int) (n : Nat) (hx : x = n) (hn : n ≤ 100000) (w : World) : (Instr.makeSlice 26 (.int .i64 x) (.int .i64 x)).run Try.prog w = .ok (.slice (some ⟨w.heap.size, 0, none⟩) n n) (w.alloc (zPtrs n)) := by
  subst hx
  obtain ⟨i, hi, h3, h4, h2⟩ := info_parts ptrInfo
  have := run_make (P := Try.prog) w 26 24 i (.pointer none) Try.underlying26 hi h3 .i64 .i64 n n (by omega) (by omega) (by rw [h2]; omega) (by omega)
  rw [h4] at this
  simpa [zPtrs, Value.cells] using this
def VarsPost (w : World) (l : List Tm) (e : Ending) (w2 : World) : Prop := ∃ v ps, e = .returned v ∧ Kp [] w w2 ∧ Row w2 w.heap.size v ps l
set_option maxHeartbeats 3200000 in
theorem svars_any (n : Nat) (f : Nat) (hn : n ≤ 1000) (hf : f ≤ 1000000) (w : World) : Calls Try.prog 21 #[.int .i64 (n : Int), .int .i64 (f : Int)] w (VarsPost w (vars n (f : Int))) := by
  unfold VarsPost
  have d1 : decide ((33554432 : Int) < (n : Int)) = false := by simp; omega
  have d1' : decide (33554432 < n) = false := by simp; omega
  have hmax : ∀ W, (Builtin.max_ #[3, 3] 3 #[.int .i64 (n : Int), .int .i64 0]).run Try.prog W = .ok (.int .i64 (n : Int)) W := fun W => by
    have e : ¬ (0 : Int) > (n : Int) := by omega
    simp [Builtin.max_, Builtin.max2, e]
  have hmk := make_ptrs (n : Int) n rfl (by omega)
  obtain ⟨y, hy⟩ : ∃ y, y = w.alloc (zPtrs n) := ⟨_, rfl⟩
  obtain ⟨g, hg⟩ : ∃ g, g = w.heap.size := ⟨_, rfl⟩
  have hb : y.heap[g]? = some (zPtrs n) := by rw [hy, hg]; exact World.alloc_heap_new w _
  have r0 : Row y w.heap.size (.slice (some ⟨g, 0, none⟩) n n) (List.replicate n none) (varsUpto n 0 (f : Int)) := by
    refine ⟨?_, by simp [varsUpto], fun i q t h1 h2 => ?_⟩
    · rw [List.length_replicate, hy, hg]
      have := World.ownsRow_lit (base := w.heap.size) (e := 24) (size := 1) w (madeCells #[.pointer none] n) n (Nat.le_refl _) (by unfold maxLen; omega) (by simp [madeCells])
      rw [toList_madeCells_one] at this
      simpa [zPtrs] using this
    · have hi : i < n := by
        rcases Nat.lt_or_ge i n with h | h
        · exact h
        · rw [List.getElem?_eq_none (by simpa using h)] at h1; cases h1
      rw [List.getElem?_replicate, if_pos hi] at h1
      injection h1 with h1
      subst h1
      unfold varsUpto at h2
      rw [List.getElem?_map, List.getElem?_range hi] at h2
      simp at h2
      subst h2
      rfl
  have ky : Kp [] w y := by rw [hy]; exact (Kp.refl [] w).alloc _
  have M0 : Hid (Kp [] w y ∧ ∃ ps, ps.length = n ∧ Row y w.heap.size (.slice (some ⟨g, 0, none⟩) n n) ps (varsUpto n 0 (f : Int))) := ⟨ky, _, List.length_replicate, r0⟩
  have HY := Lib.hid (And.intro hy hg)
  clear hb r0 ky hy hg
  go_enter Try.func21, Try.ntmps21
  go_upto_region 4 with fail
  rw [← HY.out.1, ← HY.out.2]
  go_wp2_with fail
  go_loopw [14] (fun i wr => ∃ k : Nat, k ≤ n ∧ i = .int .i64 (k : Int) ∧ Hid (Kp [] w wr ∧ ∃ ps, ps.length = n ∧ Row wr w.heap.size (.slice (some ⟨g, 0, none⟩) n n) ps (varsUpto n k (f : Int)))) (fun i _ => n - (intOf i).toNat)
  case atStart => exact ⟨0, Nat.zero_le _, rfl, M0⟩
  case round =>
    clear M0
    obtain ⟨k, hk, rfl, HS⟩ := hrel
    by_cases hlt : k < n
    · have l1 : decide ((k : Int) < (n : Int)) = true := by simpa using hlt
      have l1' : decide (k < n) = true := by simpa using hlt
      obtain ⟨K, ps, hl, hr⟩ := HS.out
      have e1 : IntKind.i64.wrap ((f : Int) + (n : Int)) = (f : Int) + (n : Int) := wrap_k rfl (by omega) (by omega)
      have e2 : IntKind.i64.wrap ((f : Int) + (n : Int) - 1) = (f : Int) + (n : Int) - 1 := wrap_k rfl (by omega) (by omega)
      have e3 : IntKind.i64.wrap ((f : Int) + (n : Int) - 1 - (k : Int)) = (f : Int) + (n : Int) - 1 - (k : Int) := wrap_k rfl (by omega) (by omega)
      obtain ⟨g2, c2, q2, t2, h1, h2, h3, _⟩ := hr.cell k (by omega)
      injection h1 with h1 h1b h1c
      clear h1b h1c
      injection h1 with h1
      injection h1 with h1
      subst h1
      have hlg := World.block_lt_of_cell? wr _ h2
      have x1 : (wr.alloc (.cells #[.int .i64 2, .int .i64 ((f : Int) + (n : Int) - 1 - (k : Int)), .string ⟨#[]⟩, .pointer none, .pointer none, .pointer none] 40)).cell? ⟨g, k, none⟩ = some (.pointer q2) := ((Kp.refl [] wr).alloc _).cell0 hlg |>.trans h2
      have x2 : (wr.alloc (.cells #[.int .i64 2, .int .i64 ((f : Int) + (n : Int) - 1 - (k : Int)), .string ⟨#[]⟩, .pointer none, .pointer none, .pointer none] 40)).frozen? ⟨g, k, none⟩ = false := ((Kp.refl [] wr).alloc _).frozen0 hlg |>.trans h3
      have HN : Hid (Kp [] w ((wr.alloc (.cells #[.int .i64 2, .int .i64 ((f : Int) + (n : Int) - 1 - (k : Int)), .string ⟨#[]⟩, .pointer none, .pointer none, .pointer none] 40)).setCell ⟨g, k, none⟩ (.pointer (some ⟨wr.heap.size, 0, none⟩))) ∧ ∃ ps, ps.length = n ∧ Row ((wr.alloc (.cells #[.int .i64 2, .int .i64 ((f : Int) + (n : Int) - 1 - (k : Int)), .string ⟨#[]⟩, .pointer none, .pointer none, .pointer none] 40)).setCell ⟨g, k, none⟩ (.pointer (some ⟨wr.heap.size, 0, none⟩))) w.heap.size (.slice (some ⟨g, 0, none⟩) n n) ps (varsUpto n (k + 1) (f : Int))) := by
        refine ⟨(K.alloc _).setCell (.inr (by show w.heap.size ≤ g; rw [HY.out.2]; exact Nat.le_refl _)) _, ps.set k (some ⟨wr.heap.size, 0, none⟩), by simp [hl], ?_⟩
        rw [varsUpto_step]
        exact (hr.kp0 ((Kp.refl [] wr).alloc _)).set k (TmP.new (P := fun _ => True) trivial rfl rfl rfl)
      clear HS K hr hl h2 h3 hlg
      go_wp2_with fail
      go_roundw
      case rel => exact ⟨k + 1, by have := of_decide_eq_true l1'; omega, by go_num, HN⟩
      case measure => have := of_decide_eq_true l1'; simp [intOf]; omega
    · have l1 : decide ((k : Int) < (n : Int)) = false := by simpa using hlt
      have l1' : decide (k < n) = false := by simpa using hlt
      have hkn : Hid (k = n) := by show k = n; omega
      clear hlt
      go_wp2_with fail
      go_ret
      obtain ⟨K, ps, hl, hr⟩ := HS.out
      rw [hkn.out, varsUpto_all] at hr
      exact ⟨_, ps, rfl, K, hr⟩
end Go.Proofs.Ytcfhhabjiofehaa
