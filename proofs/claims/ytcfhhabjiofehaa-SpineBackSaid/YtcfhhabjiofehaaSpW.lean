/- Contract of around of package spine; of Apply, Pi, Lam. -/
import Derived.Test.YtcfhhabjiofehaaSpJ
namespace Go.Proofs.Ytcfhhabjiofehaa
open Go.RowKit Go.Shelf
attribute [local go_sem] Oper.semAt_some

/-- Terms that a row of pointers holds. -/
def TmsAt (w : World) (ps : List (Option Addr)) (ts : List Tm) : Prop := ts.length = ps.length ∧ ∀ (i : Nat) (q : Option Addr) (t : Tm), ps[i]? = some q → ts[i]? = some t → TmAt w t q
theorem TmsAt.kp {w w2 : World} (K : Kp [] w w2) {ps : List (Option Addr)} {ts : List Tm} (h : TmsAt w ps ts) : TmsAt w2 ps ts := ⟨h.1, fun i q t h1 h2 => TmAt.kp K (h.2 i q t h1 h2)⟩
theorem Row.tms {w : World} {B : Nat} {v : Value} {ps : List (Option Addr)} {ts : List Tm} (h : Row w B v ps ts) : TmsAt w ps ts := ⟨h.len, h.trm⟩
/-- Where around stands behind i of its rounds: B holds the kind, B + 1 the term, B + 2 the copies. -/
structure ArSt (w W : World) (B : Nat) (k : Int) (t : Tm) (ts : List Tm) (i : Nat) : Prop where
  base : B = w.heap.size
  kp : Kp [] w W
  kind : W.heap[B]? = some (.cells #[.int .i64 k] 47 (0, 0))
  cop : ∃ nd M, Env W (B + 2) [B + 1] nd M [] ∧ ∀ b, M = some b → B ≤ b
  trm : ∃ q, W.heap[B + 1]? = some (.cells #[.pointer q] 24 (0, 0)) ∧ TmP W (fun b => b ∉ [B + 1]) (around k (ts.take i) t) q
theorem ArSt.kp1 {w W W2 : World} {k : Int} {t : Tm} {ts : List Tm} {i l B : Nat} (h : ArSt w W B k t ts i) (K : Kp [l] W W2) (hl : B ≤ l) (hn : ∀ cs T fr, W.heap[l]? ≠ some (.cells cs T fr)) (hm : ∀ es c, W.heap[l]? ≠ some (.map es c)) : ArSt w W2 B k t ts i := by
  obtain ⟨hB, K0, h1, ⟨nd, M, he, hM⟩, q, h2, h3⟩ := h
  have ne : ∀ {b : Nat} {cs : Array Value} {T : TypeId} {fr : Nat × Nat}, W.heap[b]? = some (.cells cs T fr) → b ∉ [l] := fun hb hm2 => by
    rw [List.mem_singleton.1 hm2] at hb
    exact hn _ _ _ hb
  have hN : ∀ g ∈ [l], NoPtr W g ∨ g ∈ [B + 1] := fun g hg => .inl (fun o q hc => by
    rw [List.mem_singleton.1 hg] at hc
    cases ho : W.heap[l]? with
    | none => simp [World.cell?, ho] at hc
    | some ob =>
      cases ob with
      | cells cs T fr => exact hn _ _ _ ho
      | _ => simp [World.cell?, ho] at hc)
  refine ⟨hB, K0.trans2 K (fun x hx => .inr (by rw [List.mem_singleton.1 hx, ← hB]; exact hl)), (K.block _ (Array.getElem?_eq_some_iff.1 h1).1 (ne h1)).trans h1, ⟨nd, M, he.kp K hN (ne he.ans) (fun b hb hm2 => ?_) (fun _ _ h => h) (fun x hx => K.lt (he.xs x hx)) (fun _ h => h), hM⟩, q, (K.block _ (Array.getElem?_eq_some_iff.1 h2).1 (ne h2)).trans h2, h3.kp K (fun g hg => (hN g hg).imp id (fun h => by simpa using h)) (fun _ _ h => h)⟩
  obtain ⟨es, clk, h4, _⟩ := he.map b hb
  rw [List.mem_singleton.1 hm2] at h4
  exact hm _ _ h4
theorem take_next {ts : List Tm} {i : Nat} {x : Tm} (hx : ts[i]? = some x) (k : Int) (t : Tm) : around k (ts.take (i + 1)) t = .node k 0 noS (part k x (around k (ts.take i) t)) (rest k x (around k (ts.take i) t)) .nil := by
  have : ts.take (i + 1) = ts.take i ++ [x] := by rw [List.take_add_one, hx]; rfl
  rw [this]
  unfold around
  rw [List.foldl_append]
  rfl
/-- A round: a copy of the next part, a new node of both. -/
theorem ArSt.step {w W W2 : World} {k : Int} {t x : Tm} {ts : List Tm} {i B : Nat} {nd : Int} {M M2 : Option Nat} {q q1 : Option Addr} (hx : ts[i]? = some x)
    (hB : B = w.heap.size) (K0 : Kp [] w W) (h1 : W.heap[B]? = some (.cells #[.int .i64 k] 47 (0, 0))) (he : Env W (B + 2) [B + 1] nd M []) (hM : ∀ b, M = some b → B ≤ b)
    (h2 : W.heap[B + 1]? = some (.cells #[.pointer q] 24 (0, 0))) (h3 : TmP W (fun b => b ∉ [B + 1]) (around k (ts.take i) t) q)
    (kk : Kp ((B + 2) :: M.toList) W W2) (ss : MapStep W M M2) {nd2 : Int} (ee : Env W2 (B + 2) [B + 1] nd2 M2 []) (tt : TmP W2 (fun b => b ∉ [B + 1]) x q1) :
    ArSt w ((W2.alloc (.cells #[.int .i64 k, .int .i64 0, .string ⟨#[]⟩, .pointer (if k = 6 then q else q1), .pointer (if k = 6 then q1 else q), .pointer none] 40)).setCell ⟨B + 1, 0, none⟩ (.pointer (some ⟨W2.heap.size, 0, none⟩))) B k t ts (i + 1) := by
  have hfoot : ∀ x ∈ (B + 2) :: M.toList, B ≤ x := fun x hx => by
    rcases List.mem_cons.1 hx with rfl | hx
    · omega
    · cases M with
      | none => simp at hx
      | some b => simp at hx; rw [hx]; exact hM b rfl
  have g1 := notIn_foot he h1 (by decide)
  have g2 := notIn_foot he h2 (by decide)
  have v1 : W2.heap[B]? = some (.cells #[.int .i64 k] 47 (0, 0)) := (kk.block _ (Array.getElem?_eq_some_iff.1 h1).1 g1).trans h1
  have v2 : W2.heap[B + 1]? = some (.cells #[.pointer q] 24 (0, 0)) := (kk.block _ (Array.getElem?_eq_some_iff.1 h2).1 g2).trans h2
  have v3 := h3.call he kk
  obtain ⟨y, hy⟩ : ∃ y, y = W2.alloc (.cells #[.int .i64 k, .int .i64 0, .string ⟨#[]⟩, .pointer (if k = 6 then q else q1), .pointer (if k = 6 then q1 else q), .pointer none] 40) := ⟨_, rfl⟩
  obtain ⟨g, hg⟩ : ∃ g, g = W2.heap.size := ⟨_, rfl⟩
  rw [← hy, ← hg]
  have ky : Kp [] W2 y := by rw [hy]; exact (Kp.refl [] W2).alloc _
  have hB1 : B + 1 < W2.heap.size := (Array.getElem?_eq_some_iff.1 v2).1
  have ht : TmP y (fun b => b ∉ [B + 1]) (around k (ts.take (i + 1)) t) (some ⟨g, 0, none⟩) := by
    rw [take_next hx, hy, hg]
    refine TmP.new (P := fun b => b ∉ [B + 1]) (by simp; omega) ?_ ?_ rfl
    · unfold part
      split
      · exact v3
      · exact tt
    · unfold rest
      split
      · exact tt
      · exact v3
  have e2 := ee.kp0 ky
  have y1 : y.heap[B]? = some (.cells #[.int .i64 k] 47 (0, 0)) := (ky.block _ (Array.getElem?_eq_some_iff.1 v1).1 (by simp)).trans v1
  have y2 : y.heap[B + 1]? = some (.cells #[.pointer q] 24 (0, 0)) := (ky.block _ hB1 (by simp)).trans v2
  have ks : Kp [B + 1] y (y.setCell ⟨B + 1, 0, none⟩ (.pointer (some ⟨g, 0, none⟩))) := (Kp.refl [B + 1] y).setCell (.inl (by simp)) _
  have g3 := notIn_foot e2 y2 (by decide)
  simp only [List.mem_cons, not_or] at g3
  have hF : ∀ x ∈ [B + 1], NoPtr y x ∨ x ∈ [B + 1] := fun x hx => .inr hx
  refine ⟨hB, ?_, ?_, ⟨nd2, M2, e2.kp ks hF (by simp) (fun b hb hm => g3.2 (by rw [← List.mem_singleton.1 hm, hb]; simp)) (fun _ _ h => h) (fun x hx => ks.lt (e2.xs x hx)) (fun _ h => h), fun b hb => ?_⟩, _, ?_, ht.kp ks (fun x hx => .inr (by simpa using hx)) (fun _ _ h => h)⟩
  · exact ((K0.trans2 kk (fun x hx => .inr (by rw [← hB]; exact hfoot x hx))).trans ky).trans2 ks (fun x hx => .inr (by rw [List.mem_singleton.1 hx, ← hB]; omega))
  · exact (ks.block _ (Array.getElem?_eq_some_iff.1 y1).1 (by simp)).trans y1
  · rcases ss with rfl | ⟨_, b1, rfl, hb1⟩
    · exact hM b hb
    · injection hb with hb
      rw [← hb]
      have := K0.size
      omega
  · exact heap_set y2 _
theorem ArSt.loop {w W : World} {B : Nat} {k : Int} {t : Tm} {ts : List Tm} {i l : Nat} {r : Loop} (h : ArSt w W B k t ts i) (hl : w.heap.size ≤ l) (hr : W.heap[l]? = some (.loop r)) (o : Obj) : ArSt w (W.putObj l o) B k t ts i := by
  have hlt := (Array.getElem?_eq_some_iff.1 hr).1
  exact h.kp1 (l := l) ⟨rfl, rfl, rfl, by simp, fun x _ hn => World.putObj_heap_other (by simpa using hn)⟩ (by rw [h.base]; exact hl) (fun cs T fr e => by rw [hr] at e; cases e) (fun es c e => by rw [hr] at e; cases e)
theorem ArSt.alloc {w W : World} {B : Nat} {k : Int} {t : Tm} {ts : List Tm} {i : Nat} (h : ArSt w W B k t ts i) (o : Obj) : ArSt w (W.alloc o) B k t ts i := by
  have K : Kp [] W (W.alloc o) := (Kp.refl [] W).alloc o
  exact h.kp1 (l := W.heap.size) (K.mono (fun _ h => by cases h)) (by rw [h.base]; exact h.kp.size) (fun cs T fr e => by simp at e) (fun es c e => by simp at e)
theorem ArSt.fin {w W : World} {B : Nat} {k : Int} {t : Tm} {ts : List Tm} {i D : Nat} (h : ArSt w W B k t ts i) (hi : ts.length ≤ i) (hD : w.heap.size ≤ D) (hd : W.heap[D]? = some (.deferred (some []))) : ∃ q, W.cell? ⟨B + 1, 0, none⟩ = some (.pointer q) ∧ Kp [] w (W.putObj D (.deferred none)) ∧ TmAt (W.putObj D (.deferred none)) (around k ts t) q := by
  have hlt := (Array.getElem?_eq_some_iff.1 hd).1
  have h2 := h.kp1 (W2 := W.putObj D (.deferred none)) (l := D) ⟨rfl, rfl, rfl, by simp, fun x _ hn => World.putObj_heap_other (by simpa using hn)⟩ (by rw [h.base]; exact hD) (fun cs T fr e => by rw [hd] at e; cases e) (fun es c e => by rw [hd] at e; cases e)
  obtain ⟨q, h3, h4⟩ := h2.trm
  obtain ⟨q', h5, _⟩ := h.trm
  have : W.heap[B + 1]? = some (.cells #[.pointer q] 24 (0, 0)) := by
    rw [← h3]
    exact (World.putObj_heap_other (fun e => by rw [← e] at hd; rw [hd] at h5; cases h5)).symm
  refine ⟨q, cell_of this 0, h2.kp, ?_⟩
  rw [List.take_of_length_le hi] at h4
  exact h4.at
theorem ar_keep {W W2 : World} {B : Nat} {nd : Int} {M : Option Nat} {q : Option Addr} (he : Env W (B + 2) [B + 1] nd M []) (h2 : W.heap[B + 1]? = some (.cells #[.pointer q] 24 (0, 0))) (kw : Kp ((B + 2) :: M.toList) W W2) {l : Nat} {o : Obj} (hl : W.heap[l]? = some o) (hc : ∀ cs T fr, o ≠ .cells cs T fr) (hm : ∀ es c, o ≠ .map es c) (ob : Obj) (u : Value) :
    ((W2.alloc ob).setCell ⟨B + 1, 0, none⟩ u).heap[l]? = W.heap[l]? := by
  have hlt := (Array.getElem?_eq_some_iff.1 hl).1
  have hn : l ∉ (B + 2) :: M.toList := fun h => by
    rcases List.mem_cons.1 h with rfl | h
    · have h1 := he.ans
      unfold CpAt at h1
      rw [hl] at h1
      injection h1 with h1
      exact hc _ _ _ h1
    · cases M with
      | none => simp at h
      | some b =>
        simp at h
        obtain ⟨es, clk, h3, _⟩ := he.map b rfl
        rw [← h, hl] at h3
        injection h3 with h3
        exact hm _ _ h3
  have hb : l ≠ B + 1 := fun e => by
    rw [e, h2] at hl
    injection hl with hl
    exact hc _ _ _ hl.symm
  rw [Below.heap_setCell _ _ _ _ hb, Below.heap_alloc _ _ _ (Nat.lt_of_lt_of_le hlt kw.size)]
  exact kw.block l hlt hn
theorem ar_below {w W W2 : World} {n₀ : Nat} (hn₀ : n₀ ≤ w.heap.size) (K0 : Kp [] w W) {M : Option Nat} (hM : ∀ b, M = some b → w.heap.size ≤ b) (kw : Kp ((w.heap.size + 2) :: M.toList) W W2) (ob : Obj) (u : Value) : Below n₀ W ((W2.alloc ob).setCell ⟨w.heap.size + 1, 0, none⟩ u) := by
  have h := kw.below (B := n₀) (Nat.le_trans hn₀ K0.size) (fun x hx => by
    rcases List.mem_cons.1 hx with rfl | hx
    · omega
    · cases M with
      | none => simp at hx
      | some b => simp at hx; rw [hx]; exact Nat.le_trans hn₀ (hM b rfl))
  have hs := K0.size
  have hs2 := kw.size
  exact (h.alloc (by omega) ob).setCell (p := ⟨w.heap.size + 1, 0, none⟩) (by show n₀ ≤ w.heap.size + 1; omega) u
set_option maxRecDepth 100000 in
set_option maxHeartbeats 4000000 in
theorem around_any {k : Int} {gf n₀ : Nat} {lb : Array Value} {qs : List (Option Addr)} {ts : List Tm} {ik : Nat → Int} {w : World} (hseq : IterOf gf lb (fun j => #[.int .i64 (ik j), .pointer (qs.getD j none)]) qs.length n₀ w) (hn₀ : n₀ ≤ w.heap.size)
    (eg : ∀ args w, (callFunc gf args).run Try.prog w = .ok (.enter gf args) w) (hT : TmsAt w qs ts) {t : Tm} {p : Option Addr} (hp : TmAt w t p) :
    Calls Try.prog 34 #[.int .i64 k, .func (.func gf) #[] lb, .pointer p] w (MkPost (around k ts t) w) := by
  obtain ⟨B, hB⟩ : ∃ B, B = w.heap.size := ⟨_, rfl⟩
  obtain ⟨y0, hy0⟩ : ∃ y, y = (w.alloc (.cells #[.int .i64 k] 47)).alloc (.cells #[.pointer p] 24) := ⟨_, rfl⟩
  obtain ⟨y, hy⟩ : ∃ y, y = y0.alloc (.cells #[.int .i64 0, .map none] 51) := ⟨_, rfl⟩
  have s0 : y0.heap.size = B + 2 := by rw [hy0, hB]; simp
  have k0 : Kp [] w y := by rw [hy, hy0]; exact (((Kp.refl [] w).alloc _).alloc _).alloc _
  have hk : y.heap[B]? = some (.cells #[.int .i64 k] 47 (0, 0)) := by
    rw [hy, Below.heap_alloc _ _ _ (by omega), hy0, Below.heap_alloc _ _ _ (by simp; omega), hB]
    exact World.alloc_heap_new w _
  have hb : y.heap[B + 1]? = some (.cells #[.pointer p] 24 (0, 0)) := by
    have h := World.alloc_heap_new (w.alloc (.cells #[.int .i64 k] 47)) (.cells #[.pointer p] 24)
    rw [World.size_alloc] at h
    rw [hy, Below.heap_alloc _ _ _ (by omega), hy0, hB]
    exact h
  have he : Env y (B + 2) [B + 1] 0 none [] := by
    rw [hy, ← s0]
    exact Env.new y0 _ (fun x hx => by rw [List.mem_singleton.1 hx]; omega)
  have hpy : TmP y (fun b => b ∉ [B + 1]) t p := (hp.kp k0).off (fun g hg => by rw [List.mem_singleton.1 hg]; exact noNode_of hb (by decide))
  have HT := Lib.hid (at_any t y (B + 2) [B + 1] 0 none [] p he (fun k hk => by cases hk) hpy)
  have c1 : y.cell? ⟨B + 1, 0, none⟩ = some (.pointer p) := cell_of hb 0
  have HY := Lib.hid (And.intro hy0 (And.intro hy (And.intro hB s0)))
  have HX := Lib.hid (And.intro k0 (And.intro hk (And.intro hb he)))
  have HTs := Lib.hid hT
  clear hT hp hpy
  subst hB
  refine (callsIn_wide (n := 3)).1 ?_
  refine callsIn_of_wp_marks Try.func34 rfl trivial ?_ rfl
  simp only [Try.ntmps34, List.size_toArray, List.length_cons, List.length_nil, Nat.reduceAdd, Nat.reduceSub, Array.replicate_succ, Array.replicate_zero, List.push_toArray, List.append_toArray, List.nil_append, List.cons_append]
  gi_wp2
  rw [← HY.out.1, ← HY.out.2.1]
  refine ⟨trivial, (callsIn_wide.2 HT.out).mono ?_⟩
  rintro e W2 ⟨q0, M2, nd2, rfl, kk, ss, ee, tt⟩
  have hBy : w.heap.size + 1 < y.heap.size := (Array.getElem?_eq_some_iff.1 HX.out.2.2.1).1
  have v1 : W2.heap[w.heap.size]? = some (.cells #[.int .i64 k] 47 (0, 0)) := (kk.block _ (by omega) (by simp)).trans HX.out.2.1
  have v2 : W2.heap[w.heap.size + 1]? = some (.cells #[.pointer p] 24 (0, 0)) := (kk.block _ hBy (by simp)).trans HX.out.2.2.1
  have z1 : W2.cell? ⟨w.heap.size + 1, 0, none⟩ = some (.pointer p) := cell_of v2 0
  have z2 : W2.frozen? ⟨w.heap.size + 1, 0, none⟩ = false := frozen_of v2 0
  obtain ⟨W3, hW3⟩ : ∃ W3, W3 = W2.setCell ⟨w.heap.size + 1, 0, none⟩ (.pointer q0) := ⟨_, rfl⟩
  have HA0 : Hid (ArSt w W3 w.heap.size k t ts 0) := by
    have g3 := notIn_foot ee v2 (by decide)
    simp only [List.mem_cons, not_or] at g3
    have ks : Kp [w.heap.size + 1] W2 W3 := by rw [hW3]; exact (Kp.refl [w.heap.size + 1] W2).setCell (.inl (by simp)) _
    refine ⟨rfl, (HX.out.1.trans2 kk (fun x hx => .inr (by simp at hx; rw [hx]; omega))).trans2 ks (fun x hx => .inr (by rw [List.mem_singleton.1 hx]; omega)), (ks.block _ (Array.getElem?_eq_some_iff.1 v1).1 (by simp)).trans v1, ⟨nd2, M2, ee.kp ks (fun x hx => .inr hx) (by simp) (fun b hb hm => g3.2 (by rw [← List.mem_singleton.1 hm, hb]; simp)) (fun _ _ h => h) (fun x hx => ks.lt (ee.xs x hx)) (fun _ h => h), fun b hb => ?_⟩, q0, ?_, tt.kp ks (fun x hx => .inr (by simpa using hx)) (fun _ _ h => h)⟩
    · rcases ss with rfl | ⟨_, b1, rfl, hb1⟩
      · cases hb
      · injection hb with hb
        rw [← hb]
        have := HX.out.1.size
        omega
    · rw [hW3]; exact heap_set v2 _
  clear HX HT kk ss ee tt v1 v2 hBy c1 hk hb he k0 s0
  gi_wp2
  rw [← hW3]
  clear z1 z2 hW3
  have hB3 : Below n₀ w W3 := HA0.out.kp.below hn₀ (fun _ h => by cases h)
  refine over_iter (gf := gf) (lb := lb) (n₀ := n₀) rfl eg hseq hB3 (Nat.le_trans hn₀ hB3.size) (fun _ => rfl) (fun i W => ArSt w W w.heap.size k t ts i) (fun o o' => (HA0.out.alloc o).alloc o') (fun i W l r r' hl hr h => h.loop (Nat.le_trans hB3.size hl) hr _)
    (fun i => { tmps := #[.int .i64 k, .func (.func gf) #[] lb, .pointer p, .pointer (some ⟨w.heap.size, 0, none⟩), undef, .pointer (some ⟨w.heap.size + 1, 0, none⟩), .pointer none, .pointer (some ⟨w.heap.size + 2, 0, none⟩), undef, .pointer (qs.getD i none), undef, undef, .pointer p, .pointer q0, .func (.func gf) #[] lb, .int .i64 (ik i), .pointer (qs.getD i none), undef, undef, undef, undef, undef, undef, undef, undef, undef, undef, undef, undef, undef, undef], defers := [] }) ?assign ?body ?done
  case assign =>
    intro l i W K hK
    gi_wp2
    exact hK
  case done =>
    intro D W hD hA hd
    obtain ⟨q, c1, c2, c3⟩ := hA.fin (by rw [HTs.out.1]; exact Nat.le_refl _) (Nat.le_trans hB3.size hD) hd
    gi_wp2
    refine ⟨by simp, .inl ⟨_, _, rfl, run_takeDeferred hd, ?_⟩⟩
    exact ⟨_, results_tmp rfl _ _ _, _, rfl, c2, c3⟩
  case body =>
    intro l D i r W hi hA hl hd
    obtain ⟨x, hx⟩ : ∃ x, ts[i]? = some x := ⟨ts[i]'(by rw [HTs.out.1]; exact hi), List.getElem?_eq_getElem _⟩
    obtain ⟨qx, hqx⟩ : ∃ qx, qs[i]? = some qx := ⟨qs[i]'hi, List.getElem?_eq_getElem _⟩
    have hgd : qs.getD i none = qx := by rw [List.getD_eq_getElem?_getD, hqx]; rfl
    rw [hgd]
    obtain ⟨_, K0, h1, ⟨nd, M, he, hM⟩, q, h2, h3⟩ := hA
    have hxt : TmAt W x qx := (HTs.out.kp K0).2 i _ _ hqx hx
    have HC : Hid (∀ V, V = W ∨ V = W.drew → Calls Try.prog 32 #[.pointer (some ⟨w.heap.size + 2, 0, none⟩), .pointer qx] V (AtPost V (w.heap.size + 2) [w.heap.size + 1] M [] x)) := fun V hV => by
      have kv : Kp [] W V := by
        rcases hV with rfl | rfl
        · exact Kp.refl _ _
        · exact (Kp.refl [] W).drew
      exact at_any x V _ _ nd M [] qx (he.kp0 kv) (fun k hk => by cases hk) ((hxt.kp0 kv).off (fun g hg => by
        rw [List.mem_singleton.1 hg]
        exact noNode_of ((kv.block _ (Array.getElem?_eq_some_iff.1 h2).1 (by simp)).trans h2) (by decide)))
    have a1 : W.cell? ⟨w.heap.size, 0, none⟩ = some (.int .i64 k) := cell_of h1 0
    have a2 : W.cell? ⟨w.heap.size + 1, 0, none⟩ = some (.pointer q) := cell_of h2 0
    have g1 := notIn_foot he h1 (by decide)
    have g2 := notIn_foot he h2 (by decide)
    have HCell : Hid (∀ V W2, V = W ∨ V = W.drew → Kp ((w.heap.size + 2) :: M.toList) V W2 → W2.cell? ⟨w.heap.size, 0, none⟩ = some (.int .i64 k) ∧ W2.cell? ⟨w.heap.size + 1, 0, none⟩ = some (.pointer q) ∧ (∀ o, (W2.alloc o).cell? ⟨w.heap.size + 1, 0, none⟩ = some (.pointer q)) ∧ (∀ o, (W2.alloc o).frozen? ⟨w.heap.size + 1, 0, none⟩ = false) ∧ Kp ((w.heap.size + 2) :: M.toList) W W2) := fun V W2 hV kk => by
      have kw : Kp ((w.heap.size + 2) :: M.toList) W W2 := by
        rcases hV with rfl | rfl
        · exact kk
        · exact ((Kp.refl _ W).drew).trans kk
      have b1 := (kw.block _ (Array.getElem?_eq_some_iff.1 h1).1 g1).trans h1
      have b2 := (kw.block _ (Array.getElem?_eq_some_iff.1 h2).1 g2).trans h2
      have b4 := fun o => (Below.heap_alloc W2 o _ (Array.getElem?_eq_some_iff.1 b2).1).trans b2
      exact ⟨cell_of b1 0, cell_of b2 0, fun o => cell_of (b4 o) 0, fun o => frozen_of (b4 o) 0, kw⟩
    have HS := Lib.hid (And.intro K0 (And.intro h1 (And.intro he (And.intro hM (And.intro h2 (And.intro h3 (And.intro hl (And.intro hd hx))))))))
    have hmx : Try.prog.follows .mixedOrders = true := by kernel_rfl
    have hls : Try.prog.follows .lateStores = true := by kernel_rfl
    clear K0 h1 he hM h2 h3 hxt g1 g2 hl hd hx
    gi_wp2
    gi_region_with_o (first
      | (refine ⟨trivial, ?_⟩; gi_at_call 39; refine (CallsIn.inRound l (callsIn_wide.2 (SD.out _))).mono ?_; rintro e w5 ⟨rfl, rfl⟩)
      | (refine ⟨trivial, ?_⟩; gi_at_call 32; refine (CallsIn.inRound l (callsIn_wide.2 (HC.out _ (by first | exact .inl rfl | exact .inr rfl)))).mono ?_; rintro e W2 ⟨q1, M2, nd2, rfl, kk, ss, ee, tt⟩; obtain ⟨b1, b2, b3, b4, kw⟩ := HCell.out _ _ (by first | exact .inl rfl | exact .inr rfl) kk; clear kk; have SD := Lib.hid (sides_any k q1 q); obtain ⟨qA, hqA⟩ : ∃ qA, qA = (if k = 6 then q else q1) := ⟨_, rfl⟩; obtain ⟨qB, hqB⟩ : ∃ qB, qB = (if k = 6 then q1 else q) := ⟨_, rfl⟩; rw [← hqA, ← hqB] at SD; have HQ := Lib.hid (And.intro hqA hqB); clear hqA hqB))
    all_goals
      gi_wp2
      have st := ArSt.step HS.out.2.2.2.2.2.2.2.2 rfl HS.out.1 HS.out.2.1 HS.out.2.2.1 HS.out.2.2.2.1 HS.out.2.2.2.2.1 HS.out.2.2.2.2.2.1 kw ss ee tt
      rw [← HQ.out.1, ← HQ.out.2] at st
      exact ⟨st, ar_below hn₀ HS.out.1 HS.out.2.2.2.1 kw _ _, ar_keep HS.out.2.2.1 HS.out.2.2.2.2.1 kw HS.out.2.2.2.2.2.2.1 (fun _ _ _ e => by cases e) (fun _ _ e => by cases e) _ _, ar_keep HS.out.2.2.1 HS.out.2.2.2.2.1 kw HS.out.2.2.2.2.2.2.2.1 (fun _ _ _ e => by cases e) (fun _ _ e => by cases e) _ _⟩
end Go.Proofs.Ytcfhhabjiofehaa
