/- A loop over an iterator whose rounds go on to the end, and may write what was made within the loop. -/
import Derived.Test.YtcfhhabjiofehaaSpI
namespace Go.Proofs.Ytcfhhabjiofehaa
open Go.RowKit Go.Shelf
attribute [local go_sem] Oper.semAt_some

/-- How a round ends. -/
def onPost (J : World → Prop) (n₀ l D : Nat) (W : World) : Exit → Act → World → Prop
  | .normal, _, W' => J W' ∧ Below n₀ W W' ∧ W'.heap[l]? = W.heap[l]? ∧ W'.heap[D]? = W.heap[D]?
  | _, _, _ => False
theorem over_iter {g : Operand} {ps : Array Tmp} {assign body : Code} {Q : Exit → Act → World → Prop} {a : Act} {w w0 : World} {gf : Nat} {lb : Array Value} {encs : Nat → Array Value} {N n₀ n : Nat}
    (hg : a.eval g = .func (.func gf) #[] lb) (eg : ∀ args w, (callFunc gf args).run Try.prog w = .ok (.enter gf args) w)
    (hseq : IterOf gf lb encs N n₀ w0) (hb0 : Below n₀ w0 w) (hn₀ : n₀ ≤ w.heap.size) (hps : ∀ k, (encs k).size = ps.size)
    (J : Nat → World → Prop) (h0 : ∀ o o', J 0 ((w.alloc o).alloc o'))
    (hJ : ∀ k W l r r', w.heap.size ≤ l → W.heap[l]? = some (.loop r) → J k W → J k (W.putObj l (.loop r')))
    (a₁ : Nat → Act)
    (hassign : ∀ (l k : Nat) (W : World) (K : Act → World → Prop), K (a₁ k) W → assign.wpIn (Fence.wide.inRound l) (n - 1 - 1) Try.prog (Exit.then K (fun _ _ _ => False)) { tmps := (ps.zip (encs k)).foldl (fun t (p, v) => t.setIfInBounds p v) a.tmps, defers := [] } W)
    (hbody : ∀ (l D k : Nat) (r : Loop) (W : World), k < N → J k W → W.heap[l]? = some (.loop r) → W.heap[D]? = some (.deferred (some [])) → body.wpIn (Fence.wide.inRound l) (n - 1 - 1) Try.prog (onPost (J (k + 1)) n₀ l D W) (a₁ k) W)
    (hdone : ∀ (D : Nat) (W : World), w.heap.size ≤ D → J N W → W.heap[D]? = some (.deferred (some [])) → Q .normal { a with defers := { target := .collected D, args := #[] } :: a.defers } W) :
    (Code.rangeFunc g ps assign body).wpIn Fence.wide n Try.prog Q a w := by
  refine wpIn_rangeFunc fun fn hfn => ?_
  obtain ⟨D, hD⟩ : ∃ D, D = w.heap.size := ⟨_, rfl⟩
  obtain ⟨mk, hmk⟩ : ∃ mk : LoopState → Loop, mk = fun st => { state := st, pending := none, fn, tmps := a.tmps, params := ps, assign, body, defers := w.heap.size } := ⟨_, rfl⟩
  obtain ⟨y, hy⟩ : ∃ y, y = (w.alloc (.deferred (some []))).alloc (.loop (mk .ready)) := ⟨_, rfl⟩
  have yl : y.heap[D + 1]? = some (.loop (mk .ready)) := by
    have h := World.alloc_heap_new (w.alloc (.deferred (some []))) (.loop (mk .ready))
    rw [World.size_alloc] at h
    rw [hy, hD]; exact h
  have yD : y.heap[D]? = some (.deferred (some [])) := by
    rw [hy, hD, Below.heap_alloc _ _ _ (by simp)]
    exact World.alloc_heap_new w _
  have yb : Below n₀ w0 y := by rw [hy]; exact (hb0.alloc hn₀ _).alloc (by simp; omega) _
  have yJ : J 0 y := by rw [hy]; exact h0 _ _
  have hnD : n₀ ≤ D := by omega
  refine ⟨D + 1, [{ target := .collected D, args := #[] }], y, { target := .fn (.func gf) lb, args := #[.func (.yield (D + 1)) #[] #[]] }, y, gf, #[.func (.yield (D + 1)) #[] #[]] ++ lb, y, ?_, ?_, fun _ _ => trivial, ?_, fun h => (by cases h), ?_⟩
  · rw [hy, hmk, hD]; exact run_enterLoop_outer _ _ _ _ _
  · simp only [resolve, hg]
    simp [go_sem]
  · simp [invoke, go_sem, eg]
  · refine (hseq (n - 1) (D + 1) (fun k W => J k W ∧ W.heap[D + 1]? = some (.loop (mk .ready)) ∧ W.heap[D]? = some (.deferred (some []))) y yb ?_ ⟨yJ, yl, yD⟩).mono ?_
    · rintro k W hk ⟨hj, hl, hd⟩
      have hyl := run_yield (P := Try.prog) (args := encs k) hl (by rw [hmk]; exact hps k)
      rw [hmk] at hyl
      refine ⟨fn, _, assign, body, hyl, roundIn_of_wpIn hfn (hassign _ k W _ ⟨_, run_beginRound hl (by rw [hmk]), ?_⟩)⟩
      obtain ⟨V, hV⟩ : ∃ V, V = W.putObj (D + 1) (.loop { mk .ready with state := .busy }) := ⟨_, rfl⟩
      have hlt := (Array.getElem?_eq_some_iff.1 hl).1
      have vl : V.heap[D + 1]? = some (.loop { mk .ready with state := .busy }) := by rw [hV]; exact World.putObj_heap_same hlt
      have vd : V.heap[D]? = some (.deferred (some [])) := by rw [hV, World.putObj_heap_other (by omega)]; exact hd
      have vj : J k V := by rw [hV]; exact hJ k W _ _ _ (by omega) hl hj
      have vb : Below n₀ W V := by
        rw [hV]
        exact (Below.refl n₀ W).grown (grownBy_putObj' W (D + 1) _) (by omega) (fun x e => by cases e; omega)
      rw [← hV]
      refine wpIn_mono (hbody (D + 1) D k _ V hk vj vl vd) (fun e a3 U hp => ?_)
      cases e with
      | normal =>
        obtain ⟨p1, p2, p3, p4⟩ := hp
        rw [vl] at p3
        rw [vd] at p4
        have hend := run_endRound (P := Try.prog) none p3
        refine ⟨_, _, hend, rfl, ⟨hJ (k + 1) U _ _ _ (by omega) p3 p1, ?_, ?_⟩, ?_⟩
        · rw [World.putObj_heap_same (Array.getElem?_eq_some_iff.1 p3).1, hmk]; rfl
        · rw [World.putObj_heap_other (by omega)]; exact p4
        · exact (vb.trans p2).trans ((Below.refl n₀ U).grown (grownBy_putObj' U (D + 1) _) (by have := (Array.getElem?_eq_some_iff.1 p3).1; omega) (fun x e => by cases e; omega))
      | ret => exact hp.elim
      | exit id => exact hp.elim
      | goto t => exact hp.elim
      | panic ch => exact hp.elim
      | outgrown => exact hp.elim
    · rintro e W ⟨⟨v, rfl⟩, hj, hl, hd⟩
      have hend := run_endLoop (P := Try.prog) hl (by rw [hmk]; simp)
      rw [show (mk .ready).pending = none by rw [hmk]] at hend
      exact ⟨none, _, hend, hdone D _ (by omega) (hJ N W _ _ _ (by omega) hl hj) (by rw [World.putObj_heap_other (by omega)]; exact hd)⟩
end Go.Proofs.Ytcfhhabjiofehaa
