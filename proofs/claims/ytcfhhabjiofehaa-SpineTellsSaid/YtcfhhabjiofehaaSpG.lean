/- What an answer under way remembers of nodes that it has copied; contract of keep. -/
import Derived.Test.YtcfhhabjiofehaaSpK
import Derived.Laws.Cover3
namespace Go.Proofs.Ytcfhhabjiofehaa
open Go.RowKit Go.ChangeMaps

/-- The copies of one answer, that lie at A. -/
def CpAt (w : World) (A : Nat) (nd : Int) (M : Option Nat) : Prop := w.heap[A]? = some (.cells #[.int .i64 nd, .map M] 51 (0, 0))
theorem CpAt.lt {w : World} {A : Nat} {nd : Int} {M : Option Nat} (h : CpAt w A nd M) : A < w.heap.size := (Array.getElem?_eq_some_iff.1 h).1
theorem CpAt.cells {w : World} {A : Nat} {nd : Int} {M : Option Nat} (h : CpAt w A nd M) : w.cell? ⟨A, 0, none⟩ = some (.int .i64 nd) ∧ w.cell? ⟨A, 1, none⟩ = some (.map M) := ⟨cell_of h 0, cell_of h 1⟩
theorem CpAt.kp {F : List Nat} {w w2 : World} {A : Nat} {nd : Int} {M : Option Nat} (h : CpAt w A nd M) (K : Kp F w w2) (hA : A ∉ F) : CpAt w2 A nd M := (K.block A h.lt hA).trans h
theorem CpAt.noPtr {w : World} {A : Nat} {nd : Int} {M : Option Nat} (h : CpAt w A nd M) : NoPtr w A := fun o q hc => by
  rw [cell_of h o] at hc
  match o with
  | 0 => cases hc
  | 1 => cases hc
  | o + 2 => simp at hc
abbrev Key := Nat × Option Addr
/-- An entry tells a node's copy, or is one of those that are under way. -/
def Ent (w : World) (X : List Nat) (O : List Key) (e : MapEntry) : Prop :=
  ∃ g t q, e.key = kv g ∧ e.val = .pointer q ∧ TmP w (fun b => b ∉ X) t (some ⟨g, 0, none⟩) ∧ (TmP w (fun b => b ∉ X) t q ∨ (g, q) ∈ O)
def MapOk (w : World) (X : List Nat) (O : List Key) (M : Nat) : Prop := ∃ es clk, w.heap[M]? = some (.map es clk) ∧ ∀ e ∈ es.toList, Ent w X O e
structure Env (w : World) (A : Nat) (X : List Nat) (nd : Int) (M : Option Nat) (O : List Key) : Prop where
  ans : CpAt w A nd M
  xs : ∀ x ∈ X, x < w.heap.size
  map : ∀ b, M = some b → MapOk w X O b
theorem Ent.kp {F X Y : List Nat} {w w2 : World} {O O2 : List Key} (K : Kp F w w2) (hF : ∀ g ∈ F, NoPtr w g ∨ g ∈ X) (hY : ∀ g, g < w.heap.size → g ∉ X → g ∉ Y) (hO : ∀ k ∈ O, k ∈ O2) {e : MapEntry} (h : Ent w X O e) : Ent w2 Y O2 e := by
  obtain ⟨g, t, q, h1, h2, h3, h4⟩ := h
  have hF' : ∀ g ∈ F, NoPtr w g ∨ ¬ (g ∉ X) := fun g hg => (hF g hg).imp id (fun h => by simpa using h)
  exact ⟨g, t, q, h1, h2, h3.kp K hF' hY, h4.imp (fun h => h.kp K hF' hY) (hO _)⟩
/-- What is told stays while other blocks are written, those that are under way too. -/
theorem Env.kp {F X Y : List Nat} {w w2 : World} {A : Nat} {nd : Int} {M : Option Nat} {O O2 : List Key} (h : Env w A X nd M O) (K : Kp F w w2)
    (hF : ∀ g ∈ F, NoPtr w g ∨ g ∈ X) (hA : A ∉ F) (hM : ∀ b, M = some b → b ∉ F) (hY : ∀ g, g < w.heap.size → g ∉ X → g ∉ Y) (hY2 : ∀ x ∈ Y, x < w2.heap.size) (hO : ∀ k ∈ O, k ∈ O2) : Env w2 A Y nd M O2 := by
  refine ⟨h.ans.kp K hA, hY2, fun b hb => ?_⟩
  obtain ⟨es, clk, h1, h2⟩ := h.map b hb
  have hlt : b < w.heap.size := (Array.getElem?_eq_some_iff.1 h1).1
  exact ⟨es, clk, (K.block b hlt (hM b hb)).trans h1, fun e he => (h2 e he).kp K hF hY hO⟩
theorem Env.kp0 {X : List Nat} {w w2 : World} {A : Nat} {nd : Int} {M : Option Nat} {O : List Key} (h : Env w A X nd M O) (K : Kp [] w w2) : Env w2 A X nd M O :=
  h.kp K (fun _ h => by cases h) (by simp) (fun _ _ => by simp) (fun _ _ h => h) (fun x hx => K.lt (h.xs x hx)) (fun _ h => h)
theorem MapOk.noPtr {w : World} {X : List Nat} {O : List Key} {M : Nat} (h : MapOk w X O M) : NoPtr w M := fun o q hc => by
  obtain ⟨es, clk, h1, _⟩ := h
  simp [World.cell?, h1] at hc
theorem MapOk.ne {w : World} {X : List Nat} {O : List Key} {M A : Nat} {cs : Array Value} {T : TypeId} {f : Nat × Nat} (h : MapOk w X O M) (hA : w.heap[A]? = some (.cells cs T f)) : M ≠ A := fun e => by
  obtain ⟨es, clk, h1, _⟩ := h
  rw [e, hA] at h1
  cases h1
theorem TmP.blk {w : World} {P : Nat → Prop} {t : Tm} {g : Nat} (h : TmP w P t (some ⟨g, 0, none⟩)) : Blk w g := by
  cases t with
  | nil => cases h
  | node k n s a b c =>
    obtain ⟨g', pa, pb, pc, h1, _, h3, _⟩ := h
    injection h1 with h1
    injection h1 with h1
    subst h1
    exact h3.blk
theorem MapOk.keys {w : World} {X : List Nat} {O : List Key} {es : Array MapEntry} (h : ∀ e ∈ es.toList, Ent w X O e) : Keys w es.toList := fun e he => by
  obtain ⟨g, t, q, h1, _, h3, _⟩ := h e he
  exact ⟨g, h1, h3.blk⟩
theorem kv_inj {g g2 : Nat} (h : kv g = kv g2) : g = g2 := by
  unfold kv at h
  simp only [Value.pointer.injEq, Option.some.injEq, Addr.mk.injEq, and_true] at h
  exact h
/-- What a look-up in the map tells: nothing, or a node's copy, or one that is under way. -/
theorem Env.look {X : List Nat} {w : World} {A : Nat} {nd : Int} {M : Option Nat} {O : List Key} (h : Env w A X nd M O) {g : Nat} {t : Tm} (ht : TmP w (fun b => b ∉ X) t (some ⟨g, 0, none⟩)) :
    ∃ q, (∀ n, (Instr.lookup 49 (.map M) (kv g) false).run Try.prog (w.drewN n) = .ok (.pointer q) (w.drewN n)) ∧ (q = none ∨ TmP w (fun b => b ∉ X) t q ∨ (g, q) ∈ O) := by
  cases M with
  | none => exact ⟨none, fun n => run_look0 g, .inl rfl⟩
  | some M =>
    obtain ⟨es, clk, h1, h2⟩ := h.map M rfl
    have hk := MapOk.keys h2
    cases hf : findP g es.toList 0 with
    | none => exact ⟨none, fun n => by rw [run_lookP (w := w.drewN n) h1 ht.blk hk, hf]; rfl, .inl rfl⟩
    | some x =>
      obtain ⟨j, v⟩ := x
      obtain ⟨e, he, hke, hve, _⟩ := findP_mem _ _ _ hf
      obtain ⟨g2, t2, q, k1, k2, k3, k4⟩ := h2 e he
      obtain rfl := kv_inj (hke.symm.trans k1)
      obtain rfl := k3.one ht
      exact ⟨q, fun n => by rw [run_lookP (w := w.drewN n) h1 ht.blk hk, hf, Option.map_some, Option.getD_some, ← hve, k2], .inr k4⟩
/-- What a call leaves: the map it had, or a new one where it had none. -/
def MapStep (w : World) (M M2 : Option Nat) : Prop := M2 = M ∨ (M = none ∧ ∃ b, M2 = some b ∧ w.heap.size ≤ b)
theorem MapStep.refl (w : World) (M : Option Nat) : MapStep w M M := .inl rfl
theorem MapStep.trans {a b : World} {M1 M2 M3 : Option Nat} (h : MapStep a M1 M2) (k : MapStep b M2 M3) (hs : a.heap.size ≤ b.heap.size) : MapStep a M1 M3 := by
  rcases h with rfl | ⟨rfl, b1, rfl, h1⟩
  · rcases k with rfl | ⟨rfl, b2, rfl, h2⟩
    · exact .inl rfl
    · exact .inr ⟨rfl, b2, rfl, Nat.le_trans hs h2⟩
  · rcases k with rfl | ⟨h, _⟩
    · exact .inr ⟨rfl, b1, rfl, h1⟩
    · cases h
theorem kp_step {A : Nat} {a b c : World} {M1 M2 : Option Nat} (h : Kp (A :: M1.toList) a b) (s : MapStep a M1 M2) (k : Kp (A :: M2.toList) b c) : Kp (A :: M1.toList) a c := by
  refine h.trans2 k (fun x hx => ?_)
  rcases List.mem_cons.1 hx with rfl | hx
  · exact .inl (by simp)
  · rcases s with rfl | ⟨rfl, b1, rfl, h1⟩
    · exact .inl (by simp [hx])
    · right
      simp at hx
      rw [hx]; exact h1
theorem kp_setBlock {w : World} {M : Nat} {es : Array MapEntry} {clk : Nat} (hM : w.heap[M]? = some (.map es clk)) (o : Obj) : Kp [M] w (setBlock w M o) :=
  ⟨rfl, rfl, rfl, by simp [setBlock], fun k _ hn => heap_setBlock_other hM _ (by simpa using hn)⟩
/-- The map behind a store at a node. -/
theorem MapOk.put {w : World} {X : List Nat} {O : List Key} {M : Nat} (h : MapOk w X O M) {g : Nat} {t : Tm} (ht : TmP w (fun b => b ∉ X) t (some ⟨g, 0, none⟩)) (q : Option Addr) :
    ∃ w2, (∀ n, (Instr.mapUpdate 49 (.map (some M)) (kv g) (.pointer q)).run Try.prog (w.drewN n) = .ok () (w2.drewN n)) ∧ Kp [M] w w2 ∧ MapOk w2 X ((g, q) :: O) M := by
  have hnp := h.noPtr
  obtain ⟨es, clk, h1, h2⟩ := h
  obtain ⟨es2, clk2, hrun, hes⟩ := run_putP h1 ht.blk (MapOk.keys h2) (.pointer q)
  have K := kp_setBlock h1 (.map es2 clk2)
  refine ⟨_, hrun, K, es2, clk2, heap_setBlock_same h1 _, fun e he => ?_⟩
  have hF : ∀ g ∈ [M], NoPtr w g ∨ g ∈ X := fun g hg => .inl (by rw [List.mem_singleton.1 hg]; exact hnp)
  rcases hes e he with he | ⟨hk, hv⟩
  · exact (h2 e he).kp K hF (fun _ _ h => h) (fun k hk => List.mem_cons_of_mem _ hk)
  · exact ⟨g, t, q, hk, hv, ht.kp K (fun g hg => (hF g hg).imp id (fun h => by simpa using h)) (fun _ _ h => h), .inr (by simp)⟩
/-- What keep leaves. -/
def KeepPost (w : World) (A : Nat) (X : List Nat) (nd : Int) (M : Option Nat) (O : List Key) (e : Ending) (w2 : World) : Prop :=
  ∃ M2, e = .returned (.tuple #[]) ∧ Kp (A :: M.toList) w w2 ∧ MapStep w M M2 ∧ Env w2 A X nd M2 O
theorem CpAt.setMap {w : World} {A : Nat} {nd : Int} {M : Option Nat} (h : CpAt w A nd M) (M2 : Option Nat) : CpAt (w.setCell ⟨A, 1, none⟩ (.map M2)) A nd M2 := heap_set h _
theorem CpAt.setNodes {w : World} {A : Nat} {nd : Int} {M : Option Nat} (h : CpAt w A nd M) (nd2 : Int) : CpAt (w.setCell ⟨A, 0, none⟩ (.int .i64 nd2)) A nd2 M := heap_set h _
theorem Env.ansChange {X : List Nat} {w w2 : World} {A : Nat} {nd nd2 : Int} {M : Option Nat} {O : List Key} (h : Env w A X nd M O) (K : Kp [A] w w2) (ha : CpAt w2 A nd2 M) : Env w2 A X nd2 M O := by
  have hF : ∀ g ∈ [A], NoPtr w g ∨ g ∈ X := fun g hg => .inl (by rw [List.mem_singleton.1 hg]; exact h.ans.noPtr)
  refine ⟨ha, fun x hx => K.lt (h.xs x hx), fun b hb => ?_⟩
  have hb2 := h.map b hb
  have hne := hb2.ne h.ans
  obtain ⟨es, clk, h1, h2⟩ := hb2
  exact ⟨es, clk, (K.block b (Array.getElem?_eq_some_iff.1 h1).1 (by simpa using hne)).trans h1, fun e he => (h2 e he).kp K hF (fun _ _ h => h) (fun _ h => h)⟩
theorem eqMap (M : Option Nat) (w : World) : (binOp .eql 49 (.map M) (.map none)).run Try.prog w = .ok (.bool M.isNone) w := by
  simp only [binOp]
  simp [run_equal_map_nil w _ _ _ M Try.underlying49]
theorem Env.put {X : List Nat} {w : World} {A : Nat} {nd : Int} {M : Nat} {O : List Key} (h : Env w A X nd (some M) O) {w2 : World} {O2 : List Key} (K : Kp [M] w w2) (hm : MapOk w2 X O2 M) : Env w2 A X nd (some M) O2 := by
  have hne := (h.map M rfl).ne h.ans
  exact ⟨h.ans.kp K (by simpa using hne.symm), fun x hx => K.lt (h.xs x hx), fun b hb => by injection hb with hb; rw [← hb]; exact hm⟩
set_option maxHeartbeats 3200000 in
theorem keep_many {w : World} {A : Nat} {X : List Nat} {nd : Int} {M : Nat} {O : List Key} (h : Env w A X nd (some M) O) {g : Nat} {t : Tm} (ht : TmP w (fun b => b ∉ X) t (some ⟨g, 0, none⟩)) (q : Option Addr) :
    Calls Try.prog 40 #[.pointer (some ⟨A, 0, none⟩), .pointer (some ⟨g, 0, none⟩), .pointer q] w (KeepPost w A X nd (some M) ((g, q) :: O)) := by
  unfold KeepPost
  obtain ⟨_, x1⟩ := h.ans.cells
  obtain ⟨w2, hrun, hk2, hm2⟩ := (h.map M rfl).put ht q
  have HE : Hid (Env w2 A X nd (some M) ((g, q) :: O)) := h.put hk2 hm2
  have hu : (Instr.mapUpdate 49 (.map (some M)) (kv g) (.pointer q)).run Try.prog w = .ok () w2 := hrun 0
  have hmn := eqMap (some M)
  simp only [Option.isNone_some] at hmn
  unfold kv at hu
  have KW := Lib.hid hk2
  clear h ht hrun hk2 hm2
  go_enter Try.func40, Try.ntmps40
  go_wp2_with fail
  all_goals
    go_end0
    exact ⟨some M, rfl, (KW.out).mono (fun x hx => by simp at hx; simp [hx]), MapStep.refl _ _, HE.out⟩
set_option maxHeartbeats 3200000 in
theorem keep_first {w : World} {A : Nat} {X : List Nat} {nd : Int} {O : List Key} (h : Env w A X nd none O) {g : Nat} {t : Tm} (ht : TmP w (fun b => b ∉ X) t (some ⟨g, 0, none⟩)) (q : Option Addr) :
    Calls Try.prog 40 #[.pointer (some ⟨A, 0, none⟩), .pointer (some ⟨g, 0, none⟩), .pointer q] w (KeepPost w A X nd none ((g, q) :: O)) := by
  unfold KeepPost
  obtain ⟨_, x1⟩ := h.ans.cells
  obtain ⟨M, hM⟩ : ∃ M, M = w.heap.size := ⟨_, rfl⟩
  obtain ⟨y1, hy1⟩ : ∃ y, y = w.alloc (.map #[] 0) := ⟨_, rfl⟩
  have k1 : Kp [] w y1 := by rw [hy1]; exact (Kp.refl [] w).alloc _
  have e1 := h.kp0 k1
  obtain ⟨y, hy⟩ : ∃ y, y = y1.setCell ⟨A, 1, none⟩ (.map (some M)) := ⟨_, rfl⟩
  have k2 : Kp [A] y1 y := by rw [hy]; exact (Kp.refl [A] y1).setCell (.inl (by simp)) _
  have hMA : A ≠ M := by have := h.ans.lt; omega
  have hmk : y1.heap[M]? = some (.map #[] 0) := by rw [hy1, hM]; exact (MapKept.heap_alloc w _).1
  have hmk2 : y.heap[M]? = some (.map #[] 0) := (k2.block M (Array.getElem?_eq_some_iff.1 hmk).1 (by simpa using hMA.symm)).trans hmk
  have e2 : Env y A X nd (some M) O := by
    have ha : CpAt y A nd (some M) := by rw [hy]; exact e1.ans.setMap _
    exact ⟨ha, fun x hx => k2.lt (e1.xs x hx), fun b hb => by
      injection hb with hb
      rw [← hb]
      exact ⟨#[], 0, hmk2, fun e he => by simp at he⟩⟩
  have ht2 : TmP y (fun b => b ∉ X) t (some ⟨g, 0, none⟩) := ((ht.kp0 k1).kp k2 (fun g hg => .inl (by rw [List.mem_singleton.1 hg]; exact e1.ans.noPtr)) (fun _ _ h => h))
  obtain ⟨_, x6'⟩ := e2.ans.cells
  obtain ⟨_, x6''⟩ := e1.ans.cells
  have f6 : y1.frozen? ⟨A, 1, none⟩ = false := frozen_of e1.ans 1
  have x6a : (w.alloc (.map #[] 0)).cell? ⟨A, 1, none⟩ = some (.map none) := by rw [← hy1]; exact x6''
  have f6a : (w.alloc (.map #[] 0)).frozen? ⟨A, 1, none⟩ = false := by rw [← hy1]; exact f6
  obtain ⟨w2, hrun, hk2, hm2⟩ := (e2.map M rfl).put ht2 q
  have HE : Hid (Env w2 A X nd (some M) ((g, q) :: O)) := e2.put hk2 hm2
  have hu : (Instr.mapUpdate 49 (.map (some M)) (kv g) (.pointer q)).run Try.prog y = .ok () w2 := hrun 0
  have hmn := eqMap none
  simp only [Option.isNone_none] at hmn
  have hmm := @run_makeMap Try.prog
  unfold kv at hu
  have HY := Lib.hid (And.intro hy1 (And.intro hM hy))
  have hMw : w.heap.size ≤ M := by rw [hM]; exact Nat.le_refl _
  have KW : Hid (Kp [A] w w2) := by
    have := ((k1.mono (g := [A]) (fun _ h => by cases h)).trans k2)
    exact this.trans2 hk2 (fun x hx => .inr (by rw [List.mem_singleton.1 hx]; exact hMw))
  have HMw := Lib.hid hMw
  clear h ht hy1 hy hM k1 k2 e1 e2 hrun hk2 hm2 hMA hmk hmk2 ht2 hMw x6'' f6
  go_enter Try.func40, Try.ntmps40
  go_upto_region 2 with fail
  rw [← HY.out.1, ← HY.out.2.1, ← HY.out.2.2]
  clear x6a f6a
  go_wp2_with fail
  all_goals
    go_end0
    exact ⟨some M, rfl, (KW.out).mono (fun x hx => by simp at hx; simp [hx]), .inr ⟨rfl, M, rfl, HMw.out⟩, HE.out⟩
theorem keep_any {w : World} {A : Nat} {X : List Nat} {nd : Int} {M : Option Nat} {O : List Key} (h : Env w A X nd M O) {g : Nat} {t : Tm} (ht : TmP w (fun b => b ∉ X) t (some ⟨g, 0, none⟩)) (q : Option Addr) :
    Calls Try.prog 40 #[.pointer (some ⟨A, 0, none⟩), .pointer (some ⟨g, 0, none⟩), .pointer q] w (KeepPost w A X nd M ((g, q) :: O)) := by
  cases M with
  | none => exact keep_first h ht q
  | some M => exact keep_many h ht q
end Go.Proofs.Ytcfhhabjiofehaa
