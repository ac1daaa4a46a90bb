/- What an answer under way remembers; contract of keep. -/
import Derived.Test.YtphdfopdephanaaShK
import Derived.Laws.Cover3
namespace Go.Proofs.Ytphdfopdephanaa
open Go.RowKit Go.ChangeMaps

/-- What a place becomes: lift -1 is the move itself. -/
def res (m : Mv) (li ar : Int) (t : Tm) : Tm := if li = -1 then m.at ar t else lift li ar t
abbrev Key := Nat × Int × Int × Option Addr
/-- An entry tells what its place becomes, or is one of those that are under way. -/
def Ent (w : World) (X : List Nat) (m : Mv) (O : List Key) (e : MapEntry) : Prop :=
  ∃ g ar li t q, e.key = kv g ar li ∧ e.val = .pointer q ∧ TmP w (fun b => b ∉ X) t (some ⟨g, 0, none⟩) ∧ (TmP w (fun b => b ∉ X) (res m li ar t) q ∨ (g, ar, li, q) ∈ O)
def MapOk (w : World) (X : List Nat) (m : Mv) (O : List Key) (M : Nat) : Prop := ∃ es clk, w.heap[M]? = some (.map es clk) ∧ ∀ e ∈ es.toList, Ent w X m O e
/-- A row of pointers, in a block of which P. -/
def RowAt (w : World) (P : Nat → Prop) (a : Option Addr) (ps : List (Option Addr)) : Prop := ∀ (i : Nat) (q : Option Addr), ps[i]? = some q → ∃ g o, a = some ⟨g, o, none⟩ ∧ P g ∧ w.cell? ⟨g, o + i, none⟩ = some (.pointer q)
structure Env (w : World) (A : Nat) (X : List Nat) (m : Mv) (ta : Option Addr) (tn tc : Nat) (ps : List (Option Addr)) (nd : Int) (M : Option Nat) (O : List Key) : Prop where
  ans : AnsAt w A m.frm m.by' (.slice ta tn tc) m.binds m.name nd M
  xs : ∀ x ∈ X, x < w.heap.size
  len : ps.length = tn
  lenm : m.terms.length = tn
  row : RowAt w (fun b => b ∉ X) ta ps
  trm : ∀ (i : Nat) (q : Option Addr) (t : Tm), ps[i]? = some q → m.terms[i]? = some t → TmP w (fun b => b ∉ X) t q
  map : ∀ b, M = some b → MapOk w X m O b
theorem RowAt.kp {F : List Nat} {w w2 : World} {P Q : Nat → Prop} (K : Kp F w w2) (hF : ∀ g ∈ F, NoPtr w g ∨ ¬ P g) (hQ : ∀ g, g < w.heap.size → P g → Q g) {a : Option Addr} {ps : List (Option Addr)} (h : RowAt w P a ps) : RowAt w2 Q a ps := fun i q hq => by
  obtain ⟨g, o, h1, h2, h3⟩ := h i q hq
  have hlt : g < w.heap.size := World.block_lt_of_cell? w _ h3
  refine ⟨g, o, h1, hQ g hlt h2, ?_⟩
  rw [K.cell (p := ⟨g, o + i, none⟩) hlt (fun hm => by
    rcases hF g hm with h | h
    · exact h _ _ h3
    · exact h h2)]
  exact h3
theorem Ent.kp {F X Y : List Nat} {w w2 : World} {m : Mv} {O O2 : List Key} (K : Kp F w w2) (hF : ∀ g ∈ F, NoPtr w g ∨ g ∈ X) (hY : ∀ g, g < w.heap.size → g ∉ X → g ∉ Y) (hO : ∀ k ∈ O, k ∈ O2) {e : MapEntry} (h : Ent w X m O e) : Ent w2 Y m O2 e := by
  obtain ⟨g, ar, li, t, q, h1, h2, h3, h4⟩ := h
  have hF' : ∀ g ∈ F, NoPtr w g ∨ ¬ (g ∉ X) := fun g hg => (hF g hg).imp id (fun h => by simpa using h)
  exact ⟨g, ar, li, t, q, h1, h2, h3.kp K hF' hY, h4.imp (fun h => h.kp K hF' hY) (hO _)⟩
/-- What is told stays while other blocks are written, those that are under way too. -/
theorem Env.kp {F X Y : List Nat} {w w2 : World} {A : Nat} {m : Mv} {ta : Option Addr} {tn tc : Nat} {ps : List (Option Addr)} {nd : Int} {M : Option Nat} {O O2 : List Key} (h : Env w A X m ta tn tc ps nd M O) (K : Kp F w w2)
    (hF : ∀ g ∈ F, NoPtr w g ∨ g ∈ X) (hA : A ∉ F) (hM : ∀ b, M = some b → b ∉ F) (hY : ∀ g, g < w.heap.size → g ∉ X → g ∉ Y) (hY2 : ∀ x ∈ Y, x < w2.heap.size) (hO : ∀ k ∈ O, k ∈ O2) : Env w2 A Y m ta tn tc ps nd M O2 := by
  have hF' : ∀ g ∈ F, NoPtr w g ∨ ¬ (g ∉ X) := fun g hg => (hF g hg).imp id (fun h => by simpa using h)
  refine ⟨h.ans.kp K hA, hY2, h.len, h.lenm, h.row.kp K hF' hY, fun i q t h1 h2 => (h.trm i q t h1 h2).kp K hF' hY, fun b hb => ?_⟩
  obtain ⟨es, clk, h1, h2⟩ := h.map b hb
  have hlt : b < w.heap.size := (Array.getElem?_eq_some_iff.1 h1).1
  exact ⟨es, clk, (K.block b hlt (hM b hb)).trans h1, fun e he => (h2 e he).kp K hF hY hO⟩
theorem Env.kp0 {X : List Nat} {w w2 : World} {A : Nat} {m : Mv} {ta : Option Addr} {tn tc : Nat} {ps : List (Option Addr)} {nd : Int} {M : Option Nat} {O : List Key} (h : Env w A X m ta tn tc ps nd M O) (K : Kp [] w w2) : Env w2 A X m ta tn tc ps nd M O :=
  h.kp K (fun _ h => by cases h) (by simp) (fun _ _ => by simp) (fun _ _ h => h) (fun x hx => K.lt (h.xs x hx)) (fun _ h => h)
theorem MapOk.noPtr {w : World} {X : List Nat} {m : Mv} {O : List Key} {M : Nat} (h : MapOk w X m O M) : NoPtr w M := fun o q hc => by
  obtain ⟨es, clk, h1, _⟩ := h
  simp [World.cell?, h1] at hc
theorem MapOk.ne {w : World} {X : List Nat} {m : Mv} {O : List Key} {M A : Nat} {cs : Array Value} {T : TypeId} {f : Nat × Nat} (h : MapOk w X m O M) (hA : w.heap[A]? = some (.cells cs T f)) : M ≠ A := fun e => by
  obtain ⟨es, clk, h1, _⟩ := h
  rw [e, hA] at h1
  cases h1
theorem TmP.blk {w : World} {P : Nat → Prop} {t : Tm} {g : Nat} (h : TmP w P t (some ⟨g, 0, none⟩)) : Blk w g := by
  cases t with
  | nil => cases h
  | node k n s a b c =>
    obtain ⟨g', pa, pb, pc, h1, _, h3, _⟩ := h
    injection h1 with h1
    injection h1 with h1
    subst h1
    exact h3.blk
theorem MapOk.keys {w : World} {X : List Nat} {m : Mv} {O : List Key} {es : Array MapEntry} (h : ∀ e ∈ es.toList, Ent w X m O e) : Keys w es.toList := fun e he => by
  obtain ⟨g, ar, li, t, q, h1, _, h3, _⟩ := h e he
  exact ⟨g, ar, li, h1, h3.blk⟩
theorem kv_inj {g g2 : Nat} {ar li ar2 li2 : Int} (h : kv g ar li = kv g2 ar2 li2) : g = g2 ∧ ar = ar2 ∧ li = li2 := by
  unfold kv at h
  simp only [Value.agg.injEq, Array.mk.injEq, List.cons.injEq, Value.pointer.injEq, Option.some.injEq, Addr.mk.injEq, Value.int.injEq, true_and, and_true] at h
  exact h
/-- What a look-up in the map tells: nothing, or what the place becomes, or one that is under way. -/
theorem Env.look {X : List Nat} {w : World} {A : Nat} {m : Mv} {ta : Option Addr} {tn tc : Nat} {ps : List (Option Addr)} {nd : Int} {M : Option Nat} {O : List Key} (h : Env w A X m ta tn tc ps nd M O) {g : Nat} {t : Tm} (ht : TmP w (fun b => b ∉ X) t (some ⟨g, 0, none⟩)) (ar li : Int) :
    ∃ q, (∀ n, (Instr.lookup 61 (.map M) (kv g ar li) false).run Try.prog (w.drewN n) = .ok (.pointer q) (w.drewN n)) ∧ (q = none ∨ TmP w (fun b => b ∉ X) (res m li ar t) q ∨ (g, ar, li, q) ∈ O) := by
  cases M with
  | none => exact ⟨none, fun n => run_look0 g ar li, .inl rfl⟩
  | some M =>
    obtain ⟨es, clk, h1, h2⟩ := h.map M rfl
    have hk := MapOk.keys h2
    cases hf : findP g ar li es.toList 0 with
    | none => exact ⟨none, fun n => by rw [run_lookP (w := w.drewN n) h1 ht.blk hk, hf]; rfl, .inl rfl⟩
    | some x =>
      obtain ⟨j, v⟩ := x
      obtain ⟨e, he, hke, hve, _⟩ := findP_mem _ _ _ _ _ hf
      obtain ⟨g2, ar2, li2, t2, q, k1, k2, k3, k4⟩ := h2 e he
      obtain ⟨rfl, rfl, rfl⟩ := kv_inj (hke.symm.trans k1)
      obtain rfl := k3.one ht
      exact ⟨q, fun n => by rw [run_lookP (w := w.drewN n) h1 ht.blk hk, hf, Option.map_some, Option.getD_some, ← hve, k2], .inr k4⟩
/-- What a call leaves: the map it had, or a new one where it had none. -/
def MapStep (w : World) (M M2 : Option Nat) : Prop := M2 = M ∨ (M = none ∧ ∃ b, M2 = some b ∧ w.heap.size ≤ b)
theorem MapStep.refl (w : World) (M : Option Nat) : MapStep w M M := .inl rfl
theorem MapStep.trans {a b : World} {M1 M2 M3 : Option Nat} (h : MapStep a M1 M2) (k : MapStep b M2 M3) (hs : a.heap.size ≤ b.heap.size) : MapStep a M1 M3 := by
  rcases h with rfl | ⟨rfl, b1, rfl, h1⟩
  · rcases k with rfl | ⟨rfl, b2, rfl, h2⟩
    · exact .inl rfl
    · exact .inr ⟨rfl, b2, rfl, Nat.le_trans hs h2⟩
  · rcases k with rfl | ⟨h, _⟩
    · exact .inr ⟨rfl, b1, rfl, h1⟩
    · cases h
theorem kp_step {A : Nat} {a b c : World} {M1 M2 : Option Nat} (h : Kp (A :: M1.toList) a b) (s : MapStep a M1 M2) (k : Kp (A :: M2.toList) b c) : Kp (A :: M1.toList) a c := by
  refine h.trans2 k (fun x hx => ?_)
  rcases List.mem_cons.1 hx with rfl | hx
  · exact .inl (by simp)
  · rcases s with rfl | ⟨rfl, b1, rfl, h1⟩
    · exact .inl (by simp [hx])
    · right
      simp at hx
      rw [hx]; exact h1
theorem kp_setBlock {w : World} {M : Nat} {es : Array MapEntry} {clk : Nat} (hM : w.heap[M]? = some (.map es clk)) (o : Obj) : Kp [M] w (setBlock w M o) :=
  ⟨rfl, rfl, rfl, by simp [setBlock], fun k _ hn => heap_setBlock_other hM _ (by simpa using hn)⟩
/-- The map behind a store at a place. -/
theorem MapOk.put {w : World} {X : List Nat} {m : Mv} {O : List Key} {M : Nat} (h : MapOk w X m O M) {g : Nat} {t : Tm} (ht : TmP w (fun b => b ∉ X) t (some ⟨g, 0, none⟩)) (ar li : Int) (q : Option Addr) :
    ∃ w2, (∀ n, (Instr.mapUpdate 61 (.map (some M)) (kv g ar li) (.pointer q)).run Try.prog (w.drewN n) = .ok () (w2.drewN n)) ∧ Kp [M] w w2 ∧ MapOk w2 X m ((g, ar, li, q) :: O) M := by
  have hnp := h.noPtr
  obtain ⟨es, clk, h1, h2⟩ := h
  obtain ⟨es2, clk2, hrun, hes⟩ := run_putP h1 ht.blk (MapOk.keys h2) ar li (.pointer q)
  have K := kp_setBlock h1 (.map es2 clk2)
  refine ⟨_, hrun, K, es2, clk2, heap_setBlock_same h1 _, fun e he => ?_⟩
  have hF : ∀ g ∈ [M], NoPtr w g ∨ g ∈ X := fun g hg => .inl (by rw [List.mem_singleton.1 hg]; exact hnp)
  rcases hes e he with he | ⟨hk, hv⟩
  · exact (h2 e he).kp K hF (fun _ _ h => h) (fun k hk => List.mem_cons_of_mem _ hk)
  · exact ⟨g, ar, li, t, q, hk, hv, ht.kp K (fun g hg => (hF g hg).imp id (fun h => by simpa using h)) (fun _ _ h => h), .inr (by simp)⟩
/-- What keep leaves. -/
def KeepPost (w : World) (A : Nat) (X : List Nat) (m : Mv) (ta : Option Addr) (tn tc : Nat) (ps : List (Option Addr)) (nd : Int) (M : Option Nat) (O : List Key) (e : Ending) (w2 : World) : Prop :=
  ∃ M2, e = .returned (.tuple #[]) ∧ Kp (A :: M.toList) w w2 ∧ MapStep w M M2 ∧ Env w2 A X m ta tn tc ps nd M2 O
theorem AnsAt.setMap {w : World} {b : Nat} {fr by' : Int} {tv : Value} {bd : Bool} {nm : ByteArray} {nd : Int} {M : Option Nat} (h : AnsAt w b fr by' tv bd nm nd M) (M2 : Option Nat) : AnsAt (w.setCell ⟨b, 6, none⟩ (.map M2)) b fr by' tv bd nm nd M2 := heap_set h _
theorem AnsAt.setNodes {w : World} {b : Nat} {fr by' : Int} {tv : Value} {bd : Bool} {nm : ByteArray} {nd : Int} {M : Option Nat} (h : AnsAt w b fr by' tv bd nm nd M) (nd2 : Int) : AnsAt (w.setCell ⟨b, 5, none⟩ (.int .i64 nd2)) b fr by' tv bd nm nd2 M := heap_set h _
theorem Env.ansChange {X : List Nat} {w w2 : World} {A : Nat} {m : Mv} {ta : Option Addr} {tn tc : Nat} {ps : List (Option Addr)} {nd nd2 : Int} {M : Option Nat} {O : List Key} (h : Env w A X m ta tn tc ps nd M O) (K : Kp [A] w w2) (ha : AnsAt w2 A m.frm m.by' (.slice ta tn tc) m.binds m.name nd2 M) : Env w2 A X m ta tn tc ps nd2 M O := by
  have hF : ∀ g ∈ [A], NoPtr w g ∨ g ∈ X := fun g hg => .inl (by rw [List.mem_singleton.1 hg]; exact h.ans.noPtr)
  have hF' : ∀ g ∈ [A], NoPtr w g ∨ ¬ (g ∉ X) := fun g hg => (hF g hg).imp id (fun h => by simpa using h)
  refine ⟨ha, fun x hx => K.lt (h.xs x hx), h.len, h.lenm, h.row.kp K hF' (fun _ _ h => h), fun i q t h1 h2 => (h.trm i q t h1 h2).kp K hF' (fun _ _ h => h), fun b hb => ?_⟩
  have hb2 := h.map b hb
  have hne := hb2.ne h.ans
  obtain ⟨es, clk, h1, h2⟩ := hb2
  exact ⟨es, clk, (K.block b (Array.getElem?_eq_some_iff.1 h1).1 (by simpa using hne)).trans h1, fun e he => (h2 e he).kp K hF (fun _ _ h => h) (fun _ h => h)⟩
theorem eqMap (M : Option Nat) (w : World) : (binOp .eql 61 (.map M) (.map none)).run Try.prog w = .ok (.bool M.isNone) w := by
  simp only [binOp]
  simp [run_equal_map_nil w _ _ _ M Try.underlying61]
theorem plO_cells {w y : World} {p : Option Addr} {ar li : Int} (K : Kp [] (w.alloc (plO p ar li)) y) : y.cell? ⟨w.heap.size, 0, none⟩ = some (.pointer p) ∧ y.cell? ⟨w.heap.size, 1, none⟩ = some (.int .i64 ar) ∧ y.cell? ⟨w.heap.size, 2, none⟩ = some (.int .i64 li) := by
  have h : y.heap[w.heap.size]? = some (plO p ar li) := (K.block _ (by simp) (by simp)).trans (MapKept.heap_alloc w _).1
  exact ⟨cell_of h 0, cell_of h 1, cell_of h 2⟩
set_option maxHeartbeats 3200000 in
theorem keep_few {w : World} {A : Nat} {X : List Nat} {m : Mv} {ta : Option Addr} {tn tc : Nat} {ps : List (Option Addr)} {nd : Int} {M : Option Nat} {O : List Key} (h : Env w A X m ta tn tc ps nd M O) (g : Nat) (ar li : Int) (q : Option Addr) (hn : nd ≤ 3000) :
    Calls Try.prog 52 #[.pointer (some ⟨A, 0, none⟩), kv g ar li, .pointer q] w (KeepPost w A X m ta tn tc ps nd M ((g, ar, li, q) :: O)) := by
  unfold KeepPost kv
  obtain ⟨y, hy⟩ : ∃ y, y = w.alloc (plO (some ⟨g, 0, none⟩) ar li) := ⟨_, rfl⟩
  obtain ⟨T, hT⟩ : ∃ T, T = w.heap.size := ⟨_, rfl⟩
  have k0 : Kp [] w y := by rw [hy]; exact (Kp.refl [] w).alloc _
  obtain ⟨_, _, _, _, _, x5, _⟩ := (h.kp0 k0).ans.cells
  have HE : Hid (Env y A X m ta tn tc ps nd M ((g, ar, li, q) :: O)) := h.kp k0 (fun _ h => by cases h) (by simp) (fun _ _ => by simp) (fun _ _ h => h) (fun x hx => k0.lt (h.xs x hx)) (fun k hk => List.mem_cons_of_mem _ hk)
  have d1 : decide (nd ≤ 3000) = true := by simpa using hn
  have K0 := Lib.hid k0
  have HY := Lib.hid (And.intro hy hT)
  clear h hn hy hT k0
  go_enter Try.func52, Try.ntmps52
  go_upto_region 1 with fail
  have hy := HY.out.1
  unfold plO at hy
  rw [← hy, ← HY.out.2]
  clear hy
  go_wp2_with fail
  exact bodyPost_ret (v := .tuple #[]) (by simp [results, Try.results52]) rfl ⟨M, rfl, K0.out.mono (fun _ h => by cases h), MapStep.refl _ _, HE.out⟩
set_option maxHeartbeats 3200000 in
theorem keep_many {w : World} {A : Nat} {X : List Nat} {m : Mv} {ta : Option Addr} {tn tc : Nat} {ps : List (Option Addr)} {nd : Int} {M : Nat} {O : List Key} (h : Env w A X m ta tn tc ps nd (some M) O) {g : Nat} {t : Tm} (ht : TmP w (fun b => b ∉ X) t (some ⟨g, 0, none⟩)) (ar li : Int) (q : Option Addr) (hn : ¬ nd ≤ 3000) :
    Calls Try.prog 52 #[.pointer (some ⟨A, 0, none⟩), kv g ar li, .pointer q] w (KeepPost w A X m ta tn tc ps nd (some M) ((g, ar, li, q) :: O)) := by
  unfold KeepPost
  obtain ⟨y, hy⟩ : ∃ y, y = w.alloc (plO (some ⟨g, 0, none⟩) ar li) := ⟨_, rfl⟩
  obtain ⟨T, hT⟩ : ∃ T, T = w.heap.size := ⟨_, rfl⟩
  have k0 : Kp [] w y := by rw [hy]; exact (Kp.refl [] w).alloc _
  have e0 := h.kp0 k0
  obtain ⟨_, _, _, _, _, x5, x6⟩ := e0.ans.cells
  obtain ⟨z0, z1, z2⟩ := plO_cells (w := w) (y := y) (p := some ⟨g, 0, none⟩) (ar := ar) (li := li) (by rw [hy]; exact Kp.refl _ _)
  rw [← hT] at z0 z1 z2
  obtain ⟨w2, hrun, hk2, hm2⟩ := (e0.map M rfl).put (ht.kp0 k0) ar li q
  have HE : Hid (Env w2.drew A X m ta tn tc ps nd (some M) ((g, ar, li, q) :: O)) := by
    have hne := (e0.map M rfl).ne e0.ans
    have hF : ∀ g ∈ [M], NoPtr y g ∨ g ∈ X := fun g hg => .inl (by rw [List.mem_singleton.1 hg]; exact (e0.map M rfl).noPtr)
    have hF' : ∀ g ∈ [M], NoPtr y g ∨ ¬ (g ∉ X) := fun g hg => (hF g hg).imp id (fun h => by simpa using h)
    have e2 : Env w2 A X m ta tn tc ps nd (some M) ((g, ar, li, q) :: O) := ⟨e0.ans.kp hk2 (by simpa using hne.symm), fun x hx => hk2.lt (e0.xs x hx), e0.len, e0.lenm, e0.row.kp hk2 hF' (fun _ _ h => h), fun i q t h1 h2 => (e0.trm i q t h1 h2).kp hk2 hF' (fun _ _ h => h), fun b hb => by injection hb with hb; rw [← hb]; exact hm2⟩
    exact e2.kp0 ((Kp.refl [] w2).drew)
  have d1 : decide (nd ≤ 3000) = false := by simpa using hn
  have hu : (Instr.mapUpdate 61 (.map (some M)) (kv g ar li) (.pointer q)).run Try.prog y.drew = .ok () w2.drew := hrun 1
  have hmn := eqMap (some M)
  simp only [Option.isNone_some] at hmn
  unfold kv at hu ⊢
  have HY := Lib.hid (And.intro hy hT)
  have KW : Hid (Kp [M] w w2) := (k0.mono (fun _ h => by cases h)).trans hk2
  clear h hn ht hy hT k0 e0 hrun hk2 hm2
  go_enter Try.func52, Try.ntmps52
  go_upto_region 1 with fail
  have hy := HY.out.1
  unfold plO at hy
  rw [← hy, ← HY.out.2]
  clear hy
  go_wp2_with fail
  go_region
  all_goals
    go_wp2_with fail
    go_end0
    exact ⟨some M, rfl, (KW.out.drew).mono (fun x hx => by simp at hx; simp [hx]), MapStep.refl _ _, HE.out⟩
set_option maxHeartbeats 3200000 in
theorem keep_first {w : World} {A : Nat} {X : List Nat} {m : Mv} {ta : Option Addr} {tn tc : Nat} {ps : List (Option Addr)} {nd : Int} {O : List Key} (h : Env w A X m ta tn tc ps nd none O) {g : Nat} {t : Tm} (ht : TmP w (fun b => b ∉ X) t (some ⟨g, 0, none⟩)) (ar li : Int) (q : Option Addr) (hn : ¬ nd ≤ 3000) :
    Calls Try.prog 52 #[.pointer (some ⟨A, 0, none⟩), kv g ar li, .pointer q] w (KeepPost w A X m ta tn tc ps nd none ((g, ar, li, q) :: O)) := by
  unfold KeepPost
  obtain ⟨y0, hy0⟩ : ∃ y, y = w.alloc (plO (some ⟨g, 0, none⟩) ar li) := ⟨_, rfl⟩
  obtain ⟨T, hT⟩ : ∃ T, T = w.heap.size := ⟨_, rfl⟩
  have k0 : Kp [] w y0 := by rw [hy0]; exact (Kp.refl [] w).alloc _
  have e0 := h.kp0 k0
  obtain ⟨_, _, _, _, _, x5, x6⟩ := e0.ans.cells
  obtain ⟨M, hM⟩ : ∃ M, M = y0.heap.size := ⟨_, rfl⟩
  obtain ⟨y1, hy1⟩ : ∃ y, y = y0.alloc (.map #[] 0) := ⟨_, rfl⟩
  have k1 : Kp [] y0 y1 := by rw [hy1]; exact (Kp.refl [] y0).alloc _
  have e1 := e0.kp0 k1
  obtain ⟨y, hy⟩ : ∃ y, y = y1.setCell ⟨A, 6, none⟩ (.map (some M)) := ⟨_, rfl⟩
  have k2 : Kp [A] y1 y := by rw [hy]; exact (Kp.refl [A] y1).setCell (.inl (by simp)) _
  have hMA : A ≠ M := by have := e0.ans.lt; omega
  have hmk : y1.heap[M]? = some (.map #[] 0) := by rw [hy1, hM]; exact (MapKept.heap_alloc y0 _).1
  have hmk2 : y.heap[M]? = some (.map #[] 0) := (k2.block M (Array.getElem?_eq_some_iff.1 hmk).1 (by simpa using hMA.symm)).trans hmk
  have e2 : Env y A X m ta tn tc ps nd (some M) O := by
    have ha : AnsAt y A m.frm m.by' (.slice ta tn tc) m.binds m.name nd (some M) := by rw [hy]; exact e1.ans.setMap _
    have hF : ∀ g ∈ [A], NoPtr y1 g ∨ ¬ (g ∉ X) := fun g hg => .inl (by rw [List.mem_singleton.1 hg]; exact e1.ans.noPtr)
    refine ⟨ha, fun x hx => k2.lt (e1.xs x hx), e1.len, e1.lenm, e1.row.kp k2 hF (fun _ _ h => h), fun i q t h1 h2 => (e1.trm i q t h1 h2).kp k2 hF (fun _ _ h => h), fun b hb => ?_⟩
    injection hb with hb
    rw [← hb]
    exact ⟨#[], 0, hmk2, fun e he => by simp at he⟩
  have ht2 : TmP y (fun b => b ∉ X) t (some ⟨g, 0, none⟩) := (((ht.kp0 k0).kp0 k1).kp k2 (fun g hg => .inl (by rw [List.mem_singleton.1 hg]; exact e1.ans.noPtr)) (fun _ _ h => h))
  obtain ⟨_, _, _, _, _, _, x6'⟩ := e2.ans.cells
  obtain ⟨_, _, _, _, _, _, x6''⟩ := e1.ans.cells
  have f6 : y1.frozen? ⟨A, 6, none⟩ = false := frozen_of e1.ans 6
  have x6a : (y0.alloc (.map #[] 0)).cell? ⟨A, 6, none⟩ = some (.map none) := by rw [← hy1]; exact x6''
  have f6a : (y0.alloc (.map #[] 0)).frozen? ⟨A, 6, none⟩ = false := by rw [← hy1]; exact f6
  obtain ⟨z0, z1, z2⟩ := plO_cells (w := w) (y := y0) (p := some ⟨g, 0, none⟩) (ar := ar) (li := li) (by rw [hy0]; exact Kp.refl _ _)
  rw [← hT] at z0 z1 z2
  have hTl : T < y0.heap.size := by rw [hT, hy0]; simp
  have hTA : T ∉ [A] := by have := h.ans.lt; simp; omega
  have c0 : y.cell? ⟨T, 0, none⟩ = some (.pointer (some ⟨g, 0, none⟩)) := ((k2.cell (p := ⟨T, 0, none⟩) (k1.lt hTl) hTA).trans (k1.cell0 hTl)).trans z0
  have c1 : y.cell? ⟨T, 1, none⟩ = some (.int .i64 ar) := ((k2.cell (p := ⟨T, 1, none⟩) (k1.lt hTl) hTA).trans (k1.cell0 hTl)).trans z1
  have c2 : y.cell? ⟨T, 2, none⟩ = some (.int .i64 li) := ((k2.cell (p := ⟨T, 2, none⟩) (k1.lt hTl) hTA).trans (k1.cell0 hTl)).trans z2
  obtain ⟨w2, hrun, hk2, hm2⟩ := (e2.map M rfl).put ht2 ar li q
  have HE : Hid (Env w2.drew A X m ta tn tc ps nd (some M) ((g, ar, li, q) :: O)) := by
    have hne := (e2.map M rfl).ne e2.ans
    have hF : ∀ g ∈ [M], NoPtr y g ∨ g ∈ X := fun g hg => .inl (by rw [List.mem_singleton.1 hg]; exact (e2.map M rfl).noPtr)
    have hF' : ∀ g ∈ [M], NoPtr y g ∨ ¬ (g ∉ X) := fun g hg => (hF g hg).imp id (fun h => by simpa using h)
    have e3 : Env w2 A X m ta tn tc ps nd (some M) ((g, ar, li, q) :: O) := ⟨e2.ans.kp hk2 (by simpa using hne.symm), fun x hx => hk2.lt (e2.xs x hx), e2.len, e2.lenm, e2.row.kp hk2 hF' (fun _ _ h => h), fun i q t h1 h2 => (e2.trm i q t h1 h2).kp hk2 hF' (fun _ _ h => h), fun b hb => by injection hb with hb; rw [← hb]; exact hm2⟩
    exact e3.kp0 ((Kp.refl [] w2).drew)
  have d1 : decide (nd ≤ 3000) = false := by simpa using hn
  have hu : (Instr.mapUpdate 61 (.map (some M)) (kv g ar li) (.pointer q)).run Try.prog y.drew = .ok () w2.drew := hrun 1
  have hmn := eqMap none
  simp only [Option.isNone_none] at hmn
  have hmm := @run_makeMap Try.prog
  unfold kv at hu ⊢
  have HY := Lib.hid (And.intro hy0 (And.intro hT (And.intro hy1 (And.intro hM hy))))
  have hMw : w.heap.size ≤ M := by rw [hM]; exact k0.size
  have KW : Hid (Kp [A] w w2) := by
    have := (((k0.trans k1).mono (g := [A]) (fun _ h => by cases h)).trans k2)
    exact this.trans2 hk2 (fun x hx => .inr (by rw [List.mem_singleton.1 hx]; exact hMw))
  have HMw := Lib.hid hMw
  clear h hn ht hy0 hy1 hy hM hT k0 k1 k2 e0 e1 e2 hrun hk2 hm2 hMA hmk hmk2 ht2 z0 z1 z2 hTl hTA hMw
  go_enter Try.func52, Try.ntmps52
  go_upto_region 1 with fail
  have hy := HY.out.1
  unfold plO at hy
  rw [← hy, ← HY.out.2.1]
  clear hy
  go_upto_region 4 with fail
  rw [← HY.out.2.2.1, ← HY.out.2.2.2.1, ← HY.out.2.2.2.2]
  clear x6a f6a
  go_region
  all_goals
    go_wp2_with fail
    go_end0
    exact ⟨some M, rfl, (KW.out.drew).mono (fun x hx => by simp at hx; simp [hx]), .inr ⟨rfl, M, rfl, HMw.out⟩, HE.out⟩
theorem keep_any {w : World} {A : Nat} {X : List Nat} {m : Mv} {ta : Option Addr} {tn tc : Nat} {ps : List (Option Addr)} {nd : Int} {M : Option Nat} {O : List Key} (h : Env w A X m ta tn tc ps nd M O) {g : Nat} {t : Tm} (ht : TmP w (fun b => b ∉ X) t (some ⟨g, 0, none⟩)) (ar li : Int) (q : Option Addr) :
    Calls Try.prog 52 #[.pointer (some ⟨A, 0, none⟩), kv g ar li, .pointer q] w (KeepPost w A X m ta tn tc ps nd M ((g, ar, li, q) :: O)) := by
  by_cases hn : nd ≤ 3000
  · exact keep_few h g ar li q hn
  · cases M with
    | none => exact keep_first h ht ar li q hn
    | some M => exact keep_many h ht ar li q hn
end Go.Proofs.Ytphdfopdephanaa
