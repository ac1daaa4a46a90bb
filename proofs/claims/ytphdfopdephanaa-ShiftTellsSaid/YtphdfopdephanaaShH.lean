/- What a place becomes: the contract that is asked of at; contract of add. -/
import Derived.Test.YtphdfopdephanaaShG
namespace Go.Proofs.Ytphdfopdephanaa
open Go.RowKit Go.ChangeMaps

/-- What is under way is a move's own place where the term is one that is put in, or a greater term. -/
def Clr (w : World) (X : List Nat) (O : List Key) (li : Int) (t : Tm) : Prop :=
  ∀ k ∈ O, (k.2.2.1 = -1 ∧ li ≠ -1) ∨ (k.2.2.1 = li ∧ ∃ t2, TmP w (fun b => b ∉ X) t2 (some ⟨k.1, 0, none⟩) ∧ t.sz < t2.sz)
def AtPost (w : World) (A : Nat) (X : List Nat) (m : Mv) (ta : Option Addr) (tn tc : Nat) (ps : List (Option Addr)) (M : Option Nat) (O : List Key) (r : Tm) (e : Ending) (w2 : World) : Prop :=
  ∃ q M2 nd2, e = .returned (.pointer q) ∧ Kp (A :: M.toList) w w2 ∧ MapStep w M M2 ∧ Env w2 A X m ta tn tc ps nd2 M2 O ∧ TmP w2 (fun b => b ∉ X) r q
/-- A place as a value. -/
def pv (p : Option Addr) (ar li : Int) : Value := .agg #[.pointer p, .int .i64 ar, .int .i64 li]
/-- At makes what it should of a term, however it is called. -/
def CAt (m : Mv) (li : Int) (t : Tm) : Prop :=
  ∀ (w : World) (A : Nat) (X : List Nat) (ta : Option Addr) (tn tc : Nat) (ps : List (Option Addr)) (nd : Int) (M : Option Nat) (O : List Key) (ar : Int) (p : Option Addr),
    Env w A X m ta tn tc ps nd M O → Clr w X O li t → 0 ≤ ar → ar + t.ht ≤ 131072 → TmP w (fun b => b ∉ X) t p →
    Calls Try.prog 40 #[.pointer (some ⟨A, 0, none⟩), pv p ar li] w (AtPost w A X m ta tn tc ps M O (res m li ar t))
theorem Clr.kp {F X Y : List Nat} {w w2 : World} {O : List Key} {li : Int} {t : Tm} (h : Clr w X O li t) (K : Kp F w w2) (hF : ∀ g ∈ F, NoPtr w g ∨ g ∈ X) (hY : ∀ g, g < w.heap.size → g ∉ X → g ∉ Y) : Clr w2 Y O li t := fun k hk => by
  rcases h k hk with h | ⟨h1, t2, h2, h3⟩
  · exact .inl h
  · exact .inr ⟨h1, t2, h2.kp K (fun g hg => (hF g hg).imp id (fun h => by simpa using h)) hY, h3⟩
theorem NoPtr_foot {w : World} {A : Nat} {X : List Nat} {m : Mv} {ta : Option Addr} {tn tc : Nat} {ps : List (Option Addr)} {nd : Int} {M : Option Nat} {O : List Key} (h : Env w A X m ta tn tc ps nd M O) : ∀ g ∈ A :: M.toList, NoPtr w g := fun g hg => by
  rcases List.mem_cons.1 hg with rfl | hg
  · exact h.ans.noPtr
  · cases M with
    | none => simp at hg
    | some M => simp at hg; rw [hg]; exact (h.map M rfl).noPtr
def ndO (k n : Int) (s : ByteArray) (pa pb pc : Option Addr) : Obj := .cells #[.int .i64 k, .int .i64 n, .string s, .pointer pa, .pointer pb, .pointer pc] 46
def nv (k n : Int) (s : ByteArray) (pa pb pc : Option Addr) : Value := .agg #[.int .i64 k, .int .i64 n, .string s, .pointer pa, .pointer pb, .pointer pc]
theorem NdAt.set3 {w : World} {g : Nat} {k n : Int} {s : ByteArray} {pa pb pc : Option Addr} (h : NdAt w g k n s pa pb pc) (q : Option Addr) : NdAt (w.setCell ⟨g, 3, none⟩ (.pointer q)) g k n s q pb pc := heap_set h _
theorem NdAt.set4 {w : World} {g : Nat} {k n : Int} {s : ByteArray} {pa pb pc : Option Addr} (h : NdAt w g k n s pa pb pc) (q : Option Addr) : NdAt (w.setCell ⟨g, 4, none⟩ (.pointer q)) g k n s pa q pc := heap_set h _
theorem NdAt.set5 {w : World} {g : Nat} {k n : Int} {s : ByteArray} {pa pb pc : Option Addr} (h : NdAt w g k n s pa pb pc) (q : Option Addr) : NdAt (w.setCell ⟨g, 5, none⟩ (.pointer q)) g k n s pa pb q := heap_set h _
/-- A node without parts is added as it is. -/
theorem add_leaf {w : World} {A : Nat} {X : List Nat} {m : Mv} {ta : Option Addr} {tn tc : Nat} {ps : List (Option Addr)} {nd : Int} {M : Option Nat} {O : List Key} (h : Env w A X m ta tn tc ps nd M O) (p : Option Addr) (ar li : Int) (k n : Int) (s : ByteArray) :
    Calls Try.prog 48 #[.pointer (some ⟨A, 0, none⟩), pv p ar li, nv k n s none none none] w (AtPost w A X m ta tn tc ps M O (.node k n s .nil .nil .nil)) := by
  unfold AtPost pv nv
  obtain ⟨T, hT⟩ : ∃ T, T = w.heap.size := ⟨_, rfl⟩
  obtain ⟨y0, hy0⟩ : ∃ y, y = w.alloc (plO p ar li) := ⟨_, rfl⟩
  obtain ⟨g, hg⟩ : ∃ g, g = y0.heap.size := ⟨_, rfl⟩
  obtain ⟨y, hy⟩ : ∃ y, y = y0.alloc (ndO k n s none none none) := ⟨_, rfl⟩
  have hgT : g = T + 1 := by rw [hg, hT, hy0]; simp
  have k0 : Kp [] w y := by rw [hy, hy0]; exact ((Kp.refl [] w).alloc _).alloc _
  have hwg : w.heap.size ≤ g := by rw [hgT, hT]; exact Nat.le_succ _
  have e0 := h.kp0 k0
  have N0 : NdAt y g k n s none none none := by rw [hy, hg]; exact NdAt.new y0 k n s none none none
  obtain ⟨_, _, _, _, _, x5, _⟩ := e0.ans.cells
  have f5 := frozen_of e0.ans 5
  obtain ⟨nd2, hnd⟩ : ∃ nd2, nd2 = IntKind.i64.wrap (nd + 1) := ⟨_, rfl⟩
  have e1 : IntKind.i64.wrap (nd + 1) = nd2 := hnd.symm
  obtain ⟨y2, hy2⟩ : ∃ y2, y2 = y.setCell ⟨A, 5, none⟩ (.int .i64 nd2) := ⟨_, rfl⟩
  have k2 : Kp [A] y y2 := by rw [hy2]; exact (Kp.refl [A] y).setCell (.inl (by simp)) _
  have e2 : Env y2 A X m ta tn tc ps nd2 M O := e0.ansChange k2 (by rw [hy2]; exact e0.ans.setNodes nd2)
  have hgA : g ∉ [A] := by have := h.ans.lt; simp; omega
  have N2 : NdAt y2 g k n s none none none := N0.kp k2 hgA
  obtain ⟨_, _, _, c3, c4, c5⟩ := N2.cells
  have hgX : g ∉ X := fun hm => by have := h.xs g hm; omega
  have HP : Hid (TmP y2 (fun b => b ∉ X) (.node k n s .nil .nil .nil) (some ⟨g, 0, none⟩)) := ⟨g, none, none, none, rfl, hgX, N2, rfl, rfl, rfl⟩
  have HE := Lib.hid e2
  have KW : Hid (Kp (A :: M.toList) w y2) := ((k0.mono (g := [A]) (fun _ h => by cases h)).trans k2).mono (fun x hx => by simp at hx; simp [hx])
  have HY := Lib.hid (And.intro hy0 (And.intro hT (And.intro hy (And.intro hgT hy2))))
  clear h hT hy0 hg hy hgT k0 hwg e0 N0 hnd hy2 k2 e2 hgA N2 hgX
  go_enter Try.func48, Try.ntmps48
  go_upto_region 1 with fail
  have hy0 := HY.out.1
  have hy := HY.out.2.2.1
  unfold plO at hy0
  unfold ndO at hy
  rw [← hy0, ← hy, ← HY.out.2.1, ← HY.out.2.2.2.1]
  clear hy hy0
  go_upto_region 2 with fail
  rw [← HY.out.2.2.2.2]
  clear x5 f5
  go_wp2_with fail
  go_ret
  exact ⟨_, M, nd2, rfl, KW.out, MapStep.refl _ _, HE.out, HP.out⟩
def PlAt (w : World) (T : Nat) (p : Option Addr) (ar li : Int) : Prop := w.heap[T]? = some (plO p ar li)
theorem notIn_foot {w : World} {A : Nat} {X : List Nat} {m : Mv} {ta : Option Addr} {tn tc : Nat} {ps : List (Option Addr)} {nd : Int} {M : Option Nat} {O : List Key} (h : Env w A X m ta tn tc ps nd M O) {b : Nat} {cs : Array Value} {T : TypeId} (hb : w.heap[b]? = some (.cells cs T (0, 0))) (hs : cs.size ≠ 7) : b ∉ A :: M.toList := fun hm => by
  rcases List.mem_cons.1 hm with rfl | hm
  · have h1 := h.ans
    unfold AnsAt at h1
    rw [hb] at h1
    injection h1 with h1
    injection h1 with h1
    rw [h1] at hs
    exact hs rfl
  · cases M with
    | none => simp at hm
    | some M => simp at hm; exact (h.map M rfl).ne hb hm.symm
/-- A node under way: all that is known between two of its parts. -/
structure St (w0 w : World) (A g T : Nat) (X : List Nat) (m : Mv) (ta : Option Addr) (tn tc : Nat) (ps : List (Option Addr)) (M0 : Option Nat) (O : List Key) (p : Option Addr) (ar li k n : Int) (s : ByteArray) (p3 p4 p5 : Option Addr) (nd : Int) (M : Option Nat) : Prop where
  hg : w0.heap.size ≤ g
  kp : Kp (A :: M0.toList) w0 w
  step : MapStep w0 M0 M
  env : Env w A (g :: X) m ta tn tc ps nd M O
  node : NdAt w g k n s p3 p4 p5
  pl : PlAt w T p ar li
theorem St.gA {w0 w : World} {A g T : Nat} {X : List Nat} {m : Mv} {ta : Option Addr} {tn tc : Nat} {ps : List (Option Addr)} {M0 : Option Nat} {O : List Key} {p : Option Addr} {ar li k n : Int} {s : ByteArray} {p3 p4 p5 : Option Addr} {nd : Int} {M : Option Nat}
    (h : St w0 w A g T X m ta tn tc ps M0 O p ar li k n s p3 p4 p5 nd M) : g ∉ A :: M.toList := notIn_foot h.env h.node (by simp)
theorem St.tg {w0 w : World} {A g T : Nat} {X : List Nat} {m : Mv} {ta : Option Addr} {tn tc : Nat} {ps : List (Option Addr)} {M0 : Option Nat} {O : List Key} {p : Option Addr} {ar li k n : Int} {s : ByteArray} {p3 p4 p5 : Option Addr} {nd : Int} {M : Option Nat}
    (h : St w0 w A g T X m ta tn tc ps M0 O p ar li k n s p3 p4 p5 nd M) : T ≠ g := fun e => by
  have h1 := h.pl
  have h2 := h.node
  unfold PlAt plO at h1
  unfold NdAt at h2
  rw [e, h2] at h1
  injection h1 with h1
  injection h1 with h1
  have := congrArg Array.size h1
  simp at this
/-- Behind a call. -/
theorem St.call {w0 w w2 : World} {A g T : Nat} {X : List Nat} {m : Mv} {ta : Option Addr} {tn tc : Nat} {ps : List (Option Addr)} {M0 : Option Nat} {O : List Key} {p : Option Addr} {ar li k n : Int} {s : ByteArray} {p3 p4 p5 : Option Addr} {nd : Int} {M : Option Nat}
    (h : St w0 w A g T X m ta tn tc ps M0 O p ar li k n s p3 p4 p5 nd M) {nd2 : Int} {M2 : Option Nat} {O2 : List Key} (K : Kp (A :: M.toList) w w2) (s2 : MapStep w M M2) (e2 : Env w2 A (g :: X) m ta tn tc ps nd2 M2 O2) : St w0 w2 A g T X m ta tn tc ps M0 O2 p ar li k n s p3 p4 p5 nd2 M2 :=
  ⟨h.hg, kp_step h.kp h.step K, h.step.trans s2 h.kp.size, e2, h.node.kp K h.gA, (K.block T ((Array.getElem?_eq_some_iff.1 h.pl).1) (notIn_foot h.env h.pl (by simp))).trans h.pl⟩
theorem St.kp0 {w0 w w2 : World} {A g T : Nat} {X : List Nat} {m : Mv} {ta : Option Addr} {tn tc : Nat} {ps : List (Option Addr)} {M0 : Option Nat} {O : List Key} {p : Option Addr} {ar li k n : Int} {s : ByteArray} {p3 p4 p5 : Option Addr} {nd : Int} {M : Option Nat}
    (h : St w0 w A g T X m ta tn tc ps M0 O p ar li k n s p3 p4 p5 nd M) (K : Kp [] w w2) : St w0 w2 A g T X m ta tn tc ps M0 O p ar li k n s p3 p4 p5 nd M :=
  h.call (K.mono (fun _ h => by cases h)) (MapStep.refl _ _) (h.env.kp0 K)
/-- Behind a store into the node. -/
theorem St.store {w0 w : World} {A g T : Nat} {X : List Nat} {m : Mv} {ta : Option Addr} {tn tc : Nat} {ps : List (Option Addr)} {M0 : Option Nat} {O : List Key} {p : Option Addr} {ar li k n : Int} {s : ByteArray} {p3 p4 p5 q3 q4 q5 : Option Addr} {nd : Int} {M : Option Nat}
    (h : St w0 w A g T X m ta tn tc ps M0 O p ar li k n s p3 p4 p5 nd M) (i : Nat) (v : Value) (hN : NdAt (w.setCell ⟨g, i, none⟩ v) g k n s q3 q4 q5) : St w0 (w.setCell ⟨g, i, none⟩ v) A g T X m ta tn tc ps M0 O p ar li k n s q3 q4 q5 nd M := by
  have K : Kp [g] w (w.setCell ⟨g, i, none⟩ v) := (Kp.refl [g] w).setCell (.inl (by simp)) _
  refine ⟨h.hg, h.kp.setCell (.inr h.hg) _, h.step, ?_, hN, (K.block T ((Array.getElem?_eq_some_iff.1 h.pl).1) (by simpa using h.tg)).trans h.pl⟩
  have hgA := h.gA
  simp only [List.mem_cons, not_or] at hgA
  refine h.env.kp K (fun x hx => .inr (by rw [List.mem_singleton.1 hx]; simp)) (by simpa using fun e => hgA.1 e.symm) (fun b hb hm => ?_) (fun _ _ h => h) (fun x hx => K.lt (h.env.xs x hx)) (fun _ h => h)
  rw [List.mem_singleton] at hm
  subst hm
  subst hb
  exact hgA.2 (by simp)
theorem TmP.store {w : World} {g i : Nat} {X : List Nat} {v : Value} {t : Tm} {q : Option Addr} (h : TmP w (fun b => b ∉ g :: X) t q) : TmP (w.setCell ⟨g, i, none⟩ v) (fun b => b ∉ g :: X) t q :=
  h.kp ((Kp.refl [g] w).setCell (.inl (by simp)) _) (fun x hx => .inr (by rw [List.mem_singleton.1 hx]; simp)) (fun _ _ h => h)
theorem TmP.call {w w2 : World} {A : Nat} {X : List Nat} {m : Mv} {ta : Option Addr} {tn tc : Nat} {ps : List (Option Addr)} {nd : Int} {M : Option Nat} {O : List Key} (h : Env w A X m ta tn tc ps nd M O) (K : Kp (A :: M.toList) w w2) {t : Tm} {q : Option Addr} (ht : TmP w (fun b => b ∉ X) t q) : TmP w2 (fun b => b ∉ X) t q :=
  ht.kp K (fun g hg => .inl (NoPtr_foot h g hg)) (fun _ _ h => h)
theorem Clr.call {w w2 : World} {A : Nat} {X : List Nat} {m : Mv} {ta : Option Addr} {tn tc : Nat} {ps : List (Option Addr)} {nd : Int} {M : Option Nat} {O O2 : List Key} (h : Env w A X m ta tn tc ps nd M O) (K : Kp (A :: M.toList) w w2) {li : Int} {t : Tm} (hc : Clr w X O2 li t) : Clr w2 X O2 li t :=
  hc.kp K (fun g hg => .inl (NoPtr_foot h g hg)) (fun _ _ h => h)
theorem Clr.store {w : World} {g i : Nat} {X : List Nat} {v : Value} {O : List Key} {li : Int} {t : Tm} (h : Clr w (g :: X) O li t) : Clr (w.setCell ⟨g, i, none⟩ v) (g :: X) O li t :=
  h.kp ((Kp.refl [g] w).setCell (.inl (by simp)) _) (fun x hx => .inr (by rw [List.mem_singleton.1 hx]; simp)) (fun _ _ h => h)
/-- A part's place is clear too. -/
theorem Clr.part {w : World} {X : List Nat} {O : List Key} {li ar : Int} {t a : Tm} {g : Nat} {q : Option Addr} (h : Clr w X O li t) (ht : TmP w (fun b => b ∉ X) t (some ⟨g, 0, none⟩)) (hs : a.sz < t.sz) : Clr w X ((g, ar, li, q) :: O) li a := fun k hk => by
  rcases List.mem_cons.1 hk with rfl | hk
  · exact .inr ⟨rfl, t, ht, hs⟩
  · rcases h k hk with h | ⟨h1, t2, h2, h3⟩
    · exact .inl h
    · exact .inr ⟨h1, t2, h2, by omega⟩
/-- A node that was under way is done. -/
theorem Env.close {w : World} {A g : Nat} {X : List Nat} {m : Mv} {ta : Option Addr} {tn tc : Nat} {ps : List (Option Addr)} {nd : Int} {M : Option Nat} {O : List Key} {g0 : Nat} {ar li : Int} {q : Option Addr} {t : Tm} (h : Env w A (g :: X) m ta tn tc ps nd M ((g0, ar, li, q) :: O)) (ht : TmP w (fun b => b ∉ g :: X) t (some ⟨g0, 0, none⟩)) (hr : TmP w (fun b => b ∉ X) (res m li ar t) q) : Env w A X m ta tn tc ps nd M O := by
  have hw : ∀ b, b < w.heap.size → b ∉ g :: X → b ∉ X := fun b _ hb hm => hb (List.mem_cons_of_mem _ hm)
  refine ⟨h.ans, fun x hx => h.xs x (List.mem_cons_of_mem _ hx), h.len, h.lenm, h.row.kp (Kp.refl [] w) (fun _ h => by cases h) hw, fun i q t h1 h2 => (h.trm i q t h1 h2).mono hw, fun b hb => ?_⟩
  obtain ⟨es, clk, h1, h2⟩ := h.map b hb
  refine ⟨es, clk, h1, fun e he => ?_⟩
  obtain ⟨g', ar', li', t', q', k1, k2, k3, k4⟩ := h2 e he
  refine ⟨g', ar', li', t', q', k1, k2, k3.mono hw, ?_⟩
  rcases k4 with k4 | k4
  · exact .inl (k4.mono hw)
  · rcases List.mem_cons.1 k4 with k4 | k4
    · simp only [Prod.mk.injEq] at k4
      obtain ⟨rfl, rfl, rfl, rfl⟩ := k4
      obtain rfl := k3.one ht
      exact .inl hr
    · exact .inr k4
end Go.Proofs.Ytphdfopdephanaa
