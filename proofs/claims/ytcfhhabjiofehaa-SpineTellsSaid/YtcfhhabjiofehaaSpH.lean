/- Contract of term of package spine: a copy of a term, whatever of it is shared. -/
import Derived.Test.YtcfhhabjiofehaaSpG
namespace Go.Proofs.Ytcfhhabjiofehaa
open Go.RowKit Go.ChangeMaps

/-- What is under way are greater terms. -/
def Clr (w : World) (X : List Nat) (O : List Key) (t : Tm) : Prop := ∀ k ∈ O, ∃ t2, TmP w (fun b => b ∉ X) t2 (some ⟨k.1, 0, none⟩) ∧ t.sz < t2.sz
def AtPost (w : World) (A : Nat) (X : List Nat) (M : Option Nat) (O : List Key) (t : Tm) (e : Ending) (w2 : World) : Prop :=
  ∃ q M2 nd2, e = .returned (.pointer q) ∧ Kp (A :: M.toList) w w2 ∧ MapStep w M M2 ∧ Env w2 A X nd2 M2 O ∧ TmP w2 (fun b => b ∉ X) t q
/-- The call makes a copy of a term, however it is called. -/
def CAt (t : Tm) : Prop :=
  ∀ (w : World) (A : Nat) (X : List Nat) (nd : Int) (M : Option Nat) (O : List Key) (p : Option Addr),
    Env w A X nd M O → Clr w X O t → TmP w (fun b => b ∉ X) t p →
    Calls Try.prog 32 #[.pointer (some ⟨A, 0, none⟩), .pointer p] w (AtPost w A X M O t)
theorem Clr.kp {F X Y : List Nat} {w w2 : World} {O : List Key} {t : Tm} (h : Clr w X O t) (K : Kp F w w2) (hF : ∀ g ∈ F, NoPtr w g ∨ g ∈ X) (hY : ∀ g, g < w.heap.size → g ∉ X → g ∉ Y) : Clr w2 Y O t := fun k hk => by
  obtain ⟨t2, h2, h3⟩ := h k hk
  exact ⟨t2, h2.kp K (fun g hg => (hF g hg).imp id (fun h => by simpa using h)) hY, h3⟩
theorem NoPtr_foot {w : World} {A : Nat} {X : List Nat} {nd : Int} {M : Option Nat} {O : List Key} (h : Env w A X nd M O) : ∀ g ∈ A :: M.toList, NoPtr w g := fun g hg => by
  rcases List.mem_cons.1 hg with rfl | hg
  · exact h.ans.noPtr
  · cases M with
    | none => simp at hg
    | some M => simp at hg; rw [hg]; exact (h.map M rfl).noPtr
theorem notIn_foot {w : World} {A : Nat} {X : List Nat} {nd : Int} {M : Option Nat} {O : List Key} (h : Env w A X nd M O) {b : Nat} {cs : Array Value} {T : TypeId} {fr : Nat × Nat} (hb : w.heap[b]? = some (.cells cs T fr)) (hs : T ≠ 51) : b ∉ A :: M.toList := fun hm => by
  rcases List.mem_cons.1 hm with rfl | hm
  · have h1 := h.ans
    unfold CpAt at h1
    rw [hb] at h1
    injection h1 with h1
    injection h1 with _ h1
    exact hs h1
  · cases M with
    | none => simp at hm
    | some M => simp at hm; exact (h.map M rfl).ne hb hm.symm
theorem TmP.call {w w2 : World} {A : Nat} {X : List Nat} {nd : Int} {M : Option Nat} {O : List Key} (h : Env w A X nd M O) (K : Kp (A :: M.toList) w w2) {t : Tm} {q : Option Addr} (ht : TmP w (fun b => b ∉ X) t q) : TmP w2 (fun b => b ∉ X) t q :=
  ht.kp K (fun g hg => .inl (NoPtr_foot h g hg)) (fun _ _ h => h)
theorem Clr.call {w w2 : World} {A : Nat} {X : List Nat} {nd : Int} {M : Option Nat} {O O2 : List Key} (h : Env w A X nd M O) (K : Kp (A :: M.toList) w w2) {t : Tm} (hc : Clr w X O2 t) : Clr w2 X O2 t :=
  hc.kp K (fun g hg => .inl (NoPtr_foot h g hg)) (fun _ _ h => h)
/-- A part is clear too. -/
theorem Clr.part {w : World} {X : List Nat} {O : List Key} {t a : Tm} {g : Nat} {q : Option Addr} (h : Clr w X O t) (ht : TmP w (fun b => b ∉ X) t (some ⟨g, 0, none⟩)) (hs : a.sz < t.sz) : Clr w X ((g, q) :: O) a := fun k hk => by
  rcases List.mem_cons.1 hk with rfl | hk
  · exact ⟨t, ht, hs⟩
  · obtain ⟨t2, h2, h3⟩ := h k hk
    exact ⟨t2, h2, by omega⟩
/-- A node that was under way is done. -/
theorem Env.close {w : World} {A g : Nat} {X : List Nat} {nd : Int} {M : Option Nat} {O : List Key} {g0 : Nat} {q : Option Addr} {t : Tm} (h : Env w A (g :: X) nd M ((g0, q) :: O)) (ht : TmP w (fun b => b ∉ g :: X) t (some ⟨g0, 0, none⟩)) (hr : TmP w (fun b => b ∉ X) t q) : Env w A X nd M O := by
  have hw : ∀ b, b < w.heap.size → b ∉ g :: X → b ∉ X := fun b _ hb hm => hb (List.mem_cons_of_mem _ hm)
  refine ⟨h.ans, fun x hx => h.xs x (List.mem_cons_of_mem _ hx), fun b hb => ?_⟩
  obtain ⟨es, clk, h1, h2⟩ := h.map b hb
  refine ⟨es, clk, h1, fun e he => ?_⟩
  obtain ⟨g', t', q', k1, k2, k3, k4⟩ := h2 e he
  refine ⟨g', t', q', k1, k2, k3.mono hw, ?_⟩
  rcases k4 with k4 | k4
  · exact .inl (k4.mono hw)
  · rcases List.mem_cons.1 k4 with k4 | k4
    · simp only [Prod.mk.injEq] at k4
      obtain ⟨rfl, rfl⟩ := k4
      obtain rfl := k3.one ht
      exact .inl hr
    · exact .inr k4
/-- A node under way: all that is known between two of its parts. -/
structure St (w0 w : World) (A g : Nat) (X : List Nat) (M0 : Option Nat) (O : List Key) (k n : Int) (s : ByteArray) (nd : Int) (M : Option Nat) : Prop where
  hg : w0.heap.size ≤ g
  kp : Kp (A :: M0.toList) w0 w
  step : MapStep w0 M0 M
  env : Env w A (g :: X) nd M O
  node : NdAt w g k n s none none none
theorem St.call {w0 w w2 : World} {A g : Nat} {X : List Nat} {M0 : Option Nat} {O : List Key} {k n : Int} {s : ByteArray} {nd : Int} {M : Option Nat} (h : St w0 w A g X M0 O k n s nd M) {nd2 : Int} {M2 : Option Nat} {O2 : List Key} (K : Kp (A :: M.toList) w w2) (s2 : MapStep w M M2) (e2 : Env w2 A (g :: X) nd2 M2 O2) : St w0 w2 A g X M0 O2 k n s nd2 M2 :=
  ⟨h.hg, kp_step h.kp h.step K, h.step.trans s2 h.kp.size, e2, h.node.kp K (notIn_foot h.env h.node (by decide))⟩
theorem St.kp0 {w0 w w2 : World} {A g : Nat} {X : List Nat} {M0 : Option Nat} {O : List Key} {k n : Int} {s : ByteArray} {nd : Int} {M : Option Nat} (h : St w0 w A g X M0 O k n s nd M) (K : Kp [] w w2) : St w0 w2 A g X M0 O k n s nd M :=
  h.call (K.mono (fun _ h => by cases h)) (MapStep.refl _ _) (h.env.kp0 K)
/-- The node's parts are stored: it is done. -/
theorem St.fin {w0 w : World} {A g : Nat} {X : List Nat} {M0 : Option Nat} {O : List Key} {g0 : Nat} {k n : Int} {s : ByteArray} {nd : Int} {M : Option Nat} (h : St w0 w A g X M0 ((g0, some ⟨g, 0, none⟩) :: O) k n s nd M) (hgX : g ∉ X) {a b c : Tm} {qa qb qc : Option Addr} (ha : TmP w (fun b => b ∉ g :: X) a qa) (hb : TmP w (fun b => b ∉ g :: X) b qb) (hc : TmP w (fun b => b ∉ g :: X) c qc) (ht : TmP w (fun b => b ∉ g :: X) (.node k n s a b c) (some ⟨g0, 0, none⟩)) :
    AtPost w0 A X M0 O (.node k n s a b c) (.returned (.pointer (some ⟨g, 0, none⟩))) (((w.setCell ⟨g, 3, none⟩ (.pointer qa)).setCell ⟨g, 4, none⟩ (.pointer qb)).setCell ⟨g, 5, none⟩ (.pointer qc)) := by
  obtain ⟨w9, hw9⟩ : ∃ w9, w9 = ((w.setCell ⟨g, 3, none⟩ (.pointer qa)).setCell ⟨g, 4, none⟩ (.pointer qb)).setCell ⟨g, 5, none⟩ (.pointer qc) := ⟨_, rfl⟩
  rw [← hw9]
  have K9 : Kp [g] w w9 := by rw [hw9]; exact (((Kp.refl [g] w).setCell (.inl (by simp)) _).setCell (.inl (by simp)) _).setCell (.inl (by simp)) _
  have N9 : NdAt w9 g k n s qa qb qc := by rw [hw9]; exact ((h.node.set3 qa).set4 qb).set5 qc
  have hF : ∀ x ∈ [g], NoPtr w x ∨ x ∈ g :: X := fun x hx => .inr (by rw [List.mem_singleton.1 hx]; simp)
  have hF' : ∀ x ∈ [g], NoPtr w x ∨ ¬ (x ∉ g :: X) := fun x hx => .inr (by rw [List.mem_singleton.1 hx]; simp)
  have hgA := notIn_foot h.env h.node (by decide)
  simp only [List.mem_cons, not_or] at hgA
  have e9 : Env w9 A (g :: X) nd M ((g0, some ⟨g, 0, none⟩) :: O) := h.env.kp K9 hF (by simpa using fun e => hgA.1 e.symm) (fun b hb hm => by
    rw [List.mem_singleton] at hm
    exact hgA.2 (by rw [← hm, hb]; simp)) (fun _ _ h => h) (fun x hx => K9.lt (h.env.xs x hx)) (fun _ h => h)
  have hw : ∀ b, b < w.heap.size → b ∉ g :: X → b ∉ X := fun b _ hb hm => hb (List.mem_cons_of_mem _ hm)
  have hr : TmP w9 (fun b => b ∉ X) (.node k n s a b c) (some ⟨g, 0, none⟩) := ⟨g, qa, qb, qc, rfl, hgX, N9, ha.kp K9 hF' hw, hb.kp K9 hF' hw, hc.kp K9 hF' hw⟩
  refine ⟨_, M, nd, rfl, h.kp.trans2 K9 (fun x hx => .inr (by rw [List.mem_singleton.1 hx]; exact h.hg)), h.step, e9.close (ht.kp K9 hF' (fun _ _ h => h)) hr, hr⟩
theorem at_nil : CAt .nil := by
  intro w A X nd M O p h hc hp
  obtain rfl : p = none := hp
  have HE := Lib.hid h
  unfold AtPost
  clear h hc
  go_enter Try.func32, Try.ntmps32
  go_wp2_with fail
  go_ret
  exact ⟨none, M, nd, rfl, Kp.refl _ _, MapStep.refl _ _, HE.out, rfl⟩
set_option maxHeartbeats 6400000 in
theorem at_node {k n : Int} {s : ByteArray} {a b c : Tm} (ca : CAt a) (cb : CAt b) (cc : CAt c) : CAt (.node k n s a b c) := by
  unfold CAt at ca cb cc ⊢
  intro w A X nd M O p h hcl hp
  have hp0 := hp
  obtain ⟨g0, pa, pb, pc, rfl, hg0X, ND, ha, hb, hc⟩ := hp
  obtain ⟨v, hlook, hv⟩ := h.look hp0
  have hl0 : (Instr.lookup 49 (.map M) (.pointer (some ⟨g0, 0, none⟩)) false).run Try.prog w = .ok (.pointer v) w := hlook 0
  obtain ⟨x0, x1, x2, x3, x4, x5⟩ := ND.cells
  obtain ⟨y0, y1⟩ := h.ans.cells
  have fy0 := frozen_of h.ans 0
  have S00 : Hid (∀ W, Kp (A :: M.toList) w W → W.cell? ⟨g0, 3, none⟩ = some (.pointer pa) ∧ W.cell? ⟨g0, 4, none⟩ = some (.pointer pb) ∧ W.cell? ⟨g0, 5, none⟩ = some (.pointer pc)) :=
    fun W K => have h := (ND.kp K (notIn_foot h ND (by decide))).cells; ⟨h.2.2.2.1, h.2.2.2.2.1, h.2.2.2.2.2⟩
  clear hlook
  cases v with
  | some v0 =>
    have HR : Hid (TmP w (fun b => b ∉ X) (.node k n s a b c) (some v0)) := by
      rcases hv with h1 | h1 | h1
      · cases h1
      · exact h1
      · obtain ⟨t9, h9, hs⟩ := hcl _ h1
        have := h9.one hp0
        rw [this] at hs
        exact absurd hs (Nat.lt_irrefl _)
    have HE := Lib.hid h
    unfold AtPost
    clear h hcl hp0 hv ha hb hc ND ca cb cc hg0X
    go_enter Try.func32, Try.ntmps32
    go_wp2_with fail
    go_ret
    exact ⟨some v0, M, nd, rfl, Kp.refl _ _, MapStep.refl _ _, HE.out, HR.out⟩
  | none =>
    clear hv
    obtain ⟨nd2, hnd⟩ : ∃ nd2, nd2 = IntKind.i64.wrap (nd + 1) := ⟨_, rfl⟩
    have e1 : IntKind.i64.wrap (nd + 1) = nd2 := hnd.symm
    obtain ⟨y, hy⟩ : ∃ y, y = w.setCell ⟨A, 0, none⟩ (.int .i64 nd2) := ⟨_, rfl⟩
    have k1 : Kp [A] w y := by rw [hy]; exact (Kp.refl [A] w).setCell (.inl (by simp)) _
    have E1 : Env y A X nd2 M O := h.ansChange k1 (by rw [hy]; exact h.ans.setNodes nd2)
    have k1' : Kp (A :: M.toList) w y := k1.mono (fun x hx => by simp at hx; simp [hx])
    have t1 := hp0.call h k1'
    have a1 := ha.call h k1'
    have b1 := hb.call h k1'
    have c1 := hc.call h k1'
    have l1 := hcl.call h k1'
    have ND1 := ND.kp k1' (notIn_foot h ND (by decide))
    obtain ⟨y2, hy2⟩ : ∃ y2, y2 = (y.alloc (ndO k n s none none none)).drew := ⟨_, rfl⟩
    obtain ⟨g, hg⟩ : ∃ g, g = y.heap.size := ⟨_, rfl⟩
    have k2 : Kp [] y y2 := by rw [hy2]; exact ((Kp.refl [] y).alloc _).drew
    have hwg : w.heap.size ≤ g := by rw [hg]; exact k1.size
    have hgX : g ∉ X := fun hm => by have := E1.xs g hm; omega
    have hXg : ∀ x, x < y.heap.size → x ∉ X → x ∉ g :: X := fun x hx hn hm => by
      rcases List.mem_cons.1 hm with rfl | hm
      · omega
      · exact hn hm
    have hX2 : ∀ x ∈ g :: X, x < y2.heap.size := fun x hx => by
      rcases List.mem_cons.1 hx with rfl | hx
      · rw [hy2, hg]; simp
      · exact k2.lt (E1.xs x hx)
    have N2 : NdAt y2 g k n s none none none := by rw [hy2, hg]; exact NdAt.new y k n s none none none
    have E2 : Env y2 A (g :: X) nd2 M O := E1.kp k2 (fun _ h => by cases h) (by simp) (fun _ _ => by simp) hXg hX2 (fun _ h => h)
    have S2 : St w y2 A g X M O k n s nd2 M := ⟨hwg, k1'.trans (k2.mono (fun _ h => by cases h)), MapStep.refl _ _, E2, N2⟩
    have hF0 : ∀ x ∈ ([] : List Nat), NoPtr y x ∨ ¬ (x ∉ X) := fun _ h => by cases h
    have t2 := t1.kp k2 hF0 hXg
    have a2 := a1.kp k2 hF0 hXg
    have b2 := b1.kp k2 hF0 hXg
    have c2 := c1.kp k2 hF0 hXg
    have l2 : Clr y2 (g :: X) O (.node k n s a b c) := l1.kp k2 (fun _ h => by cases h) hXg
    have ND2 := ND1.kp k2 (by simp)
    obtain ⟨v0, v1, v2, v3, v4, v5⟩ := ND1.cells
    obtain ⟨z0, z1, z2, z3, z4, z5⟩ := ND2.cells
    obtain ⟨u0, u1⟩ := E2.ans.cells
    have HY := Lib.hid (And.intro hy (And.intro hy2 hg))
    have HS2 := Lib.hid S2
    have HT2 := Lib.hid t2
    have HA2 := Lib.hid a2
    have HB2 := Lib.hid b2
    have HC2 := Lib.hid c2
    have HL2 := Lib.hid l2
    have HgX := Lib.hid hgX
    have HCA := Lib.hid ca
    have HCB := Lib.hid cb
    have HCC := Lib.hid cc
    have SZ : Hid (a.sz < (Tm.node k n s a b c).sz ∧ b.sz < (Tm.node k n s a b c).sz ∧ c.sz < (Tm.node k n s a b c).sz) := by
      show _ ∧ _ ∧ _
      simp only [Tm.sz]; omega
    clear h hcl hp0 ha hb hc ND ca cb cc hg0X hnd k1 E1 k1' t1 a1 b1 c1 l1 ND1 hy2 k2 hwg hgX hXg hX2 N2 E2 S2 hF0 t2 a2 b2 c2 l2 ND2 hg
    by_cases hleaf : pa = none ∧ pb = none ∧ pc = none
    · obtain ⟨rfl, rfl, rfl⟩ := hleaf
      have HRes : Hid (TmP y2 (fun b => b ∉ X) (.node k n s a b c) (some ⟨g, 0, none⟩)) := by
        have hw : ∀ b, b < y2.heap.size → b ∉ g :: X → b ∉ X := fun b _ hb hm => hb (List.mem_cons_of_mem _ hm)
        exact ⟨g, none, none, none, rfl, HgX.out, HS2.out.node, HA2.out.mono hw, HB2.out.mono hw, HC2.out.mono hw⟩
      have HEnd : Hid (Env y2 A X nd2 M O) := by
        have S := HS2.out
        exact S.env.kp (Kp.refl [] _) (fun _ h => by cases h) (by simp) (fun _ _ => by simp) (fun b _ hb hm => hb (List.mem_cons_of_mem _ hm)) (fun x hx => S.env.xs x (List.mem_cons_of_mem _ hx)) (fun _ h => h)
      have HK : Hid (Kp (A :: M.toList) w y2) := HS2.out.kp
      unfold AtPost
      clear HS2 HT2 HA2 HB2 HC2 HL2 HgX HCA HCB HCC SZ
      go_enter Try.func32, Try.ntmps32
      go_upto_region 7 with fail
      rw [← HY.out.1]
      clear x0 x1 x2 x3 x4 x5 y0 y1 fy0 e1 hl0 hy
      go_region
      all_goals
        have hy2 := HY.out.2.1
        unfold ndO at hy2
        rw [← hy2, ← HY.out.2.2]
        clear hy2 v0 v1 v2 v3 v4 v5
        go_wp2_with fail
        go_ret
        exact ⟨_, M, nd2, rfl, HK.out, MapStep.refl _ _, HEnd.out, HRes.out⟩
    · have hcase : (∃ x, pa = some x) ∨ (pa = none ∧ ∃ x, pb = some x) ∨ (pa = none ∧ pb = none ∧ ∃ x, pc = some x) := by
        cases pa with
        | some x => exact .inl ⟨x, rfl⟩
        | none =>
          cases pb with
          | some x => exact .inr (.inl ⟨rfl, x, rfl⟩)
          | none =>
            cases pc with
            | some x => exact .inr (.inr ⟨rfl, rfl, x, rfl⟩)
            | none => exact absurd ⟨rfl, rfl, rfl⟩ hleaf
      clear hleaf
      have S0 : Hid (∀ W, Kp (A :: M.toList) w W → W.cell? ⟨g0, 3, none⟩ = some (.pointer pa) ∧ W.cell? ⟨g0, 4, none⟩ = some (.pointer pb) ∧ W.cell? ⟨g0, 5, none⟩ = some (.pointer pc)) := S00
      have HG : Hid (w.heap.size ≤ g) := HS2.out.hg
      unfold AtPost at HCA HCB HCC
      clear S00
      by_cases hmany : (3000 : Int) < nd2
      · have d1 : decide ((3000 : Int) < nd2) = true := by simpa using hmany
        have HK : Hid (Calls Try.prog 40 #[.pointer (some ⟨A, 0, none⟩), .pointer (some ⟨g0, 0, none⟩), .pointer (some ⟨g, 0, none⟩)] y2 (KeepPost y2 A (g :: X) nd2 M ((g0, some ⟨g, 0, none⟩) :: O))) :=
          keep_any HS2.out.env HT2.out (some ⟨g, 0, none⟩)
        clear hmany
        rcases hcase with ⟨xa, rfl⟩ | ⟨rfl, xa, rfl⟩ | ⟨rfl, rfl, xa, rfl⟩
        · go_enter Try.func32, Try.ntmps32
          go_upto_region 7 with fail
          rw [← HY.out.1]
          clear x0 x1 x2 x3 x4 x5 y0 y1 fy0 e1 hl0 hy
          go_region
          have hy2 := HY.out.2.1
          unfold ndO at hy2
          rw [← hy2, ← HY.out.2.2]
          clear hy2 v0 v1 v2 v3 v4 v5
          go_upto_region 11 with (go_at_call 40; refine Calls.mono HK.out ?_; rintro e w4 ⟨M4, rfl, kk, ss, ee⟩)
          have S4 := HS2.out.call kk ss ee
          have t4 := HT2.out.call HS2.out.env kk
          have a4 := HA2.out.call HS2.out.env kk
          have b4 := HB2.out.call HS2.out.env kk
          have c4 := HC2.out.call HS2.out.env kk
          have l4 : Clr w4 (g :: X) O (.node k n s a b c) := HL2.out.call HS2.out.env kk
          clear z0 z1 z2 z3 z4 z5 u0 u1 kk ss ee HK
          have K0 : Hid (Kp (A :: M.toList) w w4.drew) := S4.kp.drew
          have S4d := S4.kp0 ((Kp.refl [] w4).drew)
          have d4 := (Kp.refl [] w4).drew
          have t4d := t4.kp0 d4
          have b4d := b4.kp0 d4
          have c4d := c4.kp0 d4
          have l4d : Clr w4.drew (g :: X) O (.node k n s a b c) := l4.kp d4 (fun _ h => by cases h) (fun _ _ h => h)
          have HKA : Hid _ := HCA.out w4.drew A (g :: X) _ M4 _ (some xa) S4d.env (Clr.part l4d t4d SZ.out.1) (a4.kp0 d4)
          have HS4 := Lib.hid S4d
          have HT4 := Lib.hid t4d
          have HB4 := Lib.hid b4d
          have HC4 := Lib.hid c4d
          have HL4 := Lib.hid l4d
          obtain ⟨z3, z4, z5⟩ := S0.out _ K0.out
          clear S4 S4d d4 t4 t4d a4 b4 b4d c4 c4d l4 l4d HS2 HT2 HA2 HB2 HC2 HL2 HCA
          go_region_held3 (fun w' => w'.cell? ⟨g0, 3, none⟩ = some (.pointer (some xa)) ∧ w'.cell? ⟨g0, 4, none⟩ = some (.pointer (pb)) ∧ w'.cell? ⟨g0, 5, none⟩ = some (.pointer (pc)))
            (first | exact S0.out _ K0.out | exact S0.out _ S6.out.kp | exact S0.out _ S8.out.kp | exact S0.out _ SA.out.kp | exact S0.out _ (SA.out.kp.setCell (.inr HG.out) _) | exact S0.out _ ((SA.out.kp.setCell (.inr HG.out) _).setCell (.inr HG.out) _) | exact S0.out _ (((SA.out.kp.setCell (.inr HG.out) _).setCell (.inr HG.out) _).setCell (.inr HG.out) _))
            (first
            | (go_at_call 32; have _h := T8; refine Calls.mono HKC.out ?_; rintro e wa ⟨q3, Ma, nda, rfl, kk, ss, ee, tt⟩; have SA := Lib.hid (S8.out.call kk ss ee); have TA := Lib.hid (T8.out.call S8.out.env kk); have RA := Lib.hid (R8.out.call S8.out.env kk); have UA := Lib.hid (U8.out.call S8.out.env kk); have VA := Lib.hid tt; clear kk ss ee tt; obtain ⟨_, _, _, g3, g4, g5⟩ := SA.out.node.cells; have f3 := frozen_of SA.out.node 3; have f4 := frozen_of SA.out.node 4; have f5 := frozen_of SA.out.node 5)
            | (go_at_call 32; have _h := T6; refine Calls.mono HKB.out ?_; rintro e w8 ⟨q2, M8, nd8, rfl, kk, ss, ee, tt⟩; have S8 := Lib.hid (S6.out.call kk ss ee); have T8 := Lib.hid (T6.out.call S6.out.env kk); have C8 := Lib.hid (C6.out.call S6.out.env kk); have L8 := Lib.hid (L6.out.call S6.out.env kk); have R8 := Lib.hid (R6.out.call S6.out.env kk); have U8 := Lib.hid tt; clear kk ss ee tt; have HKC := Lib.hid (HCC.out w8 A (g :: X) _ M8 _ (pc) S8.out.env (Clr.part L8.out T8.out SZ.out.2.2) C8.out))
            | (go_at_call 32; refine Calls.mono HKA.out ?_; rintro e w6 ⟨q1, M6, nd6, rfl, kk, ss, ee, tt⟩; have S6 := Lib.hid (HS4.out.call kk ss ee); have T6 := Lib.hid (HT4.out.call HS4.out.env kk); have B6 := Lib.hid (HB4.out.call HS4.out.env kk); have C6 := Lib.hid (HC4.out.call HS4.out.env kk); have L6 := Lib.hid (HL4.out.call HS4.out.env kk); have R6 := Lib.hid tt; clear kk ss ee tt; have HKB := Lib.hid (HCB.out w6 A (g :: X) _ M6 _ (pb) S6.out.env (Clr.part L6.out T6.out SZ.out.2.1) B6.out)))
          all_goals
            go_wp2_with fail
            go_ret
            exact SA.out.fin HgX.out RA.out UA.out VA.out TA.out
        · go_enter Try.func32, Try.ntmps32
          go_upto_region 7 with fail
          rw [← HY.out.1]
          clear x0 x1 x2 x3 x4 x5 y0 y1 fy0 e1 hl0 hy
          go_region
          have hy2 := HY.out.2.1
          unfold ndO at hy2
          rw [← hy2, ← HY.out.2.2]
          clear hy2 v0 v1 v2 v3 v4 v5
          go_upto_region 11 with (go_at_call 40; refine Calls.mono HK.out ?_; rintro e w4 ⟨M4, rfl, kk, ss, ee⟩)
          have S4 := HS2.out.call kk ss ee
          have t4 := HT2.out.call HS2.out.env kk
          have a4 := HA2.out.call HS2.out.env kk
          have b4 := HB2.out.call HS2.out.env kk
          have c4 := HC2.out.call HS2.out.env kk
          have l4 : Clr w4 (g :: X) O (.node k n s a b c) := HL2.out.call HS2.out.env kk
          clear z0 z1 z2 z3 z4 z5 u0 u1 kk ss ee HK
          have K0 : Hid (Kp (A :: M.toList) w w4.drew) := S4.kp.drew
          have S4d := S4.kp0 ((Kp.refl [] w4).drew)
          have d4 := (Kp.refl [] w4).drew
          have t4d := t4.kp0 d4
          have b4d := b4.kp0 d4
          have c4d := c4.kp0 d4
          have l4d : Clr w4.drew (g :: X) O (.node k n s a b c) := l4.kp d4 (fun _ h => by cases h) (fun _ _ h => h)
          have HKA : Hid _ := HCA.out w4.drew A (g :: X) _ M4 _ (none) S4d.env (Clr.part l4d t4d SZ.out.1) (a4.kp0 d4)
          have HS4 := Lib.hid S4d
          have HT4 := Lib.hid t4d
          have HB4 := Lib.hid b4d
          have HC4 := Lib.hid c4d
          have HL4 := Lib.hid l4d
          obtain ⟨z3, z4, z5⟩ := S0.out _ K0.out
          clear S4 S4d d4 t4 t4d a4 b4 b4d c4 c4d l4 l4d HS2 HT2 HA2 HB2 HC2 HL2 HCA
          go_region_held3 (fun w' => w'.cell? ⟨g0, 3, none⟩ = some (.pointer (none)) ∧ w'.cell? ⟨g0, 4, none⟩ = some (.pointer (some xa)) ∧ w'.cell? ⟨g0, 5, none⟩ = some (.pointer (pc)))
            (first | exact S0.out _ K0.out | exact S0.out _ S6.out.kp | exact S0.out _ S8.out.kp | exact S0.out _ SA.out.kp | exact S0.out _ (SA.out.kp.setCell (.inr HG.out) _) | exact S0.out _ ((SA.out.kp.setCell (.inr HG.out) _).setCell (.inr HG.out) _) | exact S0.out _ (((SA.out.kp.setCell (.inr HG.out) _).setCell (.inr HG.out) _).setCell (.inr HG.out) _))
            (first
            | (go_at_call 32; have _h := T8; refine Calls.mono HKC.out ?_; rintro e wa ⟨q3, Ma, nda, rfl, kk, ss, ee, tt⟩; have SA := Lib.hid (S8.out.call kk ss ee); have TA := Lib.hid (T8.out.call S8.out.env kk); have RA := Lib.hid (R8.out.call S8.out.env kk); have UA := Lib.hid (U8.out.call S8.out.env kk); have VA := Lib.hid tt; clear kk ss ee tt; obtain ⟨_, _, _, g3, g4, g5⟩ := SA.out.node.cells; have f3 := frozen_of SA.out.node 3; have f4 := frozen_of SA.out.node 4; have f5 := frozen_of SA.out.node 5)
            | (go_at_call 32; have _h := T6; refine Calls.mono HKB.out ?_; rintro e w8 ⟨q2, M8, nd8, rfl, kk, ss, ee, tt⟩; have S8 := Lib.hid (S6.out.call kk ss ee); have T8 := Lib.hid (T6.out.call S6.out.env kk); have C8 := Lib.hid (C6.out.call S6.out.env kk); have L8 := Lib.hid (L6.out.call S6.out.env kk); have R8 := Lib.hid (R6.out.call S6.out.env kk); have U8 := Lib.hid tt; clear kk ss ee tt; have HKC := Lib.hid (HCC.out w8 A (g :: X) _ M8 _ (pc) S8.out.env (Clr.part L8.out T8.out SZ.out.2.2) C8.out))
            | (go_at_call 32; refine Calls.mono HKA.out ?_; rintro e w6 ⟨q1, M6, nd6, rfl, kk, ss, ee, tt⟩; have S6 := Lib.hid (HS4.out.call kk ss ee); have T6 := Lib.hid (HT4.out.call HS4.out.env kk); have B6 := Lib.hid (HB4.out.call HS4.out.env kk); have C6 := Lib.hid (HC4.out.call HS4.out.env kk); have L6 := Lib.hid (HL4.out.call HS4.out.env kk); have R6 := Lib.hid tt; clear kk ss ee tt; have HKB := Lib.hid (HCB.out w6 A (g :: X) _ M6 _ (some xa) S6.out.env (Clr.part L6.out T6.out SZ.out.2.1) B6.out)))
          all_goals
            go_wp2_with fail
            go_ret
            exact SA.out.fin HgX.out RA.out UA.out VA.out TA.out
        · go_enter Try.func32, Try.ntmps32
          go_upto_region 7 with fail
          rw [← HY.out.1]
          clear x0 x1 x2 x3 x4 x5 y0 y1 fy0 e1 hl0 hy
          go_region
          have hy2 := HY.out.2.1
          unfold ndO at hy2
          rw [← hy2, ← HY.out.2.2]
          clear hy2 v0 v1 v2 v3 v4 v5
          go_upto_region 11 with (go_at_call 40; refine Calls.mono HK.out ?_; rintro e w4 ⟨M4, rfl, kk, ss, ee⟩)
          have S4 := HS2.out.call kk ss ee
          have t4 := HT2.out.call HS2.out.env kk
          have a4 := HA2.out.call HS2.out.env kk
          have b4 := HB2.out.call HS2.out.env kk
          have c4 := HC2.out.call HS2.out.env kk
          have l4 : Clr w4 (g :: X) O (.node k n s a b c) := HL2.out.call HS2.out.env kk
          clear z0 z1 z2 z3 z4 z5 u0 u1 kk ss ee HK
          have K0 : Hid (Kp (A :: M.toList) w w4.drew) := S4.kp.drew
          have S4d := S4.kp0 ((Kp.refl [] w4).drew)
          have d4 := (Kp.refl [] w4).drew
          have t4d := t4.kp0 d4
          have b4d := b4.kp0 d4
          have c4d := c4.kp0 d4
          have l4d : Clr w4.drew (g :: X) O (.node k n s a b c) := l4.kp d4 (fun _ h => by cases h) (fun _ _ h => h)
          have HKA : Hid _ := HCA.out w4.drew A (g :: X) _ M4 _ (none) S4d.env (Clr.part l4d t4d SZ.out.1) (a4.kp0 d4)
          have HS4 := Lib.hid S4d
          have HT4 := Lib.hid t4d
          have HB4 := Lib.hid b4d
          have HC4 := Lib.hid c4d
          have HL4 := Lib.hid l4d
          obtain ⟨z3, z4, z5⟩ := S0.out _ K0.out
          clear S4 S4d d4 t4 t4d a4 b4 b4d c4 c4d l4 l4d HS2 HT2 HA2 HB2 HC2 HL2 HCA
          go_region_held3 (fun w' => w'.cell? ⟨g0, 3, none⟩ = some (.pointer (none)) ∧ w'.cell? ⟨g0, 4, none⟩ = some (.pointer (none)) ∧ w'.cell? ⟨g0, 5, none⟩ = some (.pointer (some xa)))
            (first | exact S0.out _ K0.out | exact S0.out _ S6.out.kp | exact S0.out _ S8.out.kp | exact S0.out _ SA.out.kp | exact S0.out _ (SA.out.kp.setCell (.inr HG.out) _) | exact S0.out _ ((SA.out.kp.setCell (.inr HG.out) _).setCell (.inr HG.out) _) | exact S0.out _ (((SA.out.kp.setCell (.inr HG.out) _).setCell (.inr HG.out) _).setCell (.inr HG.out) _))
            (first
            | (go_at_call 32; have _h := T8; refine Calls.mono HKC.out ?_; rintro e wa ⟨q3, Ma, nda, rfl, kk, ss, ee, tt⟩; have SA := Lib.hid (S8.out.call kk ss ee); have TA := Lib.hid (T8.out.call S8.out.env kk); have RA := Lib.hid (R8.out.call S8.out.env kk); have UA := Lib.hid (U8.out.call S8.out.env kk); have VA := Lib.hid tt; clear kk ss ee tt; obtain ⟨_, _, _, g3, g4, g5⟩ := SA.out.node.cells; have f3 := frozen_of SA.out.node 3; have f4 := frozen_of SA.out.node 4; have f5 := frozen_of SA.out.node 5)
            | (go_at_call 32; have _h := T6; refine Calls.mono HKB.out ?_; rintro e w8 ⟨q2, M8, nd8, rfl, kk, ss, ee, tt⟩; have S8 := Lib.hid (S6.out.call kk ss ee); have T8 := Lib.hid (T6.out.call S6.out.env kk); have C8 := Lib.hid (C6.out.call S6.out.env kk); have L8 := Lib.hid (L6.out.call S6.out.env kk); have R8 := Lib.hid (R6.out.call S6.out.env kk); have U8 := Lib.hid tt; clear kk ss ee tt; have HKC := Lib.hid (HCC.out w8 A (g :: X) _ M8 _ (some xa) S8.out.env (Clr.part L8.out T8.out SZ.out.2.2) C8.out))
            | (go_at_call 32; refine Calls.mono HKA.out ?_; rintro e w6 ⟨q1, M6, nd6, rfl, kk, ss, ee, tt⟩; have S6 := Lib.hid (HS4.out.call kk ss ee); have T6 := Lib.hid (HT4.out.call HS4.out.env kk); have B6 := Lib.hid (HB4.out.call HS4.out.env kk); have C6 := Lib.hid (HC4.out.call HS4.out.env kk); have L6 := Lib.hid (HL4.out.call HS4.out.env kk); have R6 := Lib.hid tt; clear kk ss ee tt; have HKB := Lib.hid (HCB.out w6 A (g :: X) _ M6 _ (none) S6.out.env (Clr.part L6.out T6.out SZ.out.2.1) B6.out)))
          all_goals
            go_wp2_with fail
            go_ret
            exact SA.out.fin HgX.out RA.out UA.out VA.out TA.out
      · have d1 : decide ((3000 : Int) < nd2) = false := by simpa using hmany
        clear hmany
        rcases hcase with ⟨xa, rfl⟩ | ⟨rfl, xa, rfl⟩ | ⟨rfl, rfl, xa, rfl⟩
        · go_enter Try.func32, Try.ntmps32
          go_upto_region 7 with fail
          rw [← HY.out.1]
          clear x0 x1 x2 x3 x4 x5 y0 y1 fy0 e1 hl0 hy
          go_region
          have hy2 := HY.out.2.1
          unfold ndO at hy2
          rw [← hy2, ← HY.out.2.2]
          clear hy2 v0 v1 v2 v3 v4 v5
          go_upto_region 11 with fail
          obtain ⟨w4, hw4⟩ : ∃ w4, w4 = y2 := ⟨_, rfl⟩
          obtain ⟨M4, hM4⟩ : ∃ M4, M4 = M := ⟨_, rfl⟩
          have S4 : St w y2 A g X M ((g0, some ⟨g, 0, none⟩) :: O) k n s nd2 M := HS2.out.call (Kp.refl _ _) (MapStep.refl _ _) (HS2.out.env.kp (Kp.refl [] _) (fun _ h => by cases h) (by simp) (fun _ _ => by simp) (fun _ _ h => h) HS2.out.env.xs (fun _ h => List.mem_cons_of_mem _ h))
          have t4 := HT2.out
          have a4 := HA2.out
          have b4 := HB2.out
          have c4 := HC2.out
          have l4 : Clr y2 (g :: X) O (.node k n s a b c) := HL2.out
          rw [← hw4] at S4 t4 a4 b4 c4 l4 ⊢
          have S4 : St w w4 A g X M ((g0, some ⟨g, 0, none⟩) :: O) k n s nd2 M4 := by rw [hM4]; exact S4
          clear z0 z1 z2 z3 z4 z5 u0 u1 hw4 hM4
          have K0 : Hid (Kp (A :: M.toList) w w4.drew) := S4.kp.drew
          have S4d := S4.kp0 ((Kp.refl [] w4).drew)
          have d4 := (Kp.refl [] w4).drew
          have t4d := t4.kp0 d4
          have b4d := b4.kp0 d4
          have c4d := c4.kp0 d4
          have l4d : Clr w4.drew (g :: X) O (.node k n s a b c) := l4.kp d4 (fun _ h => by cases h) (fun _ _ h => h)
          have HKA : Hid _ := HCA.out w4.drew A (g :: X) _ M4 _ (some xa) S4d.env (Clr.part l4d t4d SZ.out.1) (a4.kp0 d4)
          have HS4 := Lib.hid S4d
          have HT4 := Lib.hid t4d
          have HB4 := Lib.hid b4d
          have HC4 := Lib.hid c4d
          have HL4 := Lib.hid l4d
          obtain ⟨z3, z4, z5⟩ := S0.out _ K0.out
          clear S4 S4d d4 t4 t4d a4 b4 b4d c4 c4d l4 l4d HS2 HT2 HA2 HB2 HC2 HL2 HCA
          go_region_held3 (fun w' => w'.cell? ⟨g0, 3, none⟩ = some (.pointer (some xa)) ∧ w'.cell? ⟨g0, 4, none⟩ = some (.pointer (pb)) ∧ w'.cell? ⟨g0, 5, none⟩ = some (.pointer (pc)))
            (first | exact S0.out _ K0.out | exact S0.out _ S6.out.kp | exact S0.out _ S8.out.kp | exact S0.out _ SA.out.kp | exact S0.out _ (SA.out.kp.setCell (.inr HG.out) _) | exact S0.out _ ((SA.out.kp.setCell (.inr HG.out) _).setCell (.inr HG.out) _) | exact S0.out _ (((SA.out.kp.setCell (.inr HG.out) _).setCell (.inr HG.out) _).setCell (.inr HG.out) _))
            (first
            | (go_at_call 32; have _h := T8; refine Calls.mono HKC.out ?_; rintro e wa ⟨q3, Ma, nda, rfl, kk, ss, ee, tt⟩; have SA := Lib.hid (S8.out.call kk ss ee); have TA := Lib.hid (T8.out.call S8.out.env kk); have RA := Lib.hid (R8.out.call S8.out.env kk); have UA := Lib.hid (U8.out.call S8.out.env kk); have VA := Lib.hid tt; clear kk ss ee tt; obtain ⟨_, _, _, g3, g4, g5⟩ := SA.out.node.cells; have f3 := frozen_of SA.out.node 3; have f4 := frozen_of SA.out.node 4; have f5 := frozen_of SA.out.node 5)
            | (go_at_call 32; have _h := T6; refine Calls.mono HKB.out ?_; rintro e w8 ⟨q2, M8, nd8, rfl, kk, ss, ee, tt⟩; have S8 := Lib.hid (S6.out.call kk ss ee); have T8 := Lib.hid (T6.out.call S6.out.env kk); have C8 := Lib.hid (C6.out.call S6.out.env kk); have L8 := Lib.hid (L6.out.call S6.out.env kk); have R8 := Lib.hid (R6.out.call S6.out.env kk); have U8 := Lib.hid tt; clear kk ss ee tt; have HKC := Lib.hid (HCC.out w8 A (g :: X) _ M8 _ (pc) S8.out.env (Clr.part L8.out T8.out SZ.out.2.2) C8.out))
            | (go_at_call 32; refine Calls.mono HKA.out ?_; rintro e w6 ⟨q1, M6, nd6, rfl, kk, ss, ee, tt⟩; have S6 := Lib.hid (HS4.out.call kk ss ee); have T6 := Lib.hid (HT4.out.call HS4.out.env kk); have B6 := Lib.hid (HB4.out.call HS4.out.env kk); have C6 := Lib.hid (HC4.out.call HS4.out.env kk); have L6 := Lib.hid (HL4.out.call HS4.out.env kk); have R6 := Lib.hid tt; clear kk ss ee tt; have HKB := Lib.hid (HCB.out w6 A (g :: X) _ M6 _ (pb) S6.out.env (Clr.part L6.out T6.out SZ.out.2.1) B6.out)))
          all_goals
            go_wp2_with fail
            go_ret
            exact SA.out.fin HgX.out RA.out UA.out VA.out TA.out
        · go_enter Try.func32, Try.ntmps32
          go_upto_region 7 with fail
          rw [← HY.out.1]
          clear x0 x1 x2 x3 x4 x5 y0 y1 fy0 e1 hl0 hy
          go_region
          have hy2 := HY.out.2.1
          unfold ndO at hy2
          rw [← hy2, ← HY.out.2.2]
          clear hy2 v0 v1 v2 v3 v4 v5
          go_upto_region 11 with fail
          obtain ⟨w4, hw4⟩ : ∃ w4, w4 = y2 := ⟨_, rfl⟩
          obtain ⟨M4, hM4⟩ : ∃ M4, M4 = M := ⟨_, rfl⟩
          have S4 : St w y2 A g X M ((g0, some ⟨g, 0, none⟩) :: O) k n s nd2 M := HS2.out.call (Kp.refl _ _) (MapStep.refl _ _) (HS2.out.env.kp (Kp.refl [] _) (fun _ h => by cases h) (by simp) (fun _ _ => by simp) (fun _ _ h => h) HS2.out.env.xs (fun _ h => List.mem_cons_of_mem _ h))
          have t4 := HT2.out
          have a4 := HA2.out
          have b4 := HB2.out
          have c4 := HC2.out
          have l4 : Clr y2 (g :: X) O (.node k n s a b c) := HL2.out
          rw [← hw4] at S4 t4 a4 b4 c4 l4 ⊢
          have S4 : St w w4 A g X M ((g0, some ⟨g, 0, none⟩) :: O) k n s nd2 M4 := by rw [hM4]; exact S4
          clear z0 z1 z2 z3 z4 z5 u0 u1 hw4 hM4
          have K0 : Hid (Kp (A :: M.toList) w w4.drew) := S4.kp.drew
          have S4d := S4.kp0 ((Kp.refl [] w4).drew)
          have d4 := (Kp.refl [] w4).drew
          have t4d := t4.kp0 d4
          have b4d := b4.kp0 d4
          have c4d := c4.kp0 d4
          have l4d : Clr w4.drew (g :: X) O (.node k n s a b c) := l4.kp d4 (fun _ h => by cases h) (fun _ _ h => h)
          have HKA : Hid _ := HCA.out w4.drew A (g :: X) _ M4 _ (none) S4d.env (Clr.part l4d t4d SZ.out.1) (a4.kp0 d4)
          have HS4 := Lib.hid S4d
          have HT4 := Lib.hid t4d
          have HB4 := Lib.hid b4d
          have HC4 := Lib.hid c4d
          have HL4 := Lib.hid l4d
          obtain ⟨z3, z4, z5⟩ := S0.out _ K0.out
          clear S4 S4d d4 t4 t4d a4 b4 b4d c4 c4d l4 l4d HS2 HT2 HA2 HB2 HC2 HL2 HCA
          go_region_held3 (fun w' => w'.cell? ⟨g0, 3, none⟩ = some (.pointer (none)) ∧ w'.cell? ⟨g0, 4, none⟩ = some (.pointer (some xa)) ∧ w'.cell? ⟨g0, 5, none⟩ = some (.pointer (pc)))
            (first | exact S0.out _ K0.out | exact S0.out _ S6.out.kp | exact S0.out _ S8.out.kp | exact S0.out _ SA.out.kp | exact S0.out _ (SA.out.kp.setCell (.inr HG.out) _) | exact S0.out _ ((SA.out.kp.setCell (.inr HG.out) _).setCell (.inr HG.out) _) | exact S0.out _ (((SA.out.kp.setCell (.inr HG.out) _).setCell (.inr HG.out) _).setCell (.inr HG.out) _))
            (first
            | (go_at_call 32; have _h := T8; refine Calls.mono HKC.out ?_; rintro e wa ⟨q3, Ma, nda, rfl, kk, ss, ee, tt⟩; have SA := Lib.hid (S8.out.call kk ss ee); have TA := Lib.hid (T8.out.call S8.out.env kk); have RA := Lib.hid (R8.out.call S8.out.env kk); have UA := Lib.hid (U8.out.call S8.out.env kk); have VA := Lib.hid tt; clear kk ss ee tt; obtain ⟨_, _, _, g3, g4, g5⟩ := SA.out.node.cells; have f3 := frozen_of SA.out.node 3; have f4 := frozen_of SA.out.node 4; have f5 := frozen_of SA.out.node 5)
            | (go_at_call 32; have _h := T6; refine Calls.mono HKB.out ?_; rintro e w8 ⟨q2, M8, nd8, rfl, kk, ss, ee, tt⟩; have S8 := Lib.hid (S6.out.call kk ss ee); have T8 := Lib.hid (T6.out.call S6.out.env kk); have C8 := Lib.hid (C6.out.call S6.out.env kk); have L8 := Lib.hid (L6.out.call S6.out.env kk); have R8 := Lib.hid (R6.out.call S6.out.env kk); have U8 := Lib.hid tt; clear kk ss ee tt; have HKC := Lib.hid (HCC.out w8 A (g :: X) _ M8 _ (pc) S8.out.env (Clr.part L8.out T8.out SZ.out.2.2) C8.out))
            | (go_at_call 32; refine Calls.mono HKA.out ?_; rintro e w6 ⟨q1, M6, nd6, rfl, kk, ss, ee, tt⟩; have S6 := Lib.hid (HS4.out.call kk ss ee); have T6 := Lib.hid (HT4.out.call HS4.out.env kk); have B6 := Lib.hid (HB4.out.call HS4.out.env kk); have C6 := Lib.hid (HC4.out.call HS4.out.env kk); have L6 := Lib.hid (HL4.out.call HS4.out.env kk); have R6 := Lib.hid tt; clear kk ss ee tt; have HKB := Lib.hid (HCB.out w6 A (g :: X) _ M6 _ (some xa) S6.out.env (Clr.part L6.out T6.out SZ.out.2.1) B6.out)))
          all_goals
            go_wp2_with fail
            go_ret
            exact SA.out.fin HgX.out RA.out UA.out VA.out TA.out
        · go_enter Try.func32, Try.ntmps32
          go_upto_region 7 with fail
          rw [← HY.out.1]
          clear x0 x1 x2 x3 x4 x5 y0 y1 fy0 e1 hl0 hy
          go_region
          have hy2 := HY.out.2.1
          unfold ndO at hy2
          rw [← hy2, ← HY.out.2.2]
          clear hy2 v0 v1 v2 v3 v4 v5
          go_upto_region 11 with fail
          obtain ⟨w4, hw4⟩ : ∃ w4, w4 = y2 := ⟨_, rfl⟩
          obtain ⟨M4, hM4⟩ : ∃ M4, M4 = M := ⟨_, rfl⟩
          have S4 : St w y2 A g X M ((g0, some ⟨g, 0, none⟩) :: O) k n s nd2 M := HS2.out.call (Kp.refl _ _) (MapStep.refl _ _) (HS2.out.env.kp (Kp.refl [] _) (fun _ h => by cases h) (by simp) (fun _ _ => by simp) (fun _ _ h => h) HS2.out.env.xs (fun _ h => List.mem_cons_of_mem _ h))
          have t4 := HT2.out
          have a4 := HA2.out
          have b4 := HB2.out
          have c4 := HC2.out
          have l4 : Clr y2 (g :: X) O (.node k n s a b c) := HL2.out
          rw [← hw4] at S4 t4 a4 b4 c4 l4 ⊢
          have S4 : St w w4 A g X M ((g0, some ⟨g, 0, none⟩) :: O) k n s nd2 M4 := by rw [hM4]; exact S4
          clear z0 z1 z2 z3 z4 z5 u0 u1 hw4 hM4
          have K0 : Hid (Kp (A :: M.toList) w w4.drew) := S4.kp.drew
          have S4d := S4.kp0 ((Kp.refl [] w4).drew)
          have d4 := (Kp.refl [] w4).drew
          have t4d := t4.kp0 d4
          have b4d := b4.kp0 d4
          have c4d := c4.kp0 d4
          have l4d : Clr w4.drew (g :: X) O (.node k n s a b c) := l4.kp d4 (fun _ h => by cases h) (fun _ _ h => h)
          have HKA : Hid _ := HCA.out w4.drew A (g :: X) _ M4 _ (none) S4d.env (Clr.part l4d t4d SZ.out.1) (a4.kp0 d4)
          have HS4 := Lib.hid S4d
          have HT4 := Lib.hid t4d
          have HB4 := Lib.hid b4d
          have HC4 := Lib.hid c4d
          have HL4 := Lib.hid l4d
          obtain ⟨z3, z4, z5⟩ := S0.out _ K0.out
          clear S4 S4d d4 t4 t4d a4 b4 b4d c4 c4d l4 l4d HS2 HT2 HA2 HB2 HC2 HL2 HCA
          go_region_held3 (fun w' => w'.cell? ⟨g0, 3, none⟩ = some (.pointer (none)) ∧ w'.cell? ⟨g0, 4, none⟩ = some (.pointer (none)) ∧ w'.cell? ⟨g0, 5, none⟩ = some (.pointer (some xa)))
            (first | exact S0.out _ K0.out | exact S0.out _ S6.out.kp | exact S0.out _ S8.out.kp | exact S0.out _ SA.out.kp | exact S0.out _ (SA.out.kp.setCell (.inr HG.out) _) | exact S0.out _ ((SA.out.kp.setCell (.inr HG.out) _).setCell (.inr HG.out) _) | exact S0.out _ (((SA.out.kp.setCell (.inr HG.out) _).setCell (.inr HG.out) _).setCell (.inr HG.out) _))
            (first
            | (go_at_call 32; have _h := T8; refine Calls.mono HKC.out ?_; rintro e wa ⟨q3, Ma, nda, rfl, kk, ss, ee, tt⟩; have SA := Lib.hid (S8.out.call kk ss ee); have TA := Lib.hid (T8.out.call S8.out.env kk); have RA := Lib.hid (R8.out.call S8.out.env kk); have UA := Lib.hid (U8.out.call S8.out.env kk); have VA := Lib.hid tt; clear kk ss ee tt; obtain ⟨_, _, _, g3, g4, g5⟩ := SA.out.node.cells; have f3 := frozen_of SA.out.node 3; have f4 := frozen_of SA.out.node 4; have f5 := frozen_of SA.out.node 5)
            | (go_at_call 32; have _h := T6; refine Calls.mono HKB.out ?_; rintro e w8 ⟨q2, M8, nd8, rfl, kk, ss, ee, tt⟩; have S8 := Lib.hid (S6.out.call kk ss ee); have T8 := Lib.hid (T6.out.call S6.out.env kk); have C8 := Lib.hid (C6.out.call S6.out.env kk); have L8 := Lib.hid (L6.out.call S6.out.env kk); have R8 := Lib.hid (R6.out.call S6.out.env kk); have U8 := Lib.hid tt; clear kk ss ee tt; have HKC := Lib.hid (HCC.out w8 A (g :: X) _ M8 _ (some xa) S8.out.env (Clr.part L8.out T8.out SZ.out.2.2) C8.out))
            | (go_at_call 32; refine Calls.mono HKA.out ?_; rintro e w6 ⟨q1, M6, nd6, rfl, kk, ss, ee, tt⟩; have S6 := Lib.hid (HS4.out.call kk ss ee); have T6 := Lib.hid (HT4.out.call HS4.out.env kk); have B6 := Lib.hid (HB4.out.call HS4.out.env kk); have C6 := Lib.hid (HC4.out.call HS4.out.env kk); have L6 := Lib.hid (HL4.out.call HS4.out.env kk); have R6 := Lib.hid tt; clear kk ss ee tt; have HKB := Lib.hid (HCB.out w6 A (g :: X) _ M6 _ (none) S6.out.env (Clr.part L6.out T6.out SZ.out.2.1) B6.out)))
          all_goals
            go_wp2_with fail
            go_ret
            exact SA.out.fin HgX.out RA.out UA.out VA.out TA.out
end Go.Proofs.Ytcfhhabjiofehaa
