/- Contract of the reader's term: what it reads is a term, or it tells an error. -/
import Derived.Test.YtcfhhabjiofehaaSpO
import Derived.Test.YtcfhhabjiofehaaSpN
import Derived.Test.YtcfhhabjiofehaaSpR
namespace Go.Proofs.Ytcfhhabjiofehaa
open Go.RowKit Go.ChangeMaps

theorem NdAt.set1 {w : World} {g : Nat} {k n : Int} {s : ByteArray} {pa pb pc : Option Addr} (h : NdAt w g k n s pa pb pc) (n2 : Int) : NdAt (w.setCell ⟨g, 1, none⟩ (.int .i64 n2)) g k n2 s pa pb pc := heap_set' h _
theorem NdAt.set2 {w : World} {g : Nat} {k n : Int} {s : ByteArray} {pa pb pc : Option Addr} (h : NdAt w g k n s pa pb pc) (s2 : ByteArray) : NdAt (w.setCell ⟨g, 2, none⟩ (.string s2)) g k n s2 pa pb pc := heap_set' h _
theorem RdAt.noPtr {w : World} {R : Nat} {s : ByteArray} {n e : Int} (h : RdAt w R s n e) : NoPtr w R := fun o q hc => by
  rw [cell_of h o] at hc
  match o with
  | 0 => cases hc
  | 1 => cases hc
  | 2 => cases hc
  | o + 3 => simp at hc
theorem RdAt.ne {w : World} {R g : Nat} {s : ByteArray} {n e : Int} (h : RdAt w R s n e) {k m : Int} {x : ByteArray} {pa pb pc : Option Addr} (N : NdAt w g k m x pa pb pc) : g ≠ R := fun e => by
  unfold RdAt at h
  unfold NdAt at N
  rw [e, h] at N
  injection N with h1
  injection h1 with h1
  have := congrArg Array.size h1
  simp at this
theorem parts_some (k : Int) (w : World) : Calls Try.prog 46 #[.int .i64 k] w fun e w2 => ∃ v : Int, e = .returned (.int .i64 v) ∧ w2 = w := by
  by_cases hk : k = 4 ∨ k = 5 ∨ k = 6 ∨ k = 7
  · exact (parts_inner hk w).mono (fun e w2 ⟨v, h1, _, h2⟩ => ⟨v, h1, h2⟩)
  · have h4 : (k == 4) = false := by simp; omega
    have h5 : (k == 5) = false := by simp; omega
    have h6 : (k == 6) = false := by simp; omega
    have h7 : (k == 7) = false := by simp; omega
    clear hk
    go_enter Try.func46, Try.ntmps46
    go_wp2
    go_ret
    exact ⟨_, rfl, rfl⟩
theorem parts_two {k : Int} (hk : k = 4 ∨ k = 5 ∨ k = 6) (w : World) : Calls Try.prog 46 #[.int .i64 k] w fun e w2 => e = .returned (.int .i64 2) ∧ w2 = w := by
  rcases hk with rfl | rfl | rfl
  all_goals
    go_enter Try.func46, Try.ntmps46
    go_wp2
    go_ret
    exact ⟨rfl, rfl⟩
theorem parts_three (w : World) : Calls Try.prog 46 #[.int .i64 7] w fun e w2 => e = .returned (.int .i64 3) ∧ w2 = w := by
  go_enter Try.func46, Try.ntmps46
  go_wp2
  go_ret
  exact ⟨rfl, rfl⟩
/-- What term answers. -/
def TermPost (s : ByteArray) (n : Nat) (R : Nat) (w : World) (e : Ending) (w2 : World) : Prop :=
  ∃ (q : Option Addr) (r : ByteArray) (n2 c : Nat), e = .returned (.pointer q) ∧ Kp [R] w w2 ∧ RdAt w2 R r (n2 : Int) (c : Int) ∧ r.size ≤ s.size ∧ c ≤ 100 ∧ n ≤ n2 ∧ n2 ≤ 3001 ∧
    (c = 0 → n2 ≤ 3000 ∧ ∃ t, TmP w2 (fun b => w.heap.size ≤ b) t q ∧ Okn t ∧ n + t.sz = n2 ∧ t ≠ .nil)
def TermC (n : Nat) : Prop := ∀ (w : World) (R : Nat) (s : ByteArray), RdAt w R s (n : Int) 0 → s.size ≤ 1000000000000000 → Calls Try.prog 37 #[.pointer (some ⟨R, 0, none⟩)] w (TermPost s n R w)
theorem TermPost.bad {s : ByteArray} {n R : Nat} {w w2 : World} {q : Option Addr} {r : ByteArray} {n2 c : Nat} (K : Kp [R] w w2) (h : RdAt w2 R r (n2 : Int) (c : Int)) (hr : r.size ≤ s.size) (hc : c ≤ 100) (h1 : n ≤ n2) (h2 : n2 ≤ 3001) (h0 : c ≠ 0) : TermPost s n R w (.returned (.pointer q)) w2 :=
  ⟨q, r, n2, c, rfl, K, h, hr, hc, h1, h2, fun h => absurd h h0⟩
/-- A leaf that was read. -/
theorem TermPost.leaf {s : ByteArray} {n R : Nat} {w w2 : World} {g : Nat} {k m : Int} {x r : ByteArray} (K : Kp [R] w w2) (h : RdAt w2 R r ((n + 1 : Nat) : Int) ((0 : Nat) : Int)) (hr : r.size ≤ s.size) (hn : n + 1 ≤ 3000) (hg : w.heap.size ≤ g) (N : NdAt w2 g k m x none none none) (hl : LeafOk k m x) (hk : k = 1 ∨ k = 2 ∨ k = 3) : TermPost s n R w (.returned (.pointer (some ⟨g, 0, none⟩))) w2 := by
  refine ⟨_, r, n + 1, 0, rfl, K, h, hr, by decide, by omega, by omega, fun _ => ⟨hn, .node k m x .nil .nil .nil, ⟨g, none, none, none, rfl, hg, N, rfl, rfl, rfl⟩, ?_, rfl, fun h => by cases h⟩⟩
  exact ⟨.leaf k m x hk, fun h => by cases h⟩
theorem tm_child {w W W2 : World} {g : Nat} {t : Tm} {q : Option Addr} (hW : w.heap.size ≤ W.heap.size) (hg : g < W.heap.size) (h : TmP W2 (fun b => W.heap.size ≤ b) t q) : TmP W2 (fun b => w.heap.size ≤ b ∧ b ≠ g) t q :=
  h.mono (fun b _ hb => ⟨Nat.le_trans hW hb, fun e => by omega⟩)
theorem tm_R {a b : World} {R : Nat} {s : ByteArray} {n e : Int} {P : Nat → Prop} {t : Tm} {q : Option Addr} (hR : RdAt a R s n e) (K : Kp [R] a b) (h : TmP a P t q) : TmP b P t q :=
  h.kp K (fun x hx => .inl (by rw [List.mem_singleton.1 hx]; exact hR.noPtr)) (fun _ _ h => h)
theorem tm_g {a : World} {g i : Nat} {v : Value} {B : Nat} {t : Tm} {q : Option Addr} (h : TmP a (fun b => B ≤ b ∧ b ≠ g) t q) : TmP (a.setCell ⟨g, i, none⟩ v) (fun b => B ≤ b ∧ b ≠ g) t q :=
  h.kp ((Kp.refl [g] a).setCell (.inl (by simp)) _) (fun x hx => .inr (by rw [List.mem_singleton.1 hx]; simp)) (fun _ _ h => h)
/-- A node with parts that was read. -/
theorem TermPost.node {s : ByteArray} {n R : Nat} {w w2 : World} {g : Nat} {k : Int} {r : ByteArray} {n2 : Nat} {a b c : Tm} {pa pb pc : Option Addr} (K : Kp [R] w w2) (h : RdAt w2 R r (n2 : Int) ((0 : Nat) : Int)) (hr : r.size ≤ s.size) (hn : n2 ≤ 3000) (hg : w.heap.size ≤ g) (N : NdAt w2 g k 0 ⟨#[]⟩ pa pb pc)
    (hk : k = 4 ∨ k = 5 ∨ k = 6 ∨ k = 7) (hc : k ≠ 7 → c = .nil) (ta : TmP w2 (fun b => w.heap.size ≤ b ∧ b ≠ g) a pa) (tb : TmP w2 (fun b => w.heap.size ≤ b ∧ b ≠ g) b pb) (tc : TmP w2 (fun b => w.heap.size ≤ b ∧ b ≠ g) c pc) (oa : Okn a) (ob : Okn b) (oc : Okp c) (hs : n + (1 + a.sz + b.sz + c.sz) = n2) : TermPost s n R w (.returned (.pointer (some ⟨g, 0, none⟩))) w2 :=
  ⟨_, r, n2, 0, rfl, K, h, hr, by decide, by omega, by omega, fun _ => ⟨hn, .node k 0 noS a b c, ⟨g, pa, pb, pc, rfl, hg, N, ta.mono (fun _ _ h => h.1), tb.mono (fun _ _ h => h.1), tc.mono (fun _ _ h => h.1)⟩, ⟨.inner k a b c hk hc oa.1 ob.1 oc oa.2 ob.2, fun h => by cases h⟩, hs, fun h => by cases h⟩⟩
set_option maxHeartbeats 12800000 in
theorem term_step (n : Nat) (hn : n ≤ 3000) (ih : ∀ m, n < m → m ≤ 3000 → TermC m) : TermC n := by
  unfold TermC
  intro w R s h hs
  obtain ⟨x0, x1, x2⟩ := h.cells
  have f0 := frozen_of h 0
  have f1 := frozen_of h 1
  have f2 := frozen_of h 2
  obtain ⟨z, hz⟩ : ∃ z : Int, z = ((n + 1 : Nat) : Int) := ⟨_, rfl⟩
  obtain ⟨z0, hz0⟩ : ∃ z0 : Int, z0 = (n : Int) := ⟨_, rfl⟩
  rw [← hz0] at x1
  have e1 : IntKind.i64.wrap (z0 + 1) = z := by rw [IntKind.wrap_i64]; omega
  have IH := Lib.hid ih
  have HR := Lib.hid h
  have HS := Lib.hid hs
  have HN := Lib.hid hn
  have HZ := Lib.hid hz
  by_cases hbig : n = 3000
  · have d1 : decide ((3000 : Int) < z) = true := by simp; omega
    have HB := Lib.hid hbig
    clear ih h hs hn hbig IH hz hz0
    go_enter Try.func37, Try.ntmps37
    go_wp2_with fail
    go_ret
    exact TermPost.bad (n2 := n + 1) (c := 13) (((Kp.refl [R] w).setCell (.inl (by simp)) _).setCell (.inl (by simp)) _) (by rw [← HZ.out]; exact (HR.out.set1 z).set2 13) (Nat.le_refl _) (by decide) (Nat.le_succ _) (by have := HB.out; omega) (by decide)
  have d1 : decide ((3000 : Int) < z) = false := by simp; omega
  have HB : Hid (n + 1 ≤ 3000) := by show n + 1 ≤ 3000; omega
  obtain ⟨y1, hy1⟩ : ∃ y, y = w.setCell ⟨R, 1, none⟩ (.int .i64 z) := ⟨_, rfl⟩
  have k1 : Hid (Kp [R] w y1) := by rw [hy1]; exact (Kp.refl [R] w).setCell (.inl (by simp)) _
  have R1 : Hid (RdAt y1 R s z ((0 : Nat) : Int)) := by rw [hy1]; exact h.set1 z
  obtain ⟨v0, v1, v2⟩ := R1.out.cells
  have NU : Hid (Calls Try.prog 43 #[.pointer (some ⟨R, 0, none⟩)] y1 (NumPost s z R y1)) := num_any R1.out (by decide) hs
  have HY1 := Lib.hid hy1
  clear ih h hs hn hbig hz hz0 hy1
  go_enter Try.func37, Try.ntmps37
  go_upto_region 2 with fail
  rw [← HY1.out]
  clear x0 x1 x2 f0 f1 f2 HY1 e1
  go_upto_region 6 with (go_at_call 43; refine Calls.mono NU.out ?_; rintro e w2 ⟨v, r1, c1, rfl, kk, hr1, hrs, hc1⟩)
  obtain ⟨g, hg⟩ : ∃ g, g = w2.heap.size := ⟨_, rfl⟩
  obtain ⟨y2, hy2⟩ : ∃ y, y = w2.alloc (ndO v 0 ⟨#[]⟩ none none none) := ⟨_, rfl⟩
  have hy2' := hy2
  unfold ndO at hy2'
  rw [← hy2', ← hg]
  have k2 : Kp [] w2 y2 := by rw [hy2]; exact (Kp.refl [] w2).alloc _
  have N2 : NdAt y2 g v 0 ⟨#[]⟩ none none none := by rw [hy2, hg]; exact NdAt.new _ _ _ _ _ _ _
  have R2 : RdAt y2 R r1 z (c1 : Int) := hr1.kp0 k2
  have KA : Hid (Kp [R] w y2) := (k1.out.trans kk).trans (k2.mono (fun _ h => by cases h))
  have hwg : Hid (w.heap.size ≤ g) := by rw [hg]; exact (k1.out.trans kk).size
  have HC1 := Lib.hid (And.intro hrs hc1)
  clear v0 v1 v2 hy2 hy2' hg k2 hr1 kk hrs R1 k1 NU
  obtain ⟨x0, x1, x2⟩ := R2.cells
  have HR2 := Lib.hid R2
  have HN2 := Lib.hid N2
  clear R2 N2
  by_cases h0 : c1 = 0
  · subst h0
    by_cases hv : v = 3
    · subst hv
      obtain ⟨z0, _, _, _, _, _⟩ := HN2.out.cells
      have TT := Lib.hid (text_any r1 (Nat.le_trans HC1.out.1 HS.out))
      go_upto_region 11 with (go_at_call 44; refine Calls.mono (TT.out _) ?_; rintro e w3 ⟨tx, r2, c2, rfl, kk, htx, hr2, hc2⟩)
      have N3 := HN2.out.kp0 kk
      have R3 := HR2.out.kp0 kk
      have HC2 := Lib.hid (And.intro (Nat.le_trans hr2 HC1.out.1) (And.intro hc2 (Nat.le_trans htx HC1.out.1)))
      have KC := Lib.hid (KA.out.trans (kk.mono (fun _ h => by cases h)))
      clear z0 x0 x1 x2 TT kk htx hr2 hc2 HR2 HN2
      obtain ⟨x0, _, x2⟩ := R3.cells
      obtain ⟨z0, _, z2, _, _, _⟩ := N3.cells
      have f0 := frozen_of R3 0
      have f2 := frozen_of R3 2
      have fg := frozen_of N3 2
      have HR3 := Lib.hid R3
      have HN3 := Lib.hid N3
      have hgR := R3.ne N3
      have hRg : R ≠ g := hgR.symm
      clear R3 N3
      have fg' : ((w3.setCell ⟨R, 0, none⟩ (.string r2)).setCell ⟨R, 2, none⟩ (.int .i64 (c2 : Int))).cell? ⟨g, 2, none⟩ = some (.string ⟨#[]⟩) := by
        have K9 : Kp [R] w3 ((w3.setCell ⟨R, 0, none⟩ (.string r2)).setCell ⟨R, 2, none⟩ (.int .i64 (c2 : Int))) := ((Kp.refl [R] w3).setCell (.inl (by simp)) _).setCell (.inl (by simp)) _
        exact (HN3.out.kp K9 (by simpa using hgR)).cells.2.2.1
      go_upto_region 12 with fail
      obtain ⟨y4, hy4⟩ : ∃ y, y = ((w3.setCell ⟨R, 0, none⟩ (.string r2)).setCell ⟨R, 2, none⟩ (.int .i64 (c2 : Int))).setCell ⟨g, 2, none⟩ (.string tx) := ⟨_, rfl⟩
      rw [← hy4]
      have K9 : Kp [R] w3 ((w3.setCell ⟨R, 0, none⟩ (.string r2)).setCell ⟨R, 2, none⟩ (.int .i64 (c2 : Int))) := ((Kp.refl [R] w3).setCell (.inl (by simp)) _).setCell (.inl (by simp)) _
      have HN4 : Hid (NdAt y4 g 3 0 tx none none none) := by rw [hy4]; exact (HN3.out.kp K9 (by simpa using hgR)).set2 tx
      have HR4 : Hid (RdAt y4 R r2 z (c2 : Int)) := by
        rw [hy4]
        exact ((HR3.out.set0 r2).set2 (c2 : Int)).kp ((Kp.refl [g] _).setCell (.inl (by simp)) _) (by simpa using hRg)
      have KD : Hid (Kp [R] w y4) := by rw [hy4]; exact (KC.out.trans K9).setCell (.inr hwg.out) _
      clear x0 x2 z0 z2 f0 f2 fg fg' K9 hy4 HR3 HN3 hgR hRg KC
      have NU := Lib.hid (num_any HR4.out HC2.out.2.1 (Nat.le_trans HC2.out.1 HS.out))
      go_upto_region 16 with (go_at_call 43; refine Calls.mono NU.out ?_; rintro e w5 ⟨m, r3, c3, rfl, kk, hr3, hrs3, hc3⟩; have N5 := HN4.out.kp kk (by simpa using HR4.out.ne HN4.out); have KK := Lib.hid kk; have HR5 := Lib.hid hr3; have HC5 := Lib.hid (And.intro hrs3 hc3); clear kk hr3 hrs3 hc3; have q1 := N5.cells.2.1; have q0 := N5.cells.1; have fg := frozen_of N5 1; have HN5 := Lib.hid N5; clear N5)
      obtain ⟨y6, hy6⟩ : ∃ y, y = w5.setCell ⟨g, 1, none⟩ (.int .i64 m) := ⟨_, rfl⟩
      rw [← hy6]
      have HN6 : Hid (NdAt y6 g 3 m tx none none none) := by rw [hy6]; exact HN5.out.set1 m
      have KB : Hid (Kp [R] w y6) := by rw [hy6]; exact (KD.out.trans KK.out).setCell (.inr hwg.out) _
      have HR6 : Hid (RdAt y6 R r3 z (c3 : Int)) := by
        rw [hy6]
        exact HR5.out.kp ((Kp.refl [g] w5).setCell (.inl (by simp)) _) (by simpa using (HR5.out.ne HN5.out).symm)
      have HC3 : Hid (r3.size ≤ s.size ∧ c3 ≤ 100) := ⟨Nat.le_trans HC5.out.1 HC2.out.1, HC5.out.2⟩
      have HX : Hid (tx.size ≤ 1000000000000000) := Nat.le_trans HC2.out.2.2 HS.out
      clear NU q1 q0 fg HN5 KK HR5 HC5 hy6 HR4 HN4 KD
      by_cases h3 : c3 = 0
      · subst h3
        have LF := Lib.hid (leaf_any HN6.out HX.out)
        obtain ⟨x0, x1, x2⟩ := HR6.out.cells
        obtain ⟨z0, _, _, _, _, _⟩ := HN6.out.cells
        have f2 := frozen_of HR6.out 2
        go_upto_region 18 with (go_at_call 45; refine Calls.mono LF.out ?_; rintro e w9 ⟨b, rfl, rfl, hb⟩; have HLf := Lib.hid hb; clear hb; cases b)
        · obtain ⟨y9, hy9⟩ : ∃ y, y = w9.setCell ⟨R, 2, none⟩ (.int .i64 10) := ⟨_, rfl⟩
          rw [← hy9]
          have K9 : Kp [R] w9 y9 := by rw [hy9]; exact (Kp.refl [R] w9).setCell (.inl (by simp)) _
          have R9 : RdAt y9 R r3 z 10 := by rw [hy9]; exact HR6.out.set2 10
          have N9 := HN6.out.kp K9 (by simpa using HR6.out.ne HN6.out)
          clear x0 x1 x2 z0 f2 LF hy9
          obtain ⟨x0, x1, x2⟩ := R9.cells
          obtain ⟨z0, _, _, _, _, _⟩ := N9.cells
          have HK9 := Lib.hid (KB.out.trans K9)
          have HR9 := Lib.hid R9
          clear K9 R9 N9
          go_wp2_with (go_at_call 46; refine Calls.mono (parts_leaf (by decide) _) ?_; rintro e wb ⟨rfl, rfl⟩)
          go_ret
          exact TermPost.bad (n2 := n + 1) (c := 10) HK9.out (by rw [← HZ.out]; exact HR9.out) HC3.out.1 (by decide) (Nat.le_succ _) (by have := HB.out; omega) (by decide)
        · clear LF f2
          go_wp2_with (go_at_call 46; refine Calls.mono (parts_leaf (by decide) _) ?_; rintro e wb ⟨rfl, rfl⟩)
          go_ret
          exact TermPost.leaf KB.out (by rw [← HZ.out]; exact HR6.out) HC3.out.1 HB.out hwg.out HN6.out (HLf.out (by first | rfl | trivial)) (.inr (.inr rfl))
      · have d3 : ((c3 : Int) != 0) = true := by simp; omega
        have d3' : ((c3 : Int) == 0) = false := by simp; omega
        have H3 := Lib.hid h3
        clear h3
        obtain ⟨x0, x1, x2⟩ := HR6.out.cells
        obtain ⟨z0, _, _, _, _, _⟩ := HN6.out.cells
        go_wp2_with (go_at_call 46; refine Calls.mono (parts_leaf (by decide) _) ?_; rintro e wb ⟨rfl, rfl⟩)
        go_ret
        exact TermPost.bad (n2 := n + 1) (c := c3) KB.out (by rw [← HZ.out]; exact HR6.out) HC3.out.1 HC3.out.2 (Nat.le_succ _) (by have := HB.out; omega) H3.out
    have b3 : (v == 3) = false := by simpa using hv
    by_cases hv1 : v = 1
    · subst hv1
      obtain ⟨z0, _, _, _, _, _⟩ := HN2.out.cells
      have NU := Lib.hid (num_any HR2.out (by decide) (Nat.le_trans HC1.out.1 HS.out))
      go_upto_region 16 with (go_at_call 43; refine Calls.mono NU.out ?_; rintro e w5 ⟨m, r3, c3, rfl, kk, hr3, hrs3, hc3⟩; have N5 := HN2.out.kp kk (by simpa using HR2.out.ne HN2.out); have KK := Lib.hid kk; have HR5 := Lib.hid hr3; have HC5 := Lib.hid (And.intro hrs3 hc3); clear kk hr3 hrs3 hc3; have q1 := N5.cells.2.1; have q0 := N5.cells.1; have fg := frozen_of N5 1; have HN5 := Lib.hid N5; clear N5)
      obtain ⟨y6, hy6⟩ : ∃ y, y = w5.setCell ⟨g, 1, none⟩ (.int .i64 m) := ⟨_, rfl⟩
      rw [← hy6]
      have HN6 : Hid (NdAt y6 g 1 m ⟨#[]⟩ none none none) := by rw [hy6]; exact HN5.out.set1 m
      have KB : Hid (Kp [R] w y6) := by rw [hy6]; exact (KA.out.trans KK.out).setCell (.inr hwg.out) _
      have HR6 : Hid (RdAt y6 R r3 z (c3 : Int)) := by
        rw [hy6]
        exact HR5.out.kp ((Kp.refl [g] w5).setCell (.inl (by simp)) _) (by simpa using (HR5.out.ne HN5.out).symm)
      have HC3 : Hid (r3.size ≤ s.size ∧ c3 ≤ 100) := ⟨Nat.le_trans HC5.out.1 HC1.out.1, HC5.out.2⟩
      have HX : Hid ((⟨#[]⟩ : ByteArray).size ≤ 1000000000000000) := by show (0 : Nat) ≤ _; decide
      clear z0 x0 x1 x2 NU q1 q0 fg HN5 KK HR5 HC5 hy6 HR2 HN2
      by_cases h3 : c3 = 0
      · subst h3
        have LF := Lib.hid (leaf_any HN6.out HX.out)
        obtain ⟨x0, x1, x2⟩ := HR6.out.cells
        obtain ⟨z0, _, _, _, _, _⟩ := HN6.out.cells
        have f2 := frozen_of HR6.out 2
        go_upto_region 18 with (go_at_call 45; refine Calls.mono LF.out ?_; rintro e w9 ⟨b, rfl, rfl, hb⟩; have HLf := Lib.hid hb; clear hb; cases b)
        · obtain ⟨y9, hy9⟩ : ∃ y, y = w9.setCell ⟨R, 2, none⟩ (.int .i64 10) := ⟨_, rfl⟩
          rw [← hy9]
          have K9 : Kp [R] w9 y9 := by rw [hy9]; exact (Kp.refl [R] w9).setCell (.inl (by simp)) _
          have R9 : RdAt y9 R r3 z 10 := by rw [hy9]; exact HR6.out.set2 10
          have N9 := HN6.out.kp K9 (by simpa using HR6.out.ne HN6.out)
          clear x0 x1 x2 z0 f2 LF hy9
          obtain ⟨x0, x1, x2⟩ := R9.cells
          obtain ⟨z0, _, _, _, _, _⟩ := N9.cells
          have HK9 := Lib.hid (KB.out.trans K9)
          have HR9 := Lib.hid R9
          clear K9 R9 N9
          go_wp2_with (go_at_call 46; refine Calls.mono (parts_leaf (by decide) _) ?_; rintro e wb ⟨rfl, rfl⟩)
          go_ret
          exact TermPost.bad (n2 := n + 1) (c := 10) HK9.out (by rw [← HZ.out]; exact HR9.out) HC3.out.1 (by decide) (Nat.le_succ _) (by have := HB.out; omega) (by decide)
        · clear LF f2
          go_wp2_with (go_at_call 46; refine Calls.mono (parts_leaf (by decide) _) ?_; rintro e wb ⟨rfl, rfl⟩)
          go_ret
          exact TermPost.leaf KB.out (by rw [← HZ.out]; exact HR6.out) HC3.out.1 HB.out hwg.out HN6.out (HLf.out (by first | rfl | trivial)) (.inl rfl)
      · have d3 : ((c3 : Int) != 0) = true := by simp; omega
        have d3' : ((c3 : Int) == 0) = false := by simp; omega
        have H3 := Lib.hid h3
        clear h3
        obtain ⟨x0, x1, x2⟩ := HR6.out.cells
        obtain ⟨z0, _, _, _, _, _⟩ := HN6.out.cells
        go_wp2_with (go_at_call 46; refine Calls.mono (parts_leaf (by decide) _) ?_; rintro e wb ⟨rfl, rfl⟩)
        go_ret
        exact TermPost.bad (n2 := n + 1) (c := c3) KB.out (by rw [← HZ.out]; exact HR6.out) HC3.out.1 HC3.out.2 (Nat.le_succ _) (by have := HB.out; omega) H3.out
    have b1 : (v == 1) = false := by simpa using hv1
    by_cases hv2 : v = 2
    · subst hv2
      obtain ⟨z0, _, _, _, _, _⟩ := HN2.out.cells
      have NU := Lib.hid (num_any HR2.out (by decide) (Nat.le_trans HC1.out.1 HS.out))
      go_upto_region 16 with (go_at_call 43; refine Calls.mono NU.out ?_; rintro e w5 ⟨m, r3, c3, rfl, kk, hr3, hrs3, hc3⟩; have N5 := HN2.out.kp kk (by simpa using HR2.out.ne HN2.out); have KK := Lib.hid kk; have HR5 := Lib.hid hr3; have HC5 := Lib.hid (And.intro hrs3 hc3); clear kk hr3 hrs3 hc3; have q1 := N5.cells.2.1; have q0 := N5.cells.1; have fg := frozen_of N5 1; have HN5 := Lib.hid N5; clear N5)
      obtain ⟨y6, hy6⟩ : ∃ y, y = w5.setCell ⟨g, 1, none⟩ (.int .i64 m) := ⟨_, rfl⟩
      rw [← hy6]
      have HN6 : Hid (NdAt y6 g 2 m ⟨#[]⟩ none none none) := by rw [hy6]; exact HN5.out.set1 m
      have KB : Hid (Kp [R] w y6) := by rw [hy6]; exact (KA.out.trans KK.out).setCell (.inr hwg.out) _
      have HR6 : Hid (RdAt y6 R r3 z (c3 : Int)) := by
        rw [hy6]
        exact HR5.out.kp ((Kp.refl [g] w5).setCell (.inl (by simp)) _) (by simpa using (HR5.out.ne HN5.out).symm)
      have HC3 : Hid (r3.size ≤ s.size ∧ c3 ≤ 100) := ⟨Nat.le_trans HC5.out.1 HC1.out.1, HC5.out.2⟩
      have HX : Hid ((⟨#[]⟩ : ByteArray).size ≤ 1000000000000000) := by show (0 : Nat) ≤ _; decide
      clear z0 x0 x1 x2 NU q1 q0 fg HN5 KK HR5 HC5 hy6 HR2 HN2
      by_cases h3 : c3 = 0
      · subst h3
        have LF := Lib.hid (leaf_any HN6.out HX.out)
        obtain ⟨x0, x1, x2⟩ := HR6.out.cells
        obtain ⟨z0, _, _, _, _, _⟩ := HN6.out.cells
        have f2 := frozen_of HR6.out 2
        go_upto_region 18 with (go_at_call 45; refine Calls.mono LF.out ?_; rintro e w9 ⟨b, rfl, rfl, hb⟩; have HLf := Lib.hid hb; clear hb; cases b)
        · obtain ⟨y9, hy9⟩ : ∃ y, y = w9.setCell ⟨R, 2, none⟩ (.int .i64 10) := ⟨_, rfl⟩
          rw [← hy9]
          have K9 : Kp [R] w9 y9 := by rw [hy9]; exact (Kp.refl [R] w9).setCell (.inl (by simp)) _
          have R9 : RdAt y9 R r3 z 10 := by rw [hy9]; exact HR6.out.set2 10
          have N9 := HN6.out.kp K9 (by simpa using HR6.out.ne HN6.out)
          clear x0 x1 x2 z0 f2 LF hy9
          obtain ⟨x0, x1, x2⟩ := R9.cells
          obtain ⟨z0, _, _, _, _, _⟩ := N9.cells
          have HK9 := Lib.hid (KB.out.trans K9)
          have HR9 := Lib.hid R9
          clear K9 R9 N9
          go_wp2_with (go_at_call 46; refine Calls.mono (parts_leaf (by decide) _) ?_; rintro e wb ⟨rfl, rfl⟩)
          go_ret
          exact TermPost.bad (n2 := n + 1) (c := 10) HK9.out (by rw [← HZ.out]; exact HR9.out) HC3.out.1 (by decide) (Nat.le_succ _) (by have := HB.out; omega) (by decide)
        · clear LF f2
          go_wp2_with (go_at_call 46; refine Calls.mono (parts_leaf (by decide) _) ?_; rintro e wb ⟨rfl, rfl⟩)
          go_ret
          exact TermPost.leaf KB.out (by rw [← HZ.out]; exact HR6.out) HC3.out.1 HB.out hwg.out HN6.out (HLf.out (by first | rfl | trivial)) (.inr (.inl rfl))
      · have d3 : ((c3 : Int) != 0) = true := by simp; omega
        have d3' : ((c3 : Int) == 0) = false := by simp; omega
        have H3 := Lib.hid h3
        clear h3
        obtain ⟨x0, x1, x2⟩ := HR6.out.cells
        obtain ⟨z0, _, _, _, _, _⟩ := HN6.out.cells
        go_wp2_with (go_at_call 46; refine Calls.mono (parts_leaf (by decide) _) ?_; rintro e wb ⟨rfl, rfl⟩)
        go_ret
        exact TermPost.bad (n2 := n + 1) (c := c3) KB.out (by rw [← HZ.out]; exact HR6.out) HC3.out.1 HC3.out.2 (Nat.le_succ _) (by have := HB.out; omega) H3.out
    have b2 : (v == 2) = false := by simpa using hv2
    have LF := Lib.hid (leaf_any HN2.out (by show (0 : Nat) ≤ _; decide))
    obtain ⟨x0, x1, x2⟩ := HR2.out.cells
    obtain ⟨z0, _, _, _, _, _⟩ := HN2.out.cells
    have f2 := frozen_of HR2.out 2
    have HV0 := Lib.hid (And.intro hv (And.intro hv1 hv2))
    clear hv hv1 hv2
    go_upto_region 18 with (go_at_call 45; refine Calls.mono LF.out ?_; rintro e w9 ⟨b, rfl, rfl, hb⟩; have HLf := Lib.hid hb; clear hb; cases b)
    · obtain ⟨y9, hy9⟩ : ∃ y, y = w9.setCell ⟨R, 2, none⟩ (.int .i64 10) := ⟨_, rfl⟩
      rw [← hy9]
      have K9 : Kp [R] w9 y9 := by rw [hy9]; exact (Kp.refl [R] w9).setCell (.inl (by simp)) _
      have R9 : RdAt y9 R r1 z 10 := by rw [hy9]; exact HR2.out.set2 10
      have N9 := HN2.out.kp K9 (by simpa using HR2.out.ne HN2.out)
      clear x0 x1 x2 z0 f2 LF hy9
      obtain ⟨x0, x1, x2⟩ := R9.cells
      obtain ⟨z0, _, _, _, _, _⟩ := N9.cells
      have HK9 := Lib.hid (KA.out.trans K9)
      have HR9 := Lib.hid R9
      clear K9 R9 N9
      go_wp2_with (go_at_call 46; refine Calls.mono (parts_some v _) ?_; rintro e wb ⟨u, rfl, rfl⟩)
      go_ret
      exact TermPost.bad (n2 := n + 1) (c := 10) HK9.out (by rw [← HZ.out]; exact HR9.out) HC1.out.1 (by decide) (Nat.le_succ _) (by have := HB.out; omega) (by decide)
    · have hv4 : v = 4 ∨ v = 5 ∨ v = 6 ∨ v = 7 := by
        have := HV0.out
        rcases HLf.out (by first | rfl | trivial) with ⟨h, _⟩ | ⟨h, _⟩ | h | ⟨h, _⟩
        · omega
        · omega
        · omega
        · exact h
      clear LF HLf f2 HV0
      by_cases h7 : v = 7
      · have HV := Lib.hid h7
        have P3 : Hid (Calls Try.prog 46 #[.int .i64 v] w9 fun e w2 => e = .returned (.int .i64 3) ∧ w2 = w9) := by rw [h7]; exact parts_three w9
        clear h7 hv4 b1 b2 b3
        go_upto_region 19 with (go_at_call 46; refine Calls.mono P3.out ?_; rintro e wb ⟨rfl, rfl⟩)
        clear x0 x1 x2 z0 P3
        obtain ⟨x0, x1, x2⟩ := HR2.out.cells
        obtain ⟨z0, _, _, z3, z4, z5⟩ := HN2.out.cells
        have TCA : Hid (Calls Try.prog 37 #[.pointer (some ⟨R, 0, none⟩)] wb (TermPost r1 (n + 1) R wb)) := IH.out (n + 1) (Nat.lt_succ_self _) HB.out wb R r1 (by rw [← HZ.out]; exact HR2.out) (Nat.le_trans HC1.out.1 HS.out)
        go_upto_region 21 with (go_at_call 37; refine Calls.mono TCA.out ?_; rintro e wA ⟨qA, rA, nA, cA, rfl, kk, hrj, hrs, hcj, hn1, hn2, htj⟩; have KKA := Lib.hid kk; have HRjA := Lib.hid hrj; have HIA := Lib.hid (And.intro (Nat.le_trans hrs HC1.out.1) (And.intro hcj (And.intro hn1 hn2))); have HTjA := Lib.hid htj; clear hrj hrs hcj hn1 hn2 htj; have Nj := HN2.out.kp kk (by simpa using HR2.out.ne HN2.out); clear kk; have gq := Nj.cells.2.2.2.1; have fg := frozen_of Nj 3; have HNjA := Lib.hid Nj; clear Nj)
        obtain ⟨yA, hyA⟩ : ∃ y, y = wA.setCell ⟨g, 3, none⟩ (.pointer qA) := ⟨_, rfl⟩
        rw [← hyA]
        have HRA : Hid (RdAt yA R rA (nA : Int) (cA : Int)) := by
          rw [hyA]
          exact HRjA.out.kp ((Kp.refl [g] _).setCell (.inl (by simp)) _) (by simpa using (HRjA.out.ne HNjA.out).symm)
        have HNA : Hid (NdAt yA g v 0 ⟨#[]⟩ qA none none) := by rw [hyA]; exact HNjA.out.set3 qA
        have KBA : Hid (Kp [R] w yA) := by rw [hyA]; exact (KA.out.trans KKA.out).setCell (.inr hwg.out) _
        have HTA : Hid (cA = 0 → nA ≤ 3000 ∧ ∃ t, TmP yA (fun b => w.heap.size ≤ b ∧ b ≠ g) t qA ∧ Okn t ∧ (n + 1) + t.sz = nA) := fun h0 => by
          obtain ⟨h1, t, h2, h3, h4, _⟩ := HTjA.out h0
          refine ⟨h1, t, ?_, h3, h4⟩
          rw [hyA]
          exact tm_g (tm_child KA.out.size HN2.out.lt h2)
        
        clear x0 x1 x2 z0 z3 z4 z5 gq fg TCA HRjA HNjA hyA
        by_cases h5 : cA = 0
        · subst h5
          obtain ⟨hnA, tA, TA', OA', SA'⟩ := HTA.out rfl
          have TA := Lib.hid TA'
          have OSA := Lib.hid (And.intro OA' (And.intro SA' hnA))
          clear TA' OA' SA' hnA
          obtain ⟨x0, x1, x2⟩ := HRA.out.cells
          obtain ⟨z0, _, _, z3, z4, z5⟩ := HNA.out.cells
          have TCB : Hid (Calls Try.prog 37 #[.pointer (some ⟨R, 0, none⟩)] yA (TermPost rA nA R yA)) := IH.out nA (by have := HIA.out.2.2.1; omega) OSA.out.2.2 yA R rA HRA.out (Nat.le_trans HIA.out.1 HS.out)
          go_upto_region 23 with (go_at_call 37; refine Calls.mono TCB.out ?_; rintro e wB ⟨qB, rB, nB, cB, rfl, kk, hrj, hrs, hcj, hn1, hn2, htj⟩; have KKB := Lib.hid kk; have HRjB := Lib.hid hrj; have HIB := Lib.hid (And.intro (Nat.le_trans hrs HIA.out.1) (And.intro hcj (And.intro hn1 hn2))); have HTjB := Lib.hid htj; clear hrj hrs hcj hn1 hn2 htj; have Nj := HNA.out.kp kk (by simpa using HRA.out.ne HNA.out); clear kk; have gq := Nj.cells.2.2.2.2.1; have fg := frozen_of Nj 4; have HNjB := Lib.hid Nj; clear Nj)
          obtain ⟨yB, hyB⟩ : ∃ y, y = wB.setCell ⟨g, 4, none⟩ (.pointer qB) := ⟨_, rfl⟩
          rw [← hyB]
          have HRB : Hid (RdAt yB R rB (nB : Int) (cB : Int)) := by
            rw [hyB]
            exact HRjB.out.kp ((Kp.refl [g] _).setCell (.inl (by simp)) _) (by simpa using (HRjB.out.ne HNjB.out).symm)
          have HNB : Hid (NdAt yB g v 0 ⟨#[]⟩ qA qB none) := by rw [hyB]; exact HNjB.out.set4 qB
          have KBB : Hid (Kp [R] w yB) := by rw [hyB]; exact (KBA.out.trans KKB.out).setCell (.inr hwg.out) _
          have HTB : Hid (cB = 0 → nB ≤ 3000 ∧ ∃ t, TmP yB (fun b => w.heap.size ≤ b ∧ b ≠ g) t qB ∧ Okn t ∧ nA + t.sz = nB) := fun h0 => by
            obtain ⟨h1, t, h2, h3, h4, _⟩ := HTjB.out h0
            refine ⟨h1, t, ?_, h3, h4⟩
            rw [hyB]
            exact tm_g (tm_child KBA.out.size HNA.out.lt h2)
          have HPAB : Hid (TmP yB (fun b => w.heap.size ≤ b ∧ b ≠ g) tA qA) := by
            rw [hyB]
            exact tm_g (tm_R HRA.out KKB.out TA.out)
          clear x0 x1 x2 z0 z3 z4 z5 gq fg TCB HRjB HNjB hyB
          by_cases h5 : cB = 0
          · subst h5
            obtain ⟨hnB, tB, TB', OB', SB'⟩ := HTB.out rfl
            have TB := Lib.hid TB'
            have OSB := Lib.hid (And.intro OB' (And.intro SB' hnB))
            clear TB' OB' SB' hnB
            obtain ⟨x0, x1, x2⟩ := HRB.out.cells
            obtain ⟨z0, _, _, z3, z4, z5⟩ := HNB.out.cells
            have TCC : Hid (Calls Try.prog 37 #[.pointer (some ⟨R, 0, none⟩)] yB (TermPost rB nB R yB)) := IH.out nB (by have := HIA.out.2.2.1; have := HIB.out.2.2.1; omega) OSB.out.2.2 yB R rB HRB.out (Nat.le_trans HIB.out.1 HS.out)
            go_upto_region 25 with (go_at_call 37; refine Calls.mono TCC.out ?_; rintro e wC ⟨qC, rC, nC, cC, rfl, kk, hrj, hrs, hcj, hn1, hn2, htj⟩; have KKC := Lib.hid kk; have HRjC := Lib.hid hrj; have HIC := Lib.hid (And.intro (Nat.le_trans hrs HIB.out.1) (And.intro hcj (And.intro hn1 hn2))); have HTjC := Lib.hid htj; clear hrj hrs hcj hn1 hn2 htj; have Nj := HNB.out.kp kk (by simpa using HRB.out.ne HNB.out); clear kk; have gq := Nj.cells.2.2.2.2.2; have fg := frozen_of Nj 5; have HNjC := Lib.hid Nj; clear Nj)
            obtain ⟨yC, hyC⟩ : ∃ y, y = wC.setCell ⟨g, 5, none⟩ (.pointer qC) := ⟨_, rfl⟩
            rw [← hyC]
            have HRC : Hid (RdAt yC R rC (nC : Int) (cC : Int)) := by
              rw [hyC]
              exact HRjC.out.kp ((Kp.refl [g] _).setCell (.inl (by simp)) _) (by simpa using (HRjC.out.ne HNjC.out).symm)
            have HNC : Hid (NdAt yC g v 0 ⟨#[]⟩ qA qB qC) := by rw [hyC]; exact HNjC.out.set5 qC
            have KBC : Hid (Kp [R] w yC) := by rw [hyC]; exact (KBB.out.trans KKC.out).setCell (.inr hwg.out) _
            have HTC : Hid (cC = 0 → nC ≤ 3000 ∧ ∃ t, TmP yC (fun b => w.heap.size ≤ b ∧ b ≠ g) t qC ∧ Okn t ∧ nB + t.sz = nC) := fun h0 => by
              obtain ⟨h1, t, h2, h3, h4, _⟩ := HTjC.out h0
              refine ⟨h1, t, ?_, h3, h4⟩
              rw [hyC]
              exact tm_g (tm_child KBB.out.size HNB.out.lt h2)
            have HPBC : Hid (TmP yC (fun b => w.heap.size ≤ b ∧ b ≠ g) tB qB) := by
              rw [hyC]
              exact tm_g (tm_R HRB.out KKC.out TB.out)
            have HPABC : Hid (TmP yC (fun b => w.heap.size ≤ b ∧ b ≠ g) tA qA) := by
              rw [hyC]
              exact tm_g (tm_R HRB.out KKC.out HPAB.out)
            clear x0 x1 x2 z0 z3 z4 z5 gq fg TCC HRjC HNjC hyC
            by_cases h5 : cC = 0
            · subst h5
              obtain ⟨hnC, tC, TC', OC', SC'⟩ := HTC.out rfl
              have TC := Lib.hid TC'
              have OSC := Lib.hid (And.intro OC' (And.intro SC' hnC))
              clear TC' OC' SC' hnC
              obtain ⟨x0, x1, x2⟩ := HRC.out.cells
              go_wp2_with fail
              go_ret
              exact TermPost.node KBC.out HRC.out HIC.out.1 OSC.out.2.2 hwg.out HNC.out (by have := HV.out; omega) (fun h => absurd HV.out h) HPABC.out HPBC.out TC.out OSA.out.1 OSB.out.1 OSC.out.1.1 (by have := OSA.out.2.1; have := OSB.out.2.1; have := OSC.out.2.1; omega)
            · have d5 : ((cC : Int) != 0) = true := by simp; omega
              have d5' : ((cC : Int) == 0) = false := by simp; omega
              have H5 := Lib.hid h5
              clear h5
              obtain ⟨x0, x1, x2⟩ := HRC.out.cells
              go_wp2_with fail
              go_ret
              exact TermPost.bad (n2 := nC) KBC.out HRC.out HIC.out.1 HIC.out.2.1 (by have := HIC.out.2.2.1; have := HIA.out.2.2.1; have := HIB.out.2.2.1; omega) HIC.out.2.2.2 H5.out
          · have d5 : ((cB : Int) != 0) = true := by simp; omega
            have d5' : ((cB : Int) == 0) = false := by simp; omega
            have H5 := Lib.hid h5
            clear h5
            obtain ⟨x0, x1, x2⟩ := HRB.out.cells
            go_wp2_with fail
            go_ret
            exact TermPost.bad (n2 := nB) KBB.out HRB.out HIB.out.1 HIB.out.2.1 (by have := HIB.out.2.2.1; have := HIA.out.2.2.1; omega) HIB.out.2.2.2 H5.out
        · have d5 : ((cA : Int) != 0) = true := by simp; omega
          have d5' : ((cA : Int) == 0) = false := by simp; omega
          have H5 := Lib.hid h5
          clear h5
          obtain ⟨x0, x1, x2⟩ := HRA.out.cells
          go_wp2_with fail
          go_ret
          exact TermPost.bad (n2 := nA) KBA.out HRA.out HIA.out.1 HIA.out.2.1 (by have := HIA.out.2.2.1; omega) HIA.out.2.2.2 H5.out
      · have HV : Hid (v = 4 ∨ v = 5 ∨ v = 6) := by show v = 4 ∨ v = 5 ∨ v = 6; omega
        have P2 := Lib.hid (parts_two HV.out w9)
        clear h7 hv4 b1 b2 b3
        go_upto_region 19 with (go_at_call 46; refine Calls.mono P2.out ?_; rintro e wb ⟨rfl, rfl⟩)
        clear x0 x1 x2 z0 P2
        obtain ⟨x0, x1, x2⟩ := HR2.out.cells
        obtain ⟨z0, _, _, z3, z4, z5⟩ := HN2.out.cells
        have TCA : Hid (Calls Try.prog 37 #[.pointer (some ⟨R, 0, none⟩)] wb (TermPost r1 (n + 1) R wb)) := IH.out (n + 1) (Nat.lt_succ_self _) HB.out wb R r1 (by rw [← HZ.out]; exact HR2.out) (Nat.le_trans HC1.out.1 HS.out)
        go_upto_region 21 with (go_at_call 37; refine Calls.mono TCA.out ?_; rintro e wA ⟨qA, rA, nA, cA, rfl, kk, hrj, hrs, hcj, hn1, hn2, htj⟩; have KKA := Lib.hid kk; have HRjA := Lib.hid hrj; have HIA := Lib.hid (And.intro (Nat.le_trans hrs HC1.out.1) (And.intro hcj (And.intro hn1 hn2))); have HTjA := Lib.hid htj; clear hrj hrs hcj hn1 hn2 htj; have Nj := HN2.out.kp kk (by simpa using HR2.out.ne HN2.out); clear kk; have gq := Nj.cells.2.2.2.1; have fg := frozen_of Nj 3; have HNjA := Lib.hid Nj; clear Nj)
        obtain ⟨yA, hyA⟩ : ∃ y, y = wA.setCell ⟨g, 3, none⟩ (.pointer qA) := ⟨_, rfl⟩
        rw [← hyA]
        have HRA : Hid (RdAt yA R rA (nA : Int) (cA : Int)) := by
          rw [hyA]
          exact HRjA.out.kp ((Kp.refl [g] _).setCell (.inl (by simp)) _) (by simpa using (HRjA.out.ne HNjA.out).symm)
        have HNA : Hid (NdAt yA g v 0 ⟨#[]⟩ qA none none) := by rw [hyA]; exact HNjA.out.set3 qA
        have KBA : Hid (Kp [R] w yA) := by rw [hyA]; exact (KA.out.trans KKA.out).setCell (.inr hwg.out) _
        have HTA : Hid (cA = 0 → nA ≤ 3000 ∧ ∃ t, TmP yA (fun b => w.heap.size ≤ b ∧ b ≠ g) t qA ∧ Okn t ∧ (n + 1) + t.sz = nA) := fun h0 => by
          obtain ⟨h1, t, h2, h3, h4, _⟩ := HTjA.out h0
          refine ⟨h1, t, ?_, h3, h4⟩
          rw [hyA]
          exact tm_g (tm_child KA.out.size HN2.out.lt h2)
        
        clear x0 x1 x2 z0 z3 z4 z5 gq fg TCA HRjA HNjA hyA
        by_cases h5 : cA = 0
        · subst h5
          obtain ⟨hnA, tA, TA', OA', SA'⟩ := HTA.out rfl
          have TA := Lib.hid TA'
          have OSA := Lib.hid (And.intro OA' (And.intro SA' hnA))
          clear TA' OA' SA' hnA
          obtain ⟨x0, x1, x2⟩ := HRA.out.cells
          obtain ⟨z0, _, _, z3, z4, z5⟩ := HNA.out.cells
          have TCB : Hid (Calls Try.prog 37 #[.pointer (some ⟨R, 0, none⟩)] yA (TermPost rA nA R yA)) := IH.out nA (by have := HIA.out.2.2.1; omega) OSA.out.2.2 yA R rA HRA.out (Nat.le_trans HIA.out.1 HS.out)
          go_upto_region 23 with (go_at_call 37; refine Calls.mono TCB.out ?_; rintro e wB ⟨qB, rB, nB, cB, rfl, kk, hrj, hrs, hcj, hn1, hn2, htj⟩; have KKB := Lib.hid kk; have HRjB := Lib.hid hrj; have HIB := Lib.hid (And.intro (Nat.le_trans hrs HIA.out.1) (And.intro hcj (And.intro hn1 hn2))); have HTjB := Lib.hid htj; clear hrj hrs hcj hn1 hn2 htj; have Nj := HNA.out.kp kk (by simpa using HRA.out.ne HNA.out); clear kk; have gq := Nj.cells.2.2.2.2.1; have fg := frozen_of Nj 4; have HNjB := Lib.hid Nj; clear Nj)
          obtain ⟨yB, hyB⟩ : ∃ y, y = wB.setCell ⟨g, 4, none⟩ (.pointer qB) := ⟨_, rfl⟩
          rw [← hyB]
          have HRB : Hid (RdAt yB R rB (nB : Int) (cB : Int)) := by
            rw [hyB]
            exact HRjB.out.kp ((Kp.refl [g] _).setCell (.inl (by simp)) _) (by simpa using (HRjB.out.ne HNjB.out).symm)
          have HNB : Hid (NdAt yB g v 0 ⟨#[]⟩ qA qB none) := by rw [hyB]; exact HNjB.out.set4 qB
          have KBB : Hid (Kp [R] w yB) := by rw [hyB]; exact (KBA.out.trans KKB.out).setCell (.inr hwg.out) _
          have HTB : Hid (cB = 0 → nB ≤ 3000 ∧ ∃ t, TmP yB (fun b => w.heap.size ≤ b ∧ b ≠ g) t qB ∧ Okn t ∧ nA + t.sz = nB) := fun h0 => by
            obtain ⟨h1, t, h2, h3, h4, _⟩ := HTjB.out h0
            refine ⟨h1, t, ?_, h3, h4⟩
            rw [hyB]
            exact tm_g (tm_child KBA.out.size HNA.out.lt h2)
          have HPAB : Hid (TmP yB (fun b => w.heap.size ≤ b ∧ b ≠ g) tA qA) := by
            rw [hyB]
            exact tm_g (tm_R HRA.out KKB.out TA.out)
          clear x0 x1 x2 z0 z3 z4 z5 gq fg TCB HRjB HNjB hyB
          by_cases h5 : cB = 0
          · subst h5
            obtain ⟨hnB, tB, TB', OB', SB'⟩ := HTB.out rfl
            have TB := Lib.hid TB'
            have OSB := Lib.hid (And.intro OB' (And.intro SB' hnB))
            clear TB' OB' SB' hnB
            obtain ⟨x0, x1, x2⟩ := HRB.out.cells
            go_wp2_with fail
            go_ret
            exact TermPost.node (c := .nil) (pc := none) KBB.out HRB.out HIB.out.1 OSB.out.2.2 hwg.out HNB.out (by have := HV.out; omega) (fun _ => rfl) HPAB.out TB.out rfl OSA.out.1 OSB.out.1 .nil (by have := OSA.out.2.1; have := OSB.out.2.1; show n + (1 + tA.sz + tB.sz + 0) = nB; omega)
          · have d5 : ((cB : Int) != 0) = true := by simp; omega
            have d5' : ((cB : Int) == 0) = false := by simp; omega
            have H5 := Lib.hid h5
            clear h5
            obtain ⟨x0, x1, x2⟩ := HRB.out.cells
            go_wp2_with fail
            go_ret
            exact TermPost.bad (n2 := nB) KBB.out HRB.out HIB.out.1 HIB.out.2.1 (by have := HIB.out.2.2.1; have := HIA.out.2.2.1; omega) HIB.out.2.2.2 H5.out
        · have d5 : ((cA : Int) != 0) = true := by simp; omega
          have d5' : ((cA : Int) == 0) = false := by simp; omega
          have H5 := Lib.hid h5
          clear h5
          obtain ⟨x0, x1, x2⟩ := HRA.out.cells
          go_wp2_with fail
          go_ret
          exact TermPost.bad (n2 := nA) KBA.out HRA.out HIA.out.1 HIA.out.2.1 (by have := HIA.out.2.2.1; omega) HIA.out.2.2.2 H5.out
  · have d0 : ((c1 : Int) != 0) = true := by simp; omega
    have d0' : ((c1 : Int) == 0) = false := by simp; omega
    have H0 := Lib.hid h0
    clear h0 hc1
    go_wp2_with fail
    go_ret
    exact TermPost.bad (n2 := n + 1) (c := c1) KA.out (by rw [← HZ.out]; exact HR2.out) HC1.out.1 HC1.out.2 (Nat.le_succ _) (by have := HB.out; omega) H0.out
theorem term_any (n : Nat) (hn : n ≤ 3000) : TermC n := by
  have : ∀ d, ∀ n, n ≤ 3000 → 3000 - n ≤ d → TermC n := by
    intro d
    induction d with
    | zero => intro n hn hd; exact term_step n hn (fun m h1 h2 => by omega)
    | succ d ih => intro n hn hd; exact term_step n hn (fun m h1 h2 => ih m h2 (by omega))
  exact this 3000 n hn (by omega)
end Go.Proofs.Ytcfhhabjiofehaa
