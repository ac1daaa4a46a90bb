/- Contracts of Head, Pis of package spine. -/
import Derived.Test.YtcfhhabjiofehaaSpP
namespace Go.Proofs.Ytcfhhabjiofehaa
open Go.RowKit Go.ChangeMaps

theorem foot_noNode {w : World} {A : Nat} {X : List Nat} {nd : Int} {M : Option Nat} {O : List Key} (h : Env w A X nd M O) : ∀ g ∈ A :: M.toList, NoNode w g := fun g hg _ _ _ _ _ pc hn =>
  NoPtr_foot h g hg 5 pc hn.cells.2.2.2.2.2
/-- New copies, whose answers' rows lie in X. -/
theorem Env.new (w : World) (X : List Nat) (hX : ∀ x ∈ X, x < w.heap.size) : Env (w.alloc (.cells #[.int .i64 0, .map none] 51)) w.heap.size X 0 none [] :=
  ⟨(MapKept.heap_alloc w _).1, fun x hx => by have := hX x hx; simp; omega, fun b hb => by cases hb⟩
theorem Row.lt {w : World} {B : Nat} {v : Value} {ps : List (Option Addr)} {ts : List Tm} (h : Row w B v ps ts) : ∀ x ∈ v.ownBlock.toList, x < w.heap.size := fun x hx => (h.own.lt x (by simpa using hx)).2
theorem Row.foot {w : World} {B A : Nat} {X : List Nat} {nd : Int} {M : Option Nat} {O : List Key} {v : Value} {ps : List (Option Addr)} {ts : List Tm} (h : Row w B v ps ts) (he : Env w A X nd M O) : ∀ g ∈ A :: M.toList, NoNode w g ∧ v.ownBlock ≠ some g := fun g hg => by
  refine ⟨foot_noNode he g hg, fun e => ?_⟩
  rcases h.form with ⟨h1, _⟩ | ⟨g2, c, cs, h1, _, h3⟩
  · rw [h1] at e; simp [Value.ownBlock] at e
  · rw [h1] at e
    obtain rfl : g2 = g := by simpa [Value.ownBlock] using e
    exact notIn_foot he h3 (by decide) hg
/-- A head and its arguments, or a telescope and what is behind: both new. -/
def PartsPost (w : World) (t : Tm) (l : List Tm) (q : Option Addr) (v : Value) (w2 : World) : Prop :=
  ∃ ps, Kp [] w w2 ∧ Row w2 w.heap.size v ps l ∧ TmAt w2 t q
def HeadPost (w : World) (t : Tm) (e : Ending) (w2 : World) : Prop := ∃ q v, e = .returned (.tuple #[.pointer q, v]) ∧ PartsPost w (head t).1 (head t).2 q v w2
def PisPost (w : World) (m : Nat) (t : Tm) (e : Ending) (w2 : World) : Prop := ∃ q v, e = .returned (.tuple #[v, .pointer q]) ∧ PartsPost w (pis m t).2 (pis m t).1 q v w2
set_option maxHeartbeats 3200000 in
theorem shead_any {t : Tm} (hsz : t.sz ≤ 100000) {w : World} {p : Option Addr} (hp : TmAt w t p) : Calls Try.prog 9 #[.pointer p] w (HeadPost w t) := by
  have h := row_any 6 9223372036854775807 _ rfl t hsz w p hp
  unfold RowPost at h
  rw [row_more 6 _ t.sz t (by show t.sz ≤ 9223372036854775807; omega) (Nat.le_refl _)] at h
  have hLs : (row 6 t.sz t).1.length ≤ 100000 := by
    have := row_sz 6 t.sz t
    omega
  unfold HeadPost PartsPost head
  obtain ⟨L, hL⟩ : ∃ L, L = (row 6 t.sz t).1 := ⟨_, rfl⟩
  obtain ⟨f, hf⟩ : ∃ f, f = (row 6 t.sz t).2 := ⟨_, rfl⟩
  rw [← hL] at h hLs ⊢
  rw [← hf] at h ⊢
  have HR := Lib.hid h
  clear hp hsz h hL hf
  go_enter Try.func9, Try.ntmps9
  go_upto_region 2 with (go_at_call 30; refine Calls.mono HR.out ?_; rintro e w1 ⟨v, q, ps, rfl, k1, r1, t1⟩)
  clear HR
  have hps : ps.length ≤ 1000000000000 := by rw [← r1.len]; omega
  have HV := Lib.hid (reverse_any r1 hps)
  have HX := Lib.hid (And.intro k1 (And.intro r1 (And.intro t1 hps)))
  clear k1 r1 t1 hps hLs
  go_upto_region 3 with (go_at_call 31; refine Calls.mono HV.out ?_; rintro e w2 ⟨rfl, k2, r2⟩)
  have K2 : Hid (Kp [] w w2) := HX.out.1.trans2 k2 (fun x hx => .inr (HX.out.2.1.own_ge x hx).1)
  have T2 := Lib.hid (HX.out.2.2.1.row k2 (fun g hg => (HX.out.2.1.own_ge g hg).2))
  have R2 := Lib.hid r2
  have hps2 : Hid (ps.reverse.length ≤ 1000000000000) := by show ps.reverse.length ≤ _; rw [List.length_reverse]; exact HX.out.2.2.2
  clear k2 r2 HV HX
  obtain ⟨y, hy⟩ : ∃ y, y = w2.alloc (.cells #[.int .i64 0, .map none] 51) := ⟨_, rfl⟩
  obtain ⟨A, hA⟩ : ∃ A, A = w2.heap.size := ⟨_, rfl⟩
  have ka : Kp [] w2 y := by rw [hy]; exact (Kp.refl [] w2).alloc _
  have E0 : Env y A v.ownBlock.toList 0 none [] := by rw [hy, hA]; exact Env.new w2 _ R2.out.lt
  have hAw : w.heap.size ≤ A := by rw [hA]; exact K2.out.size
  have R3 := R2.out.kp0 ka
  have T3 := T2.out.kp0 ka
  have HT : Hid (Calls Try.prog 32 #[.pointer (some ⟨A, 0, none⟩), .pointer q] y (AtPost y A v.ownBlock.toList none [] f)) :=
    at_any f y A _ 0 none [] q E0 (fun k hk => by cases hk) (T3.off (fun g hg => (R3.own_ge g hg).2))
  have HE := Lib.hid (And.intro E0 (And.intro R3 (And.intro hAw (K2.out.trans ka))))
  have HY := Lib.hid (And.intro hy hA)
  clear hy hA ka E0 hAw R3 T3 K2 T2 R2
  go_wp2_with (first
    | (go_at_call 33; refine Calls.mono HC.out ?_; rintro e w4 ⟨ps4, M4, nd4, rfl, k4, s4, e4, r4⟩)
    | (go_at_call 32; (try rw [← HY.out.1, ← HY.out.2]); refine Calls.mono HT.out ?_; rintro e w3 ⟨q3, M3, nd3, rfl, k3, s3, e3, t3⟩;
        have R4 := HE.out.2.1.kp k3 (HE.out.2.1.foot HE.out.1);
        have HC := Lib.hid (cterms_any R4 hps2.out e3);
        have H3 := Lib.hid (And.intro k3 (And.intro s3 (And.intro e3 (And.intro t3 R4))));
        clear k3 s3 e3 t3 R4))
  refine bodyPost_ret (v := .tuple #[.pointer q3, v]) (by simp [results, Try.results9, go_sem]) rfl ?_
  have kw : Kp [] w w3 := HE.out.2.2.2.trans2 H3.out.1 (fun x hx => .inr (by simp at hx; rw [hx]; exact HE.out.2.2.1))
  refine ⟨q3, v, rfl, ps4, kw.trans2 k4 (fun x hx => .inr ?_), r4.mono ?_, ?_⟩
  · simp only [List.mem_cons, List.mem_append] at hx
    rcases hx with rfl | hx | hx
    · exact HE.out.2.2.1
    · exact (HE.out.2.1.own_ge x hx).1
    · rcases H3.out.2.1 with rfl | ⟨_, b, rfl, hb⟩
      · simp at hx
      · simp at hx
        rw [hx]
        exact Nat.le_trans HE.out.2.2.2.size hb
  · exact Nat.le_refl _
  · refine (H3.out.2.2.2.1.kp (Q := fun _ => True) k4 (fun g hg => ?_) (fun _ _ _ => trivial)).at
    simp only [List.mem_cons, List.mem_append] at hg
    rcases hg with rfl | hg | hg
    · exact .inl (NoPtr_foot H3.out.2.2.1 _ (by simp))
    · exact .inr (by simpa using hg)
    · exact .inl (NoPtr_foot H3.out.2.2.1 _ (by simp [hg]))
set_option maxHeartbeats 3200000 in
theorem spis_any {t : Tm} (hsz : t.sz ≤ 100000) (most : Int) (m : Nat) (hm : m = most.toNat) {w : World} {p : Option Addr} (hp : TmAt w t p) : Calls Try.prog 11 #[.pointer p, .int .i64 most] w (PisPost w m t) := by
  have h := row_any 4 most m hm t hsz w p hp
  unfold RowPost at h
  have hLs : (row 4 m t).1.length ≤ 100000 := by
    have := row_sz 4 m t
    omega
  unfold PisPost PartsPost pis
  obtain ⟨L, hL⟩ : ∃ L, L = (row 4 m t).1 := ⟨_, rfl⟩
  obtain ⟨f, hf⟩ : ∃ f, f = (row 4 m t).2 := ⟨_, rfl⟩
  rw [← hL] at h hLs ⊢
  rw [← hf] at h ⊢
  have HR := Lib.hid h
  clear hp hsz h hL hf hm
  go_enter Try.func11, Try.ntmps11
  go_upto_region 2 with (go_at_call 30; refine Calls.mono HR.out ?_; rintro e w2 ⟨v, q, ps, rfl, K2, R2, T2⟩)
  have hps2 : Hid (ps.length ≤ 1000000000000) := by show ps.length ≤ _; rw [← R2.len]; omega
  obtain ⟨y, hy⟩ : ∃ y, y = w2.alloc (.cells #[.int .i64 0, .map none] 51) := ⟨_, rfl⟩
  obtain ⟨A, hA⟩ : ∃ A, A = w2.heap.size := ⟨_, rfl⟩
  have ka : Kp [] w2 y := by rw [hy]; exact (Kp.refl [] w2).alloc _
  have E0 : Env y A v.ownBlock.toList 0 none [] := by rw [hy, hA]; exact Env.new w2 _ R2.lt
  have hAw : w.heap.size ≤ A := by rw [hA]; exact K2.size
  have R3 := R2.kp0 ka
  have T3 := T2.kp0 ka
  have HC := Lib.hid (cterms_any R3 hps2.out E0)
  have HE := Lib.hid (And.intro E0 (And.intro R3 (And.intro hAw (And.intro (K2.trans ka) (T3.off (fun g hg => (R3.own_ge g hg).2))))))
  have HY := Lib.hid (And.intro hy hA)
  clear hy hA ka E0 hAw R3 T3 K2 T2 R2 hLs HR hps2
  go_wp2_with (first
    | (go_at_call 32; refine Calls.mono HT.out ?_; rintro e w4 ⟨q4, M4, nd4, rfl, k4, s4, e4, t4⟩)
    | (go_at_call 33; (try rw [← HY.out.1, ← HY.out.2]); refine Calls.mono HC.out ?_; rintro e w3 ⟨ps3, M3, nd3, rfl, k3, s3, e3, r3⟩;
        have T4 := HE.out.2.2.2.2.kp (Q := fun b => b ∉ v.ownBlock.toList) k3 (fun g hg => by
          simp only [List.mem_cons, List.mem_append] at hg
          rcases hg with rfl | hg | hg
          · exact .inl (NoPtr_foot HE.out.1 _ (by simp))
          · exact .inr (by simpa using hg)
          · simp at hg) (fun _ _ h => h);
        have HT := Lib.hid (at_any f w3 A _ nd3 M3 [] q e3 (fun k hk => by cases hk) T4);
        have H3 := Lib.hid (And.intro k3 (And.intro s3 (And.intro e3 r3)));
        clear k3 s3 e3 r3 T4))
  refine bodyPost_ret (v := .tuple #[v, .pointer q4]) (by simp [results, Try.results11, go_sem]) rfl ?_
  have kw : Kp [] w w3 := HE.out.2.2.2.1.trans2 H3.out.1 (fun x hx => .inr (by
    simp only [List.mem_cons, List.mem_append] at hx
    rcases hx with rfl | hx | hx
    · exact HE.out.2.2.1
    · exact (HE.out.2.1.own_ge x hx).1
    · simp at hx))
  refine ⟨q4, v, rfl, ps3, kw.trans2 k4 (fun x hx => .inr ?_), (H3.out.2.2.2.kp k4 (H3.out.2.2.2.foot H3.out.2.2.1)).mono (Nat.le_refl _), t4.at⟩
  rcases List.mem_cons.1 hx with rfl | hx
  · exact HE.out.2.2.1
  · rcases H3.out.2.1 with rfl | ⟨_, b, rfl, hb⟩
    · simp at hx
    · simp at hx
      rw [hx]
      exact Nat.le_trans HE.out.2.2.2.1.size hb
end Go.Proofs.Ytcfhhabjiofehaa
