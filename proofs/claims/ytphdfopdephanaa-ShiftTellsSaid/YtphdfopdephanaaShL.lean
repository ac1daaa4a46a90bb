/- Contract of at, of every term; of whole. -/
import Derived.Test.YtphdfopdephanaaShJ
namespace Go.Proofs.Ytphdfopdephanaa
open Go.RowKit Go.ChangeMaps

theorem AtPost.ret {w : World} {A : Nat} {X : List Nat} {m : Mv} {ta : Option Addr} {tn tc : Nat} {ps : List (Option Addr)} {M : Option Nat} {O : List Key} {r : Tm} {w1 : World} (K : Kp [] w w1) {e : Ending} {w2 : World} (h : AtPost w1 A X m ta tn tc ps M O r e w2) : ∃ q, e = .returned (.pointer q) ∧ AtPost w A X m ta tn tc ps M O r e w2 := by
  obtain ⟨q, h1⟩ : ∃ q, e = .returned (.pointer q) := by obtain ⟨q, _, _, h1, _⟩ := h; exact ⟨q, h1⟩
  exact ⟨q, h1, h.ahead K⟩
theorem at_nil (m : Mv) (li : Int) : CAt m li .nil := by
  unfold CAt pv
  intro w A X ta tn tc ps nd M O ar p h _ har hht ht
  obtain rfl : p = none := ht
  have HE : Hid (Env (w.alloc (plO none ar li)) A X m ta tn tc ps nd M O) := h.kp0 ((Kp.refl [] w).alloc _)
  have hres : res m li ar .nil = .nil := by unfold res; split <;> rfl
  rw [hres]
  unfold AtPost
  have K0 : Hid (Kp (A :: M.toList) w (w.alloc (plO none ar li))) := ((Kp.refl [] w).alloc _).mono (fun _ h => by cases h)
  unfold plO at HE K0
  clear h har hht hres
  go_enter Try.func40, Try.ntmps40
  go_wp2_with fail
  go_ret
  exact ⟨none, M, nd, rfl, K0.out, MapStep.refl _ _, HE.out, rfl⟩
/-- A term that is put in is lifted. -/
theorem at_lift_node (m : Mv) (li : Int) (hl0 : 0 ≤ li) (hl1 : li ≤ 131072) (k n : Int) (s : ByteArray) (a b c : Tm) (hn0 : k = 2 → 0 ≤ n) (hn1 : k = 2 → n ≤ 1000000000000) (ca : CAt m li a) (cb : CAt m li b) (cc : CAt m li c) : CAt m li (.node k n s a b c) := by
  unfold CAt pv
  intro w A X ta tn tc ps nd M O ar p h hcl har hht ht
  obtain ⟨g, pa, pb, pc, rfl, hgX, N, ha, hb, hc⟩ := id ht
  have hm : MvCalls w A (some ⟨g, 0, none⟩) ar li 0 li none 0 0 false ⟨#[]⟩ := fun W K => moveAt_lift A _ ar li hl0
  simp only [Tm.ht] at hht
  have hne : li ≠ -1 := by omega
  have hr : res m li ar (.node k n s a b c) = .node k (if k = 2 ∧ ar ≤ n then n + li else n) s (res m li ar a) (res m li (ar + hB k) b) (res m li (ar + hC k) c) := by
    simp only [res, if_neg hne, lift]
  have hs : ∀ x : Tm, x = a ∨ x = b ∨ x = c → x.sz < (Tm.node k n s a b c).sz := fun x hx => by
    simp only [Tm.sz]
    rcases hx with rfl | rfl | rfl <;> omega
  have hadd : ∀ n2, res m li ar (.node k n s a b c) = .node k n2 s (res m li ar a) (res m li (ar + hB k) b) (res m li (ar + hC k) c) → ∀ W, Kp [] w W → Calls Try.prog 48 #[.pointer (some ⟨A, 0, none⟩), .agg #[.pointer (some ⟨g, 0, none⟩), .int .i64 ar, .int .i64 li], .agg #[.int .i64 k, .int .i64 n2, .string s, .pointer pa, .pointer pb, .pointer pc]] W (fun e w2 => ∃ q, e = .returned (.pointer q) ∧ AtPost w A X m ta tn tc ps M O (res m li ar (.node k n s a b c)) e w2) := fun n2 hr W K =>
    (add_any (h.kp0 K) (ht.kp0 K) ar li (hcl.kp K (fun _ h => by cases h) (fun _ _ h => h)) har k n2 s (ha.kp0 K) (hb.kp0 K) (hc.kp0 K) (hs a (by simp)) (hs b (by simp)) (hs c (by simp)) ca cb cc (by omega) (by omega) (by omega) hr).mono (fun e w2 hp => hp.ret K)
  cases hv : (decide (k = 2) && decide (0 ≤ n - ar)) with
  | true =>
    simp only [Bool.and_eq_true] at hv
    have h2 := of_decide_eq_true hv.1
    have h3 := of_decide_eq_true hv.2
    have hn0 := hn0 h2
    have hn1 := hn1 h2
    exact at_moved hm N har (by omega) (fun _ => by omega) (fun _ => by omega) rfl (by rw [decide_eq_true h2, decide_eq_true h3]; rfl) (by omega) (by omega) (by omega) (by simpa using h3) (n + li) (wrap_ok rfl (by omega) (by omega)) (hadd _ (by rw [hr, if_pos ⟨h2, by omega⟩]))
  | false =>
    have h2 : ¬ (k = 2 ∧ ar ≤ n) := fun h => by
      have h3 : 0 ≤ n - ar := by omega
      rw [decide_eq_true h.1, decide_eq_true h3] at hv
      cases hv
    exact at_plain hm N har (by omega) (fun h => by have := hn0 h; omega) (fun h => by have := hn1 h; omega) rfl hv (hadd _ (by rw [hr, if_neg h2]))
theorem at_lift (m : Mv) (li : Int) (hl0 : 0 ≤ li) (hl1 : li ≤ 131072) {N : Int} (hN : N ≤ 1000000000000) {t : Tm} (o : Ok N t) : CAt m li t := by
  induction o with
  | nil => exact at_nil m li
  | var n h0 h1 => exact at_lift_node m li hl0 hl1 2 n noS .nil .nil .nil (fun _ => h0) (fun _ => by omega) (at_nil m li) (at_nil m li) (at_nil m li)
  | leaf k n s hk => exact at_lift_node m li hl0 hl1 k n s .nil .nil .nil (fun h => by omega) (fun h => by omega) (at_nil m li) (at_nil m li) (at_nil m li)
  | inner k a b c hk hc _ _ _ i1 i2 i3 => exact at_lift_node m li hl0 hl1 k 0 noS a b c (fun h => by omega) (fun h => by omega) i1 i2 i3
/-- What a move may be. -/
structure MvOk (N : Int) (m : Mv) : Prop where
  f0 : 0 ≤ m.frm
  f1 : m.frm ≤ 1000000000000
  b0 : -1000000 ≤ m.by'
  b1 : m.by' ≤ 1000000
  len : m.terms.length ≤ 100000
  tm : ∀ u ∈ m.terms, Ok N u ∧ u.ht ≤ 131072
theorem bnd_eq (m : Mv) (k n : Int) (s : ByteArray) : m.bnd k n s = (m.binds && decide (k = 3) && decide (s = m.name) && decide (n = 0)) := rfl
theorem at_main_node (m : Mv) {N : Int} (hN : N ≤ 1000000000000) (hm : MvOk N m) (k n : Int) (s : ByteArray) (a b c : Tm) (hn0 : k = 2 → 0 ≤ n) (hn1 : k = 2 → n ≤ 1000000000000) (ca : CAt m (-1) a) (cb : CAt m (-1) b) (cc : CAt m (-1) c) : CAt m (-1) (.node k n s a b c) := by
  unfold CAt pv
  intro w A X ta tn tc ps nd M O ar p h hcl har hht ht
  obtain ⟨g, pa, pb, pc, rfl, hgX, N0, ha, hb, hc⟩ := id ht
  have hmv : MvCalls w A (some ⟨g, 0, none⟩) ar (-1) m.frm m.by' ta tn tc m.binds m.name := fun W K => moveAt_main (h.kp0 K).ans _ ar
  simp only [Tm.ht] at hht
  have hres : res m (-1) ar (.node k n s a b c) = m.at ar (.node k n s a b c) := if_pos rfl
  have hs : ∀ x : Tm, x = a ∨ x = b ∨ x = c → x.sz < (Tm.node k n s a b c).sz := fun x hx => by
    simp only [Tm.sz]
    rcases hx with rfl | rfl | rfl <;> omega
  have hadd : ∀ n2, res m (-1) ar (.node k n s a b c) = .node k n2 s (res m (-1) ar a) (res m (-1) (ar + hB k) b) (res m (-1) (ar + hC k) c) → ∀ W, Kp [] w W → Calls Try.prog 48 #[.pointer (some ⟨A, 0, none⟩), .agg #[.pointer (some ⟨g, 0, none⟩), .int .i64 ar, .int .i64 (-1)], .agg #[.int .i64 k, .int .i64 n2, .string s, .pointer pa, .pointer pb, .pointer pc]] W (fun e w2 => ∃ q, e = .returned (.pointer q) ∧ AtPost w A X m ta tn tc ps M O (res m (-1) ar (.node k n s a b c)) e w2) := fun n2 hr W K =>
    (add_any (h.kp0 K) (ht.kp0 K) ar (-1) (hcl.kp K (fun _ h => by cases h) (fun _ _ h => h)) har k n2 s (ha.kp0 K) (hb.kp0 K) (hc.kp0 K) (hs a (by simp)) (hs b (by simp)) (hs c (by simp)) ca cb cc (by omega) (by omega) (by omega) hr).mono (fun e w2 hp => hp.ret K)
  cases hbn : (m.binds && decide (k = 3) && decide (s = m.name) && decide (n = 0)) with
  | true =>
    have hr : res m (-1) ar (.node k n s a b c) = .node 2 ar ⟨#[]⟩ .nil .nil .nil := by
      rw [hres]
      simp only [Mv.at]
      rw [bnd_eq, hbn]
      rfl
    rw [hr]
    exact at_bound hmv N0 (by omega) hbn (fun W K => (add_leaf (h.kp0 K) _ ar (-1) 2 ar ⟨#[]⟩).mono (fun e w2 hp => hp.ret K))
  | false =>
    cases hv : (decide (k = 2) && decide (m.frm ≤ n - ar)) with
    | false =>
      exact at_plain hmv N0 har (by omega) (fun h => by have := hn0 h; omega) (fun h => by have := hn1 h; omega) hbn hv (hadd _ (by
        rw [hres]
        simp only [Mv.at]
        rw [bnd_eq, hbn, if_neg (by decide), show m.mvd ar k n = false from hv]
        rfl))
    | true =>
      have hv' := hv
      simp only [Bool.and_eq_true] at hv'
      have h2 := of_decide_eq_true hv'.1
      have h3 := of_decide_eq_true hv'.2
      have hn0 := hn0 h2
      have hn1 := hn1 h2
      have hf0 := hm.f0
      have hf1 := hm.f1
      have hb0 := hm.b0
      have hb1 := hm.b1
      have htn : tn ≤ 100000 := by rw [← h.lenm]; exact hm.len
      by_cases hh : (tn : Int) ≤ n - ar - m.frm
      · exact at_moved hmv N0 har (by omega) (fun _ => by omega) (fun _ => by omega) hbn hv hm.f0 hm.f1 htn hh (n + m.by') (wrap_ok rfl (by omega) (by omega)) (hadd _ (by
          rw [hres]
          simp only [Mv.at]
          have hhas : m.has ar n = false := by
            unfold Mv.has
            rw [h.lenm]
            exact decide_eq_false (by omega)
          rw [bnd_eq, hbn, if_neg (by decide), show m.mvd ar k n = true from hv, hhas]
          rfl))
      · obtain ⟨j, hj⟩ : ∃ j : Nat, j = tn - 1 - (n - ar - m.frm).toNat := ⟨_, rfl⟩
        have hjl : j < ps.length := by rw [h.len]; omega
        have hjm : j < m.terms.length := by rw [h.lenm]; omega
        obtain ⟨tb, to, hta, htX, hcell⟩ := h.row j ps[j] (List.getElem?_eq_getElem hjl)
        have htm := h.trm j ps[j] m.terms[j] (List.getElem?_eq_getElem hjl) (List.getElem?_eq_getElem hjm)
        have hmem := hm.tm m.terms[j] (List.getElem_mem _)
        have hterm : m.term ar n = m.terms[j] := by
          unfold Mv.term
          rw [h.lenm, ← hj, List.getD_eq_getElem?_getD, List.getElem?_eq_getElem hjm]
          rfl
        have hhas : m.has ar n = true := by
          unfold Mv.has
          rw [h.lenm]
          exact decide_eq_true (by omega)
        have hr : res m (-1) ar (.node k n s a b c) = res m ar 0 m.terms[j] := by
          rw [hres]
          simp only [Mv.at]
          rw [bnd_eq, hbn, if_neg (by decide), show m.mvd ar k n = true from hv, hhas, hterm]
          simp only [Bool.and_self, if_true]
          unfold res
          rw [if_neg (by omega)]
        rw [hr]
        have hcu := at_lift m ar har (by omega) hN hmem.1
        unfold CAt pv at hcu
        exact at_put hmv N0 har (by omega) (fun _ => by omega) (fun _ => by omega) hbn hv hm.f0 hm.f1 htn j (by omega) hta ps[j] hcell (fun W K =>
          (hcu W A X ta tn tc ps nd M O 0 ps[j] (h.kp0 K) (fun k hk => by
            rcases hcl k hk with ⟨h5, h6⟩ | ⟨h5, _⟩
            · exact absurd rfl h6
            · exact .inl ⟨h5, by omega⟩) (Int.le_refl _) (by have := hmem.2; omega) (htm.kp0 K)).mono (fun e w2 hp => hp.ret K))
theorem at_main (m : Mv) {N N2 : Int} (hN : N ≤ 1000000000000) (hN2 : N2 ≤ 1000000000000) (hm : MvOk N2 m) {t : Tm} (o : Ok N t) : CAt m (-1) t := by
  induction o with
  | nil => exact at_nil m _
  | var n h0 h1 => exact at_main_node m hN2 hm 2 n noS .nil .nil .nil (fun _ => h0) (fun _ => by omega) (at_nil m _) (at_nil m _) (at_nil m _)
  | leaf k n s hk => exact at_main_node m hN2 hm k n s .nil .nil .nil (fun h => by omega) (fun h => by omega) (at_nil m _) (at_nil m _) (at_nil m _)
  | inner k a b c hk hc _ _ _ i1 i2 i3 => exact at_main_node m hN2 hm k 0 noS a b c (fun h => by omega) (fun h => by omega) i1 i2 i3
end Go.Proofs.Ytphdfopdephanaa
