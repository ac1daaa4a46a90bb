/- Rows of terms in memory; contracts of sides, isMarked, row of package spine. -/
import Derived.Test.YtcfhhabjiofehaaSpH
import Derived.Test.YtcfhhabjiofehaaSpT
import Derived.Test.YtcfhhabjiofehaaRowsAt
import Derived.Laws.AppendOwn
import Derived.Laws.OwnMore
import Derived.OwnWalk
namespace Go.Proofs.Ytcfhhabjiofehaa
open Go.RowKit Go.ChangeMaps

theorem at_any : ∀ t : Tm, CAt t
  | .nil => at_nil
  | .node _ _ _ a b c => at_node (at_any a) (at_any b) (at_any c)
theorem ptrInfo : (Try.prog.info? 24).map (fun i => (i.zero, i.size, i.bytes)) = some (some (.pointer none), 1, 8) := by kernel_rfl
def lenV : Value → Nat
  | .slice _ n _ => n
  | _ => 0
/-- A block that holds no node. -/
def NoNode (w : World) (g : Nat) : Prop := ∀ (k n : Int) (s : ByteArray) (pa pb pc : Option Addr), ¬ NdAt w g k n s pa pb pc
theorem noNode_of {w : World} {g : Nat} {cs : Array Value} {T : TypeId} {fr : Nat × Nat} (h : w.heap[g]? = some (.cells cs T fr)) (hT : T ≠ 40) : NoNode w g := fun k n s pa pb pc hn => by
  unfold NdAt at hn
  rw [h] at hn
  injection hn with hn
  injection hn with _ hn _
  exact hT hn
theorem TmP.row {F : List Nat} {w w2 : World} {P : Nat → Prop} (K : Kp F w w2) (hF : ∀ g ∈ F, NoNode w g ∨ ¬ P g) : ∀ {t : Tm} {q : Option Addr}, TmP w P t q → TmP w2 P t q
  | .nil, _, h => h
  | .node _ _ _ _ _ _, _, ⟨g, pa, pb, pc, h1, h2, h3, h4, h5, h6⟩ =>
    ⟨g, pa, pb, pc, h1, h2, h3.kp K (fun hm => by
      rcases hF g hm with h | h
      · exact h _ _ _ _ _ _ h3
      · exact h h2), h4.row K hF, h5.row K hF, h6.row K hF⟩
theorem TmAt.row {F : List Nat} {w w2 : World} (K : Kp F w w2) (hF : ∀ g ∈ F, NoNode w g) {t : Tm} {q : Option Addr} (h : TmAt w t q) : TmAt w2 t q :=
  TmP.row K (fun g hg => .inl (hF g hg)) h
/-- A row of terms, in a slice of its own. -/
structure Row (w : World) (B : Nat) (v : Value) (ps : List (Option Addr)) (ts : List Tm) : Prop where
  own : w.ownsRow B 24 1 v ps.length (ps.map Value.pointer)
  len : ts.length = ps.length
  trm : ∀ (i : Nat) (q : Option Addr) (t : Tm), ps[i]? = some q → ts[i]? = some t → TmAt w t q
theorem Row.nil (w : World) (B : Nat) : Row w B (.slice none 0 0) [] [] := ⟨World.ownsRow_nil w B _ _, rfl, fun i q t h => by simp at h⟩
theorem Row.form {w : World} {B : Nat} {v : Value} {ps : List (Option Addr)} {ts : List Tm} (h : Row w B v ps ts) : (v = .slice none 0 0 ∧ ps = []) ∨ ∃ g c cs, v = .slice (some ⟨g, 0, none⟩) ps.length c ∧ B ≤ g ∧ w.heap[g]? = some (.cells cs 24 (0, 0)) := by
  rcases h.own.2 with ⟨h1, h2⟩ | ⟨g, cap, cur, h1, h2, h3, _⟩
  · exact .inl ⟨h1, List.eq_nil_of_length_eq_zero h2⟩
  · exact .inr ⟨g, cap, cur, h1, h2, h3⟩
theorem Row.slice {w : World} {B : Nat} {v : Value} {ps : List (Option Addr)} {ts : List Tm} (h : Row w B v ps ts) : ∃ a c, v = .slice a ps.length c := by
  rcases h.form with ⟨h1, h2⟩ | ⟨g, c, cs, h1, _⟩
  · exact ⟨none, 0, by rw [h1, h2]; rfl⟩
  · exact ⟨_, c, h1⟩
theorem Row.own_ge {w : World} {B : Nat} {v : Value} {ps : List (Option Addr)} {ts : List Tm} (h : Row w B v ps ts) : ∀ g ∈ v.ownBlock.toList, B ≤ g ∧ NoNode w g := fun g hg => by
  rcases h.form with ⟨h1, h2⟩ | ⟨g2, c, cs, h1, h2, h3⟩
  · rw [h1] at hg; simp [Value.ownBlock] at hg
  · rw [h1] at hg
    obtain rfl : g = g2 := by simpa [Value.ownBlock] using hg
    exact ⟨h2, noNode_of h3 (by decide)⟩
theorem Row.kp {F : List Nat} {w w2 : World} {B : Nat} {v : Value} {ps : List (Option Addr)} {ts : List Tm} (h : Row w B v ps ts) (K : Kp F w w2) (hF : ∀ g ∈ F, NoNode w g ∧ v.ownBlock ≠ some g) : Row w2 B v ps ts :=
  ⟨K.owns h.own (fun g hg hm => (hF g hm).2 hg), h.len, fun i q t h1 h2 => (h.trm i q t h1 h2).row K (fun g hg => (hF g hg).1)⟩
theorem Row.kp0 {w w2 : World} {B : Nat} {v : Value} {ps : List (Option Addr)} {ts : List Tm} (h : Row w B v ps ts) (K : Kp [] w w2) : Row w2 B v ps ts := h.kp K (fun _ h => by cases h)
theorem Row.mono {w : World} {B B2 : Nat} {v : Value} {ps : List (Option Addr)} {ts : List Tm} (h : Row w B v ps ts) (hB : B2 ≤ B) : Row w B2 v ps ts :=
  ⟨⟨h.own.1, by
    rcases h.own.2 with h1 | ⟨g, cap, cur, h1, h2, h3⟩
    · exact .inl h1
    · exact .inr ⟨g, cap, cur, h1, Nat.le_trans hB h2, h3⟩⟩, h.len, h.trm⟩
/-- The cell of a term of the row. -/
theorem Row.cell {w : World} {B : Nat} {v : Value} {ps : List (Option Addr)} {ts : List Tm} (h : Row w B v ps ts) (i : Nat) (hi : i < ps.length) : ∃ g c q t, v = .slice (some ⟨g, 0, none⟩) ps.length c ∧ w.cell? ⟨g, i, none⟩ = some (.pointer q) ∧ w.frozen? ⟨g, i, none⟩ = false ∧ ps[i]? = some q ∧ ts[i]? = some t ∧ TmAt w t q := by
  have hit : i < ts.length := by rw [h.len]; exact hi
  have e1 : ps[i]? = some ps[i] := List.getElem?_eq_getElem hi
  have e2 : ts[i]? = some ts[i] := List.getElem?_eq_getElem hit
  rcases h.form with ⟨h1, h2⟩ | ⟨g, c, cs, h1, h2, h3⟩
  · rw [h2] at hi; simp at hi
  · have ho := h.own
    subst h1
    refine ⟨g, c, ps[i], ts[i], rfl, ?_, frozen_of h3 i, e1, e2, h.trm i _ _ e1 e2⟩
    rw [ho.cellAt i (by omega), List.getElem?_map, e1]
    rfl
/-- What an append at its end leaves. -/
theorem Row.push {w w3 : World} {B : Nat} {v v' : Value} {ps : List (Option Addr)} {ts : List Tm} {q : Option Addr} {t : Tm} {tmp : Obj} (h : Row w B v ps ts) (hq : TmAt w t q)
    (hown : w3.ownsRow B 24 1 v' (ps.length + 1) (ps.map Value.pointer ++ [.pointer q])) (hg : (w.alloc tmp).grownBy w3 v.ownBlock) : Row w3 B v' (ps ++ [q]) (ts ++ [t]) ∧ Kp v.ownBlock.toList w w3 := by
  have K : Kp v.ownBlock.toList w w3 := ((Kp.refl _ w).alloc _).grown hg (fun g hg => .inl (by rw [hg]; simp))
  refine ⟨⟨?_, by simp [h.len], fun i q2 t2 h1 h2 => ?_⟩, K⟩
  · simpa using hown
  · have hF := fun g hg => (h.own_ge g hg).2
    rcases Nat.lt_trichotomy i ps.length with hi | hi | hi
    · rw [List.getElem?_append_left hi] at h1
      rw [List.getElem?_append_left (by rw [h.len]; exact hi)] at h2
      exact (h.trm i q2 t2 h1 h2).row K hF
    · rw [hi, List.getElem?_append_right (Nat.le_refl _), Nat.sub_self] at h1
      rw [hi, ← h.len, List.getElem?_append_right (Nat.le_refl _), Nat.sub_self] at h2
      simp at h1 h2
      subst h1
      subst h2
      exact hq.row K hF
    · rw [List.getElem?_eq_none (by simp; omega)] at h1
      cases h1
theorem sides_any (k : Int) (a b : Option Addr) (w : World) : Calls Try.prog 39 #[.int .i64 k, .pointer a, .pointer b] w fun e w2 => e = .returned (.tuple #[.pointer (if k = 6 then b else a), .pointer (if k = 6 then a else b)]) ∧ w2 = w := by
  by_cases h : k = 6
  · subst h
    go_enter Try.func39, Try.ntmps39
    go_wp2_with fail
    exact bodyPost_ret (v := .tuple #[_, _]) (by simp [results, Try.results39, go_sem]) rfl ⟨rfl, rfl⟩
  · have h6 : (k == 6) = false := by simpa using h
    rw [if_neg h, if_neg h]
    clear h
    go_enter Try.func39, Try.ntmps39
    go_wp2_with fail
    exact bodyPost_ret (v := .tuple #[_, _]) (by simp [results, Try.results39, go_sem]) rfl ⟨rfl, rfl⟩
theorem marked_no (n : Nat) (hn : n ≤ 131071) (w : World) : Calls Try.prog 38 #[.int .i64 (n : Int)] w fun e w2 => e = .returned (.bool false) ∧ w2 = w := by
  have h1 : decide ((131072 : Int) ≤ (n : Int)) = false := by simp; omega
  have h2 : decide (131072 ≤ n) = false := by simp; omega
  clear hn
  go_enter Try.func38, Try.ntmps38
  go_wp2_with fail
  go_ret
  exact ⟨rfl, rfl⟩
/-- What row answers. -/
def RowPost (w : World) (k : Int) (m : Nat) (t : Tm) (e : Ending) (w2 : World) : Prop :=
  ∃ v q ps, e = .returned (.tuple #[v, .pointer q]) ∧ Kp [] w w2 ∧ Row w2 w.heap.size v ps (row k m t).1 ∧ TmAt w2 (row k m t).2 q
end Go.Proofs.Ytcfhhabjiofehaa
