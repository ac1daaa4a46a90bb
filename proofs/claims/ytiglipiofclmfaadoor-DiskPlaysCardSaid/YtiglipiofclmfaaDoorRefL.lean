/- A law for 'append([]T(nil), xs...)' at a step of a region that draws its order: a fresh copy, or nil. -/
import Derived.Test.YtiglipiofclmfaaDoorRefA
namespace Go.Proofs.YtiglipiofclmfaaDoor
open Go.RowKit

theorem run_append_none {P : Program} (w : World) (t ty e : TypeId) (a : Option Addr) (c : Nat) (ht : P.underlying t = some (.slice e)) (hi : ((P.info? e).map (·.size)).isSome = true) :
    (Builtin.append_ #[t, t] ty #[.slice none 0 0, .slice a 0 c]).run P w = .ok (.slice none 0 0) w := by
  cases hq : P.info? e with
  | none => simp [hq] at hi
  | some i =>
    cases a <;> simp [Builtin.append_, run_underlying ht, Builtin.lenOf, Builtin.firstCells, sizeOf, typeInfo, hq, loadCells, loadCellsFrom]
theorem step_append_copy {P : Program} {ops : Array Oper} {o : Oper} {a : Act} {w : World} {K : Act → World → Prop} {Q : Exit → Act → World → Prop} {E : Prop} (hgd : o.guard = none) (s x : Operand) (t : TypeId)
    (ho : o.op = .call { callee := .builtin .append, args := #[s, x], argTypes := #[t, t] })
    (base : Nat) (e : TypeId) (i : TypeInfo) (z : Value) (bytes : Nat) (ht : P.underlying t = some (.slice e)) (hi : P.info? e = some i) (hz : i.zero = some z)
    (hsize : i.size = 1) (hby : i.bytes = bytes) (hzs : z.cells.size = 1)
    (hs : a.eval s = .slice none 0 0) (v : Value) (n : Nat) (xs : List Value) (hx : a.eval x = v) (hown : w.ownsRow base e 1 v n xs) (h1 : ∀ u ∈ xs, u.oneCell' = true)
    (h63 : n ≤ maxLen) (hbytes : n * bytes ≤ 140737488355328) (hbase : base ≤ w.heap.size)
    (h : ∀ v2 w2, w2.ownsRow base e 1 v2 n xs → Kp [] w w2 → (∀ g, v2.ownBlock = some g → w.heap.size ≤ g) → K (a.put o.dst v2) w2) :
    if Region.wanted o (yielded ops a.tmps) = true then Oper.wp P o a w K Q else E := by
  have hw : Region.wanted o (yielded ops a.tmps) = true := by simp [Region.wanted, hgd]
  have hlen : xs.length = n := by have := hown.1; omega
  rcases Nat.eq_zero_or_pos n with h0 | hp
  · subst h0
    have hxs : xs = [] := List.eq_nil_of_length_eq_zero hlen
    subst hxs
    obtain ⟨ad, c, rfl⟩ := owns_form hown
    rw [if_pos hw]
    have hr := run_append_none (P := P) w t o.type e ad c ht (by rw [hi]; rfl)
    unfold Oper.wp execOp
    simp only [ho, resolve, invoke, builtin, Sem.run_bind, Sem.run_pure, Result.andThen_ok, List.map_toArray, List.map_cons, List.map_nil, hs, hx, hr]
    exact h (.slice none 0 0) w ⟨rfl, .inl ⟨rfl, rfl⟩⟩ (Kp.refl [] w) (fun g hg => by cases hg)
  · obtain ⟨ad, c, rfl⟩ := owns_form hown
    obtain ⟨g, hg, _, _⟩ := owns_cell hown 0 hp
    subst hg
    refine step_append_lies w hgd s x t ho base e i z 1 bytes ht hi hz hsize hby hzs (by decide) (.slice none 0 0) 0 [] hs ⟨rfl, .inl ⟨rfl, rfl⟩⟩ ⟨g, 0, none⟩ n c xs hx (by omega) (fun j u hu => ?_) h1 hp (by omega) (by simpa using hbytes) hbase w.heap.size rfl ?_
    · have hj : j < n := by
        have := (List.getElem?_eq_some_iff.1 hu).1
        omega
      obtain ⟨g2, e2, hc, _⟩ := owns_cell hown j hj
      injection e2 with e2
      injection e2 with e2
      subst e2
      rw [Addr.add_mid, Nat.zero_add, hc]
      exact hu
    · intro g2 cap w2 hown2 hgrow hat _
      refine Eq.mp (congrArg (fun q => K (a.put o.dst (.slice (some ⟨g2, 0, none⟩) q cap)) w2) (Nat.zero_add n).symm) (h _ w2 (by simpa using hown2) ((Kp.refl [] w).grown hgrow (fun k hk => by cases hk)) (fun g3 hg3 => ?_))
      obtain rfl : g2 = g3 := by simpa [Value.ownBlock] using hg3
      rcases hat with hat | hat
      · cases hat
      · omega
end Go.Proofs.YtiglipiofclmfaaDoor
