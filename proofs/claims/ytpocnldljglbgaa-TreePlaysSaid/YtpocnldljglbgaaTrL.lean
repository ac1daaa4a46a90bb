/- Rows of entries, plainly: what is put, taken away, looked for; how many there are. -/
import Derived.Test.YtpocnldljglbgaaTrJ
namespace Go.Proofs.Ytpocnldljglbgaa
open Go.RowKit Tr

theorem lk_some {k : ByteArray} {L : List En} (h : lk k L ≠ none) : ∃ n, (k, n) ∈ L ∧ lk k L = some n := by
  unfold lk at *
  cases hf : L.find? fun x => x.1 = k with
  | none => rw [hf] at h; exact absurd rfl h
  | some x =>
    have h1 := List.mem_of_find?_eq_some hf
    have h2 : x.1 = k := by simpa using List.find?_some hf
    subst h2
    exact ⟨x.2, h1, rfl⟩
theorem lk_mem {k : ByteArray} {L : List En} {n : Int} (h : (k, n) ∈ L) : lk k L ≠ none := by
  unfold lk
  intro hn
  rw [Option.map_eq_none_iff, List.find?_eq_none] at hn
  have := hn _ h
  simp at this
theorem lk_rem (k : ByteArray) (L : List En) : lk k (rem k L) = none := by
  unfold lk rem
  rw [Option.map_eq_none_iff, List.find?_eq_none]
  intro x hx
  simpa using (List.mem_filter.1 hx).2
theorem lk_put (k : ByteArray) (n : Int) (L : List En) : lk k (put k n L) = some n := by
  have h0 : (L.filter (fun x => klt x.1 k)).find? (fun x => x.1 = k) = none := List.find?_eq_none.2 fun x hx => by
    have h : klt x.1 k := by simpa using (List.mem_filter.1 hx).2
    simpa using klt_ne h
  unfold lk put
  rw [List.find?_append, h0]
  simp
theorem lk_put_keep {k k2 : ByteArray} {n : Int} {L : List En} (h : lk k2 L ≠ none) : lk k2 (put k n L) ≠ none := by
  by_cases e : k2 = k
  · subst e; rw [lk_put]; simp
  · obtain ⟨m, hm, _⟩ := lk_some h
    refine lk_mem (n := m) ?_
    unfold put
    rcases klt_tri k2 k with h1 | h1 | h1
    · exact List.mem_append_left _ (List.mem_filter.2 ⟨hm, by simpa using h1⟩)
    · exact absurd h1 e
    · exact List.mem_append_right _ (List.mem_cons_of_mem _ (List.mem_filter.2 ⟨hm, by simpa using h1⟩))
theorem rem_rem (k : ByteArray) (L : List En) : rem k (rem k L) = rem k L :=
  List.filter_eq_self.2 fun _ hx => (List.mem_filter.1 hx).2
theorem cnt_le (k : ByteArray) : ∀ L : List En, (L.filter (fun x => klt x.1 k)).length + (L.filter (fun x => klt k x.1)).length ≤ L.length
  | [] => Nat.le_refl _
  | x :: L => by
    have := cnt_le k L
    by_cases h1 : klt x.1 k
    · have h2 := klt_asymm h1
      simp only [List.filter_cons, h1, h2, decide_true, decide_false, if_true, Bool.false_eq_true, if_false, List.length_cons]; omega
    · by_cases h2 : klt k x.1
      · simp only [List.filter_cons, h1, h2, decide_true, decide_false, if_true, Bool.false_eq_true, if_false, List.length_cons]; omega
      · simp only [List.filter_cons, h1, h2, decide_false, Bool.false_eq_true, if_false, List.length_cons]; omega
theorem cnt_eq (k : ByteArray) : ∀ L : List En, (∀ x ∈ L, x.1 ≠ k) → (L.filter (fun x => klt x.1 k)).length + (L.filter (fun x => klt k x.1)).length = L.length
  | [], _ => rfl
  | x :: L, h => by
    have := cnt_eq k L (fun y hy => h y (List.mem_cons_of_mem _ hy))
    by_cases h1 : klt x.1 k
    · have h2 := klt_asymm h1
      simp only [List.filter_cons, h1, h2, decide_true, decide_false, if_true, Bool.false_eq_true, if_false, List.length_cons]; omega
    · by_cases h2 : klt k x.1
      · simp only [List.filter_cons, h1, h2, decide_true, decide_false, if_true, Bool.false_eq_true, if_false, List.length_cons]; omega
      · rcases klt_tri x.1 k with h3 | h3 | h3
        · exact absurd h3 h1
        · exact absurd h3 (h x (List.mem_cons_self ..))
        · exact absurd h3 h2
theorem len_put_le (k : ByteArray) (n : Int) (L : List En) : (put k n L).length ≤ L.length + 1 := by
  have h1 := cnt_le k L
  have h2 : (put k n L).length = (L.filter (fun x => klt x.1 k)).length + ((L.filter (fun x => klt k x.1)).length + 1) := by simp [put]
  omega
theorem len_put_new {k : ByteArray} {L : List En} (n : Int) (h : ∀ x ∈ L, x.1 ≠ k) : (put k n L).length = L.length + 1 := by
  have h1 := cnt_eq k L h
  have h2 : (put k n L).length = (L.filter (fun x => klt x.1 k)).length + ((L.filter (fun x => klt k x.1)).length + 1) := by simp [put]
  omega
theorem rem_ne {k : ByteArray} {L : List En} : ∀ x ∈ rem k L, x.1 ≠ k := fun _ hx => by simpa using (List.mem_filter.1 hx).2
theorem len_rem {k : ByteArray} {n : Int} {L : List En} (hr : Rise L) (h : (k, n) ∈ L) : (rem k L).length + 1 = L.length := by
  obtain ⟨A, B, rfl⟩ := List.append_of_mem h
  rw [rem_same (e := (k, n)) hr]
  simp
  omega
theorem len_rem_le (k : ByteArray) (L : List En) : (rem k L).length ≤ L.length := List.length_filter_le _ _
end Go.Proofs.Ytpocnldljglbgaa
