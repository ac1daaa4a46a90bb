/- Terms as plain trees; rows of their parts, what rows make of them: plain mathematics, no program. -/
import Derived.WalkKit
namespace Go.Proofs.Ytcfhhabjiofehaa

inductive Tm where
  | nil : Tm
  | node (k n : Int) (s : ByteArray) (a b c : Tm) : Tm
deriving DecidableEq

def noS : ByteArray := ⟨#[]⟩
def vr (n : Int) : Tm := .node 2 n noS .nil .nil .nil
def Tm.sz : Tm → Nat
  | .nil => 0
  | .node _ _ _ a b c => 1 + a.sz + b.sz + c.sz
/-- What is a term, or none: a node with parts has its first two. -/
inductive Okp : Tm → Prop where
  | nil : Okp .nil
  | leaf (k n : Int) (s : ByteArray) (hk : k = 1 ∨ k = 2 ∨ k = 3) : Okp (.node k n s .nil .nil .nil)
  | inner (k : Int) (a b c : Tm) (hk : k = 4 ∨ k = 5 ∨ k = 6 ∨ k = 7) (hc : k ≠ 7 → c = .nil) (ha : Okp a) (hb : Okp b) (hcc : Okp c) (na : a ≠ .nil) (nb : b ≠ .nil) : Okp (.node k 0 noS a b c)
/-- What is a term. -/
def Okn (t : Tm) : Prop := Okp t ∧ t ≠ .nil
def ap (f x : Tm) : Tm := .node 6 0 noS f x .nil
def pi (a b : Tm) : Tm := .node 4 0 noS a b .nil
def lam (a b : Tm) : Tm := .node 5 0 noS a b .nil
theorem Okn.two {k : Int} (hk : k = 4 ∨ k = 5 ∨ k = 6) {a b : Tm} (ha : Okn a) (hb : Okn b) : Okn (.node k 0 noS a b .nil) :=
  ⟨.inner k a b .nil (by omega) (fun _ => rfl) ha.1 hb.1 .nil ha.2 hb.2, fun h => by cases h⟩
/-- Of a node's A and B, which is the part of a row, which the rest. -/
def part (k : Int) (a b : Tm) : Tm := if k = 6 then b else a
def rest (k : Int) (a b : Tm) : Tm := if k = 6 then a else b
/-- A nest of nodes of kind k taken apart: its parts from the outermost on, so many at most; what is behind. -/
def row (k : Int) : Nat → Tm → List Tm × Tm
  | 0, t => ([], t)
  | _ + 1, .nil => ([], .nil)
  | m + 1, .node k2 n s a b c => if k2 = k then (part k a b :: (row k m (rest k a b)).1, (row k m (rest k a b)).2) else ([], .node k2 n s a b c)
theorem row_nil (k : Int) (m : Nat) : row k m .nil = ([], .nil) := by cases m <;> rfl
theorem row_other {k k2 : Int} (h : k2 ≠ k) (m : Nat) (n : Int) (s : ByteArray) (a b c : Tm) : row k m (.node k2 n s a b c) = ([], .node k2 n s a b c) := by
  cases m with
  | zero => rfl
  | succ m => exact if_neg h
theorem row_step (k : Int) (m : Nat) (n : Int) (s : ByteArray) (a b c : Tm) : row k (m + 1) (.node k n s a b c) = (part k a b :: (row k m (rest k a b)).1, (row k m (rest k a b)).2) := if_pos rfl
/-- A nest around a term: the first of the parts innermost. -/
def around (k : Int) (l : List Tm) (t : Tm) : Tm := l.foldl (fun u p => .node k 0 noS (part k p u) (rest k p u) .nil) t
theorem sz_part (k : Int) (a b : Tm) : (part k a b).sz + (rest k a b).sz = a.sz + b.sz := by
  unfold part rest
  split <;> omega
theorem part_rest (k : Int) (a b : Tm) : part k (part k a b) (rest k a b) = a ∧ rest k (part k a b) (rest k a b) = b ∨ k = 6 ∧ part k a b = b ∧ rest k a b = a := by
  unfold part rest
  by_cases h : k = 6 <;> simp [h]
/-- The sizes of a row's terms. -/
def szs (l : List Tm) : Nat := (l.map Tm.sz).sum
theorem row_sz (k : Int) : ∀ (m : Nat) (t : Tm), (row k m t).1.length + szs (row k m t).1 + (row k m t).2.sz ≤ t.sz
  | 0, t => by simp [row, szs]
  | m + 1, .nil => by simp [row, szs]
  | m + 1, .node k2 n s a b c => by
    by_cases h : k2 = k
    · subst h
      rw [row_step]
      have := row_sz k2 m (rest k2 a b)
      have hp := sz_part k2 a b
      simp only [szs, List.map_cons, List.sum_cons, List.length_cons, Tm.sz] at *
      omega
    · rw [row_other h]
      simp [szs]
theorem row_ok (k : Int) (hk : k = 4 ∨ k = 6) : ∀ (m : Nat) (t : Tm), Okn t → (∀ p ∈ (row k m t).1, Okn p) ∧ Okn (row k m t).2
  | 0, t, h => ⟨by simp [row], h⟩
  | m + 1, .nil, h => absurd rfl h.2
  | m + 1, .node k2 n s a b c, h => by
    by_cases e : k2 = k
    · subst e
      rw [row_step]
      obtain ⟨h1, _⟩ := h
      cases h1 with
      | leaf _ _ _ hl => omega
      | inner _ _ _ _ _ hc ha hb hcc na nb =>
        have hp : Okn (part k2 a b) ∧ Okn (rest k2 a b) := by
          unfold part rest
          split
          · exact ⟨⟨hb, nb⟩, ha, na⟩
          · exact ⟨⟨ha, na⟩, hb, nb⟩
        have ih := row_ok k2 hk m _ hp.2
        refine ⟨fun p hm => ?_, ih.2⟩
        rcases List.mem_cons.1 hm with rfl | hm
        · exact hp.1
        · exact ih.1 p hm
    · rw [row_other e]
      exact ⟨by simp, h⟩
/-- With as many as the nest has, what is behind is of another kind. -/
theorem row_end (k : Int) : ∀ (m : Nat) (t : Tm), t.sz ≤ m → ∀ n s a b c, (row k m t).2 ≠ .node k n s a b c
  | 0, .nil, _, _, _, _, _, _ => by simp [row]
  | 0, .node _ _ _ _ _ _, h, _, _, _, _, _ => by simp [Tm.sz] at h
  | m + 1, .nil, _, _, _, _, _, _ => by simp [row]
  | m + 1, .node k2 n s a b c, h, n', s', a', b', c' => by
    by_cases e : k2 = k
    · subst e
      rw [row_step]
      have hp := sz_part k2 a b
      simp only [Tm.sz] at h
      exact row_end k2 m _ (by omega) n' s' a' b' c'
    · rw [row_other e]
      intro h2
      injection h2 with h3
      exact e h3
/-- More than the nest has changes nothing. -/
theorem row_more (k : Int) : ∀ (m m2 : Nat) (t : Tm), t.sz ≤ m → t.sz ≤ m2 → row k m t = row k m2 t
  | m, m2, .nil, _, _ => by rw [row_nil, row_nil]
  | 0, _, .node _ _ _ _ _ _, h, _ => by simp [Tm.sz] at h
  | _, 0, .node _ _ _ _ _ _, _, h => by simp [Tm.sz] at h
  | m + 1, m2 + 1, .node k2 n s a b c, h, h2 => by
    by_cases e : k2 = k
    · subst e
      have hp := sz_part k2 a b
      simp only [Tm.sz] at h h2
      rw [row_step, row_step, row_more k2 m m2 _ (by omega) (by omega)]
    · rw [row_other e, row_other e]
/-- A row around what is behind is the term again. -/
theorem around_row (k : Int) (hk : k = 4 ∨ k = 6) : ∀ (m : Nat) (t : Tm), Okn t → around k (row k m t).1.reverse (row k m t).2 = t
  | 0, t, _ => rfl
  | m + 1, .nil, h => absurd rfl h.2
  | m + 1, .node k2 n s a b c, h => by
    by_cases e : k2 = k
    · subst e
      rw [row_step]
      obtain ⟨h1, _⟩ := h
      cases h1 with
      | leaf _ _ _ hl => omega
      | inner _ _ _ _ _ hc ha hb hcc na nb =>
        have hp : Okn (rest k2 a b) := by
          unfold rest
          split
          · exact ⟨ha, na⟩
          · exact ⟨hb, nb⟩
        have ih := around_row k2 hk m _ hp
        simp only [List.reverse_cons]
        unfold around at ih ⊢
        rw [List.foldl_append, ih]
        have hc0 : c = .nil := hc (by omega)
        subst hc0
        have : part k2 (part k2 a b) (rest k2 a b) = a ∧ rest k2 (part k2 a b) (rest k2 a b) = b := by
          unfold part rest
          by_cases h6 : k2 = 6 <;> simp [h6]
        simp [this.1, this.2]
    · rw [row_other e]
      rfl
/-- What is applied, and to what, from the first on. -/
def head (t : Tm) : Tm × List Tm := ((row 6 t.sz t).2, (row 6 t.sz t).1.reverse)
def apply (f : Tm) (l : List Tm) : Tm := around 6 l f
theorem apply_cons (f x : Tm) (l : List Tm) : apply f (x :: l) = apply (ap f x) l := rfl
theorem row_apply : ∀ (l : List Tm) (f : Tm) (m : Nat), (apply f l).sz ≤ m → row 6 m (apply f l) = (l.reverse ++ (row 6 f.sz f).1, (row 6 f.sz f).2)
  | [], f, m, h => by
    show row 6 m f = _
    rw [row_more 6 m f.sz f h (Nat.le_refl _)]
    simp
  | x :: l, f, m, h => by
    rw [apply_cons] at h ⊢
    rw [row_apply l (ap f x) m h]
    have e : row 6 (ap f x).sz (ap f x) = (x :: (row 6 f.sz f).1, (row 6 f.sz f).2) := by
      obtain ⟨q, hq⟩ : ∃ q, (ap f x).sz = q + 1 := ⟨f.sz + x.sz, by simp only [ap, Tm.sz]; omega⟩
      rw [hq]
      show row 6 (q + 1) (.node 6 0 noS f x .nil) = _
      rw [row_step]
      have : row 6 q (rest 6 f x) = row 6 f.sz f := row_more 6 _ _ _ (by simp only [ap, Tm.sz] at hq; show f.sz ≤ q; omega) (Nat.le_refl _)
      rw [this]
      rfl
    rw [e]
    simp
theorem head_apply (f : Tm) (l : List Tm) : head (apply f l) = ((head f).1, (head f).2 ++ l) := by
  unfold head
  rw [row_apply l f _ (Nat.le_refl _)]
  simp
theorem apply_head {t : Tm} (h : Okn t) : apply (head t).1 (head t).2 = t := around_row 6 (.inr rfl) _ t h
theorem sz_apply : ∀ (l : List Tm) (f : Tm), (apply f l).sz = f.sz + szs l + l.length
  | [], f => rfl
  | x :: l, f => by
    rw [apply_cons, sz_apply l]
    simp only [ap, Tm.sz, szs, List.map_cons, List.sum_cons, List.length_cons]
    omega
theorem apply_ok {f : Tm} (hf : Okn f) : ∀ {l : List Tm}, (∀ x ∈ l, Okn x) → Okn (apply f l) := fun {l} => by
  induction l generalizing f with
  | nil => exact fun _ => hf
  | cons x l ih => exact fun h => ih (Okn.two (by omega) hf (h x (by simp))) (fun y hy => h y (by simp [hy]))
/-- The telescope in front, so many at most. -/
def pis (m : Nat) (t : Tm) : List Tm × Tm := row 4 m t
def wrapK (k : Int) (l : List Tm) (t : Tm) : Tm := around k l.reverse t
theorem pi_pis {t : Tm} (h : Okn t) (m : Nat) : wrapK 4 (pis m t).1 (pis m t).2 = t := around_row 4 (.inl rfl) m t h
end Go.Proofs.Ytcfhhabjiofehaa
