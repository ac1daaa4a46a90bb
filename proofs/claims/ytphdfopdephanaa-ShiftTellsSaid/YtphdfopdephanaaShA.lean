/- Terms as plain trees, what moves make of them: plain mathematics, no program. -/
import Derived.WalkKit
namespace Go.Proofs.Ytphdfopdephanaa

inductive Tm where
  | nil : Tm
  | node (k n : Int) (s : ByteArray) (a b c : Tm) : Tm
deriving DecidableEq

def noS : ByteArray := ⟨#[]⟩
def vr (n : Int) : Tm := .node 2 n noS .nil .nil .nil
/-- How many binders of a node of kind k are around its B, its C. -/
def hB (k : Int) : Int := if k = 4 ∨ k = 5 then 1 else 0
def hC (k : Int) : Int := if k = 4 ∨ k = 5 ∨ k = 7 then 1 else 0
theorem hB_01 (k : Int) : 0 ≤ hB k ∧ hB k ≤ 1 := by unfold hB; split <;> omega
theorem hC_01 (k : Int) : 0 ≤ hC k ∧ hC k ≤ 1 := by unfold hC; split <;> omega
def Tm.sz : Tm → Nat
  | .nil => 0
  | .node _ _ _ a b c => 1 + a.sz + b.sz + c.sz
/-- How deep it is, in nodes that have parts. -/
def Tm.ht : Tm → Nat
  | .nil => 0
  | .node _ _ _ a b c => 1 + max a.ht (max b.ht c.ht)
theorem Tm.ht_le : ∀ t : Tm, t.ht ≤ t.sz
  | .nil => Nat.le_refl _
  | .node _ _ _ a b c => by
    have h1 := a.ht_le
    have h2 := b.ht_le
    have h3 := c.ht_le
    simp only [Tm.ht, Tm.sz]
    omega
/-- What is a term, with variables of at most N. -/
inductive Ok (N : Int) : Tm → Prop where
  | nil : Ok N .nil
  | var (n : Int) (h0 : 0 ≤ n) (h1 : n ≤ N) : Ok N (.node 2 n noS .nil .nil .nil)
  | leaf (k n : Int) (s : ByteArray) (hk : k = 1 ∨ k = 3) : Ok N (.node k n s .nil .nil .nil)
  | inner (k : Int) (a b c : Tm) (hk : k = 4 ∨ k = 5 ∨ k = 6 ∨ k = 7) (hc : k ≠ 7 → c = .nil) (ha : Ok N a) (hb : Ok N b) (hcc : Ok N c) : Ok N (.node k 0 noS a b c)
theorem Ok.mono {N M : Int} (h : N ≤ M) {t : Tm} (o : Ok N t) : Ok M t := by
  induction o with
  | nil => exact .nil
  | var n h0 h1 => exact .var n h0 (by omega)
  | leaf k n s hk => exact .leaf k n s hk
  | inner k a b c hk hc _ _ _ i1 i2 i3 => exact .inner k a b c hk hc i1 i2 i3

/-- Lifted by so many from d on. -/
def lift (by' : Int) : Int → Tm → Tm
  | _, .nil => .nil
  | d, .node k n s a b c => .node k (if k = 2 ∧ d ≤ n then n + by' else n) s (lift by' d a) (lift by' (d + hB k) b) (lift by' (d + hC k) c)
structure Mv where
  frm : Int
  by' : Int
  terms : List Tm
  binds : Bool
  name : ByteArray
/-- Whether a variable has a term that is put in. -/
def Mv.has (m : Mv) (d n : Int) : Bool := decide ((n - d - m.frm).toNat < m.terms.length)
def Mv.term (m : Mv) (d n : Int) : Tm := m.terms.getD (m.terms.length - 1 - (n - d - m.frm).toNat) .nil
def Mv.bnd (m : Mv) (k n : Int) (s : ByteArray) : Bool := m.binds && decide (k = 3) && decide (s = m.name) && decide (n = 0)
def Mv.mvd (m : Mv) (d k n : Int) : Bool := decide (k = 2) && decide (m.frm ≤ n - d)
/-- What a move makes under d binders. -/
def Mv.at (m : Mv) : Int → Tm → Tm
  | _, .nil => .nil
  | d, .node k n s a b c =>
    if m.bnd k n s then vr d
    else if m.mvd d k n && m.has d n then lift d 0 (m.term d n)
    else .node k (if m.mvd d k n then n + m.by' else n) s (m.at d a) (m.at (d + hB k) b) (m.at (d + hC k) c)
def liftM (by' frm : Int) : Mv := ⟨frm, by', [], false, noS⟩
def putM (u : Tm) (at' : Int) : Mv := ⟨at', -1, [u], false, noS⟩
def bindM (name : ByteArray) : Mv := ⟨0, 1, [], true, name⟩
def allM (l : List Tm) : Mv := ⟨0, -(l.length : Int), l, false, noS⟩
def free : Tm → Int
  | .nil => 0
  | .node k n _ a b c => if k = 2 then n + 1 else max (max 0 (free a)) (max (free b - hB k) (free c - hC k))

theorem ht_lift (b : Int) : ∀ (t : Tm) (d : Int), (lift b d t).ht = t.ht
  | .nil, _ => rfl
  | .node k n s x y z, d => by simp only [lift, Tm.ht, ht_lift b x, ht_lift b y, ht_lift b z]
theorem sz_lift (b : Int) : ∀ (t : Tm) (d : Int), (lift b d t).sz = t.sz
  | .nil, _ => rfl
  | .node k n s x y z, d => by simp only [lift, Tm.sz, sz_lift b x, sz_lift b y, sz_lift b z]
theorem lift_zero : ∀ (t : Tm) (d : Int), lift 0 d t = t
  | .nil, _ => rfl
  | .node k n s x y z, d => by simp only [lift, lift_zero x, lift_zero y, lift_zero z, Int.add_zero, ite_self]
theorem liftM_at (b fr : Int) : ∀ (t : Tm) (d : Int), (liftM b fr).at d t = lift b (fr + d) t
  | .nil, _ => rfl
  | .node k n s x y z, d => by
    simp only [Mv.at, lift, liftM_at b fr x, liftM_at b fr y, liftM_at b fr z]
    have h1 : (liftM b fr).bnd k n s = false := rfl
    have h2 : (liftM b fr).has d n = false := by simp [Mv.has, liftM]
    have h3 : (liftM b fr).mvd d k n = (decide (k = 2) && decide (fr ≤ n - d)) := rfl
    have h4 : (liftM b fr).by' = b := rfl
    rw [h1, h2, h3, h4, Bool.and_false, if_neg (by decide), if_neg (by decide), ← Int.add_assoc, ← Int.add_assoc]
    congr 1
    by_cases hk : k = 2 <;> by_cases hd : fr ≤ n - d
    · rw [if_pos (by simp [hk, hd]), if_pos ⟨hk, by omega⟩]
    · rw [if_neg (by simp [hd]), if_neg (fun h => by omega)]
    · rw [if_neg (by simp [hk]), if_neg (fun h => hk h.1)]
    · rw [if_neg (by simp [hk]), if_neg (fun h => hk h.1)]
/-- Terms that are put in are no deeper than H. -/
theorem ht_at (m : Mv) (H : Nat) (hm : ∀ x ∈ m.terms, x.ht ≤ H) : ∀ (t : Tm) (d : Int), (m.at d t).ht ≤ t.ht + H
  | .nil, _ => Nat.zero_le _
  | .node k n s x y z, d => by
    have h1 := ht_at m H hm x d
    have h2 := ht_at m H hm y (d + hB k)
    have h3 := ht_at m H hm z (d + hC k)
    simp only [Mv.at]
    split
    · simp only [vr, Tm.ht]; omega
    · split
      · rename_i h
        rw [ht_lift]
        have hh : m.has d n = true := by simp only [Bool.and_eq_true] at h; exact h.2
        have hl : (n - d - m.frm).toNat < m.terms.length := of_decide_eq_true hh
        have := hm (m.term d n) (by unfold Mv.term; rw [List.getD_eq_getElem?_getD, List.getElem?_eq_getElem (by omega)]; exact List.getElem_mem _)
        omega
      · simp only [Tm.ht]; omega
theorem Ok.lift {N : Int} {t : Tm} (o : Ok N t) (b : Int) (hb : 0 ≤ b) : ∀ d, Ok (N + b) (lift b d t) := by
  induction o with
  | nil => intro d; exact .nil
  | var n h0 h1 =>
    intro d
    simp only [Ytphdfopdephanaa.lift]
    split
    · exact .var _ (by omega) (by omega)
    · exact .var _ h0 (by omega)
  | leaf k n s hk =>
    intro d
    simp only [Ytphdfopdephanaa.lift]
    rw [if_neg (by omega)]
    exact .leaf k n s hk
  | inner k x y z hk hc _ _ _ i1 i2 i3 =>
    intro d
    simp only [Ytphdfopdephanaa.lift]
    rw [if_neg (by omega)]
    exact .inner k _ _ _ hk (fun h => by rw [hc h]; rfl) (i1 d) (i2 _) (i3 _)
end Go.Proofs.Ytphdfopdephanaa
