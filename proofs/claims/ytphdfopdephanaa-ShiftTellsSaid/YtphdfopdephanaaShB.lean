/- The algebra of moves: what layer 7's laws ask, of plain trees: no program. -/
import Derived.Test.YtphdfopdephanaaShA
namespace Go.Proofs.Ytphdfopdephanaa

theorem lift_var (b d n : Int) : lift b d (vr n) = if d ≤ n then vr (n + b) else vr n := by
  simp only [vr, lift, true_and]; split <;> rfl
theorem lift_leaf (b d k n : Int) (s : ByteArray) (hk : k = 1 ∨ k = 3) : lift b d (.node k n s .nil .nil .nil) = .node k n s .nil .nil .nil := by
  simp only [lift]; rw [if_neg (by omega)]
theorem lift_inner (b d k : Int) (x y z : Tm) (hk : k = 4 ∨ k = 5 ∨ k = 6 ∨ k = 7) : lift b d (.node k 0 noS x y z) = .node k 0 noS (lift b d x) (lift b (d + hB k) y) (lift b (d + hC k) z) := by
  simp only [lift]; rw [if_neg (by omega)]
theorem bnd_ne (m : Mv) (k n : Int) (s : ByteArray) (h : k ≠ 3) : m.bnd k n s = false := by simp [Mv.bnd, h]
theorem mvd_ne (m : Mv) (d k n : Int) (h : k ≠ 2) : m.mvd d k n = false := by simp [Mv.mvd, h]
theorem at_var (m : Mv) (d n : Int) : m.at d (vr n) = if m.frm ≤ n - d then (if m.has d n then lift d 0 (m.term d n) else vr (n + m.by')) else vr n := by
  simp only [vr, Mv.at]
  rw [bnd_ne m 2 n noS (by decide), if_neg (by decide)]
  have h : m.mvd d 2 n = decide (m.frm ≤ n - d) := by simp [Mv.mvd]
  rw [h]
  by_cases hd : m.frm ≤ n - d <;> cases hh : m.has d n <;> simp [hd]
theorem at_leaf (m : Mv) (d k n : Int) (s : ByteArray) (hk : k = 1 ∨ k = 3) : m.at d (.node k n s .nil .nil .nil) = if m.bnd k n s then vr d else .node k n s .nil .nil .nil := by
  simp only [Mv.at]
  rw [mvd_ne m d k n (by omega)]
  rfl
theorem at_inner (m : Mv) (d k : Int) (x y z : Tm) (hk : k = 4 ∨ k = 5 ∨ k = 6 ∨ k = 7) : m.at d (.node k 0 noS x y z) = .node k 0 noS (m.at d x) (m.at (d + hB k) y) (m.at (d + hC k) z) := by
  simp only [Mv.at]
  rw [bnd_ne m k 0 noS (by omega), mvd_ne m d k 0 (by omega)]
  rfl
theorem put_var (u : Tm) (e d n : Int) : (putM u e).at d (vr n) = if n < e + d then vr n else if n = e + d then lift d 0 u else vr (n - 1) := by
  rw [at_var]
  have h1 : (putM u e).has d n = decide ((n - d - e).toNat < 1) := rfl
  have h2 : (putM u e).frm = e := rfl
  have h3 : (putM u e).by' = -1 := rfl
  rw [h1, h2, h3]
  by_cases ha : n < e + d
  · rw [if_neg (by omega), if_pos ha]
  · rw [if_pos (by omega), if_neg ha]
    by_cases hb : n = e + d
    · rw [if_pos hb, if_pos (by simp; omega)]
      have : (putM u e).term d n = u := by
        simp only [Mv.term, putM]
        rw [show (n - d - e).toNat = 0 by omega]
        rfl
      rw [this]
    · rw [if_neg hb, if_neg (by simp; omega)]
      rfl
theorem put_leaf (u : Tm) (e d k n : Int) (s : ByteArray) (hk : k = 1 ∨ k = 3) : (putM u e).at d (.node k n s .nil .nil .nil) = .node k n s .nil .nil .nil := at_leaf _ _ _ _ _ hk
theorem all_var (l : List Tm) (d n : Int) : (allM l).at d (vr n) = if n < d then vr n else if n - d < l.length then lift d 0 (l.getD (l.length - 1 - (n - d).toNat) .nil) else vr (n - l.length) := by
  rw [at_var]
  have h1 : (allM l).has d n = decide ((n - d - 0).toNat < l.length) := rfl
  have h2 : (allM l).frm = 0 := rfl
  have h3 : (allM l).by' = -(l.length : Int) := rfl
  rw [h1, h2, h3]
  by_cases ha : n < d
  · rw [if_neg (by omega), if_pos ha]
  · rw [if_pos (by omega), if_neg ha]
    by_cases hb : n - d < l.length
    · rw [if_pos hb, if_pos (by simp; omega)]
      simp only [Mv.term, allM, Int.sub_zero]
    · rw [if_neg hb, if_neg (by simp; omega)]
      rfl
theorem bind_var (name : ByteArray) (d n : Int) : (bindM name).at d (vr n) = if n < d then vr n else vr (n + 1) := by
  rw [at_var]
  have h1 : (bindM name).has d n = false := by simp [Mv.has, bindM]
  have h2 : (bindM name).frm = 0 := rfl
  have h3 : (bindM name).by' = 1 := rfl
  rw [h1, h2, h3]
  by_cases ha : n < d
  · rw [if_neg (by omega), if_pos ha]
  · rw [if_pos (by omega), if_neg ha]; rfl

section
variable {N : Int}
/-- Lifts one behind the other. -/
theorem lift_lift {t : Tm} (o : Ok N t) (a b : Int) : ∀ (d c : Int), 0 ≤ c → c ≤ a → lift b (d + c) (lift a d t) = lift (a + b) d t := by
  induction o with
  | nil => intros; rfl
  | var n h0 h1 =>
    intro d c hc ha
    show lift b (d + c) (lift a d (vr n)) = lift (a + b) d (vr n)
    rw [lift_var, lift_var]
    by_cases h : d ≤ n
    · rw [if_pos h, if_pos h, lift_var, if_pos (by omega), Int.add_assoc]
    · rw [if_neg h, if_neg h, lift_var, if_neg (by omega)]
  | leaf k n s hk => intro d c _ _; rw [lift_leaf _ _ _ _ _ hk, lift_leaf _ _ _ _ _ hk, lift_leaf _ _ _ _ _ hk]
  | inner k x y z hk hc _ _ _ i1 i2 i3 =>
    intro d c hc ha
    rw [lift_inner _ _ _ _ _ _ hk, lift_inner _ _ _ _ _ _ hk, lift_inner _ _ _ _ _ _ hk, i1 d c hc ha]
    rw [show d + c + hB k = d + hB k + c by omega, show d + c + hC k = d + hC k + c by omega, i2 _ c hc ha, i3 _ c hc ha]
/-- What was lifted takes no notice of what is put in there. -/
theorem put_lift {t : Tm} (o : Ok N t) (u : Tm) (a : Int) : ∀ (d e : Int), 0 ≤ e → e ≤ a → (putM u e).at d (lift (a + 1) d t) = lift a d t := by
  induction o with
  | nil => intros; rfl
  | var n h0 h1 =>
    intro d e he ha
    show (putM u e).at d (lift (a + 1) d (vr n)) = lift a d (vr n)
    rw [lift_var, lift_var]
    by_cases h : d ≤ n
    · rw [if_pos h, if_pos h, put_var, if_neg (by omega), if_neg (by omega)]
      congr 1
      omega
    · rw [if_neg h, if_neg h, put_var, if_pos (by omega)]
  | leaf k n s hk => intro d e _ _; rw [lift_leaf _ _ _ _ _ hk, lift_leaf _ _ _ _ _ hk, put_leaf _ _ _ _ _ _ hk]
  | inner k x y z hk hc _ _ _ i1 i2 i3 =>
    intro d e he ha
    rw [lift_inner _ _ _ _ _ _ hk, lift_inner _ _ _ _ _ _ hk, at_inner _ _ _ _ _ _ hk, i1 d e he ha, i2 _ e he ha, i3 _ e he ha]
/-- .. and moved further in. -/
theorem put_lift2 {t u : Tm} (o : Ok N t) (hu : Ok N u) (a : Int) (ha : 0 ≤ a) : ∀ (e : Int), 0 ≤ e → (putM u 0).at (e + a) (lift a e t) = lift a e ((putM u 0).at e t) := by
  induction o with
  | nil => intros; rfl
  | var n h0 h1 =>
    intro e he
    show (putM u 0).at (e + a) (lift a e (vr n)) = lift a e ((putM u 0).at e (vr n))
    rw [lift_var, put_var u 0 e n]
    by_cases h : e ≤ n
    · rw [if_pos h, if_neg (by omega), put_var]
      by_cases h2 : n = e
      · rw [if_neg (by omega), if_pos (by omega), if_pos (by omega)]
        have := lift_lift hu e a 0 e he (Int.le_refl _)
        rw [Int.zero_add] at this
        exact this.symm
      · rw [if_neg (by omega), if_neg (by omega), if_neg (by omega), lift_var, if_pos (by omega)]
        congr 1
        omega
    · rw [if_neg h, if_pos (by omega), put_var, if_pos (by omega), lift_var, if_neg h]
  | leaf k n s hk => intro e _; rw [lift_leaf _ _ _ _ _ hk, put_leaf _ _ _ _ _ _ hk, put_leaf _ _ _ _ _ _ hk, lift_leaf _ _ _ _ _ hk]
  | inner k x y z hk hc _ _ _ i1 i2 i3 =>
    intro e he
    have b1 := hB_01 k
    have b2 := hC_01 k
    rw [lift_inner _ _ _ _ _ _ hk, at_inner _ _ _ _ _ _ hk, at_inner _ _ _ _ _ _ hk, lift_inner _ _ _ _ _ _ hk, i1 e he]
    rw [show e + a + hB k = e + hB k + a by omega, show e + a + hC k = e + hC k + a by omega, i2 _ (by omega), i3 _ (by omega)]
/-- What was lifted by one more than the binders around takes no notice of what is put in there. -/
theorem put_lifted (u : Tm) (d : Int) (hd : 0 ≤ d) {t : Tm} (o : Ok N t) : ∀ (f : Int), (putM u 0).at (d + f) (lift (d + 1) f t) = lift d f t := by
  induction o with
  | nil => intros; rfl
  | var n h0 h1 =>
    intro f
    show (putM u 0).at (d + f) (lift (d + 1) f (vr n)) = lift d f (vr n)
    rw [lift_var, lift_var]
    by_cases h : f ≤ n
    · rw [if_pos h, if_pos h, put_var, if_neg (by omega), if_neg (by omega)]
      congr 1
      omega
    · rw [if_neg h, if_neg h, put_var, if_pos (by omega)]
  | leaf k n s hk => intro f; rw [lift_leaf _ _ _ _ _ hk, lift_leaf _ _ _ _ _ hk, put_leaf _ _ _ _ _ _ hk]
  | inner k x y z hk hc _ _ _ i1 i2 i3 =>
    intro f
    rw [lift_inner _ _ _ _ _ _ hk, lift_inner _ _ _ _ _ _ hk, at_inner _ _ _ _ _ _ hk, i1 f, Int.add_assoc, i2, Int.add_assoc, i3]
/-- Two substitutions in either order. -/
theorem put_swap {t x y : Tm} (o : Ok N t) (hx : Ok N x) (hy : Ok N y) : ∀ (d : Int), 0 ≤ d → (putM y 0).at d ((putM x 0).at d t) = (putM ((putM y 0).at 0 x) 0).at d ((putM (lift 1 0 y) 1).at d t) := by
  induction o with
  | nil => intros; rfl
  | var n h0 h1 =>
    intro d hd
    show (putM y 0).at d ((putM x 0).at d (vr n)) = (putM ((putM y 0).at 0 x) 0).at d ((putM (lift 1 0 y) 1).at d (vr n))
    rw [put_var x, put_var (lift 1 0 y)]
    by_cases h : n < d
    · rw [if_pos (by omega), if_pos (by omega), put_var, if_pos (by omega), put_var, if_pos (by omega)]
    · rw [if_neg (by omega)]
      by_cases h2 : n = d
      · rw [if_pos (by omega), if_pos (by omega), put_var, if_neg (by omega), if_pos (by omega)]
        have := put_lift2 hx hy d hd 0 (Int.le_refl _)
        rw [Int.zero_add] at this
        exact this
      · rw [if_neg (by omega), if_neg (by omega), put_var]
        by_cases h3 : n = d + 1
        · rw [if_neg (by omega), if_pos (by omega), if_pos (by omega)]
          have h4 := lift_lift hy 1 d 0 0 (Int.le_refl _) (by omega)
          rw [Int.zero_add, Int.add_comm 1 d] at h4
          rw [h4]
          have := put_lifted ((putM y 0).at 0 x) d hd hy 0
          rw [Int.add_zero] at this
          exact this.symm
        · rw [if_neg (by omega), if_neg (by omega), if_neg (by omega), put_var, if_neg (by omega), if_neg (by omega)]
  | leaf k n s hk => intro d _; rw [put_leaf _ _ _ _ _ _ hk, put_leaf _ _ _ _ _ _ hk, put_leaf _ _ _ _ _ _ hk, put_leaf _ _ _ _ _ _ hk]
  | inner k x y z hk hc _ _ _ i1 i2 i3 =>
    intro d hd
    have b1 := hB_01 k
    have b2 := hC_01 k
    rw [at_inner _ _ _ _ _ _ hk, at_inner _ _ _ _ _ _ hk, at_inner _ _ _ _ _ _ hk, at_inner _ _ _ _ _ _ hk, i1 d hd, i2 _ (by omega), i3 _ (by omega)]
/-- All at once is one by one. -/
theorem all_two {t x y : Tm} (o : Ok N t) (hy : Ok N y) : ∀ (d : Int), 0 ≤ d → (allM [x, y]).at d t = (putM x 0).at d ((putM (lift 1 0 y) 0).at d t) := by
  induction o with
  | nil => intros; rfl
  | var n h0 h1 =>
    intro d hd
    show (allM [x, y]).at d (vr n) = (putM x 0).at d ((putM (lift 1 0 y) 0).at d (vr n))
    have hlen : (([x, y] : List Tm).length : Int) = 2 := rfl
    rw [all_var, put_var, hlen]
    by_cases h : n < d
    · rw [if_pos h, if_pos (by omega), put_var, if_pos (by omega)]
    · rw [if_neg h, if_neg (show ¬ n < 0 + d by omega)]
      by_cases h2 : n = d
      · rw [if_pos (by omega), if_pos (by omega), show (n - d).toNat = 0 by omega]
        have h4 := lift_lift hy 1 d 0 0 (Int.le_refl _) (by omega)
        rw [Int.zero_add, Int.add_comm 1 d] at h4
        rw [h4]
        have := put_lifted x d hd hy 0
        rw [Int.add_zero] at this
        rw [this]
        rfl
      · rw [if_neg (show ¬ n = 0 + d by omega), put_var]
        by_cases h3 : n = d + 1
        · rw [if_pos (show n - d < 2 by omega), if_neg (by omega), if_pos (by omega), show (n - d).toNat = 1 by omega]
          rfl
        · rw [if_neg (show ¬ n - d < 2 by omega), if_neg (by omega), if_neg (by omega)]
          congr 1
          omega
  | leaf k n s hk => intro d _; rw [put_leaf _ _ _ _ _ _ hk, put_leaf _ _ _ _ _ _ hk]; exact at_leaf _ _ _ _ _ hk
  | inner k x y z hk hc _ _ _ i1 i2 i3 =>
    intro d hd
    have b1 := hB_01 k
    have b2 := hC_01 k
    rw [at_inner _ _ _ _ _ _ hk, at_inner _ _ _ _ _ _ hk, at_inner _ _ _ _ _ _ hk, i1 d hd, i2 _ (by omega), i3 _ (by omega)]
/-- All of none. -/
theorem all_none {t : Tm} (o : Ok N t) : ∀ (d : Int), (allM []).at d t = t := by
  induction o with
  | nil => intros; rfl
  | var n h0 h1 =>
    intro d
    show (allM []).at d (vr n) = vr n
    have hlen : (([] : List Tm).length : Int) = 0 := rfl
    rw [all_var, hlen]
    by_cases h : n < d
    · rw [if_pos h]
    · rw [if_neg h, if_neg (by omega), Int.sub_zero]
  | leaf k n s hk => intro d; exact at_leaf _ _ _ _ _ hk
  | inner k x y z hk hc _ _ _ i1 i2 i3 => intro d; rw [at_inner _ _ _ _ _ _ hk, i1, i2, i3]
theorem free_var (n : Int) : free (vr n) = n + 1 := rfl
theorem free_leaf (k n : Int) (s : ByteArray) (hk : k = 1 ∨ k = 3) : free (.node k n s .nil .nil .nil) = 0 := by
  have h2 : k ≠ 2 := by omega
  have h4 : ¬ (k = 4 ∨ k = 5) := by omega
  have h7 : ¬ (k = 4 ∨ k = 5 ∨ k = 7) := by omega
  simp only [free, hB, hC, if_neg h2, if_neg h4, if_neg h7]
  rfl
theorem free_inner (k n : Int) (s : ByteArray) (x y z : Tm) (hk : k ≠ 2) : free (.node k n s x y z) = max (max 0 (free x)) (max (free y - hB k) (free z - hC k)) := by
  simp only [free, if_neg hk]
theorem free_pos {t : Tm} (o : Ok N t) : 0 ≤ free t := by
  cases o with
  | nil => exact Int.le_refl _
  | var n h0 h1 => rw [show Tm.node 2 n noS .nil .nil .nil = vr n from rfl, free_var]; omega
  | leaf k n s hk => rw [free_leaf _ _ _ hk]; exact Int.le_refl _
  | inner k x y z hk hc _ _ _ => rw [free_inner _ _ _ _ _ _ (by omega)]; omega
/-- Putting in what isn't free changes nothing. -/
theorem put_free {t : Tm} (o : Ok N t) (u : Tm) : ∀ (e d : Int), free t ≤ e + d → (putM u e).at d t = t := by
  induction o with
  | nil => intros; rfl
  | var n h0 h1 =>
    intro e d h
    rw [show Tm.node 2 n noS .nil .nil .nil = vr n from rfl, free_var] at h
    show (putM u e).at d (vr n) = vr n
    rw [put_var, if_pos (by omega)]
  | leaf k n s hk => intro e d _; exact put_leaf _ _ _ _ _ _ hk
  | inner k x y z hk hc _ _ _ i1 i2 i3 =>
    intro e d h
    rw [free_inner _ _ _ _ _ _ (by omega)] at h
    rw [at_inner _ _ _ _ _ _ hk, i1 e d (by omega), i2 e _ (by omega), i3 e _ (by omega)]
theorem lift_free {t : Tm} (o : Ok N t) (b : Int) : ∀ (d : Int), free t ≤ d → lift b d t = t := by
  induction o with
  | nil => intros; rfl
  | var n h0 h1 =>
    intro d h
    rw [show Tm.node 2 n noS .nil .nil .nil = vr n from rfl, free_var] at h
    show lift b d (vr n) = vr n
    rw [lift_var, if_neg (by omega)]
  | leaf k n s hk => intro d _; exact lift_leaf _ _ _ _ _ hk
  | inner k x y z hk hc _ _ _ i1 i2 i3 =>
    intro d h
    rw [free_inner _ _ _ _ _ _ (by omega)] at h
    rw [lift_inner _ _ _ _ _ _ hk, i1 d (by omega), i2 _ (by omega), i3 _ (by omega)]
theorem free_lift {t : Tm} (o : Ok N t) (b : Int) (hb : 0 ≤ b) : ∀ (d : Int), 0 ≤ d → free (lift b d t) = if d < free t then free t + b else free t := by
  induction o with
  | nil => intro d hd; show (0 : Int) = if d < 0 then _ else _; rw [if_neg (by omega)]; rfl
  | var n h0 h1 =>
    intro d hd
    show free (lift b d (vr n)) = if d < free (vr n) then free (vr n) + b else free (vr n)
    rw [lift_var, free_var]
    by_cases h : d ≤ n
    · rw [if_pos h, if_pos (by omega), free_var]; omega
    · rw [if_neg h, if_neg (by omega), free_var]
  | leaf k n s hk => intro d hd; rw [lift_leaf _ _ _ _ _ hk, free_leaf _ _ _ hk, if_neg (by omega)]
  | inner k x y z hk hc _ _ _ i1 i2 i3 =>
    intro d hd
    have b1 := hB_01 k
    have b2 := hC_01 k
    rw [lift_inner _ _ _ _ _ _ hk, free_inner _ _ _ _ _ _ (by omega), free_inner _ _ _ _ _ _ (by omega), i1 d hd, i2 _ (by omega), i3 _ (by omega)]
    generalize hB k = p at *
    generalize hC k = q at *
    clear i1 i2 i3
    split <;> split <;> split <;> split <;> omega
theorem free_put {t x : Tm} (o : Ok N t) (hx : Ok N x) : ∀ (d : Int), 0 ≤ d → free ((putM x 0).at d t) ≤ max (free t - 1) (free x + d) := by
  have hp := free_pos hx
  induction o with
  | nil => intro d hd; show (0 : Int) ≤ _; omega
  | var n h0 h1 =>
    intro d hd
    show free ((putM x 0).at d (vr n)) ≤ max (free (vr n) - 1) _
    rw [put_var, free_var]
    by_cases h : n < 0 + d
    · rw [if_pos h, free_var]; omega
    · rw [if_neg h]
      by_cases h2 : n = 0 + d
      · rw [if_pos h2, free_lift hx d hd 0 (Int.le_refl _)]
        split <;> omega
      · rw [if_neg h2, free_var]; omega
  | leaf k n s hk => intro d hd; rw [put_leaf _ _ _ _ _ _ hk, free_leaf _ _ _ hk]; omega
  | inner k y z u hk hc _ _ _ i1 i2 i3 =>
    intro d hd
    have b1 := hB_01 k
    have b2 := hC_01 k
    have j1 := i1 d hd
    have j2 := i2 (d + hB k) (by omega)
    have j3 := i3 (d + hC k) (by omega)
    rw [at_inner _ _ _ _ _ _ hk, free_inner _ _ _ _ _ _ (by omega), free_inner _ _ _ _ _ _ (by omega)]
    omega
/-- A constant that was bound, and then put in again. -/
theorem bind_back {t : Tm} (o : Ok N t) (name : ByteArray) : ∀ (d : Int), 0 ≤ d → (putM (.node 3 0 name .nil .nil .nil) 0).at d ((bindM name).at d t) = t := by
  induction o with
  | nil => intros; rfl
  | var n h0 h1 =>
    intro d hd
    show (putM _ 0).at d ((bindM name).at d (vr n)) = vr n
    rw [bind_var]
    by_cases h : n < d
    · rw [if_pos h, put_var, if_pos (by omega)]
    · rw [if_neg h, put_var, if_neg (by omega), if_neg (by omega)]
      congr 1
      omega
  | leaf k n s hk =>
    intro d hd
    rw [at_leaf _ _ _ _ _ hk]
    split
    · rename_i h
      simp only [Mv.bnd, bindM, Bool.and_eq_true] at h
      obtain ⟨⟨⟨_, h1⟩, h2⟩, h3⟩ := h
      obtain rfl := of_decide_eq_true h1
      obtain rfl := of_decide_eq_true h2
      obtain rfl := of_decide_eq_true h3
      rw [put_var, if_neg (by omega), if_pos (by omega), lift_leaf _ _ _ _ _ (.inr rfl)]
    · exact put_leaf _ _ _ _ _ _ hk
  | inner k x y z hk hc _ _ _ i1 i2 i3 =>
    intro d hd
    have b1 := hB_01 k
    have b2 := hC_01 k
    rw [at_inner _ _ _ _ _ _ hk, at_inner _ _ _ _ _ _ hk, i1 d hd, i2 _ (by omega), i3 _ (by omega)]
theorem free_bind {t : Tm} (o : Ok N t) (name : ByteArray) : ∀ (d : Int), 0 ≤ d → free ((bindM name).at d t) ≤ max (d + 1) (free t + 1) := by
  induction o with
  | nil => intro d hd; show (0 : Int) ≤ _; omega
  | var n h0 h1 =>
    intro d hd
    show free ((bindM name).at d (vr n)) ≤ max _ (free (vr n) + 1)
    rw [bind_var, free_var]
    split <;> rw [free_var] <;> omega
  | leaf k n s hk =>
    intro d hd
    rw [at_leaf _ _ _ _ _ hk, free_leaf _ _ _ hk]
    split
    · rw [free_var]; omega
    · rw [free_leaf _ _ _ hk]; omega
  | inner k x y z hk hc _ _ _ i1 i2 i3 =>
    intro d hd
    have b1 := hB_01 k
    have b2 := hC_01 k
    have j1 := i1 d hd
    have j2 := i2 (d + hB k) (by omega)
    have j3 := i3 (d + hC k) (by omega)
    rw [at_inner _ _ _ _ _ _ hk, free_inner _ _ _ _ _ _ (by omega), free_inner _ _ _ _ _ _ (by omega)]
    omega
/-- What is put in may be as great as it is. -/
theorem Ok.put {M : Int} {t u : Tm} (o : Ok N t) (hu : Ok M u) (hN : 0 ≤ N) (hM : 0 ≤ M) (e : Int) (he : 0 ≤ e) : ∀ (d : Int), 0 ≤ d → Ok (N + M + d + t.ht + 1) ((putM u e).at d t) := by
  induction o with
  | nil => intros; exact .nil
  | var n h0 h1 =>
    intro d hd
    show Ok _ ((putM u e).at d (vr n))
    rw [put_var]
    split
    · exact .var _ h0 (by omega)
    · split
      · exact (hu.lift d hd 0).mono (by omega)
      · exact .var _ (by omega) (by omega)
  | leaf k n s hk => intro d _; rw [put_leaf _ _ _ _ _ _ hk]; exact .leaf k n s hk
  | inner k x y z hk hc _ _ _ i1 i2 i3 =>
    intro d hd
    have b1 := hB_01 k
    have b2 := hC_01 k
    rw [at_inner _ _ _ _ _ _ hk]
    exact .inner k _ _ _ hk (fun h => by rw [hc h]; rfl) ((i1 d hd).mono (by simp only [Tm.ht]; omega)) ((i2 _ (by omega)).mono (by simp only [Tm.ht]; omega)) ((i3 _ (by omega)).mono (by simp only [Tm.ht]; omega))
end
end Go.Proofs.Ytphdfopdephanaa
