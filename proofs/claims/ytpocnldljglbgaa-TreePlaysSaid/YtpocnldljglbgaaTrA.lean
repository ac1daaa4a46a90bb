/- Balanced trees of texts, plainly: no program, no statement. -/
import Derived.WalkKit
import Derived.Lib.LaidTab
import Derived.Lib.Strings
namespace Go.Proofs.Ytpocnldljglbgaa

/-- The order of texts, byte by byte. -/
def klt (a b : ByteArray) : Prop := a.data.toList < b.data.toList
instance (a b : ByteArray) : Decidable (klt a b) := inferInstanceAs (Decidable (a.data.toList < b.data.toList))
theorem klt_irrefl (a : ByteArray) : ¬ klt a a := List.lt_irrefl _
theorem klt_trans {a b c : ByteArray} (h : klt a b) (k : klt b c) : klt a c := List.lt_trans h k
theorem klt_asymm {a b : ByteArray} (h : klt a b) : ¬ klt b a := fun k => klt_irrefl _ (klt_trans h k)
theorem ba_ext {a b : ByteArray} (h : a.data.toList = b.data.toList) : a = b := by
  obtain ⟨⟨a⟩⟩ := a
  obtain ⟨⟨b⟩⟩ := b
  simp only at h
  rw [h]
theorem klt_tri (a b : ByteArray) : klt a b ∨ a = b ∨ klt b a := by
  by_cases h : klt a b
  · exact .inl h
  by_cases k : klt b a
  · exact .inr (.inr k)
  exact .inr (.inl (ba_ext (List.le_antisymm (List.not_lt.1 k) (List.not_lt.1 h))))
theorem klt_ne {a b : ByteArray} (h : klt a b) : a ≠ b := fun e => klt_irrefl b (e ▸ h)
theorem less_eq : ∀ (x y : List UInt8), Op.bytesLess x y = decide (x < y)
  | [], [] => by simp [Op.bytesLess]
  | _ :: _, [] => by simp [Op.bytesLess]
  | [], _ :: _ => by simp [Op.bytesLess]
  | a :: x, b :: y => by
    rw [Op.bytesLess, less_eq x y]
    simp only [List.cons_lt_cons_iff]
    by_cases h1 : a < b <;> by_cases h2 : a = b <;> by_cases h3 : x < y <;> simp [h1, h2, h3]
theorem less_klt (a b : ByteArray) : Op.bytesLess a.toList b.toList = decide (klt a b) := by
  rw [less_eq, Lib.toList_data, Lib.toList_data]
  rfl
theorem eq_toList (a b : ByteArray) : (a.toList == b.toList) = decide (a = b) := by
  rw [Lib.toList_data, Lib.toList_data]
  by_cases h : a = b
  · subst h; simp
  · have : a.data.toList ≠ b.data.toList := fun e => h (ba_ext e)
    rw [decide_eq_false h]
    exact beq_eq_false_iff_ne.2 this

abbrev En := ByteArray × Int
/-- A tree of texts with numbers. -/
inductive Tr where
  | nil
  | node (k : ByteArray) (n : Int) (l r : Tr)
namespace Tr
def h : Tr → Nat
  | nil => 0
  | node _ _ l r => 1 + max l.h r.h
def sz : Tr → Nat
  | nil => 0
  | node _ _ l r => l.sz + 1 + r.sz
def les : Tr → Tr
  | nil => nil
  | node _ _ l _ => l
def mor : Tr → Tr
  | nil => nil
  | node _ _ _ r => r
def es : Tr → List En
  | nil => []
  | node k n l r => l.es ++ (k, n) :: r.es
theorem es_len : ∀ t : Tr, t.es.length = t.sz
  | nil => rfl
  | node k n l r => by simp [es, sz, es_len l, es_len r]; omega
theorem h_le : ∀ t : Tr, t.h ≤ t.sz
  | nil => Nat.le_refl _
  | node k n l r => by have := h_le l; have := h_le r; simp only [h, sz]; omega
theorem h_pos {t : Tr} (ht : t ≠ nil) : 0 < t.h := by cases t with
  | nil => exact absurd rfl ht
  | node => simp only [h]; omega
theorem h_nil {t : Tr} : t.h = 0 ↔ t = nil := by cases t with
  | nil => simp [h]
  | node => simp only [h]; constructor
            · intro h; omega
            · intro h; cases h

/-- The top of the greater side becomes the top. -/
def raiseM : Tr → Tr
  | node k n l (node k2 n2 l2 r2) => node k2 n2 (node k n l l2) r2
  | t => t
def raiseL : Tr → Tr
  | node k n (node k2 n2 l2 r2) r => node k2 n2 l2 (node k n r2 r)
  | t => t
def turnL (k : ByteArray) (n : Int) (r : Tr) : Tr → Tr
  | node k2 n2 l2 r2 => node k2 n2 l2 (node k n r2 r)
  | nil => node k n nil r
def turnM (k : ByteArray) (n : Int) (l : Tr) : Tr → Tr
  | node k2 n2 l2 r2 => node k2 n2 (node k n l l2) r2
  | nil => node k n l nil
/-- A node whose one side is deeper by two at most is made level. -/
def midL (l : Tr) : Tr := if l.les.h < l.mor.h then raiseM l else l
def midM (r : Tr) : Tr := if r.mor.h < r.les.h then raiseL r else r
theorem midL_yes {a : ByteArray} {m : Int} {x y : Tr} (e : x.h < y.h) : midL (node a m x y) = raiseM (node a m x y) := if_pos e
theorem midL_no {a : ByteArray} {m : Int} {x y : Tr} (e : ¬ x.h < y.h) : midL (node a m x y) = node a m x y := if_neg e
theorem midM_yes {a : ByteArray} {m : Int} {x y : Tr} (e : y.h < x.h) : midM (node a m x y) = raiseL (node a m x y) := if_pos e
theorem midM_no {a : ByteArray} {m : Int} {x y : Tr} (e : ¬ y.h < x.h) : midM (node a m x y) = node a m x y := if_neg e
def lev (k : ByteArray) (n : Int) (l r : Tr) : Tr :=
  if l.h = r.h + 2 then turnL k n r (midL l)
  else if r.h = l.h + 2 then turnM k n l (midM r)
  else node k n l r
theorem es_raiseM (t : Tr) : t.raiseM.es = t.es := by
  unfold raiseM
  split <;> simp [es]
theorem es_raiseL (t : Tr) : t.raiseL.es = t.es := by
  unfold raiseL
  split <;> simp [es]
theorem es_turnL (k : ByteArray) (n : Int) (l r : Tr) : (turnL k n r l).es = l.es ++ (k, n) :: r.es := by
  cases l <;> simp [turnL, es]
theorem es_turnM (k : ByteArray) (n : Int) (l r : Tr) : (turnM k n l r).es = l.es ++ (k, n) :: r.es := by
  cases r <;> simp [turnM, es]
theorem es_midL (t : Tr) : t.midL.es = t.es := by unfold midL; split <;> simp [es_raiseM]
theorem es_midM (t : Tr) : t.midM.es = t.es := by unfold midM; split <;> simp [es_raiseL]
theorem es_lev (k : ByteArray) (n : Int) (l r : Tr) : (lev k n l r).es = l.es ++ (k, n) :: r.es := by
  unfold lev
  split
  · rw [es_turnL, es_midL]
  · split
    · rw [es_turnM, es_midM]
    · rfl

/-- No side is deeper than the other by more than one. -/
def Bal : Tr → Prop
  | nil => True
  | node _ _ l r => l.Bal ∧ r.Bal ∧ l.h ≤ r.h + 1 ∧ r.h ≤ l.h + 1
theorem lev_bal (k : ByteArray) (n : Int) (l r : Tr) (hl : l.Bal) (hr : r.Bal) (h1 : l.h ≤ r.h + 2) (h2 : r.h ≤ l.h + 2) :
    (lev k n l r).Bal ∧ ((lev k n l r).h = 1 + max l.h r.h ∨ ((l.h = r.h + 2 ∨ r.h = l.h + 2) ∧ (lev k n l r).h = max l.h r.h)) := by
  unfold lev
  split
  case isTrue e =>
    cases l with
    | nil => simp only [h] at e; omega
    | node a m x y =>
      obtain ⟨bx, b_y, c1, c2⟩ := hl
      simp only [h] at e
      by_cases e2 : x.h < y.h
      case pos =>
        rw [midL_yes e2]
        cases y with
        | nil => simp only [h] at e2; omega
        | node b p u v =>
          obtain ⟨bu, bv, d1, d2⟩ := b_y
          simp only [h] at e e2 c1 c2
          simp only [raiseM, turnL, Bal, h]
          refine ⟨⟨⟨bx, bu, by omega, by omega⟩, ⟨bv, hr, by omega, by omega⟩, by omega, by omega⟩, by omega⟩
      case neg =>
        rw [midL_no e2]
        simp only [turnL, Bal, h]
        refine ⟨⟨bx, ⟨b_y, hr, by omega, by omega⟩, by omega, by omega⟩, by omega⟩
  case isFalse e =>
    split
    case isTrue e1 =>
      cases r with
      | nil => simp only [h] at e1; omega
      | node a m x y =>
        obtain ⟨bx, b_y, c1, c2⟩ := hr
        simp only [h] at e1
        by_cases e2 : y.h < x.h
        case pos =>
          rw [midM_yes e2]
          cases x with
          | nil => simp only [h] at e2; omega
          | node b p u v =>
            obtain ⟨bu, bv, d1, d2⟩ := bx
            simp only [h] at e1 e2 c1 c2
            simp only [raiseL, turnM, Bal, h]
            refine ⟨⟨⟨hl, bu, by omega, by omega⟩, ⟨bv, b_y, by omega, by omega⟩, by omega, by omega⟩, by omega⟩
        case neg =>
          rw [midM_no e2]
          simp only [turnM, Bal, h]
          refine ⟨⟨⟨hl, bx, by omega, by omega⟩, b_y, by omega, by omega⟩, by omega⟩
    case isFalse e1 =>
      exact ⟨⟨hl, hr, by omega, by omega⟩, .inl rfl⟩

theorem sz_lev (k : ByteArray) (n : Int) (l r : Tr) : (lev k n l r).sz = l.sz + 1 + r.sz := by
  rw [← es_len, es_lev, List.length_append, List.length_cons, es_len, es_len]; omega
def ins (k : ByteArray) (n : Int) : Tr → Tr
  | nil => node k n nil nil
  | node a m l r => if klt k a then lev a m (l.ins k n) r else if klt a k then lev a m l (r.ins k n) else node k n l r
theorem ins_bal (k : ByteArray) (n : Int) : ∀ t : Tr, t.Bal → (t.ins k n).Bal ∧ (t.h ≤ (t.ins k n).h ∧ (t.ins k n).h ≤ t.h + 1)
  | nil, _ => by simp [ins, Bal, h]
  | node a m l r, hb => by
    obtain ⟨hl, hr, c1, c2⟩ := hb
    unfold ins
    have il := ins_bal k n l hl
    have ir := ins_bal k n r hr
    split
    · have := lev_bal a m (l.ins k n) r il.1 hr (by omega) (by omega)
      refine ⟨this.1, ?_⟩
      simp only [h]
      omega
    · split
      · have := lev_bal a m l (r.ins k n) hl ir.1 (by omega) (by omega)
        refine ⟨this.1, ?_⟩
        simp only [h]
        omega
      · exact ⟨⟨hl, hr, c1, c2⟩, by simp only [h]; omega⟩

theorem sz_ins (k : ByteArray) (n : Int) : ∀ t : Tr, (t.ins k n).sz ≤ t.sz + 1
  | nil => by simp [ins, sz]
  | node a m l r => by
    have := sz_ins k n l
    have := sz_ins k n r
    unfold ins
    split
    · rw [sz_lev, sz]; omega
    · split
      · rw [sz_lev, sz]; omega
      · simp only [sz]; omega
def first : Tr → En × Tr
  | nil => ((⟨#[]⟩, 0), nil)
  | node a m nil r => ((a, m), r)
  | node a m (node b p x y) r => let f := (node b p x y).first; (f.1, lev a m f.2 r)
theorem first_es : ∀ t : Tr, t ≠ nil → t.es = t.first.1 :: t.first.2.es
  | nil, h => absurd rfl h
  | node a m nil r, _ => by simp [first, es]
  | node a m (node b p x y) r, _ => by
    have := first_es (node b p x y) (fun e => by cases e)
    simp only [first, es_lev]
    rw [es, this]
    rfl
theorem first_bal : ∀ t : Tr, t ≠ nil → t.Bal → t.first.2.Bal ∧ (t.first.2.h ≤ t.h ∧ t.h ≤ t.first.2.h + 1)
  | nil, h, _ => absurd rfl h
  | node a m nil r, _, hb => by
    obtain ⟨_, hr, c1, c2⟩ := hb
    simp only [first, h] at *
    exact ⟨hr, by omega⟩
  | node a m (node b p x y) r, _, hb => by
    obtain ⟨hl, hr, c1, c2⟩ := hb
    have i := first_bal (node b p x y) (fun e => by cases e) hl
    have := lev_bal a m (node b p x y).first.2 r i.1 hr (by omega) (by omega)
    simp only [first]
    refine ⟨this.1, ?_⟩
    rw [show (node a m (node b p x y) r).h = 1 + max (node b p x y).h r.h from rfl]
    omega

theorem sz_first {t : Tr} (h : t ≠ nil) : t.sz = t.first.2.sz + 1 := by
  have := congrArg List.length (first_es t h)
  rw [List.length_cons, es_len, es_len] at this
  exact this
def del (k : ByteArray) : Tr → Tr
  | nil => nil
  | node a m l r => if klt k a then lev a m (l.del k) r else if klt a k then lev a m l (r.del k)
      else match r with
        | nil => l
        | node b p x y => lev (node b p x y).first.1.1 (node b p x y).first.1.2 l (node b p x y).first.2
theorem del_bal (k : ByteArray) : ∀ t : Tr, t.Bal → (t.del k).Bal ∧ ((t.del k).h ≤ t.h ∧ t.h ≤ (t.del k).h + 1)
  | nil, _ => by simp [del, Bal, h]
  | node a m l r, hb => by
    obtain ⟨hl, hr, c1, c2⟩ := hb
    unfold del
    have il := del_bal k l hl
    have ir := del_bal k r hr
    split
    · have := lev_bal a m (l.del k) r il.1 hr (by omega) (by omega)
      refine ⟨this.1, ?_⟩
      simp only [h]
      omega
    · split
      · have := lev_bal a m l (r.del k) hl ir.1 (by omega) (by omega)
        refine ⟨this.1, ?_⟩
        simp only [h]
        omega
      · cases r with
        | nil => simp only [h] at *; exact ⟨hl, by omega⟩
        | node b p x y =>
          have i := first_bal (node b p x y) (fun e => by cases e) hr
          have := lev_bal (node b p x y).first.1.1 (node b p x y).first.1.2 l (node b p x y).first.2 hl i.1 (by omega) (by omega)
          simp only
          refine ⟨this.1, ?_⟩
          rw [show (node a m l (node b p x y)).h = 1 + max l.h (node b p x y).h from rfl]
          omega

theorem sz_del (k : ByteArray) : ∀ t : Tr, (t.del k).sz ≤ t.sz
  | nil => Nat.le_refl _
  | node a m l r => by
    have := sz_del k l
    have := sz_del k r
    unfold del
    split
    · rw [sz_lev, sz]; omega
    · split
      · rw [sz_lev, sz]; omega
      · cases r with
        | nil => simp only [sz]; omega
        | node b p x y =>
          have := sz_first (t := node b p x y) (fun e => by cases e)
          simp only
          rw [sz_lev, sz]; omega
theorem sz_lt : ∀ t : Tr, t.sz < 2 ^ t.h
  | nil => by simp [sz, h]
  | node a m l r => by
    have h1 := sz_lt l
    have h2 := sz_lt r
    have h3 : 2 ^ l.h ≤ 2 ^ (max l.h r.h) := Nat.pow_le_pow_right (by decide) (by omega)
    have h4 : 2 ^ r.h ≤ 2 ^ (max l.h r.h) := Nat.pow_le_pow_right (by decide) (by omega)
    simp only [sz, h]
    rw [Nat.add_comm 1, Nat.pow_succ]
    omega
/-- The least size of a tree so deep. -/
def least : Nat → Nat
  | 0 => 0
  | 1 => 1
  | n + 2 => least n + least (n + 1) + 1
theorem least_mono1 : ∀ n, least n ≤ least (n + 1)
  | 0 => by decide
  | 1 => by decide
  | n + 2 => by have := least_mono1 (n + 1); simp only [least] at *; omega
theorem least_sz : ∀ t : Tr, t.Bal → least t.h ≤ t.sz
  | nil, _ => Nat.le_refl _
  | node a m l r, hb => by
    obtain ⟨hl, hr, c1, c2⟩ := hb
    have il := least_sz l hl
    have ir := least_sz r hr
    simp only [h, sz]
    rcases Nat.lt_trichotomy l.h r.h with e | e | e
    · have e1 : 1 + max l.h r.h = l.h + 2 := by omega
      have e2 : r.h = l.h + 1 := by omega
      rw [e1, least, ← e2]; omega
    · have e1 : 1 + max l.h r.h = l.h + 1 := by omega
      rw [e1]
      cases hh : l.h with
      | zero => simp only [least]; omega
      | succ j =>
        have e3 : r.h = j + 1 := by omega
        have e4 := least_mono1 j
        rw [least]
        rw [hh] at il
        rw [e3] at ir
        omega
    · have e1 : 1 + max l.h r.h = r.h + 2 := by omega
      have e2 : l.h = r.h + 1 := by omega
      rw [e1, least, ← e2]; omega

/-- Keys rise. -/
def Rise : List En → Prop := List.Pairwise fun a b => klt a.1 b.1
def put (k : ByteArray) (n : Int) (L : List En) : List En := L.filter (fun x => klt x.1 k) ++ (k, n) :: L.filter (fun x => klt k x.1)
def rem (k : ByteArray) (L : List En) : List En := L.filter (fun x => x.1 ≠ k)
theorem rise_parts {A B : List En} {e : En} (h : Rise (A ++ e :: B)) : Rise A ∧ Rise B ∧ (∀ x ∈ A, klt x.1 e.1) ∧ (∀ x ∈ B, klt e.1 x.1) ∧ (∀ x ∈ A, ∀ y ∈ B, klt x.1 y.1) := by
  obtain ⟨h1, h2, h3⟩ := List.pairwise_append.1 h
  obtain ⟨h4, h5⟩ := List.pairwise_cons.1 h2
  exact ⟨h1, h5, fun x hx => h3 x hx e (by simp), h4, fun x hx y hy => h3 x hx y (by simp [hy])⟩
theorem rise_put (k : ByteArray) (n : Int) (L : List En) (h : Rise L) : Rise (put k n L) := by
  refine List.pairwise_append.2 ⟨h.filter _, List.pairwise_cons.2 ⟨fun x hx => ?_, h.filter _⟩, fun x hx y hy => ?_⟩
  · simpa using (List.mem_filter.1 hx).2
  · have h1 : klt x.1 k := by simpa using (List.mem_filter.1 hx).2
    rcases List.mem_cons.1 hy with rfl | hy
    · exact h1
    · have h2 : klt k y.1 := by simpa using (List.mem_filter.1 hy).2
      exact klt_trans h1 h2
theorem rise_rem (k : ByteArray) (L : List En) (h : Rise L) : Rise (rem k L) := h.filter _
theorem filter_all {p : En → Bool} {L : List En} (h : ∀ x ∈ L, p x = true) : L.filter p = L := List.filter_eq_self.2 h
theorem filter_none {p : En → Bool} {L : List En} (h : ∀ x ∈ L, p x = false) : L.filter p = [] := List.filter_eq_nil_iff.2 (fun x hx => by simp [h x hx])
theorem put_left {A B : List En} {e : En} {k : ByteArray} {n : Int} (h : Rise (A ++ e :: B)) (hk : klt k e.1) : put k n (A ++ e :: B) = put k n A ++ e :: B := by
  obtain ⟨_, _, h3, h4, _⟩ := rise_parts h
  unfold put
  rw [List.filter_append, List.filter_append, List.filter_cons, List.filter_cons, if_neg (by simpa using klt_asymm hk), if_pos (by simpa using hk),
    filter_none (L := B) (p := fun x => decide (klt x.1 k)) (fun x hx => by simpa using klt_asymm (klt_trans hk (h4 x hx))),
    filter_all (L := B) (p := fun x => decide (klt k x.1)) (fun x hx => by simpa using klt_trans hk (h4 x hx))]
  simp
theorem put_right {A B : List En} {e : En} {k : ByteArray} {n : Int} (h : Rise (A ++ e :: B)) (hk : klt e.1 k) : put k n (A ++ e :: B) = A ++ e :: put k n B := by
  obtain ⟨_, _, h3, h4, _⟩ := rise_parts h
  unfold put
  rw [List.filter_append, List.filter_append, List.filter_cons, List.filter_cons, if_pos (by simpa using hk), if_neg (by simpa using klt_asymm hk),
    filter_all (L := A) (p := fun x => decide (klt x.1 k)) (fun x hx => by simpa using klt_trans (h3 x hx) hk),
    filter_none (L := A) (p := fun x => decide (klt k x.1)) (fun x hx => by simpa using klt_asymm (klt_trans (h3 x hx) hk))]
  simp
theorem put_same {A B : List En} {e : En} {n : Int} (h : Rise (A ++ e :: B)) : put e.1 n (A ++ e :: B) = A ++ (e.1, n) :: B := by
  obtain ⟨_, _, h3, h4, _⟩ := rise_parts h
  unfold put
  rw [List.filter_append, List.filter_append, List.filter_cons, List.filter_cons, if_neg (by simpa using klt_irrefl _), if_neg (by simpa using klt_irrefl _),
    filter_all (L := A) (p := fun x => decide (klt x.1 e.1)) (fun x hx => by simpa using h3 x hx),
    filter_none (L := A) (p := fun x => decide (klt e.1 x.1)) (fun x hx => by simpa using klt_asymm (h3 x hx)),
    filter_none (L := B) (p := fun x => decide (klt x.1 e.1)) (fun x hx => by simpa using klt_asymm (h4 x hx)),
    filter_all (L := B) (p := fun x => decide (klt e.1 x.1)) (fun x hx => by simpa using h4 x hx)]
  simp
theorem rem_left {A B : List En} {e : En} {k : ByteArray} (h : Rise (A ++ e :: B)) (hk : klt k e.1) : rem k (A ++ e :: B) = rem k A ++ e :: B := by
  obtain ⟨_, _, h3, h4, _⟩ := rise_parts h
  unfold rem
  rw [List.filter_append, List.filter_cons, if_pos (by simpa using (klt_ne hk).symm), filter_all (L := B) (fun x hx => by simpa using (klt_ne (klt_trans hk (h4 x hx))).symm)]
theorem rem_right {A B : List En} {e : En} {k : ByteArray} (h : Rise (A ++ e :: B)) (hk : klt e.1 k) : rem k (A ++ e :: B) = A ++ e :: rem k B := by
  obtain ⟨_, _, h3, h4, _⟩ := rise_parts h
  unfold rem
  rw [List.filter_append, List.filter_cons, if_pos (by simpa using klt_ne hk), filter_all (L := A) (fun x hx => by simpa using klt_ne (klt_trans (h3 x hx) hk))]
theorem rem_same {A B : List En} {e : En} (h : Rise (A ++ e :: B)) : rem e.1 (A ++ e :: B) = A ++ B := by
  obtain ⟨_, _, h3, h4, _⟩ := rise_parts h
  unfold rem
  rw [List.filter_append, List.filter_cons, if_neg (by simp), filter_all (L := A) (fun x hx => by simpa using klt_ne (h3 x hx)), filter_all (L := B) (fun x hx => by simpa using (klt_ne (h4 x hx)).symm)]
theorem es_ins (k : ByteArray) (n : Int) : ∀ t : Tr, Rise t.es → (t.ins k n).es = put k n t.es
  | nil, _ => rfl
  | node a m l r, hr => by
    have hp := rise_parts hr
    unfold ins
    split
    · rename_i hk
      rw [es_lev, es_ins k n l hp.1, es, put_left hr hk]
    · split
      · rename_i hk
        rw [es_lev, es_ins k n r hp.2.1, es, put_right hr hk]
      · rename_i h1 h2
        rcases klt_tri k a with h | rfl | h
        · exact absurd h h1
        · rw [es, es]; exact (put_same (e := (k, m)) hr).symm
        · exact absurd h h2
theorem es_del (k : ByteArray) : ∀ t : Tr, Rise t.es → (t.del k).es = rem k t.es
  | nil, _ => rfl
  | node a m l r, hr => by
    have hp := rise_parts hr
    unfold del
    split
    · rename_i hk
      rw [es_lev, es_del k l hp.1, es, rem_left hr hk]
    · split
      · rename_i hk
        rw [es_lev, es_del k r hp.2.1, es, rem_right hr hk]
      · rename_i h1 h2
        rcases klt_tri k a with h | rfl | h
        · exact absurd h h1
        · have e1 : rem k (node k m l r).es = l.es ++ r.es := rem_same (e := (k, m)) hr
          rw [e1]
          cases r with
          | nil => simp [es]
          | node b p x y =>
            simp only [es_lev]
            rw [first_es (node b p x y) (fun e => by cases e)]
        · exact absurd h h2

/-- What a key stands for. -/
def get (k : ByteArray) : Tr → Option Int
  | nil => none
  | node a m l r => if a = k then some m else if klt k a then l.get k else r.get k
theorem get_some {k : ByteArray} {n : Int} : ∀ t : Tr, Rise t.es → (t.get k = some n ↔ (k, n) ∈ t.es)
  | nil, _ => by simp [get, es]
  | node a m l r, hr => by
    have hp := rise_parts hr
    have il := get_some (k := k) (n := n) l hp.1
    have ir := get_some (k := k) (n := n) r hp.2.1
    unfold get
    simp only [es, List.mem_append, List.mem_cons, Prod.mk.injEq]
    split
    · rename_i e
      subst e
      constructor
      · intro h; exact .inr (.inl ⟨rfl, (Option.some.inj h).symm⟩)
      · rintro (h | ⟨_, rfl⟩ | h)
        · exact absurd (hp.2.2.1 _ h) (klt_irrefl _)
        · rfl
        · exact absurd (hp.2.2.2.1 _ h) (klt_irrefl _)
    · rename_i e
      split
      · rename_i hk
        rw [il]
        constructor
        · exact .inl
        · rintro (h | ⟨rfl, _⟩ | h)
          · exact h
          · exact absurd rfl e
          · exact absurd (klt_trans hk (hp.2.2.2.1 _ h)) (klt_irrefl _)
      · rename_i hk
        rw [ir]
        constructor
        · exact fun h => .inr (.inr h)
        · rintro (h | ⟨rfl, _⟩ | h)
          · exact absurd (hp.2.2.1 _ h) hk
          · exact absurd rfl e
          · exact h
theorem get_none {k : ByteArray} (t : Tr) (hr : Rise t.es) : t.get k = none ↔ ∀ n, (k, n) ∉ t.es := by
  constructor
  · intro h n hm
    rw [(get_some t hr).2 hm] at h
    cases h
  · intro h
    cases e : t.get k with
    | none => rfl
    | some n => exact absurd ((get_some t hr).1 e) (h n)
end Tr
end Go.Proofs.Ytpocnldljglbgaa
