/- What is read is what lasts with the loose Writes laid over it: kept by every call. Plain mathematics. -/
import Derived.Test.YtkkjbljhehnmjaaGreatDoorDkUse
namespace Go.Proofs.YtkkjbljhehnmjaaGreatDoor
open Go.RowKit

/-- The invariant, and how great its numbers are behind so many steps. -/
structure Dk.Ok (S : Dk) (m : Nat) : Prop where
  n1 : 1 ≤ S.n
  inv : ∀ k, k < S.n → S.C k = lay S.F S.L k
  wr : S.writes ≤ m
  ll : S.L.length ≤ m
  lf : S.left ≤ 9223372036854775807
theorem Dk.Ok.small {S : Dk} {m : Nat} (h : S.Ok m) (hm : m ≤ 1000) : S.Small := ⟨by have := h.wr; omega, h.lf, by have := h.ll; omega⟩
theorem Dk.Ok.more {S : Dk} {m : Nat} (h : S.Ok m) : S.Ok (m + 1) := ⟨h.n1, h.inv, Nat.le_succ_of_le h.wr, Nat.le_succ_of_le h.ll, h.lf⟩
theorem Dk.Ok.new (n : Nat) (hn : 1 ≤ n) : (Dk.new n).Ok 0 := ⟨hn, fun _ _ => rfl, Nat.le_refl _, Nat.le_refl _, by simp [Dk.new]⟩
theorem lay_snoc (F : Nat → List UInt8) (L : List (Nat × List UInt8)) (k : Nat) (l : List UInt8) : lay F (L ++ [(k, l)]) = upd (lay F L) k l := by
  unfold lay
  rw [List.foldl_append]
  rfl
theorem Dk.Ok.wrote {S : Dk} {m : Nat} (h : S.Ok m) (p : Int) (s : ByteArray) : (S.wrote p s).Ok (m + 1) := by
  unfold Dk.wrote
  split
  · refine ⟨h.n1, fun k hk => ?_, Nat.succ_le_succ h.wr, ?_, ?_⟩
    · show upd S.C p.toNat (fillUp s) k = lay S.F (S.L ++ [(p.toNat, fillUp s)]) k
      rw [lay_snoc]
      unfold upd
      split
      · rfl
      · exact h.inv k hk
    · show (S.L ++ [(p.toNat, fillUp s)]).length ≤ m + 1
      rw [List.length_append]
      exact Nat.succ_le_succ h.ll
    · show (if S.cut then S.left - 1 else S.left) ≤ _
      have := h.lf
      split <;> omega
  · exact ⟨h.n1, h.inv, Nat.le_succ_of_le h.wr, Nat.le_succ_of_le h.ll, h.lf⟩
theorem Dk.Ok.flush {S : Dk} {m : Nat} (h : S.Ok m) : ({ S with F := lay S.F S.L, L := [] } : Dk).Ok (m + 1) := ⟨h.n1, h.inv, Nat.le_succ_of_le h.wr, Nat.zero_le _, h.lf⟩
theorem Dk.Ok.cutAt {S : Dk} {m : Nat} (h : S.Ok m) (p : Int) (hp : p ≤ 9223372036854775807) : (S.cutAt p).Ok (m + 1) := ⟨h.n1, h.inv, Nat.le_succ_of_le h.wr, Nat.le_succ_of_le h.ll, by show (max p 0).toNat ≤ _; omega⟩
/-- A sector that no loose Write is of. -/
theorem lay_far (F : Nat → List UInt8) (k : Nat) : ∀ (L : List (Nat × List UInt8)), (∀ x ∈ L, x.1 ≠ k) → lay F L k = F k := by
  intro L
  induction L generalizing F with
  | nil => intro _; rfl
  | cons x L ih =>
    intro h
    show lay (upd F x.1 x.2) L k = F k
    rw [ih (upd F x.1 x.2) (fun y hy => h y (List.mem_cons_of_mem _ hy))]
    unfold upd
    rw [if_neg (fun e => h x (List.mem_cons_self ..) e.symm)]
theorem landN_far (ks : List Bool) (tn : Int) (F : Nat → List UInt8) (L : List (Nat × List UInt8)) (k : Nat) (h : ∀ x ∈ L, x.1 ≠ k) : ∀ j, j ≤ L.length → landN ks tn F L j k = F k
  | 0, _ => rfl
  | j + 1, hj => by
    rw [landN_succ ks tn F L j hj]
    unfold land1
    split
    · unfold upd
      rw [if_neg (fun e => h _ (List.getElem_mem (show j < L.length by omega)) e.symm)]
      exact landN_far ks tn F L k h j (by omega)
    · exact landN_far ks tn F L k h j (by omega)
theorem reread_far (F C : Nat → List UInt8) (k : Nat) : ∀ (L : List (Nat × List UInt8)), (∀ x ∈ L, x.1 ≠ k) → reread F C L k = C k := by
  intro L
  induction L generalizing C with
  | nil => intro _; rfl
  | cons x L ih =>
    intro h
    show reread F (upd C x.1 (F x.1)) L k = C k
    rw [ih _ (fun y hy => h y (List.mem_cons_of_mem _ hy))]
    unfold upd
    rw [if_neg (fun e => h x (List.mem_cons_self ..) e.symm)]
theorem reread_keep (F : Nat → List UInt8) (k : Nat) : ∀ (L : List (Nat × List UInt8)) (C : Nat → List UInt8), C k = F k → reread F C L k = F k := by
  intro L
  induction L with
  | nil => intro C h; exact h
  | cons x L ih =>
    intro C h
    show reread F (upd C x.1 (F x.1)) L k = F k
    refine ih _ ?_
    unfold upd
    split
    · next e => rw [e]
    · exact h
theorem reread_near (F : Nat → List UInt8) (k : Nat) : ∀ (L : List (Nat × List UInt8)) (C : Nat → List UInt8), (∃ x ∈ L, x.1 = k) → reread F C L k = F k := by
  intro L
  induction L with
  | nil => rintro C ⟨x, hx, _⟩; cases hx
  | cons x L ih =>
    rintro C ⟨y, hy, e⟩
    show reread F (upd C x.1 (F x.1)) L k = F k
    rcases List.mem_cons.1 hy with rfl | hy
    · refine reread_keep F k L _ ?_
      unfold upd
      rw [if_pos e.symm, e]
    · exact ih _ ⟨y, hy, e⟩
theorem Dk.Ok.crash {S : Dk} {m : Nat} (h : S.Ok m) (ks : List Bool) (tn : Int) : (S.crash ks tn).Ok (m + 1) := by
  refine ⟨h.n1, fun k hk => ?_, Nat.le_succ_of_le h.wr, Nat.zero_le _, by simp [Dk.crash]⟩
  show reread (landN ks tn S.F S.L S.L.length) S.C S.L k = landN ks tn S.F S.L S.L.length k
  by_cases hx : ∃ x ∈ S.L, x.1 = k
  · exact reread_near _ k S.L S.C hx
  · have hx' : ∀ x ∈ S.L, x.1 ≠ k := fun x hm e => hx ⟨x, hm, e⟩
    rw [reread_far _ _ k S.L hx', landN_far ks tn S.F S.L k hx' _ (Nat.le_refl _), h.inv k hk, lay_far S.F k S.L hx']
end Go.Proofs.YtkkjbljhehnmjaaGreatDoor
