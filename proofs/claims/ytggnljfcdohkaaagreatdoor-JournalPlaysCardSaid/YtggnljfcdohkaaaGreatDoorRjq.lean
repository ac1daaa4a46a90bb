/- JournalPlays: what a disk's first two sectors may hold, whatever crashes keep. Plain mathematics. -/
import Derived.Test.YtggnljfcdohkaaaGreatDoorJnX
import Derived.Test.YtggnljfcdohkaaaGreatDoorJnK
import Derived.Test.YtggnljfcdohkaaaGreatDoorRjf
namespace Go.Proofs.YtggnljfcdohkaaaGreatDoor
open Go.RowKit

/-- A sector of a superblock: nothing, or one of a turn that has come. -/
def SecOk (t : Nat) (c : List UInt8) : Prop := c = List.replicate 64 0 ∨ ∃ u h, 1 ≤ u ∧ u ≤ t ∧ h ≤ 1 ∧ c = fillUp (supB u h)
theorem SecOk.mono {t u : Nat} {c : List UInt8} (h : SecOk t c) (hu : t ≤ u) : SecOk u c := by
  rcases h with h | ⟨a, b, h1, h2, h3, h4⟩
  · exact .inl h
  · exact .inr ⟨a, b, h1, by omega, h3, h4⟩
theorem supB_size32 (t h : Nat) (ht : t ≤ 1000000) (hh : h ≤ 1) : (supB t h).size ≤ 32 := by
  have h1 : (numS t).size ≤ 3 := by rw [numS_size]; exact numL_len 2 t (by show t < 2097152; omega)
  have h0 : (numS h).size ≤ 1 := by rw [numS_size]; exact numL_len 0 h (by show h < 128; omega)
  have h2 : (numS t ++ numS h).size = (numS t).size + (numS h).size := ByteArray.size_append
  have h3 : (numS (numS t ++ numS h).size).size ≤ 1 := by
    rw [numS_size]
    exact numL_len 0 _ (by rw [h2]; show _ < 128; omega)
  have h4 : (wrapS t (numS h)).size = (textS (numS t ++ numS h)).size + 4 := by unfold wrapS; exact ByteArray.size_append
  have h5 : (textS (numS t ++ numS h)).size = (numS (numS t ++ numS h).size).size + (numS t ++ numS h).size := ByteArray.size_append
  unfold supB
  omega
theorem SecOk.low {t : Nat} {c : List UInt8} (h : SecOk t c) (ht : t ≤ 1000000) : c.drop 32 = List.replicate 32 0 := by
  rcases h with rfl | ⟨u, x, h1, h2, h3, rfl⟩
  · rfl
  · have hs := supB_size32 u x (by omega) h3
    have hl : (supB u x).data.toList.length = (supB u x).size := rfl
    unfold fillUp
    rw [List.drop_append, List.drop_eq_nil_of_le (by rw [hl]; exact hs), List.nil_append, List.drop_replicate, hl]
    congr 1
    omega
theorem SecOk.torn {t : Nat} {c d : List UInt8} (h : SecOk t c) (k : SecOk t d) (ht : t ≤ 1000000) (b : Bool) : SecOk t (torn c d b) := by
  unfold Go.Proofs.YtggnljfcdohkaaaGreatDoor.torn
  split
  · rw [h.low ht, ← k.low ht, List.take_append_drop]
    exact k
  · exact k
structure SecInv (t : Nat) (S : Dk) : Prop where
  c : ∀ a, a ≤ 1 → SecOk t (S.C a)
  f : ∀ a, a ≤ 1 → SecOk t (S.F a)
  l : ∀ x ∈ S.L, x.1 ≤ 1 → SecOk t x.2
theorem SecInv.mono {t u : Nat} {S : Dk} (h : SecInv t S) (hu : t ≤ u) : SecInv u S := ⟨fun a ha => (h.c a ha).mono hu, fun a ha => (h.f a ha).mono hu, fun x hx h1 => (h.l x hx h1).mono hu⟩
theorem SecInv.new (t n : Nat) : SecInv t (Dk.new n) := ⟨fun _ _ => .inl rfl, fun _ _ => .inl rfl, fun x hx => by cases hx⟩
theorem SecInv.wrote {t : Nat} {S : Dk} (h : SecInv t S) (p : Int) (s : ByteArray) (hs : 2 ≤ p ∨ SecOk t (fillUp s)) : SecInv t (S.wrote p s) := by
  unfold Dk.wrote
  split
  · refine ⟨fun a ha => ?_, h.f, fun x hx h1 => ?_⟩
    · show SecOk t (upd S.C p.toNat (fillUp s) a)
      unfold upd
      split
      · next e =>
        rcases hs with hs | hs
        · omega
        · exact hs
      · exact h.c a ha
    · rcases List.mem_append.1 (show x ∈ S.L ++ [(p.toNat, fillUp s)] from hx) with hx | hx
      · exact h.l x hx h1
      · rw [List.mem_singleton] at hx
        subst hx
        rcases hs with hs | hs
        · have h1' : p.toNat ≤ 1 := h1
          omega
        · exact hs
  · exact ⟨h.c, h.f, h.l⟩
theorem lay_sec {t : Nat} : ∀ (L : List (Nat × List UInt8)) (F : Nat → List UInt8), (∀ a, a ≤ 1 → SecOk t (F a)) → (∀ x ∈ L, x.1 ≤ 1 → SecOk t x.2) → ∀ a, a ≤ 1 → SecOk t (lay F L a)
  | [], F, hF, _ => hF
  | x :: L, F, hF, hL => lay_sec L (upd F x.1 x.2) (fun a ha => by
      unfold upd
      split
      · next e => exact hL x (List.mem_cons_self ..) (by omega)
      · exact hF a ha) (fun y hy => hL y (List.mem_cons_of_mem _ hy))
theorem SecInv.flushed {t : Nat} {S : Dk} (h : SecInv t S) : SecInv t S.flushed := by
  unfold Dk.flushed
  split
  · exact h
  · exact ⟨h.c, lay_sec S.L S.F h.f h.l, fun x hx => by cases hx⟩
theorem landN_sec {t : Nat} (ht : t ≤ 1000000) (ks : List Bool) (tn : Int) {F : Nat → List UInt8} {L : List (Nat × List UInt8)} (hF : ∀ a, a ≤ 1 → SecOk t (F a)) (hL : ∀ x ∈ L, x.1 ≤ 1 → SecOk t x.2) : ∀ j, j ≤ L.length → ∀ a, a ≤ 1 → SecOk t (landN ks tn F L j a)
  | 0, _ => hF
  | j + 1, hj => fun a ha => by
    have ih := landN_sec ht ks tn hF hL j (by omega)
    rw [landN_succ ks tn F L j hj]
    have h1 := hL _ (List.getElem_mem (show j < L.length by omega))
    unfold land1
    split
    · unfold upd
      split
      · next e => exact (ih _ (by omega)).torn (h1 (by omega)) ht _
      · exact ih a ha
    · exact ih a ha
theorem SecInv.crash {t : Nat} {S : Dk} (h : SecInv t S) (ht : t ≤ 1000000) (ks : List Bool) (tn : Int) : SecInv t (S.crash ks tn) := by
  have hF := landN_sec ht ks tn h.f h.l S.L.length (Nat.le_refl _)
  refine ⟨fun a ha => ?_, hF, fun x hx => by cases hx⟩
  show SecOk t (reread (landN ks tn S.F S.L S.L.length) S.C S.L a)
  by_cases hx : ∃ x ∈ S.L, x.1 = a
  · rw [reread_near _ a S.L S.C hx]
    exact hF a ha
  · rw [reread_far _ _ a S.L (fun x hm e => hx ⟨x, hm, e⟩)]
    exact h.c a ha
theorem SecInv.cutAt {t : Nat} {S : Dk} (h : SecInv t S) (p : Int) : SecInv t (S.cutAt p) := ⟨h.c, h.f, h.l⟩
theorem SecInv.wrow {t : Nat} (a : Nat) (ha : 2 ≤ a) (s : ByteArray) : ∀ (f k : Nat) {S : Dk}, SecInv t S → SecInv t (Dk.wrow a s f k S).2
  | 0, _, _, h => h
  | f + 1, k, S, h => by
    unfold Dk.wrow
    split
    · exact SecInv.wrow a ha s f _ (h.wrote _ _ (.inl (by omega)))
    · exact h.wrote _ _ (.inl (by omega))
theorem SecInv.scrb {t : Nat} (a : Nat) (ha : 2 ≤ a) (all : ByteArray) (used : Nat) : ∀ (f k n : Nat) {S : Dk}, SecInv t S → SecInv t (Dk.scrb a all used f k n S).2.2
  | 0, _, _, _, h => h
  | f + 1, k, n, S, h => by
    unfold Dk.scrb
    split
    · exact SecInv.scrb a ha all used f _ _ h
    · split
      · exact SecInv.scrb a ha all used f _ _ (h.wrote _ _ (.inl (by omega)))
      · exact h.wrote _ _ (.inl (by omega))
theorem SecInv.supw {t : Nat} {S : Dk} (h : SecInv t S) (a u x : Nat) (hu : 1 ≤ u) (hu2 : u ≤ t) (hx : x ≤ 1) : SecInv t (S.supw a u x).2 := by
  have hw := h.wrote (a : Int) (supB u x) (.inr (.inr ⟨u, x, hu, hu2, hx, rfl⟩))
  unfold Dk.supw
  split
  · exact hw.flushed
  · exact hw
theorem hat2 (n h : Nat) : 2 ≤ hat n h := by unfold hat; omega
theorem SecInv.fmt {t : Nat} {S : Dk} (h : SecInv t S) (ht : 1 ≤ t) : SecInv t S.fmt.2 := by
  have hw := h.wrote 1 sNone (.inr (.inl rfl))
  have hs : SecInv t S.fScr.2.2 := SecInv.scrb _ (hat2 _ _) _ _ _ _ _ hw
  unfold Dk.fmt
  split
  · exact hw
  · split
    · exact hs
    · split
      · exact hs.flushed
      · exact hs.flushed.supw 0 1 0 (Nat.le_refl _) ht (by omega)
theorem SecInv.oDk {t : Nat} {S : Dk} (h : SecInv t S) : SecInv t S.oDk := by
  have hs : SecInv t S.oScr.2.2 := SecInv.scrb _ (hat2 _ _) _ _ _ _ _ h
  unfold Dk.oDk
  split
  · exact hs.flushed
  · exact hs
theorem SecInv.ODk {t : Nat} {S : Dk} (h : SecInv t S) : SecInv t S.ODk := by
  unfold Dk.ODk
  split
  · exact h
  · split
    · exact h
    · exact h.oDk
theorem SecOk.sup {t : Nat} {c : List UInt8} (h : SecOk t c) (ht : t ≤ 1000000) : superS ⟨c.toArray⟩ = none ∨ ∃ u x, superS ⟨c.toArray⟩ = some (u, x) ∧ 1 ≤ u ∧ u ≤ t ∧ x ≤ 1 := by
  rcases h with rfl | ⟨u, x, h1, h2, h3, rfl⟩
  · exact .inl superS_zero
  · exact .inr ⟨u, x, superS_fill u x h1 (by omega) h3, h1, h2, h3⟩
theorem bst_inv {t a : Nat} {o : Option (Nat × Nat)} {c : Nat × Nat × Nat} (ha : a ≤ 1) (ho : o = none ∨ ∃ u x, o = some (u, x) ∧ 1 ≤ u ∧ u ≤ t ∧ x ≤ 1) (hc : c.1 ≤ 1 ∧ c.2.1 ≤ t ∧ c.2.2 ≤ 1) : (bst o a c).1 ≤ 1 ∧ (bst o a c).2.1 ≤ t ∧ (bst o a c).2.2 ≤ 1 := by
  rcases ho with rfl | ⟨u, x, rfl, h1, h2, h3⟩
  · exact hc
  · rw [bst_some]
    split
    · exact ⟨ha, h2, h3⟩
    · exact hc
theorem SecInv.count {t : Nat} {S : Dk} (h : SecInv t S) (ht : t ≤ 1000000) : (countV S).1 ≤ 1 ∧ (countV S).2.1 ≤ t ∧ (countV S).2.2 ≤ 1 :=
  bst_inv (a := 1) (Nat.le_refl 1) ((h.c 1 (Nat.le_refl 1)).sup ht) (bst_inv (a := 0) (Nat.zero_le 1) ((h.c 0 (Nat.zero_le 1)).sup ht) ⟨Nat.zero_le 1, Nat.zero_le _, Nat.zero_le 1⟩)
/-- How the reference tells which superblock counts. -/
theorem count_ref (S : Dk) : countV S = if ((superS (S.read 0)).getD (0, 0)).1 < ((superS (S.read 1)).getD (0, 0)).1 then (1, ((superS (S.read 1)).getD (0, 0)).1, ((superS (S.read 1)).getD (0, 0)).2)
    else (0, if 0 < ((superS (S.read 0)).getD (0, 0)).1 then ((superS (S.read 0)).getD (0, 0)) else (0, 0)) := by
  show bst (superS (S.read 1)) 1 (bst (superS (S.read 0)) 0 (0, 0, 0)) = _
  cases h0 : superS (S.read 0) with
  | none =>
    cases h1 : superS (S.read 1) with
    | none => rfl
    | some y => obtain ⟨u, k⟩ := y; simp only [bst_none, bst_some, Option.getD_none, Option.getD_some]; split <;> simp
  | some x =>
    obtain ⟨t, h⟩ := x
    cases h1 : superS (S.read 1) with
    | none => simp only [bst_none, bst_some, Option.getD_none, Option.getD_some]; split <;> simp
    | some y =>
      obtain ⟨u, k⟩ := y
      simp only [bst_some, Option.getD_some]
      by_cases ht : 0 < t
      · rw [if_pos ht]; simp only [ht, if_true]
      · obtain rfl : t = 0 := by omega
        rw [if_neg ht]; simp
theorem Dk.Ok.flushed {S : Dk} {m : Nat} (h : S.Ok m) : S.flushed.Ok m := by
  unfold Dk.flushed
  split
  · exact h
  · exact ⟨h.n1, h.inv, h.wr, Nat.zero_le _, h.lf⟩
theorem Dk.Ok.wrow (a : Nat) (s : ByteArray) : ∀ (f k : Nat) {S : Dk} {m : Nat}, S.Ok m → (Dk.wrow a s f k S).2.Ok (m + f)
  | 0, _, _, _, h => h
  | f + 1, k, S, m, h => by
    unfold Dk.wrow
    split
    · exact (Dk.Ok.wrow a s f _ (h.wrote _ _)).mono (by omega)
    · exact (h.wrote _ _).mono (by omega)
theorem Dk.Ok.supw {S : Dk} {m : Nat} (h : S.Ok m) (a u x : Nat) : (S.supw a u x).2.Ok (m + 1) := by
  unfold Dk.supw
  split
  · exact (h.wrote _ _).flushed
  · exact h.wrote _ _
theorem Dk.wrote_C {S : Dk} {p : Int} {s : ByteArray} (h : S.werr p s.size = 0) : (S.wrote p s).C = upd S.C p.toNat (fillUp s) := by
  unfold Dk.wrote
  rw [if_pos h]
  rfl
theorem Dk.flushed_C (S : Dk) : S.flushed.C = S.C := by
  unfold Dk.flushed
  split <;> rfl
theorem Dk.wrow_C (a : Nat) (s : ByteArray) : ∀ (f k : Nat) {S : Dk}, (Dk.wrow a s f k S).1 = 0 → ∀ i, (Dk.wrow a s f k S).2.C i = if a + k ≤ i ∧ i < a + k + f then fillUp (chunk s (i - a)) else S.C i
  | 0, k, S, _, i => by
    rw [if_neg (by omega)]; rfl
  | f + 1, k, S, h, i => by
    unfold Dk.wrow at h ⊢
    split
    · next hw =>
      rw [if_pos hw] at h
      rw [Dk.wrow_C a s f (k + 1) h i, Dk.wrote_C hw]
      unfold upd
      by_cases h1 : a + (k + 1) ≤ i ∧ i < a + (k + 1) + f
      · rw [if_pos h1, if_pos (by omega)]
      · rw [if_neg h1]
        by_cases h2 : i = ((a + k : Nat) : Int).toNat
        · rw [if_pos h2, if_pos (by omega), show i - a = k by omega]
        · rw [if_neg h2, if_neg (by omega)]
    · next hw => rw [if_neg hw] at h; exact absurd h hw
theorem Dk.wrow_live (a : Nat) (s : ByteArray) : ∀ (f k : Nat) {S : Dk}, S.dead = false → (Dk.wrow a s f k S).1 = 0 → (Dk.wrow a s f k S).2.dead = false
  | 0, _, _, h, _ => h
  | f + 1, k, S, h, h0 => by
    unfold Dk.wrow at h0 ⊢
    split
    · next hw =>
      rw [if_pos hw] at h0
      exact Dk.wrow_live a s f (k + 1) (Dk.wrote_dead hw) h0
    · next hw => rw [if_neg hw] at h0; exact absurd h0 hw
theorem Dk.flushed_dead (S : Dk) : S.flushed.dead = S.dead := by
  unfold Dk.flushed
  split <;> rfl
end Go.Proofs.YtggnljfcdohkaaaGreatDoor
/- JournalPlays: what a journal has in hand of its last sector; its steps, dead or alive. Plain mathematics. -/
namespace Go.Proofs.YtggnljfcdohkaaaGreatDoor
open Go.RowKit

/-- The tail is what the last sector begins with. -/
def TailOk (S : Dk) (J : Jn) : Prop := (S.C (hat S.n J.half + J.used / 64)).take (J.used % 64) = J.tail.data.toList
theorem fillUp_take (s : ByteArray) : (fillUp s).take s.size = s.data.toList := by
  have hl : s.data.toList.length = s.size := rfl
  unfold fillUp
  rw [List.take_append_of_le_length (by omega), List.take_of_length_le (by omega)]
theorem chunk_last (R : ByteArray) (_h : R.size % 64 ≠ 0) : chunk R (R.size / 64) = tailS R := by
  unfold chunk tailS
  congr 1 <;> omega
theorem tailS_none (R : ByteArray) (h : R.size % 64 = 0) : (tailS R).data.toList = [] := by
  apply List.eq_nil_of_length_eq_zero
  have := tailS_size R
  rw [← ba_size]; omega
theorem sec_take (L : List UInt8) (x r : Nat) (hr : r ≤ 64) : ((L.take (x + 64)).drop x).take r = (L.take (x + r)).drop x := by
  rw [List.drop_take, List.drop_take, List.take_take, show min r (x + 64 - x) = x + r - x by omega]
theorem tail_row {S : Dk} {a : Nat} {R : ByteArray} (h : (Dk.wrow a R (nch R) 0 S).1 = 0) : ((Dk.wrow a R (nch R) 0 S).2.C (a + R.size / 64)).take (R.size % 64) = (tailS R).data.toList := by
  by_cases hz : R.size % 64 = 0
  · rw [hz, tailS_none R hz, List.take_zero]
  · rw [Dk.wrow_C a R (nch R) 0 h, if_pos ⟨by omega, by unfold nch; omega⟩, show a + R.size / 64 - a = R.size / 64 by omega, chunk_last R hz]
    have := fillUp_take (tailS R)
    rwa [tailS_size] at this
theorem tail_add {S : Dk} {J : Jn} {r : ByteArray} (hJ : J.Ok S.n) (h0 : (addWr S J r).1 = 0) : TailOk (addWr S J r).2 (addJ J r) := by
  have hR : (addRow J r).size = J.used % 64 + (addW J r).size := by unfold addRow; rw [ByteArray.size_append, hJ.tl]
  have h := tail_row h0
  unfold TailOk
  have hn : (addWr S J r).2.n = S.n := Dk.wrow_n _ _ _ _ _
  rw [hn]
  show ((addWr S J r).2.C (hat S.n J.half + (J.used + (addW J r).size) / 64)).take ((J.used + (addW J r).size) % 64) = (tailS (addRow J r)).data.toList
  rw [show hat S.n J.half + (J.used + (addW J r).size) / 64 = hat S.n J.half + J.used / 64 + (addRow J r).size / 64 by omega, show (J.used + (addW J r).size) % 64 = (addRow J r).size % 64 by omega]
  exact h
theorem supw_parts {S : Dk} {a t h : Nat} (h0 : (S.supw a t h).1 = 0) : S.werr (a : Int) (supB t h).size = 0 ∧ (S.supw a t h).2 = (S.wrote (a : Int) (supB t h)).flushed := by
  unfold Dk.supw at h0 ⊢
  split
  · next hw => exact ⟨hw, rfl⟩
  · next hw => rw [if_neg hw] at h0; exact absurd h0 hw
theorem cErr_parts {S : Dk} {J : Jn} {sx : Nat → ByteArray} {n : Nat} (h : cErr S J sx n = 0) : (cW1 S J sx n).1 = 0 ∧ (cW1 S J sx n).2.ferr = 0 ∧ (cW3 S J sx n).1 = 0 ∧ cDk S J sx n = (cW3 S J sx n).2 := by
  unfold cErr at h
  by_cases h1 : (cW1 S J sx n).1 = 0
  · rw [if_neg (by simpa using h1)] at h
    by_cases h2 : (cW1 S J sx n).2.ferr = 0
    · rw [if_neg (by simpa using h2)] at h
      refine ⟨h1, h2, h, ?_⟩
      unfold cDk
      rw [if_neg (by simpa using h1), if_neg (by simpa using h2)]
    · rw [if_pos h2] at h; exact absurd h h2
  · rw [if_pos h1] at h; exact absurd h h1
theorem tail_cmp {S : Dk} {J : Jn} {sx : Nat → ByteArray} {n : Nat} (hfit : (cRow J sx n).size ≤ hl S.n * 64) (h : cErr S J sx n = 0) : TailOk (cDk S J sx n) (cJn J sx n) ∧ (cDk S J sx n).dead = false := by
  obtain ⟨h1, h2, h3, h4⟩ := cErr_parts h
  obtain ⟨h5, h6⟩ := supw_parts (S := (cW1 S J sx n).2.flushed) h3
  have hD : (cDk S J sx n).dead = false := by
    rw [h4]
    show (cW3 S J sx n).2.dead = false
    unfold cW3
    rw [h6, Dk.flushed_dead]
    exact Dk.wrote_dead h5
  refine ⟨?_, hD⟩
  have hC : (cDk S J sx n).C = upd (cW1 S J sx n).2.C (1 - J.at_) (fillUp (supB (J.turn + 1) (1 - J.half))) := by
    rw [h4]
    show (cW3 S J sx n).2.C = _
    unfold cW3
    rw [h6, Dk.flushed_C, Dk.wrote_C h5, Dk.flushed_C]
    rfl
  have hN : (cDk S J sx n).n = S.n := by
    rw [h4]
    unfold cW3
    rw [Dk.supw_n, Dk.flushed_n]
    exact Dk.wrow_n _ _ _ _ _
  have hu : (cJn J sx n).used = (cRow J sx n).size := rfl
  have hh : (cJn J sx n).half = 1 - J.half := rfl
  have ht : (cJn J sx n).tail = tailS (cRow J sx n) := rfl
  unfold TailOk
  rw [hN, hC, hu, hh, ht]
  have h2' := hat2 S.n (1 - J.half)
  obtain ⟨u, hu'⟩ : ∃ u, u = (cRow J sx n).size := ⟨_, rfl⟩
  obtain ⟨L, hL⟩ : ∃ L, L = (cRow J sx n).data.toList := ⟨_, rfl⟩
  have hLl : L.length = u := by rw [hL, hu']; rfl
  rw [← hu']
  by_cases hz : u % 64 = 0
  · rw [hz, List.take_zero, tailS_none _ (by rw [← hu']; exact hz)]
  · have hlt : u / 64 < hl S.n := by omega
    have hsz : (cAll S J sx n).size = hl S.n * 64 := by unfold cAll; rw [ByteArray.size_append, zeros_size]; omega
    have hnc : nch (cAll S J sx n) = hl S.n := by unfold nch; omega
    unfold upd
    rw [if_neg (by omega)]
    unfold cW1 at h1 ⊢
    rw [Dk.wrow_C _ _ _ _ h1, if_pos ⟨by omega, by omega⟩, show hat S.n (1 - J.half) + u / 64 - hat S.n (1 - J.half) = u / 64 by omega]
    have hcs : (chunk (cAll S J sx n) (u / 64)).size = 64 := by unfold chunk; rw [ByteArray.size_extract]; omega
    have hcl : (chunk (cAll S J sx n) (u / 64)).data.toList = ((L ++ List.replicate (hl S.n * 64 - u) 0).take (64 * (u / 64) + 64)).drop (64 * (u / 64)) := by
      unfold chunk
      rw [extract_list, show min (64 * (u / 64) + 64) (cAll S J sx n).size = 64 * (u / 64) + 64 by omega]
      unfold cAll
      rw [ba_app, zeros_list, ← hL, ← hu']
    unfold fillUp
    rw [hcs, Nat.sub_self, List.replicate_zero, List.append_nil, hcl, sec_take _ _ _ (by omega), List.take_append_of_le_length (by omega), List.take_of_length_le (by omega)]
    unfold tailS
    rw [extract_list, ← hL, ← hu', List.take_of_length_le (by omega), show u - u % 64 = 64 * (u / 64) by omega]
theorem scrb_fine (a : Nat) (all : ByteArray) (used : Nat) : ∀ (f k n : Nat) {S : Dk} {m : Nat}, S.Fine m → a + k + f ≤ S.n → used / 64 ≤ k →
    (Dk.scrb a all used f k n S).2.1 = 0 ∧ (Dk.scrb a all used f k n S).2.2.Fine (m + f) ∧
      ∀ i, (Dk.scrb a all used f k n S).2.2.C i = if a + k ≤ i ∧ i < a + k + f ∧ isZ (restS all used (i - a)) = false then fillUp (keptS all used (i - a)) else S.C i
  | 0, k, n, S, m, h, _, _ => ⟨rfl, h, fun i => by rw [if_neg (by omega)]; rfl⟩
  | f + 1, k, n, S, m, h, hn, hk => by
    have hks : (keptS all used k).size ≤ 64 := by unfold keptS; rw [ByteArray.size_extract]; omega
    cases hz : isZ (restS all used k)
    · have hw := h.wrote (a + k) (by omega) (keptS all used k) hks
      rw [scrb_put hz (h.werr (a + k) (by omega) _ hks)]
      obtain ⟨h1, h2, h3⟩ := scrb_fine a all used f (k + 1) (n + 1) hw.1 (by rw [hw.2.2.2]; omega) (by omega)
      refine ⟨h1, h2.mono (by omega), fun i => ?_⟩
      rw [h3 i, hw.2.1]
      unfold upd
      by_cases e1 : a + (k + 1) ≤ i ∧ i < a + (k + 1) + f ∧ isZ (restS all used (i - a)) = false
      · rw [if_pos e1, if_pos ⟨by omega, by omega, e1.2.2⟩]
      · rw [if_neg e1]
        by_cases e2 : i = a + k
        · rw [if_pos e2, if_pos ⟨by omega, by omega, by rw [e2, Nat.add_sub_cancel_left]; exact hz⟩, e2, Nat.add_sub_cancel_left]
        · rw [if_neg e2, if_neg (fun e3 => e1 ⟨by omega, by omega, e3.2.2⟩)]
    · rw [scrb_skip hz]
      obtain ⟨h1, h2, h3⟩ := scrb_fine a all used f (k + 1) n h (by omega) (by omega)
      refine ⟨h1, h2.mono (by omega), fun i => ?_⟩
      rw [h3 i]
      by_cases e1 : a + (k + 1) ≤ i ∧ i < a + (k + 1) + f ∧ isZ (restS all used (i - a)) = false
      · rw [if_pos e1, if_pos ⟨by omega, by omega, e1.2.2⟩]
      · rw [if_neg e1, if_neg]
        intro e3
        refine e1 ⟨?_, by omega, e3.2.2⟩
        rcases (show i = a + k ∨ a + (k + 1) ≤ i by omega) with e4 | e4
        · rw [e4, Nat.add_sub_cancel_left, hz] at e3; exact absurd e3.2.2 (by decide)
        · exact e4
theorem Dk.Fine.half_size {S : Dk} {m : Nat} (h : S.Fine m) (x : Nat) (hx : x ≤ 1) : (S.half x).size = 64 * hl S.n := by
  have := hat_le2 S.n x h.n4 hx
  unfold Dk.half
  rw [ba_size, ba_list, Dk.span_len S _ _ (fun i hi => h.ln _ (by omega))]
/-- Opened, once a superblock counts. -/
structure OInv (S : Dk) (m t : Nat) : Prop where
  err : S.OErr = 0
  fine : S.ODk.Fine (m + 1000)
  jok : S.oJn.Ok S.n
  jt : S.oJn.turn ≤ t
  jc : S.oJn.count ≤ 16000
  tail : TailOk S.ODk S.oJn
theorem open_inv {S : Dk} {m t : Nat} (h : S.Fine m) (hs : SecInv t S) (ht : t ≤ 1000000) (hc : 0 < (countV S).2.1) : OInv S m t := by
  have hcv := hs.count ht
  obtain ⟨x, hx⟩ : ∃ x, x = (countV S).2.2 := ⟨_, rfl⟩
  have hx1 : x ≤ 1 := by omega
  have hh := hat_le2 S.n x h.n4 hx1
  have hal : S.oAll.size = 64 * hl S.n := by unfold Dk.oAll; rw [← hx]; exact h.half_size x hx1
  have hus := unL_size S.oAll.size ((countV S).2.1 * 1000000) 0 S.oAll (Nat.le_refl _)
  have hun : unL ((countV S).2.1 * 1000000) 0 S.oAll = S.oUn := rfl
  rw [hun] at hus
  obtain ⟨u, hu⟩ : ∃ u, u = S.oUsed := ⟨_, rfl⟩
  have hu9 : u = S.oAll.size - S.oUn.2.size := hu
  have hn2 := h.n2
  have hz9 : hl S.n ≤ 1000 := by unfold hl; omega
  have hu1 : u / 64 ≤ hl S.n := by omega
  have hsf := scrb_fine (hat S.n x) S.oAll u (hl S.n - u / 64) (u / 64) 0 h (by omega) (Nat.le_refl _)
  have hsc : S.oScr = Dk.scrb (hat S.n x) S.oAll u (hl S.n - u / 64) (u / 64) 0 S := by unfold Dk.oScr; rw [← hx, ← hu]
  rw [← hsc] at hsf
  obtain ⟨f1, f2, f3⟩ := hsf
  have hsn : S.oScr.2.2.n = S.n := Dk.scrb_n _ _ _ _ _ _ _
  have ff := f2.flushed
  have hoE : S.oErr = 0 := by
    unfold Dk.oErr
    rw [if_neg (by simpa using f1)]
    split
    · exact ff.1
    · rfl
  have hE : S.OErr = 0 := by unfold Dk.OErr; rw [h.dead, if_neg (by simp), if_neg (by omega)]; exact hoE
  have hD : S.ODk = S.oDk := by unfold Dk.ODk; rw [h.dead, if_neg (by simp), if_neg (by omega)]
  have hFi : S.oDk.Fine (m + 1000) := by
    unfold Dk.oDk
    split
    · exact ff.2.1.mono (by omega)
    · exact f2.mono (by omega)
  have hC : S.oDk.C = S.oScr.2.2.C := by
    unfold Dk.oDk
    split
    · exact Dk.flushed_C _
    · rfl
  have hrow : (S.oAll.extract 0 S.oUsed).size = u := by rw [ByteArray.size_extract, ← hu]; omega
  have hus2 : S.oJn.used = u := hrow
  have hha : S.oJn.half = x := hx.symm
  have htl : S.oJn.tail = tailS (S.oAll.extract 0 S.oUsed) := rfl
  have hct : S.oJn.count = S.oUn.1.length := rfl
  refine ⟨hE, by rw [hD]; exact hFi, ⟨hcv.1, hc, Nat.le_trans hcv.2.1 ht, by rw [hha]; exact hx1, by rw [hct]; omega, by rw [hus2]; omega, by rw [htl, hus2, tailS_size, hrow]⟩, hcv.2.1, by rw [hct]; omega, ?_⟩
  unfold TailOk
  rw [hD, hC, S.oDk_n, hus2, hha, htl]
  by_cases hz : u % 64 = 0
  · rw [hz, List.take_zero, tailS_none _ (by rw [hrow]; exact hz)]
  have hlt : u / 64 < hl S.n := by omega
  have hT : (tailS (S.oAll.extract 0 S.oUsed)).data.toList = (S.oAll.data.toList.take u).drop (64 * (u / 64)) := by
    unfold tailS
    rw [extract_list, extract_list, hrow, ← hu, List.drop_zero, List.take_take, Nat.min_self, show u - u % 64 = 64 * (u / 64) by omega]
  rw [hT, f3]
  by_cases hq : isZ (restS S.oAll u (hat S.n x + u / 64 - hat S.n x)) = false
  · rw [if_pos ⟨by omega, by omega, hq⟩, Nat.add_sub_cancel_left]
    have hk : keptS S.oAll u (u / 64) = S.oAll.extract (64 * (u / 64)) u := by unfold keptS; rw [Nat.max_eq_left (by omega)]
    have hks : (keptS S.oAll u (u / 64)).size = u % 64 := by rw [hk, ByteArray.size_extract]; omega
    have := fillUp_take (keptS S.oAll u (u / 64))
    rw [hks] at this
    rw [this, hk, extract_list]
  · rw [if_neg (fun e => hq e.2.2)]
    have hsec := Dk.span_sec S (hat S.n x) (hl S.n) (fun i hi => h.ln _ (by omega)) (u / 64) hlt
    have hall : S.oAll.data.toList = S.span (hat S.n x) (hl S.n) := by unfold Dk.oAll Dk.half; rw [← hx, ba_list]
    rw [hall, ← hsec, sec_take _ _ _ (by omega), show 64 * (u / 64) + u % 64 = u by omega]
theorem open_none {S : Dk} {m : Nat} (h : S.Fine m) (hc : (countV S).2.1 = 0) : S.OErr = 10 ∧ S.ODk = S := by
  unfold Dk.OErr Dk.ODk
  rw [h.dead]
  simp [hc]
end Go.Proofs.YtggnljfcdohkaaaGreatDoor
