/- JournalPlays: what a disk's first two sectors may hold, whatever crashes keep. Plain mathematics. -/
import Derived.Test.YtggnljfcdohkaaaGreatDoorJnX
import Derived.Test.YtggnljfcdohkaaaGreatDoorJnK
import Derived.Test.YtggnljfcdohkaaaGreatDoorRjf
import Derived.Deep.RegionHeld3
import Derived.Deep.CutBlock
import Derived.Deep.Cut
import Derived.BigRegion
import Derived.Deep.QuietTactic
import Derived.BigQuiet
namespace Go.Proofs.YtggnljfcdohkaaaGreatDoor
open Go.RowKit

/-- A sector of a superblock: nothing, or one of a turn that has come. -/
def SecOk (t : Nat) (c : List UInt8) : Prop := c = List.replicate 64 0 ∨ ∃ u h, 1 ≤ u ∧ u ≤ t ∧ h ≤ 1 ∧ c = fillUp (supB u h)
theorem SecOk.mono {t u : Nat} {c : List UInt8} (h : SecOk t c) (hu : t ≤ u) : SecOk u c := by
  rcases h with h | ⟨a, b, h1, h2, h3, h4⟩
  · exact .inl h
  · exact .inr ⟨a, b, h1, by omega, h3, h4⟩
theorem supB_size32 (t h : Nat) (ht : t ≤ 1000000) (hh : h ≤ 1) : (supB t h).size ≤ 32 := by
  have h1 : (numS t).size ≤ 3 := by rw [numS_size]; exact numL_len 2 t (by show t < 2097152; omega)
  have h0 : (numS h).size ≤ 1 := by rw [numS_size]; exact numL_len 0 h (by show h < 128; omega)
  have h2 : (numS t ++ numS h).size = (numS t).size + (numS h).size := ByteArray.size_append
  have h3 : (numS (numS t ++ numS h).size).size ≤ 1 := by
    rw [numS_size]
    exact numL_len 0 _ (by rw [h2]; show _ < 128; omega)
  have h4 : (wrapS t (numS h)).size = (textS (numS t ++ numS h)).size + 4 := by unfold wrapS; exact ByteArray.size_append
  have h5 : (textS (numS t ++ numS h)).size = (numS (numS t ++ numS h).size).size + (numS t ++ numS h).size := ByteArray.size_append
  unfold supB
  omega
theorem SecOk.low {t : Nat} {c : List UInt8} (h : SecOk t c) (ht : t ≤ 1000000) : c.drop 32 = List.replicate 32 0 := by
  rcases h with rfl | ⟨u, x, h1, h2, h3, rfl⟩
  · rfl
  · have hs := supB_size32 u x (by omega) h3
    have hl : (supB u x).data.toList.length = (supB u x).size := rfl
    unfold fillUp
    rw [List.drop_append, List.drop_eq_nil_of_le (by rw [hl]; exact hs), List.nil_append, List.drop_replicate, hl]
    congr 1
    omega
theorem SecOk.torn {t : Nat} {c d : List UInt8} (h : SecOk t c) (k : SecOk t d) (ht : t ≤ 1000000) (b : Bool) : SecOk t (torn c d b) := by
  unfold Go.Proofs.YtggnljfcdohkaaaGreatDoor.torn
  split
  · rw [h.low ht, ← k.low ht, List.take_append_drop]
    exact k
  · exact k
structure SecInv (t : Nat) (S : Dk) : Prop where
  c : ∀ a, a ≤ 1 → SecOk t (S.C a)
  f : ∀ a, a ≤ 1 → SecOk t (S.F a)
  l : ∀ x ∈ S.L, x.1 ≤ 1 → SecOk t x.2
theorem SecInv.mono {t u : Nat} {S : Dk} (h : SecInv t S) (hu : t ≤ u) : SecInv u S := ⟨fun a ha => (h.c a ha).mono hu, fun a ha => (h.f a ha).mono hu, fun x hx h1 => (h.l x hx h1).mono hu⟩
theorem SecInv.new (t n : Nat) : SecInv t (Dk.new n) := ⟨fun _ _ => .inl rfl, fun _ _ => .inl rfl, fun x hx => by cases hx⟩
theorem SecInv.wrote {t : Nat} {S : Dk} (h : SecInv t S) (p : Int) (s : ByteArray) (hs : 2 ≤ p ∨ SecOk t (fillUp s)) : SecInv t (S.wrote p s) := by
  unfold Dk.wrote
  split
  · refine ⟨fun a ha => ?_, h.f, fun x hx h1 => ?_⟩
    · show SecOk t (upd S.C p.toNat (fillUp s) a)
      unfold upd
      split
      · next e =>
        rcases hs with hs | hs
        · omega
        · exact hs
      · exact h.c a ha
    · rcases List.mem_append.1 (show x ∈ S.L ++ [(p.toNat, fillUp s)] from hx) with hx | hx
      · exact h.l x hx h1
      · rw [List.mem_singleton] at hx
        subst hx
        rcases hs with hs | hs
        · have h1' : p.toNat ≤ 1 := h1
          omega
        · exact hs
  · exact ⟨h.c, h.f, h.l⟩
theorem lay_sec {t : Nat} : ∀ (L : List (Nat × List UInt8)) (F : Nat → List UInt8), (∀ a, a ≤ 1 → SecOk t (F a)) → (∀ x ∈ L, x.1 ≤ 1 → SecOk t x.2) → ∀ a, a ≤ 1 → SecOk t (lay F L a)
  | [], F, hF, _ => hF
  | x :: L, F, hF, hL => lay_sec L (upd F x.1 x.2) (fun a ha => by
      unfold upd
      split
      · next e => exact hL x (List.mem_cons_self ..) (by omega)
      · exact hF a ha) (fun y hy => hL y (List.mem_cons_of_mem _ hy))
theorem SecInv.flushed {t : Nat} {S : Dk} (h : SecInv t S) : SecInv t S.flushed := by
  unfold Dk.flushed
  split
  · exact h
  · exact ⟨h.c, lay_sec S.L S.F h.f h.l, fun x hx => by cases hx⟩
theorem landN_sec {t : Nat} (ht : t ≤ 1000000) (ks : List Bool) (tn : Int) {F : Nat → List UInt8} {L : List (Nat × List UInt8)} (hF : ∀ a, a ≤ 1 → SecOk t (F a)) (hL : ∀ x ∈ L, x.1 ≤ 1 → SecOk t x.2) : ∀ j, j ≤ L.length → ∀ a, a ≤ 1 → SecOk t (landN ks tn F L j a)
  | 0, _ => hF
  | j + 1, hj => fun a ha => by
    have ih := landN_sec ht ks tn hF hL j (by omega)
    rw [landN_succ ks tn F L j hj]
    have h1 := hL _ (List.getElem_mem (show j < L.length by omega))
    unfold land1
    split
    · unfold upd
      split
      · next e => exact (ih _ (by omega)).torn (h1 (by omega)) ht _
      · exact ih a ha
    · exact ih a ha
theorem SecInv.crash {t : Nat} {S : Dk} (h : SecInv t S) (ht : t ≤ 1000000) (ks : List Bool) (tn : Int) : SecInv t (S.crash ks tn) := by
  have hF := landN_sec ht ks tn h.f h.l S.L.length (Nat.le_refl _)
  refine ⟨fun a ha => ?_, hF, fun x hx => by cases hx⟩
  show SecOk t (reread (landN ks tn S.F S.L S.L.length) S.C S.L a)
  by_cases hx : ∃ x ∈ S.L, x.1 = a
  · rw [reread_near _ a S.L S.C hx]
    exact hF a ha
  · rw [reread_far _ _ a S.L (fun x hm e => hx ⟨x, hm, e⟩)]
    exact h.c a ha
theorem SecInv.cutAt {t : Nat} {S : Dk} (h : SecInv t S) (p : Int) : SecInv t (S.cutAt p) := ⟨h.c, h.f, h.l⟩
theorem SecInv.wrow {t : Nat} (a : Nat) (ha : 2 ≤ a) (s : ByteArray) : ∀ (f k : Nat) {S : Dk}, SecInv t S → SecInv t (Dk.wrow a s f k S).2
  | 0, _, _, h => h
  | f + 1, k, S, h => by
    unfold Dk.wrow
    split
    · exact SecInv.wrow a ha s f _ (h.wrote _ _ (.inl (by omega)))
    · exact h.wrote _ _ (.inl (by omega))
theorem SecInv.scrb {t : Nat} (a : Nat) (ha : 2 ≤ a) (all : ByteArray) (used : Nat) : ∀ (f k n : Nat) {S : Dk}, SecInv t S → SecInv t (Dk.scrb a all used f k n S).2.2
  | 0, _, _, _, h => h
  | f + 1, k, n, S, h => by
    unfold Dk.scrb
    split
    · exact SecInv.scrb a ha all used f _ _ h
    · split
      · exact SecInv.scrb a ha all used f _ _ (h.wrote _ _ (.inl (by omega)))
      · exact h.wrote _ _ (.inl (by omega))
theorem SecInv.supw {t : Nat} {S : Dk} (h : SecInv t S) (a u x : Nat) (hu : 1 ≤ u) (hu2 : u ≤ t) (hx : x ≤ 1) : SecInv t (S.supw a u x).2 := by
  have hw := h.wrote (a : Int) (supB u x) (.inr (.inr ⟨u, x, hu, hu2, hx, rfl⟩))
  unfold Dk.supw
  split
  · exact hw.flushed
  · exact hw
theorem hat2 (n h : Nat) : 2 ≤ hat n h := by unfold hat; omega
theorem SecInv.fmt {t : Nat} {S : Dk} (h : SecInv t S) (ht : 1 ≤ t) : SecInv t S.fmt.2 := by
  have hw := h.wrote 1 sNone (.inr (.inl rfl))
  have hs : SecInv t S.fScr.2.2 := SecInv.scrb _ (hat2 _ _) _ _ _ _ _ hw
  unfold Dk.fmt
  split
  · exact hw
  · split
    · exact hs
    · split
      · exact hs.flushed
      · exact hs.flushed.supw 0 1 0 (Nat.le_refl _) ht (by omega)
theorem SecInv.oDk {t : Nat} {S : Dk} (h : SecInv t S) : SecInv t S.oDk := by
  have hs : SecInv t S.oScr.2.2 := SecInv.scrb _ (hat2 _ _) _ _ _ _ _ h
  unfold Dk.oDk
  split
  · exact hs.flushed
  · exact hs
theorem SecInv.ODk {t : Nat} {S : Dk} (h : SecInv t S) : SecInv t S.ODk := by
  unfold Dk.ODk
  split
  · exact h
  · split
    · exact h
    · exact h.oDk
theorem SecOk.sup {t : Nat} {c : List UInt8} (h : SecOk t c) (ht : t ≤ 1000000) : superS ⟨c.toArray⟩ = none ∨ ∃ u x, superS ⟨c.toArray⟩ = some (u, x) ∧ 1 ≤ u ∧ u ≤ t ∧ x ≤ 1 := by
  rcases h with rfl | ⟨u, x, h1, h2, h3, rfl⟩
  · exact .inl superS_zero
  · exact .inr ⟨u, x, superS_fill u x h1 (by omega) h3, h1, h2, h3⟩
theorem bst_inv {t a : Nat} {o : Option (Nat × Nat)} {c : Nat × Nat × Nat} (ha : a ≤ 1) (ho : o = none ∨ ∃ u x, o = some (u, x) ∧ 1 ≤ u ∧ u ≤ t ∧ x ≤ 1) (hc : c.1 ≤ 1 ∧ c.2.1 ≤ t ∧ c.2.2 ≤ 1) : (bst o a c).1 ≤ 1 ∧ (bst o a c).2.1 ≤ t ∧ (bst o a c).2.2 ≤ 1 := by
  rcases ho with rfl | ⟨u, x, rfl, h1, h2, h3⟩
  · exact hc
  · rw [bst_some]
    split
    · exact ⟨ha, h2, h3⟩
    · exact hc
theorem SecInv.count {t : Nat} {S : Dk} (h : SecInv t S) (ht : t ≤ 1000000) : (countV S).1 ≤ 1 ∧ (countV S).2.1 ≤ t ∧ (countV S).2.2 ≤ 1 :=
  bst_inv (a := 1) (Nat.le_refl 1) ((h.c 1 (Nat.le_refl 1)).sup ht) (bst_inv (a := 0) (Nat.zero_le 1) ((h.c 0 (Nat.zero_le 1)).sup ht) ⟨Nat.zero_le 1, Nat.zero_le _, Nat.zero_le 1⟩)
/-- How the reference tells which superblock counts. -/
theorem count_ref (S : Dk) : countV S = if ((superS (S.read 0)).getD (0, 0)).1 < ((superS (S.read 1)).getD (0, 0)).1 then (1, ((superS (S.read 1)).getD (0, 0)).1, ((superS (S.read 1)).getD (0, 0)).2)
    else (0, if 0 < ((superS (S.read 0)).getD (0, 0)).1 then ((superS (S.read 0)).getD (0, 0)) else (0, 0)) := by
  show bst (superS (S.read 1)) 1 (bst (superS (S.read 0)) 0 (0, 0, 0)) = _
  cases h0 : superS (S.read 0) with
  | none =>
    cases h1 : superS (S.read 1) with
    | none => rfl
    | some y => obtain ⟨u, k⟩ := y; simp only [bst_none, bst_some, Option.getD_none, Option.getD_some]; split <;> simp
  | some x =>
    obtain ⟨t, h⟩ := x
    cases h1 : superS (S.read 1) with
    | none => simp only [bst_none, bst_some, Option.getD_none, Option.getD_some]; split <;> simp
    | some y =>
      obtain ⟨u, k⟩ := y
      simp only [bst_some, Option.getD_some]
      by_cases ht : 0 < t
      · rw [if_pos ht]; simp only [ht, if_true]
      · obtain rfl : t = 0 := by omega
        rw [if_neg ht]; simp
theorem Dk.Ok.flushed {S : Dk} {m : Nat} (h : S.Ok m) : S.flushed.Ok m := by
  unfold Dk.flushed
  split
  · exact h
  · exact ⟨h.n1, h.inv, h.wr, Nat.zero_le _, h.lf⟩
theorem Dk.Ok.wrow (a : Nat) (s : ByteArray) : ∀ (f k : Nat) {S : Dk} {m : Nat}, S.Ok m → (Dk.wrow a s f k S).2.Ok (m + f)
  | 0, _, _, _, h => h
  | f + 1, k, S, m, h => by
    unfold Dk.wrow
    split
    · exact (Dk.Ok.wrow a s f _ (h.wrote _ _)).mono (by omega)
    · exact (h.wrote _ _).mono (by omega)
theorem Dk.Ok.supw {S : Dk} {m : Nat} (h : S.Ok m) (a u x : Nat) : (S.supw a u x).2.Ok (m + 1) := by
  unfold Dk.supw
  split
  · exact (h.wrote _ _).flushed
  · exact h.wrote _ _
theorem Dk.wrote_C {S : Dk} {p : Int} {s : ByteArray} (h : S.werr p s.size = 0) : (S.wrote p s).C = upd S.C p.toNat (fillUp s) := by
  unfold Dk.wrote
  rw [if_pos h]
  rfl
theorem Dk.flushed_C (S : Dk) : S.flushed.C = S.C := by
  unfold Dk.flushed
  split <;> rfl
theorem Dk.wrow_C (a : Nat) (s : ByteArray) : ∀ (f k : Nat) {S : Dk}, (Dk.wrow a s f k S).1 = 0 → ∀ i, (Dk.wrow a s f k S).2.C i = if a + k ≤ i ∧ i < a + k + f then fillUp (chunk s (i - a)) else S.C i
  | 0, k, S, _, i => by
    rw [if_neg (by omega)]; rfl
  | f + 1, k, S, h, i => by
    unfold Dk.wrow at h ⊢
    split
    · next hw =>
      rw [if_pos hw] at h
      rw [Dk.wrow_C a s f (k + 1) h i, Dk.wrote_C hw]
      unfold upd
      by_cases h1 : a + (k + 1) ≤ i ∧ i < a + (k + 1) + f
      · rw [if_pos h1, if_pos (by omega)]
      · rw [if_neg h1]
        by_cases h2 : i = ((a + k : Nat) : Int).toNat
        · rw [if_pos h2, if_pos (by omega), show i - a = k by omega]
        · rw [if_neg h2, if_neg (by omega)]
    · next hw => rw [if_neg hw] at h; exact absurd h hw
theorem Dk.wrow_live (a : Nat) (s : ByteArray) : ∀ (f k : Nat) {S : Dk}, S.dead = false → (Dk.wrow a s f k S).1 = 0 → (Dk.wrow a s f k S).2.dead = false
  | 0, _, _, h, _ => h
  | f + 1, k, S, h, h0 => by
    unfold Dk.wrow at h0 ⊢
    split
    · next hw =>
      rw [if_pos hw] at h0
      exact Dk.wrow_live a s f (k + 1) (Dk.wrote_dead hw) h0
    · next hw => rw [if_neg hw] at h0; exact absurd h0 hw
theorem Dk.flushed_dead (S : Dk) : S.flushed.dead = S.dead := by
  unfold Dk.flushed
  split <;> rfl
end Go.Proofs.YtggnljfcdohkaaaGreatDoor
/- JournalPlays: what a journal has in hand of its last sector; its steps, dead or alive. Plain mathematics. -/
namespace Go.Proofs.YtggnljfcdohkaaaGreatDoor
open Go.RowKit

/-- The tail is what the last sector begins with. -/
def TailOk (S : Dk) (J : Jn) : Prop := (S.C (hat S.n J.half + J.used / 64)).take (J.used % 64) = J.tail.data.toList
theorem fillUp_take (s : ByteArray) : (fillUp s).take s.size = s.data.toList := by
  have hl : s.data.toList.length = s.size := rfl
  unfold fillUp
  rw [List.take_append_of_le_length (by omega), List.take_of_length_le (by omega)]
theorem chunk_last (R : ByteArray) (_h : R.size % 64 ≠ 0) : chunk R (R.size / 64) = tailS R := by
  unfold chunk tailS
  congr 1 <;> omega
theorem tailS_none (R : ByteArray) (h : R.size % 64 = 0) : (tailS R).data.toList = [] := by
  apply List.eq_nil_of_length_eq_zero
  have := tailS_size R
  rw [← ba_size]; omega
theorem sec_take (L : List UInt8) (x r : Nat) (hr : r ≤ 64) : ((L.take (x + 64)).drop x).take r = (L.take (x + r)).drop x := by
  rw [List.drop_take, List.drop_take, List.take_take, show min r (x + 64 - x) = x + r - x by omega]
theorem tail_row {S : Dk} {a : Nat} {R : ByteArray} (h : (Dk.wrow a R (nch R) 0 S).1 = 0) : ((Dk.wrow a R (nch R) 0 S).2.C (a + R.size / 64)).take (R.size % 64) = (tailS R).data.toList := by
  by_cases hz : R.size % 64 = 0
  · rw [hz, tailS_none R hz, List.take_zero]
  · rw [Dk.wrow_C a R (nch R) 0 h, if_pos ⟨by omega, by unfold nch; omega⟩, show a + R.size / 64 - a = R.size / 64 by omega, chunk_last R hz]
    have := fillUp_take (tailS R)
    rwa [tailS_size] at this
theorem tail_add {S : Dk} {J : Jn} {r : ByteArray} (hJ : J.Ok S.n) (h0 : (addWr S J r).1 = 0) : TailOk (addWr S J r).2 (addJ J r) := by
  have hR : (addRow J r).size = J.used % 64 + (addW J r).size := by unfold addRow; rw [ByteArray.size_append, hJ.tl]
  have h := tail_row h0
  unfold TailOk
  have hn : (addWr S J r).2.n = S.n := Dk.wrow_n _ _ _ _ _
  rw [hn]
  show ((addWr S J r).2.C (hat S.n J.half + (J.used + (addW J r).size) / 64)).take ((J.used + (addW J r).size) % 64) = (tailS (addRow J r)).data.toList
  rw [show hat S.n J.half + (J.used + (addW J r).size) / 64 = hat S.n J.half + J.used / 64 + (addRow J r).size / 64 by omega, show (J.used + (addW J r).size) % 64 = (addRow J r).size % 64 by omega]
  exact h
theorem supw_parts {S : Dk} {a t h : Nat} (h0 : (S.supw a t h).1 = 0) : S.werr (a : Int) (supB t h).size = 0 ∧ (S.supw a t h).2 = (S.wrote (a : Int) (supB t h)).flushed := by
  unfold Dk.supw at h0 ⊢
  split
  · next hw => exact ⟨hw, rfl⟩
  · next hw => rw [if_neg hw] at h0; exact absurd h0 hw
theorem cErr_parts {S : Dk} {J : Jn} {sx : Nat → ByteArray} {n : Nat} (h : cErr S J sx n = 0) : (cW1 S J sx n).1 = 0 ∧ (cW1 S J sx n).2.ferr = 0 ∧ (cW3 S J sx n).1 = 0 ∧ cDk S J sx n = (cW3 S J sx n).2 := by
  unfold cErr at h
  by_cases h1 : (cW1 S J sx n).1 = 0
  · rw [if_neg (by simpa using h1)] at h
    by_cases h2 : (cW1 S J sx n).2.ferr = 0
    · rw [if_neg (by simpa using h2)] at h
      refine ⟨h1, h2, h, ?_⟩
      unfold cDk
      rw [if_neg (by simpa using h1), if_neg (by simpa using h2)]
    · rw [if_pos h2] at h; exact absurd h h2
  · rw [if_pos h1] at h; exact absurd h h1
theorem tail_cmp {S : Dk} {J : Jn} {sx : Nat → ByteArray} {n : Nat} (hfit : (cRow J sx n).size ≤ hl S.n * 64) (h : cErr S J sx n = 0) : TailOk (cDk S J sx n) (cJn J sx n) ∧ (cDk S J sx n).dead = false := by
  obtain ⟨h1, h2, h3, h4⟩ := cErr_parts h
  obtain ⟨h5, h6⟩ := supw_parts (S := (cW1 S J sx n).2.flushed) h3
  have hD : (cDk S J sx n).dead = false := by
    rw [h4]
    show (cW3 S J sx n).2.dead = false
    unfold cW3
    rw [h6, Dk.flushed_dead]
    exact Dk.wrote_dead h5
  refine ⟨?_, hD⟩
  have hC : (cDk S J sx n).C = upd (cW1 S J sx n).2.C (1 - J.at_) (fillUp (supB (J.turn + 1) (1 - J.half))) := by
    rw [h4]
    show (cW3 S J sx n).2.C = _
    unfold cW3
    rw [h6, Dk.flushed_C, Dk.wrote_C h5, Dk.flushed_C]
    rfl
  have hN : (cDk S J sx n).n = S.n := by
    rw [h4]
    unfold cW3
    rw [Dk.supw_n, Dk.flushed_n]
    exact Dk.wrow_n _ _ _ _ _
  have hu : (cJn J sx n).used = (cRow J sx n).size := rfl
  have hh : (cJn J sx n).half = 1 - J.half := rfl
  have ht : (cJn J sx n).tail = tailS (cRow J sx n) := rfl
  unfold TailOk
  rw [hN, hC, hu, hh, ht]
  have h2' := hat2 S.n (1 - J.half)
  obtain ⟨u, hu'⟩ : ∃ u, u = (cRow J sx n).size := ⟨_, rfl⟩
  obtain ⟨L, hL⟩ : ∃ L, L = (cRow J sx n).data.toList := ⟨_, rfl⟩
  have hLl : L.length = u := by rw [hL, hu']; rfl
  rw [← hu']
  by_cases hz : u % 64 = 0
  · rw [hz, List.take_zero, tailS_none _ (by rw [← hu']; exact hz)]
  · have hlt : u / 64 < hl S.n := by omega
    have hsz : (cAll S J sx n).size = hl S.n * 64 := by unfold cAll; rw [ByteArray.size_append, zeros_size]; omega
    have hnc : nch (cAll S J sx n) = hl S.n := by unfold nch; omega
    unfold upd
    rw [if_neg (by omega)]
    unfold cW1 at h1 ⊢
    rw [Dk.wrow_C _ _ _ _ h1, if_pos ⟨by omega, by omega⟩, show hat S.n (1 - J.half) + u / 64 - hat S.n (1 - J.half) = u / 64 by omega]
    have hcs : (chunk (cAll S J sx n) (u / 64)).size = 64 := by unfold chunk; rw [ByteArray.size_extract]; omega
    have hcl : (chunk (cAll S J sx n) (u / 64)).data.toList = ((L ++ List.replicate (hl S.n * 64 - u) 0).take (64 * (u / 64) + 64)).drop (64 * (u / 64)) := by
      unfold chunk
      rw [extract_list, show min (64 * (u / 64) + 64) (cAll S J sx n).size = 64 * (u / 64) + 64 by omega]
      unfold cAll
      rw [ba_app, zeros_list, ← hL, ← hu']
    unfold fillUp
    rw [hcs, Nat.sub_self, List.replicate_zero, List.append_nil, hcl, sec_take _ _ _ (by omega), List.take_append_of_le_length (by omega), List.take_of_length_le (by omega)]
    unfold tailS
    rw [extract_list, ← hL, ← hu', List.take_of_length_le (by omega), show u - u % 64 = 64 * (u / 64) by omega]
theorem scrb_fine (a : Nat) (all : ByteArray) (used : Nat) : ∀ (f k n : Nat) {S : Dk} {m : Nat}, S.Fine m → a + k + f ≤ S.n → used / 64 ≤ k →
    (Dk.scrb a all used f k n S).2.1 = 0 ∧ (Dk.scrb a all used f k n S).2.2.Fine (m + f) ∧
      ∀ i, (Dk.scrb a all used f k n S).2.2.C i = if a + k ≤ i ∧ i < a + k + f ∧ isZ (restS all used (i - a)) = false then fillUp (keptS all used (i - a)) else S.C i
  | 0, k, n, S, m, h, _, _ => ⟨rfl, h, fun i => by rw [if_neg (by omega)]; rfl⟩
  | f + 1, k, n, S, m, h, hn, hk => by
    have hks : (keptS all used k).size ≤ 64 := by unfold keptS; rw [ByteArray.size_extract]; omega
    cases hz : isZ (restS all used k)
    · have hw := h.wrote (a + k) (by omega) (keptS all used k) hks
      rw [scrb_put hz (h.werr (a + k) (by omega) _ hks)]
      obtain ⟨h1, h2, h3⟩ := scrb_fine a all used f (k + 1) (n + 1) hw.1 (by rw [hw.2.2.2]; omega) (by omega)
      refine ⟨h1, h2.mono (by omega), fun i => ?_⟩
      rw [h3 i, hw.2.1]
      unfold upd
      by_cases e1 : a + (k + 1) ≤ i ∧ i < a + (k + 1) + f ∧ isZ (restS all used (i - a)) = false
      · rw [if_pos e1, if_pos ⟨by omega, by omega, e1.2.2⟩]
      · rw [if_neg e1]
        by_cases e2 : i = a + k
        · rw [if_pos e2, if_pos ⟨by omega, by omega, by rw [e2, Nat.add_sub_cancel_left]; exact hz⟩, e2, Nat.add_sub_cancel_left]
        · rw [if_neg e2, if_neg (fun e3 => e1 ⟨by omega, by omega, e3.2.2⟩)]
    · rw [scrb_skip hz]
      obtain ⟨h1, h2, h3⟩ := scrb_fine a all used f (k + 1) n h (by omega) (by omega)
      refine ⟨h1, h2.mono (by omega), fun i => ?_⟩
      rw [h3 i]
      by_cases e1 : a + (k + 1) ≤ i ∧ i < a + (k + 1) + f ∧ isZ (restS all used (i - a)) = false
      · rw [if_pos e1, if_pos ⟨by omega, by omega, e1.2.2⟩]
      · rw [if_neg e1, if_neg]
        intro e3
        refine e1 ⟨?_, by omega, e3.2.2⟩
        rcases (show i = a + k ∨ a + (k + 1) ≤ i by omega) with e4 | e4
        · rw [e4, Nat.add_sub_cancel_left, hz] at e3; exact absurd e3.2.2 (by decide)
        · exact e4
theorem Dk.Fine.half_size {S : Dk} {m : Nat} (h : S.Fine m) (x : Nat) (hx : x ≤ 1) : (S.half x).size = 64 * hl S.n := by
  have := hat_le2 S.n x h.n4 hx
  unfold Dk.half
  rw [ba_size, ba_list, Dk.span_len S _ _ (fun i hi => h.ln _ (by omega))]
/-- Opened, once a superblock counts. -/
structure OInv (S : Dk) (m t : Nat) : Prop where
  err : S.OErr = 0
  fine : S.ODk.Fine (m + 1000)
  jok : S.oJn.Ok S.n
  jt : S.oJn.turn ≤ t
  jc : S.oJn.count ≤ 16000
  tail : TailOk S.ODk S.oJn
theorem open_inv {S : Dk} {m t : Nat} (h : S.Fine m) (hs : SecInv t S) (ht : t ≤ 1000000) (hc : 0 < (countV S).2.1) : OInv S m t := by
  have hcv := hs.count ht
  obtain ⟨x, hx⟩ : ∃ x, x = (countV S).2.2 := ⟨_, rfl⟩
  have hx1 : x ≤ 1 := by omega
  have hh := hat_le2 S.n x h.n4 hx1
  have hal : S.oAll.size = 64 * hl S.n := by unfold Dk.oAll; rw [← hx]; exact h.half_size x hx1
  have hus := unL_size S.oAll.size ((countV S).2.1 * 1000000) 0 S.oAll (Nat.le_refl _)
  have hun : unL ((countV S).2.1 * 1000000) 0 S.oAll = S.oUn := rfl
  rw [hun] at hus
  obtain ⟨u, hu⟩ : ∃ u, u = S.oUsed := ⟨_, rfl⟩
  have hu9 : u = S.oAll.size - S.oUn.2.size := hu
  have hn2 := h.n2
  have hz9 : hl S.n ≤ 1000 := by unfold hl; omega
  have hu1 : u / 64 ≤ hl S.n := by omega
  have hsf := scrb_fine (hat S.n x) S.oAll u (hl S.n - u / 64) (u / 64) 0 h (by omega) (Nat.le_refl _)
  have hsc : S.oScr = Dk.scrb (hat S.n x) S.oAll u (hl S.n - u / 64) (u / 64) 0 S := by unfold Dk.oScr; rw [← hx, ← hu]
  rw [← hsc] at hsf
  obtain ⟨f1, f2, f3⟩ := hsf
  have hsn : S.oScr.2.2.n = S.n := Dk.scrb_n _ _ _ _ _ _ _
  have ff := f2.flushed
  have hoE : S.oErr = 0 := by
    unfold Dk.oErr
    rw [if_neg (by simpa using f1)]
    split
    · exact ff.1
    · rfl
  have hE : S.OErr = 0 := by unfold Dk.OErr; rw [h.dead, if_neg (by simp), if_neg (by omega)]; exact hoE
  have hD : S.ODk = S.oDk := by unfold Dk.ODk; rw [h.dead, if_neg (by simp), if_neg (by omega)]
  have hFi : S.oDk.Fine (m + 1000) := by
    unfold Dk.oDk
    split
    · exact ff.2.1.mono (by omega)
    · exact f2.mono (by omega)
  have hC : S.oDk.C = S.oScr.2.2.C := by
    unfold Dk.oDk
    split
    · exact Dk.flushed_C _
    · rfl
  have hrow : (S.oAll.extract 0 S.oUsed).size = u := by rw [ByteArray.size_extract, ← hu]; omega
  have hus2 : S.oJn.used = u := hrow
  have hha : S.oJn.half = x := hx.symm
  have htl : S.oJn.tail = tailS (S.oAll.extract 0 S.oUsed) := rfl
  have hct : S.oJn.count = S.oUn.1.length := rfl
  refine ⟨hE, by rw [hD]; exact hFi, ⟨hcv.1, hc, Nat.le_trans hcv.2.1 ht, by rw [hha]; exact hx1, by rw [hct]; omega, by rw [hus2]; omega, by rw [htl, hus2, tailS_size, hrow]⟩, hcv.2.1, by rw [hct]; omega, ?_⟩
  unfold TailOk
  rw [hD, hC, S.oDk_n, hus2, hha, htl]
  by_cases hz : u % 64 = 0
  · rw [hz, List.take_zero, tailS_none _ (by rw [hrow]; exact hz)]
  have hlt : u / 64 < hl S.n := by omega
  have hT : (tailS (S.oAll.extract 0 S.oUsed)).data.toList = (S.oAll.data.toList.take u).drop (64 * (u / 64)) := by
    unfold tailS
    rw [extract_list, extract_list, hrow, ← hu, List.drop_zero, List.take_take, Nat.min_self, show u - u % 64 = 64 * (u / 64) by omega]
  rw [hT, f3]
  by_cases hq : isZ (restS S.oAll u (hat S.n x + u / 64 - hat S.n x)) = false
  · rw [if_pos ⟨by omega, by omega, hq⟩, Nat.add_sub_cancel_left]
    have hk : keptS S.oAll u (u / 64) = S.oAll.extract (64 * (u / 64)) u := by unfold keptS; rw [Nat.max_eq_left (by omega)]
    have hks : (keptS S.oAll u (u / 64)).size = u % 64 := by rw [hk, ByteArray.size_extract]; omega
    have := fillUp_take (keptS S.oAll u (u / 64))
    rw [hks] at this
    rw [this, hk, extract_list]
  · rw [if_neg (fun e => hq e.2.2)]
    have hsec := Dk.span_sec S (hat S.n x) (hl S.n) (fun i hi => h.ln _ (by omega)) (u / 64) hlt
    have hall : S.oAll.data.toList = S.span (hat S.n x) (hl S.n) := by unfold Dk.oAll Dk.half; rw [← hx, ba_list]
    rw [hall, ← hsec, sec_take _ _ _ (by omega), show 64 * (u / 64) + u % 64 = u by omega]
theorem open_none {S : Dk} {m : Nat} (h : S.Fine m) (hc : (countV S).2.1 = 0) : S.OErr = 10 ∧ S.ODk = S := by
  unfold Dk.OErr Dk.ODk
  rw [h.dead]
  simp [hc]
end Go.Proofs.YtggnljfcdohkaaaGreatDoor
/- Contracts of the reference's journal: OpenJournal. -/
namespace Go.Proofs.YtggnljfcdohkaaaGreatDoor
open Go.RowKit

theorem wrapL {k : Nat} (h : k ≤ 4000000000000000) : IntKind.i64.wrap (k : Int) = k := by rw [IntKind.wrap_i64]; omega
/-- What is behind a record is the end of what it was read from. -/
def Suf (r s : ByteArray) : Prop := ∃ x, r.data.toList = s.data.toList.drop x
theorem Suf.refl (s : ByteArray) : Suf s s := ⟨0, rfl⟩
theorem Suf.trans {a b c : ByteArray} (h : Suf a b) (k : Suf b c) : Suf a c := by
  obtain ⟨x, hx⟩ := h
  obtain ⟨y, hy⟩ := k
  exact ⟨y + x, by rw [hx, hy, List.drop_drop]⟩
theorem suf_ext (s : ByteArray) (u : Nat) : Suf (s.extract u s.size) s := ⟨u, by rw [extract_list, List.take_of_length_le (show s.data.toList.length ≤ s.size from Nat.le_refl _)]⟩
theorem Suf.ext {r s : ByteArray} (h : Suf r s) : s.extract (s.size - r.size) s.size = r := by
  obtain ⟨x, hx⟩ := h
  apply ba_ext
  have hl : r.size = s.size - x := by rw [ba_size, hx, List.length_drop]; rfl
  rw [extract_list, List.take_of_length_le (show s.data.toList.length ≤ s.size from Nat.le_refl _), hx, hl]
  rcases Nat.lt_or_ge x s.size with h | h
  · rw [show s.size - (s.size - x) = x by omega]
  · rw [List.drop_eq_nil_of_le (by show s.size ≤ _; omega), List.drop_eq_nil_of_le (by show s.size ≤ _; omega)]
theorem opS_suf {s t r : ByteArray} {q : Int} (h : opS s q = (0, t, r)) : Suf r s := by
  unfold opS at h
  split at h
  · next t' r' hu =>
    split at h
    · split at h
      · simp only [Prod.mk.injEq, true_and] at h
        rw [← h.2]
        unfold unS at hu
        split at hu
        · next t2 r2 ht =>
          have h2 : Suf r2 s := by
            unfold ttS at ht
            split at ht
            · split at ht
              · simp at ht
              · split at ht
                · simp at ht
                · simp only [Prod.mk.injEq, true_and] at ht
                  rw [← ht.2]
                  exact (suf_ext _ _).trans (suf_ext _ _)
            · simp at ht
          split at hu
          · simp at hu
          · split at hu
            · simp only [Prod.mk.injEq, true_and] at hu
              rw [← hu.2]
              exact (suf_ext _ _).trans h2
            · simp at hu
        · simp at hu
      · simp at h
    · simp at h
  · simp at h
theorem blk_getD {s : ByteArray} {w w2 : World} {e : Ending} (h : BlkPost s w e w2) : e = .returned (.tuple #[.int .i64 (((superS s).getD (0, 0)).1 : Int), .int .i64 (((superS s).getD (0, 0)).2 : Int)]) ∧ Kp [] w w2 := by
  obtain ⟨K, ⟨t, h, hs, rfl⟩ | ⟨hs, rfl⟩⟩ := h
  · rw [hs]; exact ⟨rfl, K⟩
  · rw [hs]; exact ⟨rfl, K⟩
theorem count_ref2 (S : Dk) (t h u k : Nat) (e0 : (superS (S.read 0)).getD (0, 0) = (t, h)) (e1 : (superS (S.read 1)).getD (0, 0) = (u, k)) :
    (t < u → countV S = (1, u, k)) ∧ (¬ t < u → 0 < t → countV S = (0, t, h)) ∧ (¬ t < u → t = 0 → (countV S).2.1 = 0) := by
  have hc := count_ref S
  rw [e0, e1] at hc
  simp only at hc
  refine ⟨fun h1 => ?_, fun h1 h2 => ?_, fun h1 h2 => ?_⟩
  · rw [hc, if_pos h1]
  · rw [hc, if_neg h1, if_pos h2]
  · rw [hc, if_neg h1, if_neg (by omega)]
theorem sup_getD {t0 : Nat} {S : Dk} (hs : SecInv t0 S) (ht : t0 ≤ 1000000) (a : Nat) (ha : a ≤ 1) : ((superS (S.read a)).getD (0, 0)).1 ≤ t0 ∧ ((superS (S.read a)).getD (0, 0)).2 ≤ 1 := by
  have h := (hs.c a ha).sup ht
  have e : S.read a = ⟨(S.C a).toArray⟩ := rfl
  rw [← e] at h
  rcases h with h | ⟨u, x, h, h1, h2, h3⟩
  · rw [h]; exact ⟨Nat.zero_le _, by decide⟩
  · rw [h]; exact ⟨h2, h3⟩
theorem QAt.like {w : World} {q r : Nat} {J J2 : Jn} {dd : Bool} (s : QAt w q r J dd) (h1 : J2.turn = J.turn) (h2 : J2.half = J.half) (h3 : J2.at_ = J.at_) (h4 : J2.used = J.used) (h5 : J2.count = J.count) : QAt w q r J2 dd :=
  ⟨s.c0, by rw [h1]; exact s.c1, by rw [h2]; exact s.c2, by rw [h3]; exact s.c3, by rw [h4]; exact s.c4, by rw [h5]; exact s.c5, s.c6, s.f⟩
theorem QAt.new (w : World) (b t h : Nat) : QAt (w.alloc (.cells #[.pointer (some ⟨b, 0, none⟩), .int .i64 (t : Int), .int .i64 (h : Int), .int .i64 0, .int .i64 0, .int .i64 0, .bool false] 53)) w.heap.size b { at_ := 0, turn := t, half := h, count := 0, used := 0, tail := ⟨#[]⟩ } false :=
  ⟨by simp, by simp, by simp, by simp, by simp, by simp, by simp, fun o => by simp⟩
theorem QAt.set123 {w : World} {q r : Nat} {J : Jn} {dd : Bool} (s : QAt w q r J dd) (t h a : Nat) : QAt (((w.setCell ⟨q, 1, none⟩ (.int .i64 (t : Int))).setCell ⟨q, 2, none⟩ (.int .i64 (h : Int))).setCell ⟨q, 3, none⟩ (.int .i64 (a : Int))) q r { J with turn := t, half := h, at_ := a } dd := by
  have c := fun (W : World) (o p : Nat) (v : Value) (hn : o ≠ p) => cell_ne W q o p v hn
  refine ⟨?_, ?_, ?_, ?_, ?_, ?_, ?_, fun o => by simp [s.f o]⟩
  · rw [c _ 3 0 _ (by decide), c _ 2 0 _ (by decide), c _ 1 0 _ (by decide)]; exact s.c0
  · rw [c _ 3 1 _ (by decide), c _ 2 1 _ (by decide)]; exact cell_eq w q 1 _ _ s.c1
  · rw [c _ 3 2 _ (by decide)]; exact cell_eq _ q 2 _ _ (by rw [c _ 1 2 _ (by decide)]; exact s.c2)
  · exact cell_eq _ q 3 _ _ (by rw [c _ 2 3 _ (by decide), c _ 1 3 _ (by decide)]; exact s.c3)
  · rw [c _ 3 4 _ (by decide), c _ 2 4 _ (by decide), c _ 1 4 _ (by decide)]; exact s.c4
  · rw [c _ 3 5 _ (by decide), c _ 2 5 _ (by decide), c _ 1 5 _ (by decide)]; exact s.c5
  · rw [c _ 3 6 _ (by decide), c _ 2 6 _ (by decide), c _ 1 6 _ (by decide)]; exact s.c6
theorem QAt.set45 {w : World} {q r : Nat} {J : Jn} {dd : Bool} (s : QAt w q r J dd) (u n : Nat) : QAt ((w.setCell ⟨q, 4, none⟩ (.int .i64 (u : Int))).setCell ⟨q, 5, none⟩ (.int .i64 (n : Int))) q r { J with used := u, count := n } dd := by
  have c := fun (W : World) (o p : Nat) (v : Value) (hn : o ≠ p) => cell_ne W q o p v hn
  refine ⟨?_, ?_, ?_, ?_, ?_, ?_, ?_, fun o => by simp [s.f o]⟩
  · rw [c _ 5 0 _ (by decide), c _ 4 0 _ (by decide)]; exact s.c0
  · rw [c _ 5 1 _ (by decide), c _ 4 1 _ (by decide)]; exact s.c1
  · rw [c _ 5 2 _ (by decide), c _ 4 2 _ (by decide)]; exact s.c2
  · rw [c _ 5 3 _ (by decide), c _ 4 3 _ (by decide)]; exact s.c3
  · rw [c _ 5 4 _ (by decide)]; exact cell_eq w q 4 _ _ s.c4
  · exact cell_eq _ q 5 _ _ (by rw [c _ 4 5 _ (by decide)]; exact s.c5)
  · rw [c _ 5 6 _ (by decide), c _ 4 6 _ (by decide)]; exact s.c6
/-- A journal of the reference that is open, and its records. -/
structure ROpened (w : World) (f : List Nat) (b q : Nat) (v : Value) (B : Nat) (S : Dk) (J : Jn) (l : List ByteArray) : Prop where
  d : RkF w f b S
  q_ : QAt w q b J false
  own : OwnStrs w B v l
  qf : q ∉ f
  qB : B ≤ q
  vq : v.ownBlock ≠ some q
  vf : ∀ g, v.ownBlock = some g → g ∉ f
def ROPost (S : Dk) (b : Nat) (f : List Nat) (w : World) (e : Ending) (w2 : World) : Prop :=
  ∃ f2, Mv f w f2 w2 ∧ ((S.OErr = 10 ∧ e = .returned (.tuple #[.pointer none, .slice none 0 0, .int .i64 10]) ∧ RkF w2 f2 b S.ODk)
    ∨ (S.OErr = 0 ∧ ∃ q v, e = .returned (.tuple #[.pointer (some ⟨q, 0, none⟩), v, .int .i64 0]) ∧ ROpened w2 f2 b q v w.heap.size S.ODk S.oJn S.oUn.1))
/-- Between two rounds of OpenJournal. -/
structure UoMid (seq : Nat) (all : ByteArray) (b q : Nat) (J : Jn) (w0 w : World) (k : Nat) (rest : ByteArray) (v : Value) : Prop where
  kp : Kp [q] w0 w
  q_ : QAt w q b { J with used := all.size - rest.size, count := k } false
  ex : ∃ l, l.length = k ∧ OwnStrs w w0.heap.size v l ∧ (l ++ (unL seq k rest).1, (unL seq k rest).2) = unL seq 0 all
  suf : Suf rest all
theorem ro_ret {P : Ending → World → Prop} {w2 : World} {a : Act} {v0 v1 v2 : Value} (h2 : a.tmps.getD 2 undef = v0) (h3 : a.tmps.getD 3 undef = v1) (h4 : a.tmps.getD 4 undef = v2) (hd : a.defers = []) (hP : P (.returned (.tuple #[v0, v1, v2])) w2) :
    bodyPost Tryz.prog Tryz.f11 P .ret a w2 :=
  bodyPost_ret (v := .tuple #[v0, v1, v2]) (by simp [results, Tryz.results11, go_sem]; simp at h2 h3 h4; exact ⟨h2, h3, h4⟩) hd hP
theorem ropen_full {w : World} {f : List Nat} {b : Nat} {S : Dk} (D : RkF w f b S) (h4 : S.n < 4) :
    Calls Tryz.prog 11 #[.pointer (some ⟨b, 0, none⟩)] w fun e w2 => e = .returned (.tuple #[.pointer none, .slice none 0 0, .int .i64 14]) ∧ w2 = w := by
  obtain ⟨a, c, c0⟩ := D.len
  have l1 : decide ((S.n : Int) < 4) = true := by simp; omega
  clear D
  go_enter Tryz.func11, Tryz.ntmps11
  go_wp2_with fail
  exact ro_ret rfl rfl rfl rfl ⟨rfl, rfl⟩
end Go.Proofs.YtggnljfcdohkaaaGreatDoor
/- JournalPlays: the steps, dead or alive, and what they keep. Plain mathematics. -/
namespace Go.Proofs.YtggnljfcdohkaaaGreatDoor
open Go.RowKit

/-- Add: its error's number, the disk, the journal behind it, whether that is dead. -/
def aC (dd : Bool) (S : Dk) (J : Jn) (r : ByteArray) : Int := if dd then 25 else if 2010 < r.size then 13 else if hl S.n * 64 - J.used < (addW J r).size then 14 else (addWr S J r).1
def aS (dd : Bool) (S : Dk) (J : Jn) (r : ByteArray) : Dk := if dd then S else if 2010 < r.size then S else if hl S.n * 64 - J.used < (addW J r).size then S else (addWr S J r).2
def aD (dd : Bool) (S : Dk) (J : Jn) (r : ByteArray) : Bool := if dd then true else if 2010 < r.size then false else if hl S.n * 64 - J.used < (addW J r).size then false else decide ((addWr S J r).1 ≠ 0)
def aJ (dd : Bool) (S : Dk) (J : Jn) (r : ByteArray) : Jn := if dd then J else if 2010 < r.size then J else if hl S.n * 64 - J.used < (addW J r).size then J else if (addWr S J r).1 = 0 then addJ J r else J
/-- Sync. -/
def sC (dd : Bool) (S : Dk) : Int := if dd then 25 else S.ferr
def sS (dd : Bool) (S : Dk) : Dk := if dd then S else S.flushed
def sD (dd : Bool) (S : Dk) : Bool := if dd then true else decide (S.ferr ≠ 0)
/-- Compact to n texts, none of them too long. -/
def mC (dd : Bool) (S : Dk) (J : Jn) (sx : Nat → ByteArray) (n : Nat) : Int := if dd then 25 else if hl S.n * 64 < (cRow J sx n).size then 14 else cErr S J sx n
def mS (dd : Bool) (S : Dk) (J : Jn) (sx : Nat → ByteArray) (n : Nat) : Dk := if dd then S else if hl S.n * 64 < (cRow J sx n).size then S else cDk S J sx n
def mD (dd : Bool) (S : Dk) (J : Jn) (sx : Nat → ByteArray) (n : Nat) : Bool := if dd then true else if hl S.n * 64 < (cRow J sx n).size then false else decide (cErr S J sx n ≠ 0)
def mJ (dd : Bool) (S : Dk) (J : Jn) (sx : Nat → ByteArray) (n : Nat) : Jn := if dd then J else if hl S.n * 64 < (cRow J sx n).size then J else if cErr S J sx n = 0 then cJn J sx n else J
/-- What holds behind k steps. -/
structure Inv (k : Nat) (dd : Bool) (S : Dk) (J : Jn) : Prop where
  ok : S.Ok (3000 + 2000 * k)
  n4 : 4 ≤ S.n
  n2 : S.n ≤ 2000
  sec : SecInv (1 + k) S
  al : dd = false → S.dead = false ∧ J.Ok S.n ∧ J.turn ≤ 1 + k ∧ J.count ≤ 20000 + k ∧ TailOk S J
theorem Inv.more {k : Nat} {dd : Bool} {S : Dk} {J : Jn} (h : Inv k dd S J) : Inv (k + 1) dd S J :=
  ⟨h.ok.mono (by omega), h.n4, h.n2, h.sec.mono (by omega), fun e => by obtain ⟨a, b, c, d, e⟩ := h.al e; exact ⟨a, b, by omega, by omega, e⟩⟩
theorem addWr_n (S : Dk) (J : Jn) (r : ByteArray) : (addWr S J r).2.n = S.n := Dk.wrow_n _ _ _ _ _
theorem cDk_n (S : Dk) (J : Jn) (sx : Nat → ByteArray) (n : Nat) : (cDk S J sx n).n = S.n := by
  have h1 : (cW1 S J sx n).2.n = S.n := Dk.wrow_n _ _ _ _ _
  unfold cDk
  split
  · exact h1
  · split
    · rw [Dk.flushed_n]; exact h1
    · unfold cW3
      rw [Dk.supw_n, Dk.flushed_n]; exact h1
theorem nch_le (s : ByteArray) (z : Nat) (h : s.size ≤ 64 * z) : nch s ≤ z := by unfold nch; omega
theorem Inv.add {k : Nat} {dd : Bool} {S : Dk} {J : Jn} (h : Inv k dd S J) (hk : k ≤ 100) (r : ByteArray) : Inv (k + 1) (aD dd S J r) (aS dd S J r) (aJ dd S J r) := by
  have hm := h.more
  unfold aD aS aJ
  cases dd
  · simp only [Bool.false_eq_true, if_false]
    obtain ⟨a1, a2, a3, a4, a5⟩ := h.al rfl
    split
    · exact hm
    next h1 =>
    split
    · exact hm
    next h2 =>
    have hn := addWr_n S J r
    have hh := hat_le2 S.n J.half h.n4 a2.h1
    have ht := a2.tl
    have hz9 : hl S.n ≤ 1000 := by have := h.n2; unfold hl; omega
    have hw9 : (addW J r).size ≤ r.size + 30 := wrapS_le _ (by have := a2.t2; have := a2.c1; show _ < 72057594037927936; omega) r (by omega)
    have hR : (addRow J r).size = J.used % 64 + (addW J r).size := by unfold addRow; rw [ByteArray.size_append, ht]
    have hnc : nch (addRow J r) ≤ 40 := nch_le _ 40 (by omega)
    have hok : (addWr S J r).2.Ok (3000 + 2000 * (k + 1)) := (h.ok.wrow _ _ _ _).mono (by omega)
    have hsec : SecInv (1 + (k + 1)) (addWr S J r).2 := hm.sec.wrow _ (by have := hh.1; omega) _ _ _
    by_cases h3 : (addWr S J r).1 = 0
    · rw [if_pos h3, show decide ((addWr S J r).1 ≠ 0) = false by simpa using h3]
      refine ⟨hok, by rw [hn]; exact h.n4, by rw [hn]; exact h.n2, hsec, fun _ => ⟨Dk.wrow_live _ _ _ _ a1 h3, ⟨a2.a1, a2.t1, a2.t2, a2.h1, ?_, ?_, ?_⟩, ?_, ?_, tail_add a2 h3⟩⟩
      · show J.count + 1 ≤ _; omega
      · show J.used + (addW J r).size ≤ 64 * hl (addWr S J r).2.n
        have := a2.u1
        rw [hn]; omega
      · show (tailS (addRow J r)).size = (J.used + (addW J r).size) % 64
        rw [tailS_size, hR]; omega
      · show J.turn ≤ _; omega
      · show J.count + 1 ≤ _; omega
    · rw [if_neg h3, show decide ((addWr S J r).1 ≠ 0) = true by simpa using h3]
      exact ⟨hok, by rw [hn]; exact h.n4, by rw [hn]; exact h.n2, hsec, fun e => by cases e⟩
  · exact hm
theorem Inv.sync {k : Nat} {dd : Bool} {S : Dk} {J : Jn} (h : Inv k dd S J) : Inv (k + 1) (sD dd S) (sS dd S) J := by
  have hm := h.more
  unfold sD sS
  cases dd
  · simp only [Bool.false_eq_true, if_false]
    obtain ⟨a1, a2, a3, a4, a5⟩ := hm.al rfl
    refine ⟨hm.ok.flushed, by rw [Dk.flushed_n]; exact h.n4, by rw [Dk.flushed_n]; exact h.n2, hm.sec.flushed, fun _ => ⟨by rw [Dk.flushed_dead]; exact a1, by rw [Dk.flushed_n]; exact a2, a3, a4, ?_⟩⟩
    unfold TailOk
    rw [Dk.flushed_C, Dk.flushed_n]
    exact a5
  · exact hm
theorem Inv.compact {k : Nat} {dd : Bool} {S : Dk} {J : Jn} (h : Inv k dd S J) (hk : k ≤ 100) (sx : Nat → ByteArray) (n : Nat) (hn9 : n ≤ 20000) : Inv (k + 1) (mD dd S J sx n) (mS dd S J sx n) (mJ dd S J sx n) := by
  have hm := h.more
  unfold mD mS mJ
  cases dd
  · simp only [Bool.false_eq_true, if_false]
    obtain ⟨a1, a2, a3, a4, a5⟩ := h.al rfl
    split
    · exact hm
    next h2 =>
    have hn := cDk_n S J sx n
    have hh := hat_le2 S.n (1 - J.half) h.n4 (by omega)
    have hz9 : hl S.n ≤ 1000 := by have := h.n2; unfold hl; omega
    have hsz : (cAll S J sx n).size = hl S.n * 64 := by unfold cAll; rw [ByteArray.size_append, zeros_size]; omega
    have hnc : nch (cAll S J sx n) ≤ 1000 := nch_le _ 1000 (by omega)
    have ok1 : (cW1 S J sx n).2.Ok (3000 + 2000 * k + 1000) := (h.ok.wrow _ _ _ _).mono (by omega)
    have ok3 : (cW3 S J sx n).2.Ok (3000 + 2000 * k + 1001) := ok1.flushed.supw _ _ _
    have se1 : SecInv (1 + (k + 1)) (cW1 S J sx n).2 := hm.sec.wrow _ hh.1 _ _ _
    have se3 : SecInv (1 + (k + 1)) (cW3 S J sx n).2 := se1.flushed.supw _ _ _ (by omega) (by omega) (by omega)
    have hok : (cDk S J sx n).Ok (3000 + 2000 * (k + 1)) := by
      unfold cDk
      split
      · exact ok1.mono (by omega)
      · split
        · exact ok1.flushed.mono (by omega)
        · exact ok3.mono (by omega)
    have hsec : SecInv (1 + (k + 1)) (cDk S J sx n) := by
      unfold cDk
      split
      · exact se1
      · split
        · exact se1.flushed
        · exact se3
    by_cases h3 : cErr S J sx n = 0
    · rw [if_pos h3, show decide (cErr S J sx n ≠ 0) = false by simpa using h3]
      have hT := tail_cmp (S := S) (J := J) (sx := sx) (n := n) (by omega) h3
      refine ⟨hok, by rw [hn]; exact h.n4, by rw [hn]; exact h.n2, hsec, fun _ => ⟨hT.2, ⟨?_, ?_, ?_, ?_, ?_, ?_, ?_⟩, ?_, ?_, hT.1⟩⟩
      · show 1 - J.at_ ≤ 1; omega
      · show 1 ≤ J.turn + 1; omega
      · show J.turn + 1 ≤ 1000000; omega
      · show 1 - J.half ≤ 1; omega
      · show n ≤ 1000000; omega
      · show (cRow J sx n).size ≤ 64 * hl (cDk S J sx n).n
        rw [hn]; omega
      · show (tailS (cRow J sx n)).size = (cRow J sx n).size % 64
        exact tailS_size _
      · show J.turn + 1 ≤ 1 + (k + 1); omega
      · show n ≤ 20000 + (k + 1); omega
    · rw [if_neg h3, show decide (cErr S J sx n ≠ 0) = true by simpa using h3]
      exact ⟨hok, by rw [hn]; exact h.n4, by rw [hn]; exact h.n2, hsec, fun e => by cases e⟩
  · exact hm
theorem Inv.cut {k : Nat} {dd : Bool} {S : Dk} {J : Jn} (h : Inv k dd S J) (p : Int) (hp : p ≤ 9223372036854775807) : Inv (k + 1) dd (S.cutAt p) J := by
  have hm := h.more
  exact ⟨(h.ok.cutAt p hp).mono (by omega), h.n4, h.n2, hm.sec.cutAt p, fun e => hm.al e⟩
/-- Behind a crash, opened again: there is none, or it goes on. -/
theorem Inv.crash {k : Nat} {dd : Bool} {S : Dk} {J : Jn} (h : Inv k dd S J) (hk : k ≤ 100) (ks : List Bool) (tn : Int) (hC : ∀ i, i < S.n → ((S.crash ks tn).C i).length = 64) :
    (S.crash ks tn).Fine (3000 + 2000 * k + 1) ∧ SecInv (1 + k) (S.crash ks tn) ∧ ((S.crash ks tn).OErr = 10 ∧ (S.crash ks tn).ODk = S.crash ks tn ∧ (countV (S.crash ks tn)).2.1 = 0
      ∨ (S.crash ks tn).OErr = 0 ∧ 0 < (countV (S.crash ks tn)).2.1 ∧ Inv (k + 1) false (S.crash ks tn).ODk (S.crash ks tn).oJn) := by
  have hF : (S.crash ks tn).Fine (3000 + 2000 * k + 1) := ⟨h.ok.crash ks tn, rfl, rfl, h.n4, h.n2, hC⟩
  have hs := h.sec.crash (by omega) ks tn
  refine ⟨hF, hs, ?_⟩
  by_cases hc : (countV (S.crash ks tn)).2.1 = 0
  · exact .inl ⟨(open_none hF hc).1, (open_none hF hc).2, hc⟩
  · have o := open_inv hF hs (by omega) (by omega)
    refine .inr ⟨o.err, by omega, ⟨o.fine.ok.mono (by omega), o.fine.n4, o.fine.n2, hs.ODk.mono (by omega), fun _ => ⟨o.fine.dead, by rw [Dk.ODk_n]; exact o.jok, by have := o.jt; omega, by have := o.jc; omega, o.tail⟩⟩⟩
theorem Inv.start {S : Dk} (h : S.Fine 1002) (hs : SecInv 1 S) (hc : 0 < (countV S).2.1) : Inv 0 false S.ODk S.oJn := by
  have o := open_inv h hs (by omega) hc
  exact ⟨o.fine.ok.mono (by omega), o.fine.n4, o.fine.n2, hs.ODk, fun _ => ⟨o.fine.dead, by rw [Dk.ODk_n]; exact o.jok, o.jt, by have := o.jc; omega, o.tail⟩⟩
end Go.Proofs.YtggnljfcdohkaaaGreatDoor
/- Contracts of the reference's journal: dies, Sync, Add. -/
namespace Go.Proofs.YtggnljfcdohkaaaGreatDoor
open Go.RowKit

theorem QAt.set6 {w : World} {q r : Nat} {J : Jn} {dd : Bool} (s : QAt w q r J dd) (d : Bool) : QAt (w.setCell ⟨q, 6, none⟩ (.bool d)) q r J d := by
  have c := fun (p : Nat) (hn : 6 ≠ p) => cell_ne w q 6 p (.bool d) hn
  exact ⟨(c 0 (by decide)).trans s.c0, (c 1 (by decide)).trans s.c1, (c 2 (by decide)).trans s.c2, (c 3 (by decide)).trans s.c3, (c 4 (by decide)).trans s.c4, (c 5 (by decide)).trans s.c5, cell_eq w q 6 _ _ s.c6, fun o => by simp [s.f o]⟩
set_option maxHeartbeats 1600000 in
theorem rdies_any {w : World} {q r : Nat} {J : Jn} (Q : QAt w q r J false) (c : Int) :
    Calls Tryz.prog 45 #[.pointer (some ⟨q, 0, none⟩), .int .i64 c] w fun e w2 => e = .returned (.int .i64 c) ∧ QAt w2 q r J (decide (c ≠ 0)) ∧ Kp [q] w w2 := by
  have c6 := Q.c6
  have g6 := Q.f 6
  have HQ := Lib.hid Q
  clear Q
  by_cases h0 : c = 0
  · have l1 : (c != 0) = false := by simpa using h0
    have l2 : decide (c ≠ 0) = false := by simpa using h0
    rw [l2]
    clear h0
    go_enter Tryz.func45, Tryz.ntmps45
    go_wp2_with fail
    go_ret
    exact ⟨rfl, HQ.out.set6 false, (Kp.refl [q] w).setCell (.inl (by simp)) _⟩
  · have l1 : (c != 0) = true := by simpa using h0
    have l2 : decide (c ≠ 0) = true := by simpa using h0
    rw [l2]
    clear h0
    go_enter Tryz.func45, Tryz.ntmps45
    go_wp2_with fail
    go_ret
    exact ⟨rfl, HQ.out.set6 true, (Kp.refl [q] w).setCell (.inl (by simp)) _⟩
/-- A journal of the reference with its disk, in the blocks q and f; dead or alive. -/
structure QF (w : World) (f : List Nat) (b q : Nat) (S : Dk) (J : Jn) (dd : Bool) : Prop where
  d : RkF w f b S
  q_ : QAt w q b J dd
  qf : q ∉ f
  qg : 7 ≤ q
theorem QF.kept {w w2 : World} {f : List Nat} {b q : Nat} {S : Dk} {J : Jn} {dd : Bool} (h : QF w f b q S J dd) (k : Kp [] w w2) : QF w2 f b q S J dd := ⟨h.d.kept k, h.q_.kept k, h.qf, h.qg⟩
/-- The disk has been changed, and then the journal itself. -/
theorem QF.then {w w2 w3 : World} {f f2 : List Nat} {b q : Nat} {S S2 : Dk} {J J3 : Jn} {dd dd3 : Bool} (h : QF w f b q S J dd) (D : RkF w2 f2 b S2) (M : Mv f w f2 w2) (K : Kp [q] w2 w3) (Q : QAt w3 q b J3 dd3) : QF w3 f2 b q S2 J3 dd3 ∧ Mv (q :: f) w (q :: f2) w3 := by
  have hqf := M.apart h.qf h.q_.lt
  exact ⟨⟨D.keep K (fun x hx hm => by simp at hm; subst hm; exact hqf hx), Q, hqf, h.qg⟩, (M.more q).trans ⟨K.mono (fun x hx => by simp at hx; simp [hx]), fun x hx => .inl hx⟩⟩
theorem QF.then0 {w w2 : World} {f f2 : List Nat} {b q : Nat} {S S2 : Dk} {J : Jn} {dd : Bool} (h : QF w f b q S J dd) (D : RkF w2 f2 b S2) (M : Mv f w f2 w2) : QF w2 f2 b q S2 J dd ∧ Mv (q :: f) w (q :: f2) w2 :=
  h.then D M (Kp.refl _ _) (h.q_.keep M.kp h.qf)
set_option maxHeartbeats 1600000 in
theorem rsync_any {w : World} {f : List Nat} {b q : Nat} {S : Dk} {J : Jn} {dd : Bool} (D : QF w f b q S J dd) (m : Nat) (hm : S.Lim m) (hmm : m < 4294967295) :
    Calls Tryz.prog 15 #[.pointer (some ⟨q, 0, none⟩)] w fun e w2 => e = .returned (.int .i64 (sC dd S)) ∧ ∃ f2, QF w2 f2 b q (sS dd S) J (sD dd S) ∧ Mv (q :: f) w (q :: f2) w2 := by
  have c0 := D.q_.c0
  have c6 := D.q_.c6
  have HD := Lib.hid D
  have HF := Lib.hid (g_flush D.d m hm hmm)
  cases dd
  · have e1 : sC false S = S.ferr := rfl
    have e2 : sS false S = S.flushed := rfl
    have e3 : sD false S = decide (S.ferr ≠ 0) := rfl
    rw [e1, e2, e3]
    generalize S.ferr = c at *
    clear D e1 e2 e3 hm
    go_enter Tryz.func15, Tryz.ntmps15
    go_wp2_with fail
    refine Calls.mono HF.out ?_
    rintro e x1 ⟨rfl, f2, D2, M2⟩
    have HD2 := Lib.hid D2
    have HM2 := Lib.hid M2
    have HDi := Lib.hid (rdies_any (HD.out.q_.keep M2.kp HD.out.qf) c)
    clear D2 M2 HF
    go_wp2_with fail
    refine Calls.mono HDi.out ?_
    rintro e x2 ⟨rfl, Q3, K3⟩
    have H := Lib.hid (HD.out.then HD2.out HM2.out K3 Q3)
    clear Q3 K3
    go_wp2_with fail
    go_ret
    exact ⟨rfl, f2, H.out.1, H.out.2⟩
  · have e1 : sC true S = 25 := rfl
    have e2 : sS true S = S := rfl
    have e3 : sD true S = true := rfl
    rw [e1, e2, e3]
    clear D e1 e2 e3 hm HF
    go_enter Tryz.func15, Tryz.ntmps15
    go_wp2_with fail
    go_ret
    exact ⟨rfl, f, HD.out, Mv.refl _ _⟩
end Go.Proofs.YtggnljfcdohkaaaGreatDoor
