/- What the bytes of a journal are: plain mathematics. -/
import Derived.Test.YtggnljfcdohkaaaGreatDoorJnQ
import Derived.Test.YtggnljfcdohkaaaGreatDoorDkUse
namespace Go.Proofs.YtggnljfcdohkaaaGreatDoor
open Go.RowKit

def zeros (n : Nat) : ByteArray := ⟨(List.replicate n (0 : UInt8)).toArray⟩
theorem zeros_list (n : Nat) : (zeros n).data.toList = List.replicate n 0 := by simp [zeros]
theorem zeros_size (n : Nat) : (zeros n).size = n := by simp [zeros, ByteArray.size]
theorem ba_list (l : List UInt8) : (⟨l.toArray⟩ : ByteArray).data.toList = l := by simp
theorem ba_size (s : ByteArray) : s.size = s.data.toList.length := by rw [Array.length_toList]; rfl
theorem ba_app (a b : ByteArray) : (a ++ b).data.toList = a.data.toList ++ b.data.toList := by simp
theorem isZ_zeros (n : Nat) : isZ (zeros n) = true := by unfold isZ; rw [zeros_list]; simp
theorem fill_ba (s : ByteArray) : (⟨(fillUp s).toArray⟩ : ByteArray) = s ++ zeros (64 - s.size) := by
  apply ba_ext
  rw [ba_app, zeros_list, ba_list]; rfl
theorem ttS_textm (t r : ByteArray) (m : Nat) (ht : t.size ≤ m) (hm : m ≤ 1000000) : ttS (textS t ++ r) m = (0, t, r) := by
  unfold ttS textS
  rw [ByteArray.append_assoc, take_numS _ (by show _ < 72057594037927936; omega)]
  simp only
  rw [ext_append_right]
  have hsz : (t ++ r).size = t.size + r.size := ByteArray.size_append
  rw [if_neg (by omega), if_neg (by omega), ext_append_left, ext_append_right]
theorem numS_le8 (k : Nat) (hk : k < 128 ^ 8) : (numS k).size ≤ 8 := by rw [numS_size]; exact numL_len 7 k hk
theorem opS_wrapm (k : Nat) (hk : k < 128 ^ 8) (s r : ByteArray) (hs : s.size ≤ 2010) : opS (wrapS k s ++ r) (k : Int) = (0, s, r) := by
  have h1 := numS_le8 k hk
  rw [opS_wrap k hk s r (by rw [ByteArray.size_append]; omega), if_pos rfl]
theorem supB_size (t h : Nat) (ht : t < 128 ^ 8) (hh : h ≤ 1) : (supB t h).size ≤ 40 := by
  have h1 := numS_le8 h (by show h < 72057594037927936; omega)
  have := wrapS_le t ht (numS h) (by omega)
  unfold supB
  omega
theorem take_num0 (k : Nat) (hk : k < 128 ^ 8) : takeL 0 0 (numS k).data.toList = (0, k, (numS k).size) := by
  have := take_numS k hk ⟨#[]⟩
  simpa using this
theorem superS_sup (t h z : Nat) (ht : 1 ≤ t) (ht2 : t ≤ 1000000) (hh : h ≤ 1) (hz : z ≤ 100) : superS (supB t h ++ zeros z) = some (t, h) := by
  have ht8 : t < 128 ^ 8 := by show t < 72057594037927936; omega
  have hh8 : h < 128 ^ 8 := by show h < 72057594037927936; omega
  have hsz := supB_size t h ht8 hh
  have h1 : turnS (supB t h ++ zeros z) = (0, t) := by
    obtain ⟨X, hX⟩ : ∃ X, X = numS t ++ numS h := ⟨_, rfl⟩
    have hXs : X.size ≤ 16 := by have := numS_le8 t ht8; have := numS_le8 h hh8; rw [hX, ByteArray.size_append]; omega
    have e1 : supB t h ++ zeros z = textS X ++ (sumB (sumL (textS X).data.toList) ++ zeros z) := by
      unfold supB wrapS
      rw [← hX, ByteArray.append_assoc]
    have hm : X.size ≤ (supB t h ++ zeros z).size := by
      rw [e1, ByteArray.size_append]
      have : (textS X).size = (numS X.size).size + X.size := ByteArray.size_append
      omega
    have hm2 : (supB t h ++ zeros z).size ≤ 1000 := by rw [ByteArray.size_append, zeros_size]; omega
    unfold turnS
    obtain ⟨m, hmm⟩ : ∃ m, m = (supB t h ++ zeros z).size := ⟨_, rfl⟩
    rw [← hmm] at hm hm2 ⊢
    rw [e1, ttS_textm X _ m hm (by omega)]
    simp only
    rw [hX, take_numS t ht8]
  have h2 : opS (supB t h ++ zeros z) (t : Int) = (0, numS h, zeros z) := opS_wrapm t ht8 (numS h) (zeros z) (by have := numS_le8 h hh8; omega)
  rw [superS_end h1 h2 (take_num0 h hh8), if_neg]
  rintro (q | q | q | q)
  · omega
  · omega
  · omega
  · rw [isZ_zeros] at q; cases q
theorem superS_zero : superS (zeros 64) = none := by decide +kernel
theorem takeL_zero (n : Nat) : takeL 0 0 (List.replicate (n + 1) (0 : UInt8)) = (0, 0, 1) := by simp [List.replicate_succ, takeL]
theorem zeros_ext (n a b : Nat) (hb : b ≤ n) : (zeros n).extract a b = zeros (b - a) := by
  apply ba_ext
  rw [extract_list, zeros_list, zeros_list]
  simp
  omega
theorem opS_zeros (n : Nat) (q : Int) : (opS (zeros n) q).1 ≠ 0 := by
  have hu : (unS (zeros n)).1 ≠ 0 := by
    unfold unS ttS
    rcases n with _ | n
    · rw [zeros_list]
      simp [takeL]
    · rw [zeros_list, takeL_zero]
      simp only
      rw [if_neg (by omega), if_neg (by omega)]
      rw [zeros_size, zeros_ext (n + 1) 1 (n + 1) (by omega)]
      simp only [Nat.add_sub_cancel, zeros_size]
      rw [zeros_ext n 0 n (by omega), zeros_size]
      simp only [Nat.sub_zero]
      split
      · simp
      · next h4 =>
        split
        · next he =>
          exfalso
          rw [zeros_ext n 0 4 (by omega), show n + 1 - n = 1 by omega, zeros_ext (n + 1) 0 1 (by omega)] at he
          exact absurd he (by decide +kernel)
        · simp
  unfold opS
  split
  · next h => rw [h] at hu; exact absurd rfl hu
  · simp
/-- Records one behind the other, the first one at the k-th place. -/
def wrp (seq : Nat) : Nat → List ByteArray → List UInt8
  | _, [] => []
  | k, r :: l => (wrapS (seq + k) r).data.toList ++ wrp seq (k + 1) l
theorem wrp_snoc (seq : Nat) : ∀ (l : List ByteArray) (k : Nat) (r : ByteArray), wrp seq k (l ++ [r]) = wrp seq k l ++ (wrapS (seq + k + l.length) r).data.toList
  | [], k, r => by simp [wrp]
  | x :: l, k, r => by
    simp only [List.cons_append, wrp, List.length_cons]
    rw [wrp_snoc seq l (k + 1) r, List.append_assoc, show seq + (k + 1) + l.length = seq + k + (l.length + 1) by omega]
theorem unL_wrp (seq z : Nat) : ∀ (l : List ByteArray) (k : Nat), (∀ r ∈ l, r.size ≤ 2010) → seq + k + l.length ≤ 72057594037927936 → unL seq k ⟨(wrp seq k l ++ List.replicate z 0).toArray⟩ = (l, zeros z)
  | [], k, _, _ => by
    have : (⟨(wrp seq k [] ++ List.replicate z 0).toArray⟩ : ByteArray) = zeros z := by simp [wrp, zeros]
    rw [this, unL_no (opS_zeros z _)]
  | r :: l, k, h, hs => by
    have e1 : (⟨(wrp seq k (r :: l) ++ List.replicate z 0).toArray⟩ : ByteArray) = wrapS (seq + k) r ++ ⟨(wrp seq (k + 1) l ++ List.replicate z 0).toArray⟩ := by
      apply ba_ext
      rw [ba_app, ba_list, ba_list]
      simp [wrp]
    simp only [List.length_cons] at hs
    have h1 := opS_wrapm (seq + k) (by show _ < 72057594037927936; omega) r ⟨(wrp seq (k + 1) l ++ List.replicate z 0).toArray⟩ (h r (by simp))
    rw [e1, unL_yes h1, unL_wrp seq z l (k + 1) (fun x hx => h x (by simp [hx])) (by omega)]
end Go.Proofs.YtggnljfcdohkaaaGreatDoor
/- What is read is what lasts with the loose Writes laid over it: kept by every call. Plain mathematics. -/
namespace Go.Proofs.YtggnljfcdohkaaaGreatDoor
open Go.RowKit

/-- The invariant, and how great its numbers are behind so many steps. -/
structure Dk.Ok (S : Dk) (m : Nat) : Prop where
  n1 : 1 ≤ S.n
  inv : ∀ k, k < S.n → S.C k = lay S.F S.L k
  wr : S.writes ≤ m
  ll : S.L.length ≤ m
  lf : S.left ≤ 9223372036854775807
theorem Dk.Ok.small {S : Dk} {m : Nat} (h : S.Ok m) (hm : m ≤ 1000) : S.Small := ⟨by have := h.wr; omega, h.lf, by have := h.ll; omega⟩
theorem Dk.Ok.more {S : Dk} {m : Nat} (h : S.Ok m) : S.Ok (m + 1) := ⟨h.n1, h.inv, Nat.le_succ_of_le h.wr, Nat.le_succ_of_le h.ll, h.lf⟩
theorem Dk.Ok.new (n : Nat) (hn : 1 ≤ n) : (Dk.new n).Ok 0 := ⟨hn, fun _ _ => rfl, Nat.le_refl _, Nat.le_refl _, by simp [Dk.new]⟩
theorem lay_snoc (F : Nat → List UInt8) (L : List (Nat × List UInt8)) (k : Nat) (l : List UInt8) : lay F (L ++ [(k, l)]) = upd (lay F L) k l := by
  unfold lay
  rw [List.foldl_append]
  rfl
theorem Dk.Ok.wrote {S : Dk} {m : Nat} (h : S.Ok m) (p : Int) (s : ByteArray) : (S.wrote p s).Ok (m + 1) := by
  unfold Dk.wrote
  split
  · refine ⟨h.n1, fun k hk => ?_, Nat.succ_le_succ h.wr, ?_, ?_⟩
    · show upd S.C p.toNat (fillUp s) k = lay S.F (S.L ++ [(p.toNat, fillUp s)]) k
      rw [lay_snoc]
      unfold upd
      split
      · rfl
      · exact h.inv k hk
    · show (S.L ++ [(p.toNat, fillUp s)]).length ≤ m + 1
      rw [List.length_append]
      exact Nat.succ_le_succ h.ll
    · show (if S.cut then S.left - 1 else S.left) ≤ _
      have := h.lf
      split <;> omega
  · exact ⟨h.n1, h.inv, Nat.le_succ_of_le h.wr, Nat.le_succ_of_le h.ll, h.lf⟩
theorem Dk.Ok.flush {S : Dk} {m : Nat} (h : S.Ok m) : ({ S with F := lay S.F S.L, L := [] } : Dk).Ok (m + 1) := ⟨h.n1, h.inv, Nat.le_succ_of_le h.wr, Nat.zero_le _, h.lf⟩
theorem Dk.Ok.cutAt {S : Dk} {m : Nat} (h : S.Ok m) (p : Int) (hp : p ≤ 9223372036854775807) : (S.cutAt p).Ok (m + 1) := ⟨h.n1, h.inv, Nat.le_succ_of_le h.wr, Nat.le_succ_of_le h.ll, by show (max p 0).toNat ≤ _; omega⟩
/-- A sector that no loose Write is of. -/
theorem lay_far (F : Nat → List UInt8) (k : Nat) : ∀ (L : List (Nat × List UInt8)), (∀ x ∈ L, x.1 ≠ k) → lay F L k = F k := by
  intro L
  induction L generalizing F with
  | nil => intro _; rfl
  | cons x L ih =>
    intro h
    show lay (upd F x.1 x.2) L k = F k
    rw [ih (upd F x.1 x.2) (fun y hy => h y (List.mem_cons_of_mem _ hy))]
    unfold upd
    rw [if_neg (fun e => h x (List.mem_cons_self ..) e.symm)]
theorem landN_far (ks : List Bool) (tn : Int) (F : Nat → List UInt8) (L : List (Nat × List UInt8)) (k : Nat) (h : ∀ x ∈ L, x.1 ≠ k) : ∀ j, j ≤ L.length → landN ks tn F L j k = F k
  | 0, _ => rfl
  | j + 1, hj => by
    rw [landN_succ ks tn F L j hj]
    unfold land1
    split
    · unfold upd
      rw [if_neg (fun e => h _ (List.getElem_mem (show j < L.length by omega)) e.symm)]
      exact landN_far ks tn F L k h j (by omega)
    · exact landN_far ks tn F L k h j (by omega)
theorem reread_far (F C : Nat → List UInt8) (k : Nat) : ∀ (L : List (Nat × List UInt8)), (∀ x ∈ L, x.1 ≠ k) → reread F C L k = C k := by
  intro L
  induction L generalizing C with
  | nil => intro _; rfl
  | cons x L ih =>
    intro h
    show reread F (upd C x.1 (F x.1)) L k = C k
    rw [ih _ (fun y hy => h y (List.mem_cons_of_mem _ hy))]
    unfold upd
    rw [if_neg (fun e => h x (List.mem_cons_self ..) e.symm)]
theorem reread_keep (F : Nat → List UInt8) (k : Nat) : ∀ (L : List (Nat × List UInt8)) (C : Nat → List UInt8), C k = F k → reread F C L k = F k := by
  intro L
  induction L with
  | nil => intro C h; exact h
  | cons x L ih =>
    intro C h
    show reread F (upd C x.1 (F x.1)) L k = F k
    refine ih _ ?_
    unfold upd
    split
    · next e => rw [e]
    · exact h
theorem reread_near (F : Nat → List UInt8) (k : Nat) : ∀ (L : List (Nat × List UInt8)) (C : Nat → List UInt8), (∃ x ∈ L, x.1 = k) → reread F C L k = F k := by
  intro L
  induction L with
  | nil => rintro C ⟨x, hx, _⟩; cases hx
  | cons x L ih =>
    rintro C ⟨y, hy, e⟩
    show reread F (upd C x.1 (F x.1)) L k = F k
    rcases List.mem_cons.1 hy with rfl | hy
    · refine reread_keep F k L _ ?_
      unfold upd
      rw [if_pos e.symm, e]
    · exact ih _ ⟨y, hy, e⟩
theorem Dk.Ok.crash {S : Dk} {m : Nat} (h : S.Ok m) (ks : List Bool) (tn : Int) : (S.crash ks tn).Ok (m + 1) := by
  refine ⟨h.n1, fun k hk => ?_, Nat.le_succ_of_le h.wr, Nat.zero_le _, by simp [Dk.crash]⟩
  show reread (landN ks tn S.F S.L S.L.length) S.C S.L k = landN ks tn S.F S.L S.L.length k
  by_cases hx : ∃ x ∈ S.L, x.1 = k
  · exact reread_near _ k S.L S.C hx
  · have hx' : ∀ x ∈ S.L, x.1 ≠ k := fun x hm e => hx ⟨x, hm, e⟩
    rw [reread_far _ _ k S.L hx', landN_far ks tn S.F S.L k hx' _ (Nat.le_refl _), h.inv k hk, lay_far S.F k S.L hx']
end Go.Proofs.YtggnljfcdohkaaaGreatDoor
