/- What a journal's disk holds between two calls: plain mathematics. -/
import Derived.Test.YtggnljfcdohkaaaGreatDoorDkL
namespace Go.Proofs.YtggnljfcdohkaaaGreatDoor
open Go.RowKit

/-- A disk that does what it is asked. -/
structure Dk.Fine (S : Dk) (m : Nat) : Prop where
  ok : S.Ok m
  dead : S.dead = false
  cut : S.cut = false
  n4 : 4 ≤ S.n
  n2 : S.n ≤ 2000
  ln : ∀ k, k < S.n → (S.C k).length = 64
theorem Dk.Ok.lim {S : Dk} {m : Nat} (h : S.Ok m) : S.Lim m := ⟨h.wr, h.ll, h.lf⟩
theorem Dk.Ok.mono {S : Dk} {m k : Nat} (h : S.Ok m) (hk : m ≤ k) : S.Ok k := ⟨h.n1, h.inv, Nat.le_trans h.wr hk, Nat.le_trans h.ll hk, h.lf⟩
theorem Dk.Fine.mono {S : Dk} {m k : Nat} (h : S.Fine m) (hk : m ≤ k) : S.Fine k := ⟨h.ok.mono hk, h.dead, h.cut, h.n4, h.n2, h.ln⟩
theorem Dk.Fine.werr {S : Dk} {m : Nat} (h : S.Fine m) (p : Nat) (hp : p < S.n) (z : Nat) (hz : z ≤ 64) : S.werr (p : Int) z = 0 := by
  unfold Dk.werr
  rw [h.dead, h.cut]
  rw [if_neg (by simp), if_neg (by omega), if_neg (by omega), if_neg (by simp)]
theorem Dk.Fine.wrote_eq {S : Dk} {m : Nat} (h : S.Fine m) (p : Nat) (hp : p < S.n) (s : ByteArray) (hs : s.size ≤ 64) : S.wrote (p : Int) s = S.write p (fillUp s) := by
  unfold Dk.wrote
  rw [if_pos (h.werr p hp s.size hs)]
  rfl
theorem Dk.Fine.wrote {S : Dk} {m : Nat} (h : S.Fine m) (p : Nat) (hp : p < S.n) (s : ByteArray) (hs : s.size ≤ 64) : (S.wrote (p : Int) s).Fine (m + 1) ∧ (S.wrote (p : Int) s).C = upd S.C p (fillUp s) ∧ (S.wrote (p : Int) s).F = S.F ∧ (S.wrote (p : Int) s).n = S.n := by
  have h1 := h.ok.wrote (p : Int) s
  rw [h.wrote_eq p hp s hs] at h1 ⊢
  refine ⟨⟨h1, h.dead, h.cut, h.n4, h.n2, fun k hk => ?_⟩, rfl, rfl, rfl⟩
  show (upd S.C p (fillUp s) k).length = 64
  unfold upd
  split
  · exact fillUp_length s hs
  · exact h.ln k hk
theorem Dk.Fine.flushed {S : Dk} {m : Nat} (h : S.Fine m) : S.ferr = 0 ∧ S.flushed.Fine m ∧ S.flushed.C = S.C ∧ S.flushed.L = [] ∧ (∀ k, k < S.n → S.flushed.F k = S.C k) ∧ S.flushed.n = S.n := by
  have hf : S.flushed = { S with F := lay S.F S.L, L := [] } := by unfold Dk.flushed; rw [h.dead]; rfl
  refine ⟨by unfold Dk.ferr; rw [h.dead]; rfl, ?_, by rw [hf], by rw [hf], fun k hk => ?_, by rw [hf]⟩
  · rw [hf]
    exact ⟨⟨h.ok.n1, h.ok.inv, h.ok.wr, Nat.zero_le _, h.ok.lf⟩, h.dead, h.cut, h.n4, h.n2, h.ln⟩
  · rw [hf]; exact (h.ok.inv k hk).symm
/-- A crash that keeps nothing. -/
theorem landN_nil (tn : Int) (F : Nat → List UInt8) (L : List (Nat × List UInt8)) : ∀ k, k ≤ L.length → landN [] tn F L k = F
  | 0, _ => rfl
  | k + 1, hk => by
    rw [landN_succ [] tn F L k (by omega), landN_nil tn F L k (by omega)]
    unfold land1
    simp
theorem Dk.Fine.crash_nil {S : Dk} {m : Nat} (h : S.Fine m) (hF : ∀ k, k < S.n → (S.F k).length = 64) (tn : Int) : (S.crash [] tn).Fine (m + 1) ∧ ∀ k, k < S.n → (S.crash [] tn).C k = S.F k := by
  have hC : ∀ k, k < S.n → (S.crash [] tn).C k = S.F k := fun k hk => by
    show reread (landN [] tn S.F S.L S.L.length) S.C S.L k = S.F k
    rw [landN_nil tn S.F S.L _ (Nat.le_refl _)]
    by_cases hm : ∃ x ∈ S.L, x.1 = k
    · exact reread_near S.F k S.L S.C hm
    · have hm2 : ∀ x ∈ S.L, x.1 ≠ k := fun x hx he => hm ⟨x, hx, he⟩
      rw [reread_far S.F S.C k S.L hm2, h.ok.inv k hk, lay_far S.F k S.L hm2]
  exact ⟨⟨h.ok.crash [] tn, rfl, rfl, h.n4, h.n2, fun k hk => by rw [hC k hk]; exact hF k hk⟩, hC⟩

/-- A row that is written. -/
theorem Dk.Fine.wrow (a : Nat) (s : ByteArray) : ∀ (f k : Nat) {S : Dk} {m : Nat}, S.Fine m → a + k + f ≤ S.n → (Dk.wrow a s f k S).1 = 0 ∧ (Dk.wrow a s f k S).2.Fine (m + f) ∧ (Dk.wrow a s f k S).2.n = S.n ∧ (Dk.wrow a s f k S).2.F = S.F
      ∧ ∀ i, (Dk.wrow a s f k S).2.C i = if a + k ≤ i ∧ i < a + k + f then fillUp (chunk s (i - a)) else S.C i
  | 0, k, S, m, h, _ => ⟨rfl, h, rfl, rfl, fun i => by rw [if_neg (by omega)]; rfl⟩
  | f + 1, k, S, m, h, hn => by
    have hw := h.wrote (a + k) (by omega) (chunk s k) (chunk_size s k)
    have ih := Dk.Fine.wrow a s f (k + 1) hw.1 (by rw [hw.2.2.2]; omega)
    unfold Dk.wrow
    rw [if_pos (h.werr (a + k) (by omega) _ (chunk_size s k))]
    refine ⟨ih.1, ih.2.1.mono (by omega), ih.2.2.1.trans hw.2.2.2, ih.2.2.2.1.trans hw.2.2.1, fun i => ?_⟩
    rw [ih.2.2.2.2 i, hw.2.1]
    by_cases hi : i = a + k
    · subst hi
      rw [if_neg (by omega), if_pos (by omega)]
      unfold upd
      rw [if_pos rfl, show a + k - a = k by omega]
    · by_cases h2 : a + (k + 1) ≤ i ∧ i < a + (k + 1) + f
      · rw [if_pos h2, if_pos (by omega)]
      · rw [if_neg h2, if_neg (by omega)]
        unfold upd
        rw [if_neg hi]
/-- Where nothing lies behind, nothing is written. -/
theorem Dk.scrb_none (a : Nat) (all : ByteArray) (used : Nat) : ∀ (f k n : Nat) (S : Dk), (∀ i, k ≤ i → i < k + f → isZ (restS all used i) = true) → Dk.scrb a all used f k n S = (n, 0, S)
  | 0, _, _, _, _ => rfl
  | f + 1, k, n, S, h => by
    unfold Dk.scrb
    rw [if_pos (h k (by omega) (by omega))]
    exact Dk.scrb_none a all used f (k + 1) n S (fun i h1 h2 => h i (by omega) (by omega))
/-- A half is made bytes 0. -/
theorem fill_none : fillUp ⟨#[]⟩ = List.replicate 64 0 := rfl
theorem Dk.Fine.scrb0 (a : Nat) (all : ByteArray) : ∀ (f k n : Nat) {S : Dk} {m : Nat}, S.Fine m → a + k + f ≤ S.n → (∀ i, k ≤ i → i < k + f → S.C (a + i) = (all.extract (64 * i) (64 * i + 64)).data.toList) →
    (Dk.scrb a all 0 f k n S).2.1 = 0 ∧ (Dk.scrb a all 0 f k n S).2.2.Fine (m + f) ∧ (Dk.scrb a all 0 f k n S).2.2.n = S.n ∧ ∀ i, (Dk.scrb a all 0 f k n S).2.2.C i = if a + k ≤ i ∧ i < a + k + f then List.replicate 64 0 else S.C i
  | 0, k, n, S, m, h, _, _ => ⟨rfl, h, rfl, fun i => by rw [if_neg (by omega)]; rfl⟩
  | f + 1, k, n, S, m, h, hn, hall => by
    have hk0 : keptS all 0 k = ⟨#[]⟩ := by
      unfold keptS
      apply ba_ext
      rw [extract_list]
      simp
    have hr0 : restS all 0 k = all.extract (64 * k) (64 * k + 64) := by unfold restS; rw [Nat.zero_max]
    unfold Dk.scrb
    rw [hk0, hr0]
    split
    · next hz =>
      have ih := Dk.Fine.scrb0 a all f (k + 1) n h (by omega) (fun i h1 h2 => hall i (by omega) (by omega))
      refine ⟨ih.1, ih.2.1.mono (by omega), ih.2.2.1, fun i => ?_⟩
      rw [ih.2.2.2 i]
      by_cases hi : i = a + k
      · subst hi
        rw [if_neg (by omega), if_pos (by omega)]
        have hc := hall k (by omega) (by omega)
        have hl := h.ln (a + k) (by omega)
        unfold isZ at hz
        rw [← hc] at hz
        rw [List.all_eq_true] at hz
        rw [← hl]
        exact List.eq_replicate_iff.2 ⟨rfl, fun b hb => by simpa using hz b hb⟩
      · by_cases h2 : a + (k + 1) ≤ i ∧ i < a + (k + 1) + f
        · rw [if_pos h2, if_pos (by omega)]
        · rw [if_neg h2, if_neg (by omega)]
    · have hw := h.wrote (a + k) (by omega) ⟨#[]⟩ (by decide)
      have ih := Dk.Fine.scrb0 a all f (k + 1) (n + 1) hw.1 (by rw [hw.2.2.2]; omega) (fun i h1 h2 => by
        rw [hw.2.1]
        unfold upd
        rw [if_neg (by omega)]
        exact hall i (by omega) (by omega))
      rw [if_pos (h.werr (a + k) (by omega) _ (by decide))]
      refine ⟨ih.1, ih.2.1.mono (by omega), ih.2.2.1.trans hw.2.2.2, fun i => ?_⟩
      rw [ih.2.2.2 i, hw.2.1]
      by_cases hi : i = a + k
      · subst hi
        rw [if_neg (by omega), if_pos (by omega)]
        unfold upd
        rw [if_pos rfl]
        rfl
      · by_cases h2 : a + (k + 1) ≤ i ∧ i < a + (k + 1) + f
        · rw [if_pos h2, if_pos (by omega)]
        · rw [if_neg h2, if_neg (by omega)]
          unfold upd
          rw [if_neg hi]
/-- The bytes of so many sectors, where each has its length. -/
theorem Dk.span_len (S : Dk) (a : Nat) : ∀ k, (∀ i, i < k → (S.C (a + i)).length = 64) → (S.span a k).length = 64 * k
  | 0, _ => rfl
  | k + 1, h => by
    unfold Dk.span
    rw [List.length_append, Dk.span_len S a k (fun i hi => h i (by omega)), h k (by omega)]
    omega
theorem Dk.span_sec (S : Dk) (a : Nat) : ∀ k, (∀ i, i < k → (S.C (a + i)).length = 64) → ∀ i, i < k → ((S.span a k).take (64 * i + 64)).drop (64 * i) = S.C (a + i)
  | 0, _, i, hi => by omega
  | k + 1, h, i, hi => by
    have hl := Dk.span_len S a k (fun i hi => h i (by omega))
    unfold Dk.span
    by_cases he : i = k
    · subst he
      rw [List.take_of_length_le (by rw [List.length_append, hl, h i (by omega)]; omega), List.drop_append_of_le_length (by omega), List.drop_eq_nil_of_le (by omega), List.nil_append]
    · rw [List.take_append_of_le_length (by omega)]
      exact Dk.span_sec S a k (fun i hi => h i (by omega)) i (by omega)
theorem Dk.span_congr (S T : Dk) (a : Nat) : ∀ k, (∀ i, i < k → T.C (a + i) = S.C (a + i)) → T.span a k = S.span a k
  | 0, _ => rfl
  | k + 1, h => by
    unfold Dk.span
    rw [Dk.span_congr S T a k (fun i hi => h i (by omega)), h k (by omega)]
theorem Dk.span_zero (S : Dk) (a : Nat) : ∀ k, (∀ i, i < k → S.C (a + i) = List.replicate 64 0) → S.span a k = List.replicate (64 * k) 0
  | 0, _ => rfl
  | k + 1, h => by
    unfold Dk.span
    rw [Dk.span_zero S a k (fun i hi => h i (by omega)), h k (by omega), List.replicate_append_replicate]
    rfl
theorem hat_le2 (n h : Nat) (hn : 4 ≤ n) (hh : h ≤ 1) : 2 ≤ hat n h ∧ hat n h + hl n ≤ n ∧ 1 ≤ hl n := ⟨by unfold hat; omega, hat_le n h (by omega) hh, by unfold hl; omega⟩
/-- A disk that has just been formatted. -/
theorem Dk.Fine.fmt {S : Dk} {m : Nat} (h : S.Fine m) : S.fmt.1 = 0 ∧ S.fmt.2.Fine (m + 1002) ∧ S.fmt.2.n = S.n ∧ S.fmt.2.L = [] ∧ (∀ k, k < S.n → S.fmt.2.F k = S.fmt.2.C k) ∧ S.fmt.2.C 0 = fillUp (supB 1 0) ∧ S.fmt.2.C 1 = List.replicate 64 0
      ∧ (∀ i, i < hl S.n → S.fmt.2.C (hat S.n 0 + i) = List.replicate 64 0) := by
  have hh := hat_le2 S.n 0 h.n4 (by omega)
  have h1n : (1 : Nat) < S.n := by have := h.n4; omega
  have hw : (S.wrote 1 sNone).Fine (m + 1) ∧ (S.wrote 1 sNone).C = upd S.C 1 (fillUp sNone) ∧ (S.wrote 1 sNone).F = S.F ∧ (S.wrote 1 sNone).n = S.n := h.wrote 1 h1n sNone (by decide)
  have he : S.werr 1 sNone.size = 0 := h.werr 1 h1n _ (by decide)
  obtain ⟨T, hT⟩ : ∃ T, T = S.wrote 1 sNone := ⟨_, rfl⟩
  rw [← hT] at hw
  have hsc := Dk.Fine.scrb0 (hat S.n 0) (T.half 0) (hl S.n - 0 / 64) (0 / 64) 0 hw.1 (by rw [hw.2.2.2]; omega) (fun i _ hi => by
    have := Dk.span_sec T (hat T.n 0) (hl T.n) (fun i hi => hw.1.ln _ (by rw [hw.2.2.2] at hi ⊢; omega)) i (by rw [hw.2.2.2]; omega)
    rw [hw.2.2.2] at this
    rw [extract_list, ← this]
    unfold Dk.half
    rw [ba_list, hw.2.2.2])
  have hfs : S.fScr = Dk.scrb (hat S.n 0) (T.half 0) 0 (hl S.n - 0 / 64) (0 / 64) 0 T := by unfold Dk.fScr; rw [← hT]
  rw [← hfs] at hsc
  have hfl := hsc.2.1.flushed
  have hz9 : hl S.n ≤ 1000 := by have := h.n2; unfold hl; omega
  have hsb : (supB 1 0).size ≤ 64 := by have := supB_size 1 0 (by decide) (by omega); omega
  have hn3 : S.fScr.2.2.flushed.n = S.n := by rw [hfl.2.2.2.2.2, hsc.2.2.1, hw.2.2.2]
  have hsw := hfl.2.1.wrote 0 (by omega) (supB 1 0) hsb
  have hsf := hsw.1.flushed
  have hse := hfl.2.1.werr 0 (by omega) (supB 1 0).size hsb
  have hsup : S.fScr.2.2.flushed.supw 0 1 0 = (0, (S.fScr.2.2.flushed.wrote (0 : Nat) (supB 1 0)).flushed) := by
    unfold Dk.supw
    rw [if_pos hse, hsf.1]
  have hfmt : S.fmt = (0, (S.fScr.2.2.flushed.wrote (0 : Nat) (supB 1 0)).flushed) := by
    unfold Dk.fmt
    rw [if_neg (by rw [he]; simp), if_neg (by rw [hsc.1]; simp), if_neg (by rw [hfl.1]; simp), hsup]
  rw [hfmt]
  have hnn : (S.fScr.2.2.flushed.wrote (0 : Nat) (supB 1 0)).flushed.n = S.n := by rw [hsf.2.2.2.2.2, hsw.2.2.2, hn3]
  have hCC : ∀ i, (S.fScr.2.2.flushed.wrote (0 : Nat) (supB 1 0)).flushed.C i = upd (S.fScr.2.2.C) 0 (fillUp (supB 1 0)) i := fun i => by rw [hsf.2.2.1, hsw.2.1, hfl.2.2.1]
  refine ⟨rfl, hsf.2.1.mono (by omega), hnn, hsf.2.2.2.1, fun k hk => ?_, ?_, ?_, fun i hi => ?_⟩
  · show (S.fScr.2.2.flushed.wrote (0 : Nat) (supB 1 0)).flushed.F k = (S.fScr.2.2.flushed.wrote (0 : Nat) (supB 1 0)).flushed.C k
    rw [hsf.2.2.2.2.1 k (by rw [hsw.2.2.2, hn3]; exact hk), hsf.2.2.1]
  · show (S.fScr.2.2.flushed.wrote (0 : Nat) (supB 1 0)).flushed.C 0 = _
    rw [hCC]
    unfold upd
    rw [if_pos rfl]
  · show (S.fScr.2.2.flushed.wrote (0 : Nat) (supB 1 0)).flushed.C 1 = _
    rw [hCC]
    unfold upd
    rw [if_neg (by decide), hsc.2.2.2 1, if_neg (by omega), hw.2.1]
    unfold upd
    rw [if_pos rfl]
    rfl
  · show (S.fScr.2.2.flushed.wrote (0 : Nat) (supB 1 0)).flushed.C (hat S.n 0 + i) = _
    rw [hCC]
    unfold upd
    rw [if_neg (by omega), hsc.2.2.2, if_pos (by omega)]
end Go.Proofs.YtggnljfcdohkaaaGreatDoor
/- A journal's disk: opened it tells its records; a record is added: plain mathematics. -/
namespace Go.Proofs.YtggnljfcdohkaaaGreatDoor
open Go.RowKit

/-- A disk that holds a journal and its records. -/
structure JSt (S : Dk) (m : Nat) (J : Jn) (l : List ByteArray) : Prop where
  fine : S.Fine m
  ok : J.Ok S.n
  small : ∀ r ∈ l, r.size ≤ 2010
  cnt : J.count = l.length
  half : S.span (hat S.n J.half) (hl S.n) = wrp (J.turn * 1000000) 0 l ++ List.replicate (64 * hl S.n - J.used) 0
  used : J.used = (wrp (J.turn * 1000000) 0 l).length
  tail : J.tail = tailS ⟨(wrp (J.turn * 1000000) 0 l).toArray⟩
  sup : S.C J.at_ = fillUp (supB J.turn J.half)
  oth : ∀ t h, superS (S.read (1 - J.at_)) = some (t, h) → t < J.turn
theorem superS_fill (t h : Nat) (ht : 1 ≤ t) (ht2 : t ≤ 1000000) (hh : h ≤ 1) : superS ⟨(fillUp (supB t h)).toArray⟩ = some (t, h) := by
  rw [fill_ba]
  exact superS_sup t h _ ht ht2 hh (by omega)
theorem bst_none (a : Nat) (c : Nat × Nat × Nat) : bst none a c = c := rfl
theorem bst_some (t h a : Nat) (c : Nat × Nat × Nat) : bst (some (t, h)) a c = if c.2.1 < t then (a, t, h) else c := rfl
theorem JSt.count {S : Dk} {m : Nat} {J : Jn} {l : List ByteArray} (h : JSt S m J l) : countV S = (J.at_, J.turn, J.half) := by
  have hs : superS (S.read J.at_) = some (J.turn, J.half) := by
    unfold Dk.read
    rw [h.sup]
    exact superS_fill _ _ h.ok.t1 h.ok.t2 h.ok.h1
  have ht := h.ok.t1
  have ha := h.ok.a1
  have ho := h.oth
  unfold countV
  show bst (superS (S.read 1)) 1 (bst (superS (S.read 0)) 0 (0, 0, 0)) = _
  obtain h0 | h0 : J.at_ = 0 ∨ J.at_ = 1 := by omega
  · rw [h0] at hs ho ⊢
    rw [hs, bst_some, if_pos (by show 0 < J.turn; omega)]
    cases hq : superS (S.read 1) with
    | none => rfl
    | some x =>
      obtain ⟨t, hh⟩ := x
      have := ho t hh hq
      rw [bst_some, if_neg (by show ¬ J.turn < t; omega)]
  · rw [h0] at hs ho ⊢
    rw [hs, bst_some]
    have hlt : (bst (superS (S.read 0)) 0 (0, 0, 0)).2.1 < J.turn := by
      cases hq : superS (S.read 0) with
      | none => show 0 < J.turn; omega
      | some x =>
        obtain ⟨t, hh⟩ := x
        have := ho t hh hq
        rw [bst_some]
        split
        · exact this
        · show 0 < J.turn; omega
    rw [if_pos hlt]
theorem ba_extract (l : List UInt8) (i j : Nat) : ((⟨l.toArray⟩ : ByteArray).extract i j).data.toList = (l.take j).drop i := by rw [extract_list, ba_list]
/-- Opened, it tells its records, and is as it was. -/
theorem JSt.opened {S : Dk} {m : Nat} {J : Jn} {l : List ByteArray} (h : JSt S m J l) : S.oErr = 0 ∧ S.oDk = S ∧ S.oJn = J ∧ S.oUn.1 = l := by
  have hc := h.count
  obtain ⟨P, hP⟩ : ∃ P, P = wrp (J.turn * 1000000) 0 l := ⟨_, rfl⟩
  have hu := h.used
  have hu1 := h.ok.u1
  have hhalf := h.half
  have htail := h.tail
  rw [← hP] at hu hhalf htail
  have hAll : S.oAll = ⟨(P ++ List.replicate (64 * hl S.n - J.used) 0).toArray⟩ := by
    unfold Dk.oAll Dk.half
    rw [hc, hhalf]
  have hUn : S.oUn = (l, zeros (64 * hl S.n - J.used)) := by
    unfold Dk.oUn
    rw [hAll, hc, hP]
    exact unL_wrp _ _ l 0 h.small (by have := h.ok.t2; have := h.ok.c1; have := h.cnt; simp only; omega)
  have hsz : S.oAll.size = 64 * hl S.n := by rw [hAll, ba_size, ba_list, List.length_append, List.length_replicate, ← hu]; omega
  have hUsed : S.oUsed = J.used := by unfold Dk.oUsed; rw [hUn, hsz]; simp only [zeros_size]; omega
  have hScr : S.oScr = (0, 0, S) := by
    unfold Dk.oScr
    rw [hUsed]
    refine Dk.scrb_none _ _ _ _ _ _ _ (fun i h1 h2 => ?_)
    unfold isZ restS
    rw [hAll, ba_extract, List.all_eq_true]
    intro b hb
    have hb3 : b ∈ ((P ++ List.replicate (64 * hl S.n - J.used) 0).take (64 * i + 64)).drop (max J.used (64 * i)) := hb
    rw [List.take_append, List.drop_append] at hb3
    rcases List.mem_append.1 hb3 with h5 | h5
    · rw [List.drop_eq_nil_of_le (by rw [List.length_take]; omega)] at h5
      cases h5
    · have := List.mem_of_mem_take (List.mem_of_mem_drop h5)
      rw [List.mem_replicate] at this
      simp [this.2]
  refine ⟨?_, ?_, ?_, by rw [hUn]⟩
  · unfold Dk.oErr; rw [hScr]; simp
  · unfold Dk.oDk; rw [hScr]; simp
  · unfold Dk.oJn
    rw [hUn, hUsed, hc, hAll]
    have hex : (⟨(P ++ List.replicate (64 * hl S.n - J.used) 0).toArray⟩ : ByteArray).extract 0 J.used = ⟨P.toArray⟩ := by
      apply ba_ext
      rw [ba_extract, ba_list, hu, List.take_left, List.drop_zero]
    rw [hex]
    unfold jnOf
    have h1 : (⟨P.toArray⟩ : ByteArray).size = J.used := by rw [ba_size, ba_list, hu]
    rw [h1, ← htail, ← h.cnt]
theorem JSt.opens {S : Dk} {m : Nat} {J : Jn} {l : List ByteArray} (h : JSt S m J l) : S.OErr = 0 ∧ S.ODk = S ∧ S.oJn = J ∧ S.oUn.1 = l ∧ ((countV S).1 ≤ 1 ∧ (countV S).2.1 ≤ 1000000 ∧ (countV S).2.2 ≤ 1) := by
  obtain ⟨h1, h2, h3, h4⟩ := h.opened
  have hc := h.count
  have ht := h.ok.t1
  refine ⟨?_, ?_, h3, h4, ?_⟩
  · unfold Dk.OErr; rw [h.fine.dead, hc, h1]; simp; omega
  · unfold Dk.ODk; rw [h.fine.dead, hc, h2]; simp
  · rw [hc]; exact ⟨h.ok.a1, h.ok.t2, h.ok.h1⟩
/-- What counts of a disk for its journal: the sectors. -/
theorem JSt.congr {S T : Dk} {m k : Nat} {J : Jn} {l : List ByteArray} (h : JSt S m J l) (hT : T.Fine k) (hn : T.n = S.n) (hC : ∀ i, i < S.n → T.C i = S.C i) : JSt T k J l := by
  have h4 := h.fine.n4
  have ha := h.ok.a1
  refine ⟨hT, by rw [hn]; exact h.ok, h.small, h.cnt, ?_, h.used, h.tail, by rw [hC _ (by omega)]; exact h.sup, fun t hh hq => h.oth t hh ?_⟩
  · rw [hn, Dk.span_congr S T _ _ (fun i hi => hC _ (by have := (hat_le2 S.n J.half h4 h.ok.h1).2.1; omega))]
    exact h.half
  · unfold Dk.read at hq ⊢
    rw [← hC _ (by omega)]
    exact hq
/-- A formatted disk holds a journal without records. -/
theorem Dk.Fine.jst {S : Dk} {m : Nat} (h : S.Fine m) : JSt S.fmt.2 (m + 1002) (jnOf 0 1 0 0 ⟨#[]⟩) [] := by
  obtain ⟨_, h2, h3, _, _, h6, h7, h8⟩ := h.fmt
  have hh := hat_le2 S.n 0 h.n4 (by omega)
  refine ⟨h2, ⟨by decide, by decide, by decide, by decide, by decide, Nat.zero_le _, rfl⟩, (fun r hr => by cases hr), rfl, ?_, rfl, rfl, h6, fun t hh hq => ?_⟩
  · show S.fmt.2.span (hat S.fmt.2.n 0) (hl S.fmt.2.n) = _
    rw [h3, Dk.span_zero _ _ _ h8]
    rfl
  · exfalso
    have : S.fmt.2.read (1 - (jnOf 0 1 0 0 ⟨#[]⟩).at_) = zeros 64 := by
      show (⟨(S.fmt.2.C 1).toArray⟩ : ByteArray) = _
      rw [h7]; rfl
    rw [this, superS_zero] at hq
    cases hq
theorem span_ext (S : Dk) (a : Nat) : ∀ (k : Nat) (T : List UInt8), T.length = 64 * k → (∀ i, i < k → (T.take (64 * i + 64)).drop (64 * i) = S.C (a + i)) → S.span a k = T
  | 0, T, hT, _ => by
    have : T = [] := List.eq_nil_of_length_eq_zero (by omega)
    rw [this]; rfl
  | k + 1, T, hT, h => by
    unfold Dk.span
    rw [span_ext S a k (T.take (64 * k)) (by rw [List.length_take]; omega) (fun i hi => by
      rw [List.take_take, Nat.min_eq_left (by omega)]
      exact h i (by omega))]
    have e := h k (by omega)
    rw [List.take_of_length_le (show T.length ≤ 64 * k + 64 by omega)] at e
    rw [← e, List.take_append_drop]
theorem getElem?_sec (T : List UInt8) (i t : Nat) : ((T.take (64 * i + 64)).drop (64 * i))[t]? = if t < 64 then T[64 * i + t]? else none := by
  rw [List.getElem?_drop, List.getElem?_take]
  by_cases h : t < 64
  · rw [if_pos (by omega), if_pos h]
  · rw [if_neg (by omega), if_neg h]
/-- A row that is filled up with bytes 0, sector by sector. -/
theorem fill_chunk (R : List UInt8) (j : Nat) (hj : 64 * j ≤ R.length) (n : Nat) (hn : 64 * j + 64 ≤ R.length + n) : fillUp (chunk ⟨R.toArray⟩ j) = ((R ++ List.replicate n 0).take (64 * j + 64)).drop (64 * j) := by
  have hRs : (⟨R.toArray⟩ : ByteArray).size = R.length := by rw [ba_size, ba_list]
  have hcs : (chunk ⟨R.toArray⟩ j).size = min (64 * j + 64) R.length - 64 * j := by
    unfold chunk
    rw [ByteArray.size_extract, hRs]; omega
  apply List.ext_getElem?
  intro t
  rw [getElem?_sec]
  unfold fillUp
  rw [hcs]
  unfold chunk
  rw [ba_extract, hRs]
  rw [List.getElem?_append, List.length_drop, List.length_take, List.getElem?_drop, List.getElem?_take, List.getElem?_replicate, List.getElem?_append, List.getElem?_replicate]
  by_cases h1 : t < 64
  · rw [if_pos h1]
    by_cases h2 : 64 * j + t < R.length
    · rw [if_pos (by omega), if_pos (by omega), if_pos h2]
    · rw [if_neg (by omega), if_pos (by omega), if_neg h2, if_pos (by omega)]
  · rw [if_neg h1, if_neg (by omega), if_neg (by omega)]
/-- A record more. -/
theorem JSt.add {S : Dk} {m : Nat} {J : Jn} {l : List ByteArray} (h : JSt S m J l) (r : ByteArray) (hr : r.size ≤ 2010) (hc : J.count + 1 ≤ 1000000) (hfit : (addW J r).size ≤ hl S.n * 64 - J.used) :
    (addWr S J r).1 = 0 ∧ JSt (addWr S J r).2 (m + 40) (addJ J r) (l ++ [r]) ∧ (addWr S J r).2.F = S.F ∧ (addWr S J r).2.n = S.n := by
  obtain ⟨P, hP⟩ : ∃ P, P = wrp (J.turn * 1000000) 0 l := ⟨_, rfl⟩
  have hu := h.used
  have hu1 := h.ok.u1
  have hhalf := h.half
  have htail := h.tail
  rw [← hP] at hu hhalf htail
  have hh := hat_le2 S.n J.half h.fine.n4 h.ok.h1
  obtain ⟨W, hW⟩ : ∃ W, W = (addW J r).data.toList := ⟨_, rfl⟩
  have hWl : (addW J r).size = W.length := by rw [ba_size, hW]
  rw [hWl] at hfit
  have hW9 : W.length ≤ 2040 := by
    rw [← hWl]
    unfold addW
    have := wrapS_le (J.turn * 1000000 + J.count) (by have := h.ok.t2; have := h.ok.c1; show _ < 72057594037927936; omega) r hr
    omega
  have hq : P.length - P.length % 64 = 64 * (J.used / 64) := by omega
  have hRow : (addRow J r) = ⟨(P.drop (64 * (J.used / 64)) ++ W).toArray⟩ := by
    apply ba_ext
    have e0 : addRow J r = J.tail ++ addW J r := rfl
    rw [e0, htail, ba_app, ba_list, ← hW]
    unfold tailS
    rw [ba_extract, ba_size, ba_list, hq, List.take_of_length_le (Nat.le_refl _)]
  obtain ⟨R, hR⟩ : ∃ R, R = P.drop (64 * (J.used / 64)) ++ W := ⟨_, rfl⟩
  rw [← hR] at hRow
  have hRl : R.length = J.used % 64 + W.length := by rw [hR, List.length_append, List.length_drop]; omega
  have hnc : nch (addRow J r) = (R.length + 63) / 64 := by unfold nch; rw [hRow, ba_size, ba_list]
  obtain ⟨nc, hncd⟩ : ∃ nc, nc = (R.length + 63) / 64 := ⟨_, rfl⟩
  rw [← hncd] at hnc
  obtain ⟨k0, hk0⟩ : ∃ k0, k0 = J.used / 64 := ⟨_, rfl⟩
  have hw := h.fine.wrow (hat S.n J.half + k0) (addRow J r) nc 0 (by omega)
  have hAW : addWr S J r = Dk.wrow (hat S.n J.half + k0) (addRow J r) nc 0 S := by unfold addWr; rw [hnc, hk0]
  rw [← hAW] at hw
  have hnc9 : nc ≤ 36 := by omega
  refine ⟨hw.1, ?_, hw.2.2.2.1, hw.2.2.1⟩
  have hn := hw.2.2.1
  have hC := hw.2.2.2.2
  have hP2 : wrp (J.turn * 1000000) 0 (l ++ [r]) = P ++ W := by
    rw [wrp_snoc, ← hP, hW]
    unfold addW
    rw [Nat.add_zero, h.cnt]
  have ha1 := h.ok.a1
  refine ⟨hw.2.1.mono (by omega), ⟨h.ok.a1, h.ok.t1, h.ok.t2, h.ok.h1, hc, ?_, ?_⟩, ?_, ?_, ?_, ?_, ?_, ?_, fun t x hq => h.oth t x ?_⟩
  · show J.used + (addW J r).size ≤ _
    rw [hn, hWl]; omega
  · show (tailS (addRow J r)).size = (J.used + (addW J r).size) % 64
    rw [tailS_size, hRow, ba_size, ba_list, hRl, hWl]; omega
  · intro x hx
    rcases List.mem_append.1 hx with hx | hx
    · exact h.small x hx
    · rw [List.mem_singleton] at hx; rw [hx]; exact hr
  · show J.count + 1 = _
    rw [List.length_append, h.cnt]; rfl
  · show (addWr S J r).2.span (hat (addWr S J r).2.n J.half) (hl (addWr S J r).2.n) = wrp (J.turn * 1000000) 0 (l ++ [r]) ++ List.replicate (64 * hl (addWr S J r).2.n - (J.used + (addW J r).size)) 0
    rw [hn, hP2, hWl]
    refine span_ext _ _ _ _ (by rw [List.length_append, List.length_append, List.length_replicate]; omega) (fun i hi => ?_)
    rw [hC]
    have hold : S.C (hat S.n J.half + i) = ((P ++ List.replicate (64 * hl S.n - J.used) 0).take (64 * i + 64)).drop (64 * i) := by
      rw [← hhalf]
      exact (Dk.span_sec S _ _ (fun i hi => h.fine.ln _ (by omega)) i hi).symm
    by_cases hm : hat S.n J.half + k0 + 0 ≤ hat S.n J.half + i ∧ hat S.n J.half + i < hat S.n J.half + k0 + 0 + nc
    · rw [if_pos hm, show hat S.n J.half + i - (hat S.n J.half + k0) = i - k0 by omega, hRow, fill_chunk R (i - k0) (by omega) (64 * hl S.n - (J.used + W.length)) (by omega)]
      apply List.ext_getElem?
      intro t
      rw [getElem?_sec, getElem?_sec]
      by_cases ht : t < 64
      · rw [if_pos ht, if_pos ht]
        rw [List.append_assoc, List.getElem?_append, List.getElem?_append, List.getElem?_append (l₁ := R), hR, List.getElem?_append (l₁ := P.drop _), List.getElem?_drop, List.length_append, List.length_drop, List.getElem?_replicate, List.getElem?_replicate]
        by_cases h1 : 64 * i + t < P.length
        · rw [if_pos h1, if_pos (by omega), if_pos (by omega), show 64 * (J.used / 64) + (64 * (i - k0) + t) = 64 * i + t by omega]
        · rw [if_neg h1]
          by_cases h2 : 64 * i + t - P.length < W.length
          · rw [if_pos h2, if_pos (by omega), if_neg (by omega), show 64 * (i - k0) + t - (P.length - 64 * (J.used / 64)) = 64 * i + t - P.length by omega]
          · rw [if_neg h2, if_pos (show 64 * i + t - P.length - W.length < 64 * hl S.n - (J.used + W.length) by omega), if_neg (show ¬ 64 * (i - k0) + t < P.length - 64 * (J.used / 64) + W.length by omega), if_pos (show 64 * (i - k0) + t - (P.length - 64 * (J.used / 64) + W.length) < 64 * hl S.n - (J.used + W.length) by omega)]
      · rw [if_neg ht, if_neg ht]
    · rw [if_neg hm, hold]
      apply List.ext_getElem?
      intro t
      rw [getElem?_sec, getElem?_sec]
      by_cases ht : t < 64
      · rw [if_pos ht, if_pos ht]
        rw [List.append_assoc, List.getElem?_append, List.getElem?_append, List.getElem?_append (l₁ := P), List.getElem?_replicate, List.getElem?_replicate]
        by_cases h1 : 64 * i + t < P.length
        · rw [if_pos h1, if_pos h1]
        · rw [if_neg h1, if_neg h1]
          by_cases h2 : 64 * i + t - P.length < W.length
          · exfalso; omega
          · rw [if_neg h2, if_pos (by omega), if_pos (by omega)]
      · rw [if_neg ht, if_neg ht]
  · show J.used + (addW J r).size = (wrp (J.turn * 1000000) 0 (l ++ [r])).length
    rw [hP2, List.length_append, hWl, hu]
  · show tailS (addRow J r) = tailS ⟨(wrp (J.turn * 1000000) 0 (l ++ [r])).toArray⟩
    rw [hP2, hRow]
    apply ba_ext
    unfold tailS
    rw [ba_extract, ba_extract, ba_size, ba_list, ba_size, ba_list, List.take_of_length_le (Nat.le_refl _), List.take_of_length_le (Nat.le_refl _), hR, ← List.drop_append_of_le_length (by omega), List.drop_drop]
    congr 1
    rw [List.length_drop, List.length_append]
    omega
  · show (addWr S J r).2.C J.at_ = _
    rw [hC, if_neg (by omega)]
    exact h.sup
  · unfold Dk.read at hq ⊢
    have : (addWr S J r).2.C (1 - J.at_) = S.C (1 - J.at_) := by rw [hC, if_neg (by omega)]
    rw [← this]
    exact hq
end Go.Proofs.YtggnljfcdohkaaaGreatDoor
