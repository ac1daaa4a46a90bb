/- A compaction that is cut off, and crashes: plain mathematics. -/
import Derived.Test.YtkkjbljhehnmjaaGreatDoorJnCs
import Derived.Test.YtkkjbljhehnmjaaGreatDoorJnAw
namespace Go.Proofs.YtkkjbljhehnmjaaGreatDoor
open Go.RowKit

/-- With a cut so many Writes ahead. -/
def Dk.wc (S : Dk) (p : Nat) : Dk := { S with cut := true, left := p }
/-- Without power. -/
def Dk.off (S : Dk) : Dk := { S.wc 0 with dead := true }
theorem Dk.cutAt_wc (S : Dk) (p : Nat) : S.cutAt (p : Int) = S.wc p := by
  unfold Dk.cutAt Dk.wc
  rw [show decide ((0 : Int) ≤ (p : Int)) = true by simp, show (max (p : Int) 0).toNat = p by omega]
theorem Dk.crash_off (S : Dk) (ks : List Bool) (tn : Int) : S.off.crash ks tn = S.crash ks tn := rfl
theorem Dk.crash_wc (S : Dk) (p : Nat) (ks : List Bool) (tn : Int) : (S.wc p).crash ks tn = S.crash ks tn := rfl
theorem Dk.Fine.wc_more {S : Dk} {m : Nat} (h : S.Fine m) (q : Nat) (hq : q < S.n) (s : ByteArray) (hs : s.size ≤ 64) (p : Nat) :
    (S.wc (p + 1)).werr (q : Int) s.size = 0 ∧ (S.wc (p + 1)).wrote (q : Int) s = (S.wrote (q : Int) s).wc p := by
  have e : (S.wc (p + 1)).werr (q : Int) s.size = 0 := by
    unfold Dk.werr Dk.wc
    simp only
    rw [h.dead, if_neg (by simp), if_neg (by omega), if_neg (by omega), if_neg (by omega)]
  refine ⟨e, ?_⟩
  rw [h.wrote_eq q hq s hs]
  unfold Dk.wrote
  rw [if_pos e]
  rfl
theorem Dk.Fine.wc_none {S : Dk} {m : Nat} (h : S.Fine m) (q : Nat) (hq : q < S.n) (s : ByteArray) (hs : s.size ≤ 64) :
    (S.wc 0).werr (q : Int) s.size = 25 ∧ (S.wc 0).wrote (q : Int) s = S.off := by
  have e : (S.wc 0).werr (q : Int) s.size = 25 := by
    unfold Dk.werr Dk.wc
    simp only
    rw [h.dead, if_neg (by simp), if_neg (by omega), if_neg (by omega), if_pos ⟨trivial, trivial⟩]
  refine ⟨e, ?_⟩
  unfold Dk.wrote
  rw [if_neg (by rw [e]; decide), e]
  rfl
theorem Dk.Fine.wrow_wc (a : Nat) (s : ByteArray) : ∀ (f k : Nat) {S : Dk} {m : Nat} (p : Nat), S.Fine m → a + k + f ≤ S.n →
    (f ≤ p → Dk.wrow a s f k (S.wc p) = (0, (Dk.wrow a s f k S).2.wc (p - f))) ∧ (p < f → Dk.wrow a s f k (S.wc p) = (25, (Dk.wrow a s p k S).2.off))
  | 0, k, S, m, p, _, _ => ⟨fun _ => rfl, fun h => absurd h (Nat.not_lt_zero _)⟩
  | f + 1, k, S, m, p, h, hn => by
    have hw := h.wrote (a + k) (by omega) (chunk s k) (chunk_size s k)
    have he := h.werr (a + k) (by omega) _ (chunk_size s k)
    cases p with
    | zero =>
      refine ⟨fun h => absurd h (by omega), fun _ => ?_⟩
      obtain ⟨e1, e2⟩ := h.wc_none (a + k) (by omega) (chunk s k) (chunk_size s k)
      have u0 : Dk.wrow a s (f + 1) k (S.wc 0) = ((S.wc 0).werr ((a + k : Nat) : Int) (chunk s k).size, (S.wc 0).wrote ((a + k : Nat) : Int) (chunk s k)) := by rw [Dk.wrow, if_neg (by rw [e1]; decide)]
      rw [u0, e1, e2]
      rfl
    | succ p =>
      obtain ⟨e1, e2⟩ := h.wc_more (a + k) (by omega) (chunk s k) (chunk_size s k) p
      have ih := Dk.Fine.wrow_wc a s f (k + 1) p hw.1 (by rw [hw.2.2.2]; omega)
      have u1 : Dk.wrow a s (f + 1) k (S.wc (p + 1)) = Dk.wrow a s f (k + 1) ((S.wrote ((a + k : Nat) : Int) (chunk s k)).wc p) := by
        rw [Dk.wrow, if_pos e1, e2]
      refine ⟨fun hp => ?_, fun hp => ?_⟩
      · rw [u1, ih.1 (by omega), Nat.add_sub_add_right]
        rw [show Dk.wrow a s (f + 1) k S = Dk.wrow a s f (k + 1) (S.wrote ((a + k : Nat) : Int) (chunk s k)) by rw [Dk.wrow, if_pos he]]
      · rw [u1, ih.2 (by omega)]
        rw [show Dk.wrow a s (p + 1) k S = Dk.wrow a s p (k + 1) (S.wrote ((a + k : Nat) : Int) (chunk s k)) by rw [Dk.wrow, if_pos he]]
/-- The Writes of a row: where they are. -/
theorem Dk.Fine.wrow_L (a : Nat) (s : ByteArray) : ∀ (f k : Nat) {S : Dk} {m : Nat}, S.Fine m → a + k + f ≤ S.n → ∀ x ∈ (Dk.wrow a s f k S).2.L, x ∈ S.L ∨ (a + k ≤ x.1 ∧ x.1 < a + k + f ∧ x.2.length = 64)
  | 0, k, S, m, _, _, x, hx => .inl hx
  | f + 1, k, S, m, h, hn, x, hx => by
    have hw := h.wrote (a + k) (by omega) (chunk s k) (chunk_size s k)
    have he := h.werr (a + k) (by omega) _ (chunk_size s k)
    rw [Dk.wrow, if_pos he] at hx
    rcases Dk.Fine.wrow_L a s f (k + 1) hw.1 (by rw [hw.2.2.2]; omega) x hx with h1 | ⟨h1, h2, h3⟩
    · rw [h.wrote_eq (a + k) (by omega) _ (chunk_size s k)] at h1
      rcases List.mem_append.1 h1 with h1 | h1
      · exact .inl h1
      · rw [List.mem_singleton.1 h1]
        exact .inr ⟨Nat.le_refl _, by show a + k < _; omega, fillUp_length _ (chunk_size s k)⟩
    · exact .inr ⟨by omega, by omega, h3⟩
theorem landN_len {ks : List Bool} {tn : Int} {F : Nat → List UInt8} {L : List (Nat × List UInt8)} {n : Nat} (hF : ∀ k, k < n → (F k).length = 64) (hL : ∀ x ∈ L, x.1 < n ∧ x.2.length = 64) : ∀ j, j ≤ L.length → ∀ k, k < n → (landN ks tn F L j k).length = 64
  | 0, _ => hF
  | j + 1, hj => fun k hk => by
    have ih := landN_len (ks := ks) (tn := tn) hF hL j (by omega)
    rw [landN_succ ks tn F L j hj]
    obtain ⟨h1, h2⟩ := hL _ (List.getElem_mem (show j < L.length by omega))
    unfold land1
    split
    · unfold upd
      split
      · exact torn_length (ih _ h1) h2 _
      · exact ih k hk
    · exact ih k hk
/-- A crash behind Writes that all lie in a stretch. -/
theorem Dk.Fine.crash_in {S : Dk} {m : Nat} (h : S.Fine m) (hF : ∀ k, k < S.n → (S.F k).length = 64) (lo hi : Nat) (hL : ∀ x ∈ S.L, lo ≤ x.1 ∧ x.1 < hi ∧ x.1 < S.n ∧ x.2.length = 64) (ks : List Bool) (tn : Int) :
    (S.crash ks tn).Fine (m + 1) ∧ (S.crash ks tn).n = S.n ∧ ∀ i, (i < lo ∨ hi ≤ i) → (S.crash ks tn).C i = S.C i := by
  refine ⟨⟨h.ok.crash ks tn, rfl, rfl, h.n4, h.n2, fun k hk => ?_⟩, rfl, fun i hi => ?_⟩
  · rw [(h.ok.crash ks tn).inv k hk]
    show (lay (landN ks tn S.F S.L S.L.length) [] k).length = 64
    exact landN_len hF (fun x hx => ⟨(hL x hx).2.2.1, (hL x hx).2.2.2⟩) _ (Nat.le_refl _) k hk
  · show reread (landN ks tn S.F S.L S.L.length) S.C S.L i = S.C i
    exact reread_far _ _ i S.L (fun x hx e => by have := hL x hx; omega)
/-- Nothing of a journal but the other half has changed. -/
theorem JSt.congr2 {S T : Dk} {m k : Nat} {J : Jn} {l : List ByteArray} (h : JSt S m J l) (hT : T.Fine k) (hn : T.n = S.n) (hC : ∀ i, (i < hat S.n (1 - J.half) ∨ hat S.n (1 - J.half) + hl S.n ≤ i) → T.C i = S.C i) : JSt T k J l := by
  have h4 := h.fine.n4
  have ha := h.ok.a1
  have hh := h.ok.h1
  have h2 := (hat_le2 S.n (1 - J.half) h4 (by omega)).1
  refine ⟨hT, by rw [hn]; exact h.ok, h.small, h.cnt, ?_, h.used, h.tail, by rw [hC _ (by omega)]; exact h.sup, fun t hh hq => h.oth t hh ?_⟩
  · rw [hn, Dk.span_congr S T _ _ (fun i hi => hC _ (by
      rcases (show J.half = 0 ∨ J.half = 1 by omega) with e | e
      · rw [e]; left; unfold hat; omega
      · rw [e]; right; unfold hat; omega))]
    exact h.half
  · unfold Dk.read at hq ⊢
    rw [← hC _ (by omega)]
    exact hq
theorem supB_le {t h : Nat} (ht : t ≤ 1000000) (hh : h ≤ 1) : (supB t h).size ≤ 64 := by have := supB_size t h (by show _ < 72057594037927936; omega) hh; omega
/-- What a compaction with a cut ahead leaves, behind a crash. -/
theorem JSt.cut_compact {S : Dk} {m : Nat} {J : Jn} {l : List ByteArray} (h : JSt S m J l) (hL : S.L = []) (hF : ∀ k, k < S.n → S.F k = S.C k) (sx : Nat → ByteArray) (n : Nat) (hs : Small sx n) (hn : n ≤ 1000000) (ht : J.turn + 1 ≤ 1000000)
    (hfit : (cRow J sx n).size ≤ hl S.n * 64) (p : Nat) (ks : List Bool) (tn : Int) :
    (cErr (S.wc p) J sx n ≠ 0 ∧ JSt ((cDk (S.wc p) J sx n).crash ks tn) (m + 1003) J l) ∨ (cErr (S.wc p) J sx n = 0 ∧ JSt ((cDk (S.wc p) J sx n).crash ks tn) (m + 1003) (cJn J sx n) (firstN sx n)) := by
  have h2 : 1 - J.half ≤ 1 := by omega
  have h4 := h.fine.n4
  have hh := hat_le2 S.n (1 - J.half) h4 h2
  have hn2 := h.fine.n2
  have hz9 : hl S.n ≤ 1000 := by unfold hl; omega
  have hAll : (cAll S J sx n).size = hl S.n * 64 := by
    unfold cAll
    rw [ByteArray.size_append]
    have : (zeros (hl S.n * 64 - (cRow J sx n).size)).size = hl S.n * 64 - (cRow J sx n).size := by unfold zeros; rw [ba_size, ba_list, List.length_replicate]
    omega
  have hnc : nch (cAll S J sx n) = hl S.n := by unfold nch; omega
  have hb : hat S.n (1 - J.half) + 0 + hl S.n ≤ S.n := by omega
  have hcut := h.fine.wrow_wc (hat S.n (1 - J.half)) (cAll S J sx n) (hl S.n) 0 p hb
  have h1 : cW1 (S.wc p) J sx n = Dk.wrow (hat S.n (1 - J.half)) (cAll S J sx n) (hl S.n) 0 (S.wc p) := by
    show Dk.wrow _ (cAll S J sx n) (nch (cAll S J sx n)) 0 (S.wc p) = _
    rw [hnc]
    rfl
  have hF64 : ∀ k, k < S.n → (S.F k).length = 64 := fun k hk => by rw [hF k hk]; exact h.fine.ln k hk
  by_cases hp : p < hl S.n
  · -- the power goes in the other half
    have e1 := hcut.2 hp
    rw [e1] at h1
    have hE : cErr (S.wc p) J sx n = 25 := by unfold cErr; rw [h1, if_pos (by simp)]
    have hD : cDk (S.wc p) J sx n = (Dk.wrow (hat S.n (1 - J.half)) (cAll S J sx n) p 0 S).2.off := by unfold cDk; rw [h1, if_pos (by simp)]
    left
    refine ⟨by rw [hE]; decide, ?_⟩
    rw [hD, Dk.crash_off]
    obtain ⟨_, w2, w3, w4, w5⟩ := h.fine.wrow (hat S.n (1 - J.half)) (cAll S J sx n) p 0 (by omega)
    have wL := h.fine.wrow_L (hat S.n (1 - J.half)) (cAll S J sx n) p 0 (by omega)
    obtain ⟨c1, c2, c3⟩ := w2.crash_in (by rw [w3, w4]; exact hF64) (hat S.n (1 - J.half)) (hat S.n (1 - J.half) + hl S.n) (fun x hx => by
      rcases wL x hx with h1 | ⟨h1, h2, h3⟩
      · rw [hL] at h1; cases h1
      · rw [w3]; exact ⟨by omega, by omega, by omega, h3⟩) ks tn
    exact h.congr2 (c1.mono (by omega)) (c2.trans w3) (fun i hi => by rw [c3 i hi, w5 i, if_neg (by omega)])
  · have e1 := hcut.1 (by omega)
    obtain ⟨w1, w2, w3, w4, w5⟩ := h.fine.wrow (hat S.n (1 - J.half)) (cAll S J sx n) (hl S.n) 0 hb
    obtain ⟨W, hW⟩ : ∃ W, W = (Dk.wrow (hat S.n (1 - J.half)) (cAll S J sx n) (hl S.n) 0 S).2 := ⟨_, rfl⟩
    rw [← hW] at e1 w2 w3 w4 w5
    rw [e1] at h1
    obtain ⟨f1, f2, f3, f4, f5, f6⟩ := w2.flushed
    have g1 : (W.wc (p - hl S.n)).ferr = 0 := f1
    have g2 : (W.wc (p - hl S.n)).flushed = W.flushed.wc (p - hl S.n) := by
      unfold Dk.flushed Dk.wc
      simp only
      split <;> rfl
    have hpn : 1 - J.at_ < W.flushed.n := by rw [f6, w3]; omega
    have hsb := supB_le ht h2
    have h3 : cW3 (S.wc p) J sx n = (W.flushed.wc (p - hl S.n)).supw (1 - J.at_) (J.turn + 1) (1 - J.half) := by unfold cW3; rw [h1]; simp only; rw [g2]
    rcases Nat.eq_zero_or_pos (p - hl S.n) with hp0 | hp0
    · -- at the superblock
      rw [hp0] at h3 h1 g2 g1
      obtain ⟨s1, s2⟩ := f2.wc_none (1 - J.at_) hpn (supB (J.turn + 1) (1 - J.half)) hsb
      have h5 : cW3 (S.wc p) J sx n = (25, W.flushed.off) := by rw [h3]; unfold Dk.supw; rw [if_neg (by rw [s1]; decide), s1, s2]
      have hE : cErr (S.wc p) J sx n = 25 := by unfold cErr; rw [h1, if_neg (by simp), if_neg (by rw [g1]; simp), h5]
      have hD : cDk (S.wc p) J sx n = W.flushed.off := by unfold cDk; rw [h1, if_neg (by simp), if_neg (by rw [g1]; simp), h5]
      left
      refine ⟨by rw [hE]; decide, ?_⟩
      rw [hD, Dk.crash_off]
      obtain ⟨c1, c2, c3⟩ := f2.crash_in (by rw [f6]; exact fun k hk => by rw [f5 k hk]; exact w2.ln k hk) 0 0 (fun x hx => by rw [f4] at hx; cases hx) ks tn
      exact h.congr2 (c1.mono (by omega)) (c2.trans (f6.trans w3)) (fun i hi => by rw [c3 i (.inr (Nat.zero_le _)), f3, w5 i, if_neg (by omega)])
    · -- all is done
      obtain ⟨r, hr⟩ : ∃ r, p - hl S.n = r + 1 := ⟨p - hl S.n - 1, by omega⟩
      rw [hr] at h3 h1 g2 g1
      obtain ⟨s1, s2⟩ := f2.wc_more (1 - J.at_) hpn (supB (J.turn + 1) (1 - J.half)) hsb r
      have q1 := f2.werr (1 - J.at_) hpn (supB (J.turn + 1) (1 - J.half)).size hsb
      have hsw := f2.wrote (1 - J.at_) hpn (supB (J.turn + 1) (1 - J.half)) hsb
      obtain ⟨T, hT⟩ : ∃ T, T = W.flushed.wrote ((1 - J.at_ : Nat) : Int) (supB (J.turn + 1) (1 - J.half)) := ⟨_, rfl⟩
      rw [← hT] at s2 hsw
      have t1 : (T.wc r).ferr = 0 := hsw.1.flushed.1
      have t2 : (T.wc r).flushed = T.flushed.wc r := by
        unfold Dk.flushed Dk.wc
        simp only
        split <;> rfl
      have h5 : cW3 (S.wc p) J sx n = (0, T.flushed.wc r) := by rw [h3]; unfold Dk.supw; rw [if_pos s1, s2, t1, t2]
      have hE : cErr (S.wc p) J sx n = 0 := by unfold cErr; rw [h1, if_neg (by simp), if_neg (by rw [g1]; simp), h5]
      have hD : cDk (S.wc p) J sx n = T.flushed.wc r := by unfold cDk; rw [h1, if_neg (by simp), if_neg (by rw [g1]; simp), h5]
      right
      refine ⟨hE, ?_⟩
      rw [hD, Dk.crash_wc]
      obtain ⟨z1, z2, z3, z4, z5⟩ := h.compact sx n hs hn ht hfit
      have hD0 : cDk S J sx n = T.flushed := by
        have k1 : cW1 S J sx n = (0, W) := by
          rw [show cW1 S J sx n = Dk.wrow (hat S.n (1 - J.half)) (cAll S J sx n) (hl S.n) 0 S by show Dk.wrow _ (cAll S J sx n) (nch (cAll S J sx n)) 0 S = _; rw [hnc], hW]
          exact Prod.ext w1 rfl
        have k3 : cW3 S J sx n = (0, T.flushed) := by
          unfold cW3
          rw [k1]
          unfold Dk.supw
          simp only
          rw [if_pos q1, ← hT, hsw.1.flushed.1]
        unfold cDk
        rw [k1, if_neg (by simp), if_neg (by rw [f1]; simp), k3]
      rw [← hD0]
      obtain ⟨c1, c2, c3⟩ := z2.fine.crash_in (fun k hk => by rw [z5 k (by rw [← z3]; exact hk)]; exact z2.fine.ln k hk) 0 0 (fun x hx => by rw [z4] at hx; cases hx) ks tn
      exact z2.congr c1 c2 (fun i _ => c3 i (.inr (Nat.zero_le _)))
end Go.Proofs.YtkkjbljhehnmjaaGreatDoor
/- The law JournalCompacts, walked. -/
namespace Go.Proofs.YtkkjbljhehnmjaaGreatDoor
open Go.RowKit

def AnyBool (w : World) (e : Ending) (w2 : World) : Prop := ∃ r, e = .returned (.bool r) ∧ Kp [] w w2
theorem AnyBool.no {w w2 : World} (K : Kp [] w w2) : AnyBool w (.returned (.bool false)) w2 := ⟨false, rfl, K⟩
theorem AnyBool.yes {w w2 : World} (K : Kp [] w w2) : AnyBool w (.returned (.bool true)) w2 := ⟨true, rfl, K⟩
set_option maxHeartbeats 3200000 in
set_option maxRecDepth 20000 in
/-- SameTexts answers, whatever the rows hold. -/
theorem same_some (a a2 : Option Addr) (n n2 c c2 : Nat) (hn : n ≤ 100000) (sx sy : Nat → ByteArray) (w : World) (hR : StrsAt w w.heap.size a n sx) (hR2 : StrsAt w w.heap.size a2 n2 sy) :
    Calls Tryz.prog 22 #[.slice a n c, .slice a2 n2 c2] w (AnyBool w) := by
  have HR := Lib.hid hR
  have HR2 := Lib.hid hR2
  clear hR hR2
  by_cases hnn : n = n2
  · subst hnn
    go_enter Tryz.func22, Tryz.ntmps22
    go_wp2_with fail
    go_loopw [5] (fun i wr => ∃ (k : Nat), k ≤ n ∧ i = .int .i64 (k : Int) ∧ Hid (Kp [] w wr)) (fun i _ => n - (intOf i).toNat)
    case atStart => exact ⟨0, Nat.zero_le _, rfl, Kp.refl _ _⟩
    case round =>
      obtain ⟨k, hk, rfl, HK⟩ := hrel
      by_cases hlt : k < n
      · have l1 : decide ((k : Int) < (n : Int)) = true := by simpa using hlt
        have l1' : decide (k < n) = true := by simpa using hlt
        obtain ⟨g, o, rfl, hg, hc⟩ := HR.out k hlt
        obtain ⟨g2, o2, rfl, hg2, hc2⟩ := HR2.out k hlt
        obtain ⟨s, hs⟩ : ∃ s, s = sx k := ⟨_, rfl⟩
        obtain ⟨t, ht⟩ : ∃ t, t = sy k := ⟨_, rfl⟩
        rw [← hs] at hc
        rw [← ht] at hc2
        clear hs ht
        have Kd : Kp [] w wr.drew := HK.out.drew
        have d1 : wr.drew.cell? ⟨g, o + k, none⟩ = some (.string s) := (Kd.cell0 hg).trans hc
        have d2 : wr.drew.cell? ⟨g2, o2 + k, none⟩ = some (.string t) := (Kd.cell0 hg2).trans hc2
        have HKd := Lib.hid Kd
        have Hlt := Lib.hid hlt
        clear Kd hc hc2 HK
        have he : (s.toList == t.toList) = (s.toList == t.toList) := rfl
        generalize hq : (s.toList == t.toList) = q at he
        clear he
        go_wp2_with fail
        cases q
        · go_region_held3 (fun w' => w'.cell? ⟨g, o + k, none⟩ = some (.string s) ∧ w'.cell? ⟨g2, o2 + k, none⟩ = some (.string t)) (exact ⟨d1, d2⟩) (fail)
          all_goals
            go_wp2_with fail
            go_ret
            exact AnyBool.no HKd.out
        · go_region_held3 (fun w' => w'.cell? ⟨g, o + k, none⟩ = some (.string s) ∧ w'.cell? ⟨g2, o2 + k, none⟩ = some (.string t)) (exact ⟨d1, d2⟩) (fail)
          all_goals
            go_wp2_with fail
            go_roundw
            case rel => exact ⟨k + 1, Hlt.out, by go_num, HKd⟩
            case measure => have := Hlt.out; simp [intOf]; omega
      · have l1 : decide ((k : Int) < (n : Int)) = false := by simpa using hlt
        have l1' : decide (k < n) = false := by simpa using hlt
        obtain rfl : k = n := by omega
        clear hlt
        go_wp2_with fail
        go_ret
        exact AnyBool.yes HK.out
  · have h1 : ((n : Int) == (n2 : Int)) = false := by rw [beq_eq_false_iff_ne]; omega
    clear hnn HR HR2
    go_enter Tryz.func22, Tryz.ntmps22
    go_wp2_with fail
    go_ret
    exact AnyBool.no (Kp.refl _ _)
/-- A []bool that is handed over, read apart from new blocks. -/
theorem Fr.keep {w0 w : World} {f : List Nat} {a : Option Addr} {ks : List Bool} (F : Fr w0 w f) (h : BoolsAt w0 w0.heap.size a ks) : KeepAt w f a ks := fun i hi => by
  obtain ⟨g, o, h1, h2, h3⟩ := h i hi
  exact ⟨g, o, h1, fun hm => by have := F.new g hm; omega, F.kp.lt h2, (F.kp.cell0 h2).trans h3⟩
/-- A compaction's disk: what it counts. -/
theorem cDk_lim (S : Dk) (J : Jn) (sx : Nat → ByteArray) (n m : Nat) (hm : S.Lim m) (hfit : (cRow J sx n).size ≤ hl S.n * 64) (hz : hl S.n ≤ 1000) : (cDk S J sx n).Lim (m + 1001) := by
  have hAll : (cAll S J sx n).size = hl S.n * 64 := by
    unfold cAll
    rw [ByteArray.size_append]
    have : (zeros (hl S.n * 64 - (cRow J sx n).size)).size = hl S.n * 64 - (cRow J sx n).size := by unfold zeros; rw [ba_size, ba_list, List.length_replicate]
    omega
  have hnc : nch (cAll S J sx n) = hl S.n := by unfold nch; omega
  have h1 : (cW1 S J sx n).2.Lim (m + 1000) := by
    have := Dk.wrow_lim (hat S.n (1 - J.half)) (cAll S J sx n) (nch (cAll S J sx n)) 0 S m hm
    exact this.mono (by omega)
  unfold cDk
  split
  · exact h1.mono (by omega)
  · split
    · exact h1.flushed.mono (by omega)
    · exact Dk.supw_lim _ _ _ _ _ h1.flushed
/-- All that the walk of a compaction with a cut ahead asks of the disk. -/
structure CutPre (T : Dk) (m : Nat) (J : Jn) (l : List ByteArray) (sy : Nat → ByteArray) (n : Nat) : Prop where
  st : JSt T m J l
  n60 : T.n = 60
  L0 : T.L = []
  FC : ∀ k, k < T.n → T.F k = T.C k
  t1 : J.turn = 1
  s : ∀ i, i < n → (sy i).size ≤ 150
  n5 : n ≤ 5
theorem CutPre.fit {T : Dk} {m : Nat} {J : Jn} {l : List ByteArray} {sy : Nat → ByteArray} {n : Nat} (h : CutPre T m J l sy n) : (cRow J sy n).size ≤ hl T.n * 64 := by
  have h1 := cRow_le2 J sy n 150 (by decide) h.s (by have := h.n5; omega) (by rw [h.t1]; decide)
  have h2 := h.n5
  rw [h.n60, show hl 60 = 29 from rfl]
  omega
theorem CutPre.small {T : Dk} {m : Nat} {J : Jn} {l : List ByteArray} {sy : Nat → ByteArray} {n : Nat} (h : CutPre T m J l sy n) : Small sy n := fun i hi => by have := h.s i hi; omega
theorem CutPre.lim {T : Dk} {m : Nat} {J : Jn} {l : List ByteArray} {sy : Nat → ByteArray} {n : Nat} (h : CutPre T m J l sy n) (p : Nat) (hp : p ≤ 1000) : (T.wc p).Lim m := by
  obtain ⟨h1, h2, _⟩ := h.st.fine.ok.lim
  exact ⟨h1, h2, by show p ≤ _; omega⟩
theorem CutPre.lim2 {T : Dk} {m : Nat} {J : Jn} {l : List ByteArray} {sy : Nat → ByteArray} {n : Nat} (h : CutPre T m J l sy n) (p : Nat) (hp : p ≤ 1000) : (cDk (T.wc p) J sy n).Lim (m + 1001) :=
  cDk_lim _ J sy n m (h.lim p hp) (by have := h.fit; exact this) (by show hl T.n ≤ 1000; rw [h.n60]; decide)
theorem CutPre.after {T : Dk} {m : Nat} {J : Jn} {l : List ByteArray} {sy : Nat → ByteArray} {n : Nat} (h : CutPre T m J l sy n) (p : Nat) (ks : List Bool) (tn : Int) :
    (cErr (T.wc p) J sy n ≠ 0 ∧ JSt ((cDk (T.wc p) J sy n).crash ks tn) (m + 1003) J l) ∨ (cErr (T.wc p) J sy n = 0 ∧ JSt ((cDk (T.wc p) J sy n).crash ks tn) (m + 1003) (cJn J sy n) (firstN sy n)) :=
  h.st.cut_compact h.L0 h.FC sy n h.small (by have := h.n5; omega) (by rw [h.t1]; decide) h.fit p ks tn
/-- A compaction with a cut ahead. -/
theorem CutPre.compact {T : Dk} {m : Nat} {J : Jn} {l : List ByteArray} {sy : Nat → ByteArray} {n : Nat} (h : CutPre T m J l sy n) (hm : m ≤ 1000000) {w : World} {f : List Nat} {b j : Nat} (p : Nat) (hp : p ≤ 1000) (D : JF w f b j (T.wc p) J) (hG : Gl w) (a : Option Addr) (c : Nat) (hR : StrsAt w w.heap.size a n sy) :
    Calls Tryz.prog 18 #[.pointer (some ⟨j, 0, none⟩), .slice a n c] w fun e w2 => ∃ f2, Mv (j :: f) w (j :: f2) w2 ∧ DkF w2 f2 b (cDk (T.wc p) J sy n)
      ∧ ((cErr (T.wc p) J sy n ≠ 0 ∧ ∃ t, e = .returned (jErr sCompact t)) ∨ (cErr (T.wc p) J sy n = 0 ∧ e = .returned .nilIface)) := by
  have hn5 := h.n5
  refine (Compact_any D (by show 4 ≤ T.n; rw [h.n60]; decide) h.st.ok (by rw [h.t1]; decide) a n c (by omega) sy hR hG m (h.lim p hp) (by omega)).mono ?_
  have hf : (cRow J sy n).size ≤ hl (T.wc p).n * 64 := h.fit
  rintro e w2 ⟨f2, hM, ⟨h1, _⟩ | ⟨_, h1, _⟩ | ⟨_, _, h1, ⟨t, rfl⟩, hJ⟩ | ⟨_, _, h1, rfl, hJ⟩⟩
  · exact absurd h.small h1
  · omega
  · exact ⟨f2, hM, hJ.d, .inl ⟨h1, _, rfl⟩⟩
  · exact ⟨f2, hM, hJ.d, .inr ⟨h1, rfl⟩⟩
end Go.Proofs.YtkkjbljhehnmjaaGreatDoor
/- The law JournalCompacts, walked: the law itself. -/
namespace Go.Proofs.YtkkjbljhehnmjaaGreatDoor
open Go.RowKit

set_option maxHeartbeats 12800000 in
set_option maxRecDepth 20000 in
theorem compacts_any (a : Option Addr) (n c : Nat) (sx : Nat → ByteArray) (b0 : Option Addr) (n2 c2 : Nat) (sy : Nat → ByteArray) (q : Nat) (hq : q < 256) (ka : Option Addr) (kc : Nat) (ks : List Bool) (tn : Int) (ht1 : -128 ≤ tn) (ht2 : tn ≤ 127)
    (w : World) (hg : 7 ≤ w.heap.size) (hG : Gl w) (hR : StrsAt w w.heap.size a n sx) (hR2 : StrsAt w w.heap.size b0 n2 sy) (hK : BoolsAt w w.heap.size ka ks) :
    Calls Tryz.prog 4 #[.slice a n c, .slice b0 n2 c2, .int .u8 (q : Int), .slice ka ks.length kc, .int .i8 tn] w fun e w2 => e = .returned (.bool true) ∧ Kp [] w w2 := by
  have HG := Lib.hid hG
  have HW := Lib.hid hg
  have HR := Lib.hid hR
  have HR2 := Lib.hid hR2
  have HKs := Lib.hid hK
  have HK := Lib.hid (known_any w hg hG)
  have F0 : Hid (Fr w w []) := ⟨Kp.refl _ _, fun y hy => by cases hy⟩
  clear hG hg hR hR2 hK
  by_cases hn : 5 < n
  · have d1 : decide ((5 : Int) < (n : Int)) = true := by simp; omega
    clear hn hq ht1 ht2
    go_enter Tryz.func4, Tryz.ntmps4
    go_wp2_with fail
    refine Calls.mono HK.out ?_
    rintro e x1 ⟨rfl, K⟩
    have K1 := Lib.hid K
    clear K
    go_wp2_with fail
    go_ret
    exact ⟨rfl, K1.out⟩
  have d1 : decide ((5 : Int) < (n : Int)) = false := by simp; omega
  have hn5 : n ≤ 5 := by omega
  clear hn
  by_cases hm : 5 < n2
  · have d2 : decide ((5 : Int) < (n2 : Int)) = true := by simp; omega
    clear hm hq ht1 ht2
    go_enter Tryz.func4, Tryz.ntmps4
    go_wp2_with fail
    refine Calls.mono HK.out ?_
    rintro e x1 ⟨rfl, K⟩
    have K1 := Lib.hid K
    clear K
    go_wp2_with fail
    go_ret
    exact ⟨rfl, K1.out⟩
  have d2 : decide ((5 : Int) < (n2 : Int)) = false := by simp; omega
  have hm5 : n2 ≤ 5 := by omega
  clear hm
  obtain ⟨kn, hkn⟩ : ∃ kn, kn = ks.length := ⟨_, rfl⟩
  have HKN := Lib.hid hkn
  rw [← hkn]
  obtain ⟨b3, hb3⟩ : ∃ b3, b3 = decide ((60 : Int) < (kn : Int)) := ⟨_, rfl⟩
  have d3 := hb3.symm
  clear hkn hb3
  go_enter Tryz.func4, Tryz.ntmps4
  go_wp2_with fail
  refine Calls.mono HK.out ?_
  rintro e x1 ⟨rfl, K⟩
  have F1 : Hid (Fr w x1 []) := F0.out.kept K
  clear K
  go_wp2_with fail
  refine Calls.mono (long_any a n c (by omega) sx x1 (F1.out.strs HR.out)) ?_
  rintro e x2 ⟨hl, hx⟩
  subst hx
  rcases hl with rfl | ⟨rfl, hs⟩
  · go_wp2_with fail
    go_ret
    exact ⟨rfl, F1.out.kp⟩
  have HS := Lib.hid hs
  clear hs
  go_wp2_with fail
  refine Calls.mono (long_any b0 n2 c2 (by omega) sy x1 (F1.out.strs HR2.out)) ?_
  rintro e x2 ⟨hl, hx⟩
  subst hx
  rcases hl with rfl | ⟨rfl, hs⟩
  · go_wp2_with fail
    go_ret
    exact ⟨rfl, F1.out.kp⟩
  have HS2 := Lib.hid hs
  clear hs
  cases b3
  case' true =>
    go_wp2_with fail
    go_ret
    exact ⟨rfl, F1.out.kp⟩
  go_wp2_with fail
  refine (f_new 60 x1 (Nat.le_trans HW.out F1.out.kp.size)).mono ?_
  rintro e x3 ⟨b, f3, rfl, D, K, hnew⟩
  have D3 : Hid (DkF x3 f3 b (Dk.new 60)) := D
  have F3 : Hid (Fr w x3 f3) := ⟨F1.out.kp.trans K, fun y hy => Nat.le_trans F1.out.kp.size (hnew y hy)⟩
  have S3 : Hid ((Dk.new 60).Fine 0) := Dk.Fine.new 60 (by decide) (by decide)
  have HN3 : Hid ((Dk.new 60).n = 60) := rfl
  have HJ3 : Hid (JSt (Dk.new 60).fmt.2 1002 jn1 []) := S3.out.jst
  clear D K hnew F1
  generalize Dk.new 60 = S at *
  go_wp2_with fail
  refine Calls.mono (s_format D3.out S3.out (F3.out.gl HG.out) (by omega)) ?_
  rintro e y3 ⟨rfl, g3, D, M⟩
  have D4 := Lib.hid D
  have F4 : Hid (Fr w y3 g3) := F3.out.step M
  have hN4 := (Dk.fmt_n S).trans HN3.out
  clear D M D3 F3
  have P1 : Hid (AddsPre S.fmt.2 1002 jn1 [] sx n 150) := ⟨HJ3.out, by decide, HS.out, by show 0 + n ≤ _; omega, by rw [hN4]; show 0 + 180 * n ≤ 29 * 64; omega, by omega⟩
  have HQ := Lib.hid (addSt_mid HJ3.out sx n 150 (by decide) HS.out P1.out.c P1.out.u n (Nat.le_refl _))
  have HC : Hid (CutPre (addSt S.fmt.2 jn1 sx n).1.flushed (1002 + 40 * n) (addSt S.fmt.2 jn1 sx n).2 (firstN sx n) sy n2) := by
    have h := HQ.out.1.flushed
    rw [List.nil_append] at h
    have h5 := HQ.out.1.fine.flushed
    refine ⟨h.1, h.2.1.trans (HQ.out.2.1.trans hN4), h5.2.2.2.1, fun k hk => ?_, HQ.out.2.2.2.2.2.1, HS2.out, hm5⟩
    rw [h.2.2 k (by rw [← h.2.1]; exact hk), h5.2.2.1]
  have hlen := firstN_len sx n
  have hlen2 := firstN_len sy n2
  clear hN4
  go_wp2_with fail
  refine Calls.mono (s_open D4.out HJ3.out (F4.out.gl HG.out) (by omega)) ?_
  rintro e y4 ⟨j, a4, c4, g4, rfl, D, hj, M, _, _⟩
  have D5 := Lib.hid D
  have F5 : Hid (Fr w y4 (j :: g4)) := (F4.out.step M).more (Nat.le_trans F4.out.kp.size hj)
  clear D M hj D4 F4
  go_wp2_with fail
  refine Calls.mono (adds_any P1.out D5.out (F5.out.gl HG.out) a c (by omega) (fun w2 f2 M2 => (F5.out.step M2).strs HR.out)) ?_
  rintro e y5 ⟨rfl, g5, D, M⟩
  have D6 := Lib.hid D
  have F6 : Hid (Fr w y5 (j :: g5)) := F5.out.step M
  clear D M D5 F5
  go_wp2_with fail
  refine Calls.mono (s_sync D6.out HQ.out.1 (F6.out.gl HG.out) (by omega)) ?_
  rintro e y6 ⟨rfl, g6, D, M⟩
  have D7 := Lib.hid D
  have F7 : Hid (Fr w y6 (j :: g6)) := F6.out.step M
  have HM5 := Lib.hid (show 1002 + 40 * n ≤ 2000 by omega)
  clear D M D6 F6 P1 HQ HJ3 S3
  generalize (addSt S.fmt.2 jn1 sx n).1.flushed = T at *
  generalize (addSt S.fmt.2 jn1 sx n).2 = J at *
  generalize hm9 : 1002 + 40 * n = m9 at *
  clear hm9
  go_wp2_with fail
  obtain ⟨p, hp⟩ : ∃ p : Nat, p = q % 40 := ⟨_, rfl⟩
  have hpq : ((q : Int) % 40) = (p : Int) := by rw [hp]; omega
  have HP9 := Lib.hid (show p ≤ 1000 by omega)
  rw [hpq]
  clear hp hpq
  refine Calls.mono (f_cut D7.out.d (p : Int)) ?_
  rintro e y7 ⟨rfl, D, M⟩
  rw [Dk.cutAt_wc] at D
  have D8 : Hid (JF y7 g6 b j (T.wc p) J) := ⟨D, D7.out.j_.keep M.kp D7.out.jf, D7.out.jf, D7.out.jg⟩
  have F8 : Hid (Fr w y7 (j :: g6)) := F7.out.step (M.more j)
  clear D M D7 F7
  go_wp2_with fail
  refine Calls.mono (HC.out.compact (Nat.le_trans HM5.out (by decide)) p HP9.out D8.out (F8.out.gl HG.out) b0 c2 (F8.out.strs HR2.out)) ?_
  rintro e y8 ⟨g8, M, D, hE⟩
  have D9 := Lib.hid D
  have F9 : Hid (Fr w y8 g8) := (F8.out.step M).less
  have HL := Lib.hid (HC.out.lim2 p HP9.out)
  have HA := Lib.hid (HC.out.after p ks tn)
  clear D M D8 F8 HC
  rcases hE with ⟨h0, t0, rfl⟩ | ⟨h0, rfl⟩
  · have HJ : Hid (JSt ((cDk (T.wc p) J sy n2).crash ks tn) (m9 + 1003) J (firstN sx n)) := by
      rcases HA.out with ⟨_, h⟩ | ⟨h, _⟩
      · exact h
      · exact absurd h h0
    clear h0 HA
    unfold jErr
    go_wp2_with fail
    rw [HKN.out]
    refine Calls.mono (f_crash D9.out (m9 + 1001) HL.out (by have := HM5.out; omega) ka kc ks (F9.out.keep HKs.out) tn) ?_
    rintro e z1 ⟨g9, rfl, D, M⟩
    have D10 := Lib.hid D
    have F10 : Hid (Fr w z1 g9) := F9.out.step M
    clear D M D9 F9
    go_wp2_with fail
    refine Calls.mono (s_open D10.out HJ.out (F10.out.gl HG.out) (by have := HM5.out; omega)) ?_
    rintro e z2 ⟨j2, a7, c7, g7, rfl, D, hj, M, hs7, hb7⟩
    rw [hlen] at hs7
    rw [hlen]
    have F11 : Hid (Fr w z2 g7) := F10.out.step M
    have HX : Hid (StrsAt z2 z2.heap.size a7 n sx) := fun i hi => by
      obtain ⟨g, o, h1, h2, h3⟩ := hs7 i hi
      exact ⟨g, o, h1, h2, h3.trans (congrArg (fun s => some (Value.string s)) (firstN_getD sx _ n i hi))⟩
    clear D M D10 F10 hs7 hb7 hj
    go_wp2_with fail
    refine Calls.mono (same_some a7 b0 n n2 c7 c2 (by omega) sx sy z2 HX.out (F11.out.strs HR2.out)) ?_
    rintro e z3 ⟨r, rfl, K⟩
    have F12 : Hid (Fr w z3 g7) := F11.out.kept K
    have HX2 : Hid (StrsAt z3 z3.heap.size a7 n sx) := fun i hi => by
      obtain ⟨g, o, h1, h2, h3⟩ := HX.out i hi
      exact ⟨g, o, h1, K.lt h2, (K.cell0 h2).trans h3⟩
    clear K F11 HX
    cases r
    · go_wp2_with fail
      refine Calls.mono (same_texts a7 a n c7 c (by omega) sx sx z3 HX2.out (F12.out.strs HR.out) (fun i hi => rfl)) ?_
      rintro e z4 ⟨rfl, K⟩
      have F13 : Hid (Fr w z4 g7) := F12.out.kept K
      clear K F12
      go_wp2_with fail
      go_ret
      exact ⟨rfl, F13.out.kp⟩
    · go_wp2_with fail
      go_ret
      exact ⟨rfl, F12.out.kp⟩
  · have HJ : Hid (JSt ((cDk (T.wc p) J sy n2).crash ks tn) (m9 + 1003) (cJn J sy n2) (firstN sy n2)) := by
      rcases HA.out with ⟨h, _⟩ | ⟨_, h⟩
      · exact absurd h0 h
      · exact h
    clear h0 HA
    go_wp2_with fail
    rw [HKN.out]
    refine Calls.mono (f_crash D9.out (m9 + 1001) HL.out (by have := HM5.out; omega) ka kc ks (F9.out.keep HKs.out) tn) ?_
    rintro e z1 ⟨g9, rfl, D, M⟩
    have D10 := Lib.hid D
    have F10 : Hid (Fr w z1 g9) := F9.out.step M
    clear D M D9 F9
    go_wp2_with fail
    refine Calls.mono (s_open D10.out HJ.out (F10.out.gl HG.out) (by have := HM5.out; omega)) ?_
    rintro e z2 ⟨j2, a7, c7, g7, rfl, D, hj, M, hs7, hb7⟩
    rw [hlen2] at hs7
    rw [hlen2]
    have F11 : Hid (Fr w z2 g7) := F10.out.step M
    have HX : Hid (StrsAt z2 z2.heap.size a7 n2 sy) := fun i hi => by
      obtain ⟨g, o, h1, h2, h3⟩ := hs7 i hi
      exact ⟨g, o, h1, h2, h3.trans (congrArg (fun s => some (Value.string s)) (firstN_getD sy _ n2 i hi))⟩
    clear D M D10 F10 hs7 hb7 hj
    go_wp2_with fail
    refine Calls.mono (same_texts a7 b0 n2 c7 c2 (by omega) sy sy z2 HX.out (F11.out.strs HR2.out) (fun i hi => rfl)) ?_
    rintro e z3 ⟨rfl, K⟩
    have F12 : Hid (Fr w z3 g7) := F11.out.kept K
    clear K F11
    go_wp2_with fail
    go_ret
    exact ⟨rfl, F12.out.kp⟩
end Go.Proofs.YtkkjbljhehnmjaaGreatDoor
