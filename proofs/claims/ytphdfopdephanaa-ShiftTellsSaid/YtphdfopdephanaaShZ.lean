/- Contract of Terms: the terms that texts tell, as a row. -/
import Derived.Test.YtphdfopdephanaaShY
import Derived.Test.YtphdfopdephanaaShVz
namespace Go.Proofs.Ytphdfopdephanaa
open Go.RowKit Go.ChangeMaps

theorem ptrInfo : (Try.prog.info? 24).map (fun i => (i.zero, i.size, i.bytes)) = some (some (.pointer none), 1, 8) := by kernel_rfl
/-- A new row of pointers. -/
def OwnPtrs (w : World) (B : Nat) (v : Value) (ps : List (Option Addr)) : Prop := w.ownsRow B 24 1 v ps.length (ps.map Value.pointer)
theorem OwnPtrs.form {w : World} {B : Nat} {v : Value} {ps : List (Option Addr)} (h : OwnPtrs w B v ps) : ∃ a c, v = .slice a ps.length c ∧ RowAt w (fun _ => True) a ps ∧ ∀ g, v.ownBlock = some g → B ≤ g := by
  obtain ⟨h1, ⟨rfl, h0⟩ | ⟨g, cap, cur, rfl, hb, hg, h2, h3, h4, h5⟩⟩ := h
  · refine ⟨none, 0, by rw [h0], fun i q hi => ?_, fun g hg => by cases hg⟩
    have : ps = [] := List.eq_nil_of_length_eq_zero h0
    rw [this] at hi
    simp at hi
  · refine ⟨_, cap, rfl, fun i q hi => ⟨g, 0, rfl, trivial, ?_⟩, fun g2 hg2 => ?_⟩
    · have h6 : (ps.map Value.pointer)[i]? = some (.pointer q) := by rw [List.getElem?_map, hi]; rfl
      simp only [World.cell?, hg, Nat.zero_add]
      rw [← h5, List.getElem?_take] at h6
      split at h6
      · rw [← Array.getElem?_toList]; exact h6
      · cases h6
    · obtain rfl : g = g2 := by simpa [Value.ownBlock] using hg2
      exact hb
theorem TmAt.row {F : List Nat} {w w2 : World} (K : Kp F w w2) (hF : ∀ g ∈ F, ∀ (k n : Int) (s : ByteArray) (pa pb pc : Option Addr), ¬ NdAt w g k n s pa pb pc) : ∀ {t : Tm} {q : Option Addr}, TmAt w t q → TmAt w2 t q
  | .nil, _, h => h
  | .node _ _ _ _ _ _, _, ⟨g, pa, pb, pc, h1, h2, h3, h4, h5, h6⟩ =>
    have A : TmAt w _ pa := h4
    have B : TmAt w _ pb := h5
    have C : TmAt w _ pc := h6
    ⟨g, pa, pb, pc, h1, h2, h3.kp K (fun hm => hF g hm _ _ _ _ _ _ h3), A.row K hF, B.row K hF, C.row K hF⟩
/-- A row of terms that were read. -/
structure TRow (w : World) (B : Nat) (v : Value) (ps : List (Option Addr)) (l : List Tm) : Prop where
  own : OwnPtrs w B v ps
  len : l.length = ps.length
  trm : ∀ (i : Nat) (q : Option Addr) (t : Tm), ps[i]? = some q → l[i]? = some t → Read w t q
theorem TRow.kp {w w2 : World} {B : Nat} {v : Value} {ps : List (Option Addr)} {l : List Tm} (h : TRow w B v ps l) (K : Kp [] w w2) : TRow w2 B v ps l :=
  ⟨K.owns h.own (fun g _ hm => by cases hm), h.len, fun i q t h1 h2 => (h.trm i q t h1 h2).kp K⟩
theorem TRow.terms {w : World} {B : Nat} {a : Option Addr} {n c : Nat} {ps : List (Option Addr)} {l : List Tm} (h : TRow w B (.slice a n c) ps l) : TermsAt w a n ps l := by
  obtain ⟨a2, c2, h1, h2, _⟩ := h.own.form
  injection h1 with h3 h4 h5
  subst h3
  exact ⟨h4.symm, by rw [h.len, h4], h2, fun i q t h5 h6 => (h.trm i q t h5 h6).at'⟩
theorem TRow.all {w : World} {B : Nat} {v : Value} {ps : List (Option Addr)} {l : List Tm} (h : TRow w B v ps l) : ∀ u ∈ l, Ok 100000 u ∧ u.ht ≤ 3000 := fun u hu => by
  obtain ⟨i, hi, rfl⟩ := List.getElem_of_mem hu
  have := h.trm i ps[i]! l[i] (by rw [List.getElem!_eq_getElem?_getD, List.getElem?_eq_getElem (by rw [← h.len]; exact hi)]; rfl) (List.getElem?_eq_getElem hi)
  exact ⟨this.ok, Nat.le_trans (Tm.ht_le _) this.sz⟩
def TermsPost (n : Nat) (w : World) (e : Ending) (w2 : World) : Prop := ∃ a m c ps l, e = .returned (.slice a m c) ∧ Kp [] w w2 ∧ m ≤ n ∧ TRow w2 w.heap.size (.slice a m c) ps l
set_option maxHeartbeats 6400000 in
theorem terms_any (a0 : Option Addr) (n c0 : Nat) (hn : n ≤ 6) (sx : Nat → ByteArray) (hsx : ∀ i, i < n → (sx i).size ≤ 1000000000000000) (w : World) (hS : StrsAt w w.heap.size a0 n sx) :
    Calls Try.prog 11 #[.slice a0 n c0] w (TermsPost n w) := by
  obtain ⟨i0, hi0, hz0, hz1, hz2⟩ := info_parts ptrInfo
  have Hi := Lib.hid hi0
  have HS := Lib.hid hS
  have HX := Lib.hid hsx
  have M0 : Hid (Kp [] w w ∧ ∃ ps l, TRow w w.heap.size (.slice none 0 0) ps l) := ⟨Kp.refl [] w, [], [], ⟨rfl, .inl ⟨rfl, rfl⟩⟩, rfl, fun i q t h => by simp at h⟩
  clear hi0 hS hsx
  go_enter Try.func11, Try.ntmps11
  go_wp2_with fail
  go_loopw [3, 4] (fun v i wr => ∃ (k m : Nat) (a : Option Addr) (c : Nat), k ≤ n ∧ m ≤ k ∧ i = .int .i64 (k : Int) ∧ v = .slice a m c ∧ Hid (Kp [] w wr ∧ ∃ ps l, TRow wr w.heap.size (.slice a m c) ps l)) (fun _ i _ => n - (intOf i).toNat)
  case atStart => exact ⟨0, 0, none, 0, Nat.zero_le _, Nat.le_refl _, rfl, rfl, M0⟩
  case round =>
    clear M0
    obtain ⟨k, m, a, c, hk, hm, rfl, rfl, HM⟩ := hrel
    by_cases hlt : k < n
    · have l1 : decide ((k : Int) < (n : Int)) = true := by simpa using hlt
      obtain ⟨g, o, hg, hgl, hc⟩ := (HS.out.kp HM.out.1 (Nat.le_refl _)) k hlt
      subst hg
      have HT := Lib.hid (hterm_any (sx k) (HX.out k hlt) wr)
      have Hk := Lib.hid (And.intro hlt hm)
      go_wp2_with fail
      refine Calls.mono HT.out ?_
      rintro e w2 ⟨q, rfl, kk, hq⟩
      have K2 : Hid (Kp [] w w2) := HM.out.1.trans kk
      have HR2 : Hid (∃ ps l, TRow w2 w.heap.size (.slice a m c) ps l) := by
        obtain ⟨ps, l, h⟩ := HM.out.2
        exact ⟨ps, l, h.kp kk⟩
      clear HT kk HM hc hgl hlt
      rcases hq with rfl | ⟨t, ht⟩
      · go_wp2_with fail
        go_roundw
        case rel => exact ⟨k + 1, m, a, c, Hk.out.1, by have := Hk.out.2; omega, by go_num, rfl, K2.out, HR2.out⟩
        case measure => have := Hk.out.1; simp [intOf]; omega
      · obtain ⟨g3, rfl⟩ := ht.some
        have HRd := Lib.hid ht
        obtain ⟨ps, l, hrow⟩ := HR2.out
        have hm2 : ps.length = m := by
          obtain ⟨a2, c2, h1, _⟩ := hrow.own.form
          injection h1 with _ h4 _
          exact h4.symm
        have hown : w2.ownsRow w.heap.size 24 1 (.slice a m c) m (ps.map Value.pointer) := by
          have := hrow.own
          unfold OwnPtrs at this
          rw [hm2] at this
          exact this
        have HRow := Lib.hid hrow
        have Hm2 := Lib.hid hm2
        have hsz : w.heap.size ≤ w2.heap.size := K2.out.size
        have hm9 : m ≤ 6 := by omega
        clear hrow ht hm2 HR2
        go_wp2_with (at_builtin; refine wpList_append_own _ rfl _ _ 27 rfl w.heap.size 24 i0 (.pointer none) 1 8 Try.underlying27 Hi.out hz0 hz1 hz2 rfl (by decide) _ m (ps.map Value.pointer) rfl (hown.alloc _) ⟨w2.heap.size, 0, none⟩ 1 1 [.pointer (some ⟨g3, 0, none⟩)] rfl rfl ?c1 ?c2 ?c3 ?c4 ?c5 ?_)
        case c1 =>
          intro j u hj
          match j, hj with
          | 0, hj => simp at hj; subst hj; simp [Addr.add]
        case c2 => intro u hu; simp at hu; subst hu; rfl
        case c3 => unfold maxLen; omega
        case c4 => omega
        case c5 => simp; omega
        intro v' w3 hown' hgrow _
        have K3 : Hid (Kp [] w w3) := (K2.out.alloc _).grown hgrow (fun g hg => by
          rcases hown.2 with ⟨h, _⟩ | ⟨g2, cap, cur, h, hb, _⟩
          · rw [h] at hg; cases hg
          · rw [h] at hg
            obtain rfl : g2 = g := by simpa [Value.ownBlock] using hg
            exact .inr hb)
        have H5 : Hid (∃ ps l, TRow w3 w.heap.size v' ps l ∧ ps.length = m + 1) := by
          have K : Kp (Value.slice a m c).ownBlock.toList w2 w3 := ((Kp.refl _ w2).alloc _).grown hgrow (fun g hg => .inl (by rw [hg]; simp))
          have hF : ∀ g ∈ (Value.slice a m c).ownBlock.toList, ∀ (k n : Int) (s : ByteArray) (pa pb pc : Option Addr), ¬ NdAt w2 g k n s pa pb pc := fun g hg k n s pa pb pc hn => by
            rcases hown.2 with ⟨h, _⟩ | ⟨g2, cap, cur, h, hb, hh, _⟩
            · rw [h] at hg; simp [Value.ownBlock] at hg
            · rw [h] at hg
              obtain rfl : g = g2 := by simpa [Value.ownBlock] using hg
              unfold NdAt at hn
              rw [hh] at hn
              injection hn with hn
              injection hn with _ hn _
              exact absurd hn (by decide)
          have hrd : ∀ {t q}, Read w2 t q → Read w3 t q := fun h => ⟨h.at'.row K hF, h.ok, h.sz, h.ne⟩
          refine ⟨ps ++ [some ⟨g3, 0, none⟩], l ++ [t], ⟨?_, by simp [HRow.out.len], fun i q u h1 h2 => ?_⟩, by simp [Hm2.out]⟩
          · unfold OwnPtrs
            rw [List.length_append, Hm2.out, List.map_append]
            exact hown'
          · rcases Nat.lt_trichotomy i ps.length with hi | hi | hi
            · rw [List.getElem?_append_left hi] at h1
              rw [List.getElem?_append_left (by rw [HRow.out.len]; exact hi)] at h2
              exact hrd (HRow.out.trm i q u h1 h2)
            · rw [hi, List.getElem?_append_right (Nat.le_refl _), Nat.sub_self] at h1
              rw [hi, ← HRow.out.len, List.getElem?_append_right (Nat.le_refl _), Nat.sub_self] at h2
              simp at h1 h2
              subst h1
              subst h2
              exact hrd HRd.out
            · rw [List.getElem?_eq_none (by simp; omega)] at h1
              cases h1
        obtain ⟨a2, c2, rfl⟩ : ∃ a2 c2, v' = .slice a2 (m + 1) c2 := by
          obtain ⟨ps, l, h1, h2⟩ := H5.out
          obtain ⟨a, c, h4, _, _⟩ := h1.own.form
          rw [h2] at h4
          exact ⟨a, c, h4⟩
        clear hown' hgrow hown HRow K2
        go_wp2_with fail
        go_roundw
        case rel => exact ⟨k + 1, m + 1, a2, c2, Hk.out.1, by have := Hk.out.2; omega, by go_num, rfl, K3.out, by obtain ⟨ps, l, h1, _⟩ := H5.out; exact ⟨ps, l, h1⟩⟩
        case measure => have := Hk.out.1; simp [intOf]; omega
    · have l1 : decide ((k : Int) < (n : Int)) = false := by simpa using hlt
      have l1' : decide (k < n) = false := by simpa using hlt
      have Hm := Lib.hid hm
      have Hk := Lib.hid hk
      clear hlt
      go_wp2_with fail
      go_ret
      obtain ⟨K, ps, l, h⟩ := HM.out
      exact ⟨a, m, c, ps, l, rfl, K, by have := Hm.out; have := Hk.out; omega, h⟩
end Go.Proofs.Ytphdfopdephanaa
