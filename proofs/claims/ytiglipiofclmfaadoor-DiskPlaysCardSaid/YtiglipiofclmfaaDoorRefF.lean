/- Contracts of the reference's disk: Flush. -/
import Derived.Test.YtiglipiofclmfaaDoorRefR
namespace Go.Proofs.YtiglipiofclmfaaDoor
open Go.RowKit

theorem map_upd (F : Nat → List UInt8) (n k : Nat) (hk : k < n) (l : List UInt8) : ((List.range n).map fun j => strV (F j)).set k (strV l) = (List.range n).map fun j => strV (upd F k l j) := by
  apply List.ext_getElem?
  intro i
  rw [List.getElem?_set]
  by_cases h : k = i
  · subst h
    rw [if_pos rfl]
    simp [hk, upd]
  · rw [if_neg h]
    simp only [List.getElem?_map]
    by_cases hi : i < n
    · simp [hi, upd]
      rw [if_neg (fun e => h e.symm)]
    · simp [hi]
/-- A cell of a row is stored. -/
theorem owns_set {w : World} {base e n cap g : Nat} {xs : List Value} (h : w.ownsRow base e 1 (.slice (some ⟨g, 0, none⟩) n cap) n xs) (k : Nat) (v : Value) :
    (w.setCell ⟨g, k, none⟩ v).ownsRow base e 1 (.slice (some ⟨g, 0, none⟩) n cap) n (xs.set k v) := by
  obtain ⟨hx, h2⟩ := h
  refine ⟨by rw [List.length_set]; exact hx, ?_⟩
  rcases h2 with ⟨h3, _⟩ | ⟨g2, cap2, cur, hv, hb, hg, r1, r2, r3, r4⟩
  · cases h3
  · injection hv with e1 e2 e3
    injection e1 with e1
    injection e1 with e1
    subst e1 e3
    refine .inr ⟨g, cap, cur.setIfInBounds k v, rfl, hb, ?_, ?_, ?_, ?_, ?_⟩
    · simp only [World.setCell, Array.getElem?_modify, hg]
      simp
    · simpa using r1
    · simpa using r2
    · simpa using r3
    · rw [Array.toList_setIfInBounds, List.take_set, r4]
theorem owns_base {w : World} {base base2 e size n : Nat} {v : Value} {xs : List Value} (h : w.ownsRow base e size v n xs) (hb : base2 ≤ base) : w.ownsRow base2 e size v n xs := by
  obtain ⟨hx, h2⟩ := h
  refine ⟨hx, ?_⟩
  rcases h2 with h2 | ⟨g, cap, cur, hv, hb2, r⟩
  · exact .inl h2
  · exact .inr ⟨g, cap, cur, hv, by omega, r⟩
/-- The sectors' copy, with the loose Writes of a part laid over it. -/
def CopyAt (w1 wr : World) (gs cap n : Nat) (F : Nat → List UInt8) : Prop :=
  wr.ownsRow 4 9 1 (.slice (some ⟨gs, 0, none⟩) n cap) n ((List.range n).map fun j => strV (F j)) ∧ Kp [gs] w1 wr
theorem CopyAt.cell {w1 wr : World} {gs cap n : Nat} {F : Nat → List UInt8} (h : CopyAt w1 wr gs cap n F) (k : Nat) (hk : k < n) : wr.cell? ⟨gs, k, none⟩ = some (strV (F k)) ∧ wr.frozen? ⟨gs, k, none⟩ = false := by
  obtain ⟨g, h1, h2, h3⟩ := owns_cell h.1 k hk
  injection h1 with h1
  injection h1 with h1
  subst h1
  refine ⟨h2.trans ?_, h3⟩
  simp [hk]
theorem CopyAt.set {w1 wr : World} {gs cap n : Nat} {F : Nat → List UInt8} (h : CopyAt w1 wr gs cap n F) (k : Nat) (hk : k < n) (l : List UInt8) : CopyAt w1 (wr.setCell ⟨gs, k, none⟩ (strV l)) gs cap n (upd F k l) := by
  refine ⟨?_, h.2.setCell (.inl (by simp)) _⟩
  have := owns_set h.1 k (strV l)
  rw [map_upd F n k hk l] at this
  exact this
theorem CopyAt.drew {w1 wr : World} {gs cap n : Nat} {F : Nat → List UInt8} (h : CopyAt w1 wr gs cap n F) : CopyAt w1 wr.drew gs cap n F := ⟨h.1, h.2.drew⟩
/-- The rows are let go of, the sectors' row is another one. -/
theorem RfAt.flushed {w w1 wr : World} {b : Nat} {sv av bv : Value} {S : Dk} (R : RfAt w b sv av bv S) (K1 : Kp [] w w1) {gs cap : Nat} (hgs : w.heap.size ≤ gs) {F : Nat → List UInt8} (C : CopyAt w1 wr gs cap S.n F) (hf : ∀ k, k < S.n → (F k).length = 64) :
    RfThen2 b sv av bv { S with F := F, L := [] } w (((wr.setCell ⟨b, 0, none⟩ (.slice (some ⟨gs, 0, none⟩) S.n cap)).setCell ⟨b, 1, none⟩ (.slice none 0 0)).setCell ⟨b, 2, none⟩ (.slice none 0 0)) := by
  have lb := R.lb
  have hne : b ≠ gs := by omega
  have K : Kp [b] wr (((wr.setCell ⟨b, 0, none⟩ (.slice (some ⟨gs, 0, none⟩) S.n cap)).setCell ⟨b, 1, none⟩ (.slice none 0 0)).setCell ⟨b, 2, none⟩ (.slice none 0 0)) :=
    (((Kp.refl [b] wr).setCell (.inl (by simp)) _).setCell (.inl (by simp)) _).setCell (.inl (by simp)) _
  have cc (o : Nat) : wr.cell? ⟨b, o, none⟩ = w.cell? ⟨b, o, none⟩ := (C.2.cell (p := ⟨b, o, none⟩) (K1.lt lb) (by simpa using hne)).trans (K1.cell0 lb)
  have ff (o : Nat) : wr.frozen? ⟨b, o, none⟩ = w.frozen? ⟨b, o, none⟩ := (C.2.frozen (p := ⟨b, o, none⟩) (K1.lt lb) (by simpa using hne)).trans (K1.frozen0 lb)
  refine ⟨.slice (some ⟨gs, 0, none⟩) S.n cap, .slice none 0 0, .slice none 0 0, ?_, ?_, fun x hx => ?_⟩
  · exact { R with
      ns := fun h => hne (by simpa [Value.ownBlock] using h.symm)
      na := fun h => by cases h
      nb := fun h => by cases h
      c0 := by rw [cell_ne _ _ _ _ _ (by decide), cell_ne _ _ _ _ _ (by decide)]; exact cell_eq _ _ _ _ _ ((cc 0).trans R.c0)
      c1 := by rw [cell_ne _ _ _ _ _ (by decide)]; exact cell_eq _ _ _ _ _ (by rw [cell_ne _ _ _ _ _ (by decide)]; exact (cc 1).trans R.c1)
      c2 := by exact cell_eq _ _ _ _ _ (by rw [cell_ne _ _ _ _ _ (by decide), cell_ne _ _ _ _ _ (by decide)]; exact (cc 2).trans R.c2)
      c3 := by rw [cell_ne _ _ _ _ _ (by decide), cell_ne _ _ _ _ _ (by decide), cell_ne _ _ _ _ _ (by decide)]; exact (cc 3).trans R.c3
      c4 := by rw [cell_ne _ _ _ _ _ (by decide), cell_ne _ _ _ _ _ (by decide), cell_ne _ _ _ _ _ (by decide)]; exact (cc 4).trans R.c4
      c5 := by rw [cell_ne _ _ _ _ _ (by decide), cell_ne _ _ _ _ _ (by decide), cell_ne _ _ _ _ _ (by decide)]; exact (cc 5).trans R.c5
      fr := fun o => by rw [frozen_setCell, frozen_setCell, frozen_setCell]; exact (ff o).trans (R.fr o)
      ss := K.owns C.1 (fun g hg hm => hne (by
        have h1 : gs = g := by simpa [Value.ownBlock] using hg
        rw [h1]; exact (List.mem_singleton.1 hm).symm))
      ats := ⟨rfl, .inl ⟨rfl, rfl⟩⟩
      bts := ⟨rfl, .inl ⟨rfl, rfl⟩⟩
      fl := hf
      lok := fun x hx => by cases hx }
  · refine ((K1.mono (fun x hx => by cases hx)).trans2 (C.2) (fun x hx => .inr (by rw [List.mem_singleton.1 hx]; exact hgs))).trans (K.mono (fun x hx => by rw [List.mem_singleton.1 hx]; simp [rfoot]))
  · simp only [rfoot, Value.ownBlock, Option.toList_none, List.append_nil, List.mem_cons, Option.mem_toList, List.mem_append, Option.toList_some, List.not_mem_nil, or_false] at hx
    rcases hx with rfl | rfl
    · exact .inl (by simp [rfoot])
    · exact .inr hgs
theorem lay_len (F : Nat → List UInt8) (n : Nat) (hf : ∀ k, k < n → (F k).length = 64) : ∀ (L : List (Nat × List UInt8)), (∀ x ∈ L, x.2.length = 64) → ∀ k, k < n → (lay F L k).length = 64
  | L, hl => by
    induction L generalizing F with
    | nil => exact hf
    | cons x L ih =>
      intro k hk
      show (lay (upd F x.1 x.2) L k).length = 64
      refine ih (upd F x.1 x.2) (fun j hj => ?_) (fun y hy => hl y (List.mem_cons_of_mem _ hy)) k hk
      unfold upd
      split
      · exact hl x (List.mem_cons_self ..)
      · exact hf j hj
theorem copy_news {w : World} {base n cap g : Nat} {F : Nat → List UInt8} (h : w.ownsRow base 9 1 (.slice (some ⟨g, 0, none⟩) n cap) n ((List.range n).map fun k => strV (F k))) : ∀ j u, ((List.range n).map fun k => strV (F k))[j]? = some u → w.cell? ((⟨g, 0, none⟩ : Addr).add j) = some u := by
  intro j u hu
  have hj : j < n := by
    have := (List.getElem?_eq_some_iff.1 hu).1
    simpa using this
  obtain ⟨g2, e2, hc, _⟩ := owns_cell h j hj
  injection e2 with e2
  injection e2 with e2
  subst e2
  rw [Addr.add_mid, Nat.zero_add, hc]
  exact hu
theorem strs_one (n : Nat) (F : Nat → List UInt8) : ∀ u ∈ ((List.range n).map fun k => strV (F k)), u.oneCell' = true := by
  intro u hu
  obtain ⟨x, _, rfl⟩ := List.mem_map.1 hu
  rfl
theorem copy_start {w w1 : World} {n : Nat} {F : Nat → List UInt8} {v' : Value} (hn : 1 ≤ n) (hg : 4 ≤ w.heap.size) (h : w1.ownsRow w.heap.size 9 1 v' (0 + n) ([] ++ (List.range n).map fun k => strV (F k))) (hg2 : w.grownBy w1 (Value.slice none 0 0).ownBlock) :
    ∃ gs cap, w.heap.size ≤ gs ∧ v' = .slice (some ⟨gs, 0, none⟩) n cap ∧ CopyAt w1 w1 gs cap n F ∧ Kp [] w w1 := by
  rw [Nat.zero_add, List.nil_append] at h
  have K : Kp [] w w1 := (Kp.refl [] w).grown hg2 (fun k hk => by cases hk)
  obtain ⟨a, cap, rfl⟩ := owns_form h
  obtain ⟨g, rfl, _, _⟩ := owns_cell h 0 (by omega)
  exact ⟨g, cap, (owns_lt h g rfl).1, rfl, ⟨owns_base h hg, Kp.refl _ _⟩, K⟩
theorem CopyAt.old {w w1 wr : World} {gs cap n : Nat} {F : Nat → List UInt8} (h : CopyAt w1 wr gs cap n F) (K1 : Kp [] w w1) (hgs : w.heap.size ≤ gs) {g o : Nat} (hg : g < w.heap.size) : wr.cell? ⟨g, o, none⟩ = w.cell? ⟨g, o, none⟩ ∧ wr.frozen? ⟨g, o, none⟩ = w.frozen? ⟨g, o, none⟩ :=
  have hn : g ∉ [gs] := by simp; omega
  ⟨(h.2.cell (p := ⟨g, o, none⟩) (K1.lt hg) hn).trans (K1.cell0 hg), (h.2.frozen (p := ⟨g, o, none⟩) (K1.lt hg) hn).trans (K1.frozen0 hg)⟩
set_option maxHeartbeats 3200000 in
set_option maxRecDepth 20000 in
theorem rfflush_any (w : World) (b : Nat) (sv av bv : Value) (S : Dk) (R : RfAt w b sv av bv S) (hn1 : 1 ≤ S.n) (hL : S.L.length < 4294967296) (hd : S.dead = false) :
    Calls Tryd.prog 11 #[.pointer (some ⟨b, 0, none⟩)] w fun e w2 => e = .returned (.int .i64 0) ∧ RfThen2 b sv av bv { S with F := lay S.F S.L, L := [] } w w2 := by
  have c5 := R.c5
  have c0 := R.c0
  have c1 := R.c1
  have c2 := R.c2
  have f0 := R.fr 0
  have f1 := R.fr 1
  have f2 := R.fr 2
  have hlb := R.lb
  have hn2 := R.n2
  rw [hd] at c5
  obtain ⟨⟨sa, sc, rfl⟩, ⟨aa, ac, rfl⟩, ⟨ba, bc, rfl⟩⟩ := R.form
  obtain ⟨g0, rfl, _⟩ := R.sec 0 (by omega)
  have HR := Lib.hid R
  have HS := Lib.hid R.ss
  obtain ⟨i0, hi0, hz0, hz1, hz2⟩ := info_parts infoStr
  have Hi0 := Lib.hid hi0
  have hg4 : 4 ≤ w.heap.size := by have := R.hb; omega
  clear hi0 R hd
  go_enter Tryd.func11, Tryd.ntmps11
  go_wp2_with (first
    | (at_builtin; refine wpList_append_own _ rfl _ _ 40 rfl w.heap.size 9 i0 _ 1 16 Tryd.underlying40 Hi0.out hz0 hz1 hz2 rfl (by decide) (.slice none 0 0) 0 [] rfl ⟨rfl, .inl ⟨rfl, rfl⟩⟩ ⟨g0, 0, none⟩ S.n sc ((List.range S.n).map fun k => strV (S.F k)) rfl (by simp) (copy_news HS.out) (strs_one _ _) (by unfold maxLen; omega) (by omega) (Nat.le_refl _) ?_; intro v' w1 hown' hgrow' hnil'
       obtain ⟨gs, cap, hgs, rfl, C0, K1⟩ := copy_start hn1 hg4 hown' hgrow'
       clear hown' hgrow' hnil'))
  have HC0 := Lib.hid C0
  have HK1 := Lib.hid K1
  have Hgs := Lib.hid hgs
  clear C0 K1 hgs
  go_loopw [4] (fun i wr => ∃ (j : Nat), j ≤ S.L.length ∧ i = .int .i64 (j : Int) ∧ Hid (CopyAt w1 wr gs cap S.n (lay S.F (S.L.take j)))) (fun i _ => S.L.length - (intOf i).toNat)
  case atStart => exact ⟨0, Nat.zero_le _, rfl, HC0.out⟩
  case round =>
    clear HC0
    obtain ⟨j, hj, rfl, HC⟩ := hrel
    have x1 : wr.cell? ⟨b, 1, none⟩ = some (.slice aa S.L.length ac) := ((HC.out.old HK1.out Hgs.out hlb).1).trans c1
    have x2 : wr.cell? ⟨b, 2, none⟩ = some (.slice ba S.L.length bc) := ((HC.out.old HK1.out Hgs.out hlb).1).trans c2
    by_cases hlt : j < S.L.length
    · have e1 : decide (j < S.L.length) = true := by simpa using hlt
      obtain ⟨ga, hga, hca⟩ := HR.out.at_ j hlt
      obtain ⟨gb, hgb, hcb⟩ := HR.out.bt_ j hlt
      have hqn := (HR.out.lok _ (List.getElem_mem hlt)).1
      have hst := lay_take S.F S.L j hlt
      obtain ⟨q, hq⟩ : ∃ q, q = S.L[j].1 := ⟨_, rfl⟩
      obtain ⟨lq, hlq⟩ : ∃ lq, lq = S.L[j].2 := ⟨_, rfl⟩
      rw [← hq] at hca hst hqn
      rw [← hlq] at hcb hst
      obtain rfl := hga
      obtain rfl := hgb
      have y1 : wr.cell? ⟨ga, j, none⟩ = some (.int .i64 (q : Int)) := ((HC.out.old HK1.out Hgs.out (World.block_lt_of_cell? w _ hca)).1).trans hca
      have y2 : wr.cell? ⟨gb, j, none⟩ = some (strV lq) := ((HC.out.old HK1.out Hgs.out (World.block_lt_of_cell? w _ hcb)).1).trans hcb
      obtain ⟨z1, z2⟩ := HC.out.cell q hqn
      have HC2 : Hid (CopyAt w1 ((wr.setCell ⟨gs, q, none⟩ (strV lq)).drew) gs cap S.n (lay S.F (S.L.take (j + 1)))) := by
        show CopyAt _ _ _ _ _ _
        rw [hst]
        exact (HC.out.set q hqn lq).drew
      have Hst := Lib.hid hst
      clear hst hq hlq hca hcb
      go_wp2_with fail
      go_region
      all_goals
        go_wp2_with fail
        go_roundw
        case rel => exact ⟨j + 1, by omega, by go_num, HC2⟩
        case measure => simp [intOf]; omega
    · have e1 : decide (j < S.L.length) = false := by simpa using hlt
      obtain rfl : j = S.L.length := by omega
      have x0 : wr.cell? ⟨b, 0, none⟩ = some (.slice (some ⟨g0, 0, none⟩) S.n sc) := ((HC.out.old HK1.out Hgs.out hlb).1).trans c0
      have y0 : wr.frozen? ⟨b, 0, none⟩ = false := ((HC.out.old HK1.out Hgs.out hlb).2).trans f0
      have y1 : wr.frozen? ⟨b, 1, none⟩ = false := ((HC.out.old HK1.out Hgs.out hlb).2).trans f1
      have y2 : wr.frozen? ⟨b, 2, none⟩ = false := ((HC.out.old HK1.out Hgs.out hlb).2).trans f2
      have HF : Hid (CopyAt w1 wr gs cap S.n (lay S.F S.L)) := by
        have h9 := HC.out
        rw [List.take_of_length_le (Nat.le_refl _)] at h9
        exact h9
      clear HC
      go_wp2_with fail
      go_ret
      exact ⟨rfl, HR.out.flushed HK1.out Hgs.out HF.out (lay_len S.F S.n HR.out.fl S.L (fun x hx => (HR.out.lok x hx).2))⟩
/-- Where the power is gone. -/
theorem rfflush_dead (w : World) (b : Nat) (sv av bv : Value) (S : Dk) (R : RfAt w b sv av bv S) (hd : S.dead = true) :
    Calls Tryd.prog 11 #[.pointer (some ⟨b, 0, none⟩)] w fun e w2 => e = .returned (.int .i64 25) ∧ w = w2 := by
  have c5 := R.c5
  rw [hd] at c5
  clear R hd
  go_enter Tryd.func11, Tryd.ntmps11
  go_wp2
  go_ret
  exact ⟨rfl, rfl⟩
end Go.Proofs.YtiglipiofclmfaaDoor
