/- Contracts of the reference's disk: Crash. -/
import Derived.Test.YtiglipiofclmfaaDoorRefF
namespace Go.Proofs.YtiglipiofclmfaaDoor
open Go.RowKit

theorem secS_size (l : List UInt8) : (secS l).size = l.length := List.size_toArray
theorem RfThen2.step {b : Nat} {sv av bv : Value} {S2 S3 : Dk} {w w2 : World} (h : RfThen2 b sv av bv S2 w w2) (o : Nat) (v : Value)
    (hs : ∀ sv2 av2 bv2, RfAt w2 b sv2 av2 bv2 S2 → RfAt (w2.setCell ⟨b, o, none⟩ v) b sv2 av2 bv2 S3) : RfThen2 b sv av bv S3 w (w2.setCell ⟨b, o, none⟩ v) := by
  obtain ⟨sv2, av2, bv2, R, K, hx⟩ := h
  exact ⟨sv2, av2, bv2, hs _ _ _ R, K.setCell (.inl (by simp [rfoot])) _, hx⟩
theorem RfAt.setNoCut {w : World} {b : Nat} {sv av bv : Value} {S : Dk} (h : RfAt w b sv av bv S) (C : Nat → List UInt8) : RfAt (w.setCell ⟨b, 4, none⟩ (.int .i64 (-1))) b sv av bv { S with C := C, cut := false, left := 0 } := by
  have kp := Kp.set1 w b 4 (.int .i64 (-1))
  obtain ⟨n1, n2, n3⟩ := h.nofoot_b
  exact { h with
    c0 := by rw [cell_ne _ _ _ _ _ (by decide)]; exact h.c0
    c1 := by rw [cell_ne _ _ _ _ _ (by decide)]; exact h.c1
    c2 := by rw [cell_ne _ _ _ _ _ (by decide)]; exact h.c2
    c3 := by rw [cell_ne _ _ _ _ _ (by decide)]; exact h.c3
    c4 := cell_eq _ _ _ _ _ h.c4
    c5 := by rw [cell_ne _ _ _ _ _ (by decide)]; exact h.c5
    fr := fun o => by rw [frozen_setCell]; exact h.fr o
    ss := kp.owns h.ss n1
    ats := kp.owns h.ats n2
    bts := kp.owns h.bts n3 }
/-- A []bool that is handed over. -/
def KeepR (w : World) (a : Option Addr) (ks : List Bool) : Prop :=
  ∀ i, i < ks.length → ∃ kb ko, a = some ⟨kb, ko, none⟩ ∧ kb < w.heap.size ∧ w.cell? ⟨kb, ko + i, none⟩ = some (.bool (ks.getD i false))
theorem land1_len {ks : List Bool} {tn : Int} {F : Nat → List UInt8} {n : Nat} (hf : ∀ k, k < n → (F k).length = 64) {x : Nat × List UInt8} (hx : x.1 < n ∧ x.2.length = 64) (i : Nat) : ∀ k, k < n → (land1 ks tn F i x k).length = 64 := by
  intro k hk
  unfold land1
  split
  · unfold upd
    split
    · exact torn_length (hf _ hx.1) hx.2 _
    · exact hf k hk
  · exact hf k hk
theorem landN_len (ks : List Bool) (tn : Int) (F : Nat → List UInt8) (L : List (Nat × List UInt8)) (n : Nat) (hf : ∀ k, k < n → (F k).length = 64) (hl : ∀ x ∈ L, x.1 < n ∧ x.2.length = 64) : ∀ j, j ≤ L.length → ∀ k, k < n → (landN ks tn F L j k).length = 64
  | 0, _ => hf
  | j + 1, hj => by
    rw [landN_succ ks tn F L j hj]
    exact land1_len (landN_len ks tn F L n hf hl j (by omega)) (hl _ (List.getElem_mem _)) j
set_option maxHeartbeats 6400000 in
set_option maxRecDepth 20000 in
theorem rfcrash_any (w : World) (b : Nat) (sv av bv : Value) (S : Dk) (R : RfAt w b sv av bv S) (hn1 : 1 ≤ S.n) (hL : S.L.length < 4294967296) (ka : Option Addr) (kc : Nat) (ks : List Bool) (hks : KeepR w ka ks) (tn : Int) :
    Calls Tryd.prog 15 #[.pointer (some ⟨b, 0, none⟩), .slice ka ks.length kc, .int .i64 tn] w fun e w2 => e = .returned (.tuple #[]) ∧ RfThen2 b sv av bv (S.crash ks tn) w w2 := by
  have c0 := R.c0
  have c1 := R.c1
  have c2 := R.c2
  have c4 := R.c4
  have c5 := R.c5
  have f0 := R.fr 0
  have f1 := R.fr 1
  have f2 := R.fr 2
  have f4 := R.fr 4
  have f5 := R.fr 5
  have hlb := R.lb
  have hn2 := R.n2
  obtain ⟨⟨sa, sc, rfl⟩, ⟨aa, ac, rfl⟩, ⟨ba, bc, rfl⟩⟩ := R.form
  obtain ⟨g0, rfl, _⟩ := R.sec 0 (by omega)
  have HR := Lib.hid R
  have HS := Lib.hid R.ss
  have HKS := Lib.hid hks
  obtain ⟨i0, hi0, hz0, hz1, hz2⟩ := info_parts infoStr
  have Hi0 := Lib.hid hi0
  have hg4 : 4 ≤ w.heap.size := by have := R.hb; omega
  clear hi0 R hks
  go_enter Tryd.func15, Tryd.ntmps15
  go_wp2_with (first
    | (at_builtin; refine wpList_append_own _ rfl _ _ 40 rfl w.heap.size 9 i0 _ 1 16 Tryd.underlying40 Hi0.out hz0 hz1 hz2 rfl (by decide) (.slice none 0 0) 0 [] rfl ⟨rfl, .inl ⟨rfl, rfl⟩⟩ ⟨g0, 0, none⟩ S.n sc ((List.range S.n).map fun k => strV (S.F k)) rfl (by simp) (copy_news HS.out) (strs_one _ _) (by unfold maxLen; omega) (by omega) (Nat.le_refl _) ?_; intro v' w1 hown' hgrow' hnil'
       obtain ⟨gs, cap, hgs, rfl, C0, K1⟩ := copy_start hn1 hg4 hown' hgrow'
       clear hown' hgrow' hnil'))
  have HC0 := Lib.hid C0
  have HK1 := Lib.hid K1
  have Hgs := Lib.hid hgs
  clear C0 K1 hgs
  go_loopw [7] (fun i wr => ∃ (j : Nat), j ≤ S.L.length ∧ i = .int .i64 (j : Int) ∧ Hid (CopyAt w1 wr gs cap S.n (landN ks tn S.F S.L j))) (fun i _ => S.L.length - (intOf i).toNat)
  case atStart => exact ⟨0, Nat.zero_le _, rfl, HC0.out⟩
  case round =>
    clear HC0
    obtain ⟨j, hj, rfl, HC⟩ := hrel
    have x1 : wr.cell? ⟨b, 1, none⟩ = some (.slice aa S.L.length ac) := ((HC.out.old HK1.out Hgs.out hlb).1).trans c1
    have x2 : wr.cell? ⟨b, 2, none⟩ = some (.slice ba S.L.length bc) := ((HC.out.old HK1.out Hgs.out hlb).1).trans c2
    by_cases hlt : j < S.L.length
    · have e1 : decide (j < S.L.length) = true := by simpa using hlt
      have hst := landN_succ ks tn S.F S.L j hlt
      by_cases hkl : ks.length ≤ j
      · have e2 : decide (ks.length ≤ j) = true := by simpa using hkl
        have HC2 : Hid (CopyAt w1 wr gs cap S.n (landN ks tn S.F S.L (j + 1))) := by
          show CopyAt _ _ _ _ _ _
          rw [hst]
          unfold land1
          rw [if_neg (by rw [List.getD_eq_getElem?_getD, List.getElem?_eq_none hkl]; decide)]
          exact HC.out
        clear hst
        go_wp2_with fail
        go_roundw
        case rel => exact ⟨j + 1, by omega, by go_num, HC2⟩
        case measure => simp [intOf]; omega
      · have e2 : decide (ks.length ≤ j) = false := by simpa using hkl
        have hkj : j < ks.length := by omega
        obtain ⟨kb, ko, hka, hkb, hkc⟩ := HKS.out j hkj
        obtain rfl := hka
        have y0 : wr.cell? ⟨kb, ko + j, none⟩ = some (.bool (ks.getD j false)) := ((HC.out.old HK1.out Hgs.out hkb).1).trans hkc
        obtain ⟨kv, hkv⟩ : ∃ kv, kv = ks.getD j false := ⟨_, rfl⟩
        rw [← hkv] at y0
        cases kv
        · have HC2 : Hid (CopyAt w1 wr gs cap S.n (landN ks tn S.F S.L (j + 1))) := by
            show CopyAt _ _ _ _ _ _
            rw [hst]
            unfold land1
            rw [if_neg (by rw [← hkv]; decide)]
            exact HC.out
          clear hst hkv hkc
          go_wp2_with fail
          go_roundw
          case rel => exact ⟨j + 1, by omega, by go_num, HC2⟩
          case measure => simp [intOf]; omega
        · obtain ⟨ga, hga, hca⟩ := HR.out.at_ j hlt
          obtain ⟨gb, hgb, hcb⟩ := HR.out.bt_ j hlt
          have hqn := (HR.out.lok _ (List.getElem_mem hlt)).1
          have hql := (HR.out.lok _ (List.getElem_mem hlt)).2
          unfold land1 at hst
          rw [if_pos hkv.symm] at hst
          obtain ⟨q, hq⟩ : ∃ q, q = S.L[j].1 := ⟨_, rfl⟩
          obtain ⟨lq, hlq⟩ : ∃ lq, lq = S.L[j].2 := ⟨_, rfl⟩
          rw [← hq] at hca hst hqn
          rw [← hlq] at hcb hst hql
          obtain rfl := hga
          obtain rfl := hgb
          have y1 : wr.cell? ⟨ga, j, none⟩ = some (.int .i64 (q : Int)) := ((HC.out.old HK1.out Hgs.out (World.block_lt_of_cell? w _ hca)).1).trans hca
          have y2 : wr.cell? ⟨gb, j, none⟩ = some (strV lq) := ((HC.out.old HK1.out Hgs.out (World.block_lt_of_cell? w _ hcb)).1).trans hcb
          obtain ⟨z1, z2⟩ := HC.out.cell q hqn
          have hfl := landN_len ks tn S.F S.L S.n HR.out.fl HR.out.lok j hj q hqn
          obtain ⟨fq, hfq⟩ : ∃ fq, fq = landN ks tn S.F S.L j q := ⟨_, rfl⟩
          rw [← hfq] at z1 hst hfl
          by_cases htn : (j : Int) = tn
          · have e3 : ((j : Int) == tn) = true := by simpa using htn
            rw [decide_eq_true htn] at hst
            have s1 : (secS lq).size = 64 := by rw [secS_size]; exact hql
            have s2 : (secS fq).size = 64 := by rw [secS_size]; exact hfl
            have ht9 : (secS lq).extract 0 32 ++ (secS fq).extract 32 64 = secS (torn fq lq true) := (torn_bytes fq lq hfl).symm
            have HC2 : ∀ n, Hid (CopyAt w1 ((wr.drewN n).setCell ⟨gs, q, none⟩ (strV (torn fq lq true))) gs cap S.n (landN ks tn S.F S.L (j + 1))) := by
              intro n
              show CopyAt _ _ _ _ _ _
              rw [hst]
              exact CopyAt.set (wr := wr.drewN n) ⟨HC.out.1, HC.out.2.drewN n⟩ q hqn (torn fq lq true)
            have H2 := Lib.hid HC2
            clear hst hq hlq hca hcb hfq HC2 htn hkv hkc hql hfl
            go_wp2_with fail
            go_quiet (fail)
            go_wp2_with fail
            go_roundw
            case rel => exact ⟨j + 1, by omega, by go_num, H2.out _⟩
            case measure => simp [intOf]; omega
          · have e3 : ((j : Int) == tn) = false := by simpa using htn
            rw [decide_eq_false htn] at hst
            have HC2 : Hid (CopyAt w1 (wr.setCell ⟨gs, q, none⟩ (strV lq)) gs cap S.n (landN ks tn S.F S.L (j + 1))) := by
              show CopyAt _ _ _ _ _ _
              rw [hst]
              exact HC.out.set q hqn lq
            clear hst hq hlq hca hcb hfq htn hkv hkc hql hfl
            go_wp2_with fail
            go_roundw
            case rel => exact ⟨j + 1, by omega, by go_num, HC2⟩
            case measure => simp [intOf]; omega
    · have e1 : decide (j < S.L.length) = false := by simpa using hlt
      obtain rfl : j = S.L.length := by omega
      have x0 : wr.cell? ⟨b, 0, none⟩ = some (.slice (some ⟨g0, 0, none⟩) S.n sc) := ((HC.out.old HK1.out Hgs.out hlb).1).trans c0
      have x4 := ((HC.out.old HK1.out Hgs.out (o := 4) hlb).1).trans c4
      have x5 := ((HC.out.old HK1.out Hgs.out (o := 5) hlb).1).trans c5
      have y0 : wr.frozen? ⟨b, 0, none⟩ = false := ((HC.out.old HK1.out Hgs.out hlb).2).trans f0
      have y1 : wr.frozen? ⟨b, 1, none⟩ = false := ((HC.out.old HK1.out Hgs.out hlb).2).trans f1
      have y2 : wr.frozen? ⟨b, 2, none⟩ = false := ((HC.out.old HK1.out Hgs.out hlb).2).trans f2
      have y4 : wr.frozen? ⟨b, 4, none⟩ = false := ((HC.out.old HK1.out Hgs.out hlb).2).trans f4
      have y5 : wr.frozen? ⟨b, 5, none⟩ = false := ((HC.out.old HK1.out Hgs.out hlb).2).trans f5
      go_wp2_with fail
      go_end0
      refine ⟨rfl, ?_⟩
      have T := HR.out.flushed HK1.out Hgs.out HC.out (landN_len ks tn S.F S.L S.n HR.out.fl HR.out.lok _ (Nat.le_refl _))
      have T2 := T.step (S3 := { S with F := landN ks tn S.F S.L S.L.length, L := [], dead := false }) 5 (.bool false) (fun _ _ _ h => h.setDead false)
      exact T2.step (S3 := S.crash ks tn) 4 (.int .i64 (-1)) (fun _ _ _ h => h.setNoCut _)
end Go.Proofs.YtiglipiofclmfaaDoor
