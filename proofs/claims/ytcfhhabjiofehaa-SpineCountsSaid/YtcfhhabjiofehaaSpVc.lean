/- The law SpineCounts: its walk. -/
import Derived.Test.YtcfhhabjiofehaaSpU
namespace Go.Proofs.Ytcfhhabjiofehaa
open Go.RowKit

def srt (i : Nat) : Tm := .node 1 (((i : Int) % 9)) noS .nil .nil .nil
def tel : Nat → Tm → Tm
  | 0, b => b
  | j + 1, b => pi (srt j) (tel j b)
theorem tel_row (b : Tm) (hb : ∀ n s x y z, b ≠ .node 4 n s x y z) : ∀ (q j : Nat), row 4 q (tel j b) = ((List.range (min j q)).map (fun i => srt (j - 1 - i)), tel (j - q) b)
  | 0, j => by simp [row]
  | q + 1, 0 => by
    show row 4 (q + 1) b = _
    have : row 4 (q + 1) b = ([], b) := by
      cases b with
      | nil => exact row_nil _ _
      | node k n s x y z => exact row_other (fun e => hb n s x y z (by rw [e])) _ _ _ _ _ _
    rw [this]
    simp [tel]
  | q + 1, j + 1 => by
    show row 4 (q + 1) (.node 4 0 noS (srt j) (tel j b) .nil) = _
    rw [row_step]
    have ih := tel_row b hb q j
    have e : rest 4 (srt j) (tel j b) = tel j b := rfl
    rw [e, ih, show min (j + 1) (q + 1) = min j q + 1 by omega, List.range_succ_eq_map, List.map_cons, List.map_map]
    simp only [Prod.mk.injEq, List.cons.injEq]
    refine ⟨⟨rfl, List.map_congr_left (fun i hi => ?_)⟩, by rw [Nat.add_sub_add_right]⟩
    simp only [Function.comp]
    congr 1
    omega
theorem tel_sz (b : Tm) : ∀ j, (tel j b).sz = 2 * j + b.sz
  | 0 => by simp [tel]
  | j + 1 => by
    have := tel_sz b j
    simp only [tel, pi, Tm.sz, srt] at *
    omega
def cF : Tm := .node 3 0 ⟨#[102]⟩ .nil .nil .nil
def ups (k : Nat) : List Tm := (List.range k).map (fun (i : Nat) => vr (i : Int))
def bK (k : Nat) : Tm := apply cF (ups k)
theorem bK_succ (k : Nat) : bK (k + 1) = ap (bK k) (vr (k : Int)) := by
  unfold bK ups apply around
  rw [List.range_succ, List.map_append, List.foldl_append]
  rfl
theorem bK_sz : ∀ k, (bK k).sz = 1 + 2 * k
  | 0 => rfl
  | k + 1 => by
    have := bK_sz k
    rw [bK_succ]
    simp only [ap, Tm.sz, vr]
    omega
theorem bK_kind : ∀ k, ∃ z n s x y c, bK k = .node z n s x y c ∧ z ≠ 4
  | 0 => ⟨3, _, _, _, _, _, rfl, by decide⟩
  | k + 1 => ⟨6, _, _, _, _, _, bK_succ k, by decide⟩
theorem bK_no (k : Nat) : ∀ n s x y z, bK k ≠ .node 4 n s x y z := fun n s x y z e => by
  obtain ⟨z2, _, _, _, _, _, h, h2⟩ := bK_kind k
  rw [h] at e
  injection e with e
  exact h2 e
theorem head_bK (k : Nat) : head (bK k) = (cF, ups k) := by
  unfold bK
  rw [head_apply]
  rfl
/-- What is behind a telescope: its kind. -/
theorem tel_kind (k : Nat) : ∀ j, ∃ z n s x y c, tel j (bK k) = .node z n s x y c ∧ (z = 4 ↔ 0 < j)
  | 0 => by
    obtain ⟨z, n, s, x, y, c, h, h2⟩ := bK_kind k
    exact ⟨z, n, s, x, y, c, h, by omega⟩
  | j + 1 => ⟨4, _, _, _, _, _, rfl, by omega⟩
set_option maxRecDepth 100000 in
set_option maxHeartbeats 6400000 in
theorem counts_any (n m most : Nat) (hn : n < 256) (hm : m < 256) (hmost : most < 256) (w : World) : Calls Try.prog 5 #[.int .u8 (n : Int), .int .u8 (m : Int), .int .u8 (most : Int)] w (YesPost w) := by
  have K : Hid (Kp [] w w) := Kp.refl [] w
  obtain ⟨k, hk⟩ : ∃ k : Nat, k = n % 30 := ⟨_, rfl⟩
  obtain ⟨j, hj⟩ : ∃ j : Nat, j = m % 30 := ⟨_, rfl⟩
  obtain ⟨q, hq⟩ : ∃ q : Nat, q = most % 40 := ⟨_, rfl⟩
  have ek : (n : Int) % 30 = (k : Int) := by omega
  have ej : (m : Int) % 30 = (j : Int) := by omega
  have eq : (most : Int) % 40 = (q : Int) := by omega
  have hk9 : k < 30 := by omega
  have hj9 : j < 30 := by omega
  have hq9 : q < 40 := by omega
  clear hk hj hq
  unfold YesPost
  go_enter Try.func5, Try.ntmps5
  go_wp2_with fail
  refine Calls.mono (known_any _) ?_
  rintro e w1 ⟨rfl, kk⟩
  replace K := Lib.hid (K.out.trans kk)
  clear kk
  go_wp2_with fail
  refine Calls.mono (const_any ⟨#[102]⟩ _) ?_
  rintro e w2 ⟨qf, rfl, kk, tt⟩
  replace K := Lib.hid (K.out.trans kk)
  have Tf : Hid (TA w2 (bK 0) qf) := ⟨tt⟩
  clear kk tt
  go_wp2_with fail
  go_loopw [10, 11] (fun x i wr => ∃ (a : Nat) (p : Option Addr), a ≤ k ∧ x = .pointer p ∧ i = .int .i64 (a : Int) ∧ Hid (Kp [] w wr ∧ TA wr (bK a) p)) (fun _ i _ => k - (intOf i).toNat)
  case atStart => exact ⟨0, qf, Nat.zero_le _, rfl, rfl, K.out, Tf.out⟩
  case round =>
    clear K Tf
    obtain ⟨a, p, ha, rfl, rfl, HS⟩ := hrel
    by_cases hlt : a < k
    · have l1 : decide ((a : Int) < (k : Int)) = true := by simpa using hlt
      have l1' : decide (a < k) = true := by simpa using hlt
      go_wp2_with fail
      refine Calls.mono (var_any (a : Int) _) ?_
      rintro e w3 ⟨qv, rfl, kk, tt⟩
      have HS2 : Hid (Kp [] w w3 ∧ TA w3 (bK a) p ∧ TmAt w3 (vr (a : Int)) qv) := ⟨HS.out.1.trans kk, HS.out.2.kp kk, tt⟩
      clear kk tt HS
      go_wp2_with fail
      refine Calls.mono (app_any HS2.out.2.1.at' HS2.out.2.2) ?_
      rintro e w4 ⟨qn, rfl, kk, tt⟩
      have HS3 : Hid (Kp [] w w4 ∧ TA w4 (bK (a + 1)) qn) := ⟨HS2.out.1.trans kk, ⟨by rw [bK_succ]; exact tt⟩⟩
      clear kk tt HS2
      go_wp2_with fail
      go_roundw
      case rel => exact ⟨a + 1, qn, hlt, rfl, by go_num, HS3⟩
      case measure => simp [intOf]; omega
    have l1 : decide ((a : Int) < (k : Int)) = false := by simpa using hlt
    have l1' : decide (a < k) = false := by simpa using hlt
    have T0 : Hid (Kp [] w wr ∧ TA wr (tel 0 (bK k)) p) := by
      have : a = k := by omega
      rw [this] at HS
      exact HS
    clear HS
    obtain ⟨w5, hw5⟩ : ∃ w5, w5 = wr := ⟨_, rfl⟩
    rw [← hw5] at T0 ⊢
    clear hw5
    go_wp2_with fail
    clear l1 l1' hlt ha
    go_loopw [10, 12] (fun x i wr => ∃ (b : Nat) (p : Option Addr), b ≤ j ∧ x = .pointer p ∧ i = .int .i64 (b : Int) ∧ Hid (Kp [] w wr ∧ TA wr (tel b (bK k)) p)) (fun _ i _ => j - (intOf i).toNat)
    case atStart => exact ⟨0, p, Nat.zero_le _, rfl, rfl, T0⟩
    case round =>
      clear T0
      obtain ⟨b, p2, hb, rfl, rfl, HS⟩ := hrel
      by_cases hlt : b < j
      · have l1 : decide ((b : Int) < (j : Int)) = true := by simpa using hlt
        have l1' : decide (b < j) = true := by simpa using hlt
        obtain ⟨z, hz⟩ : ∃ z : Int, z = (b : Int) % 9 := ⟨_, rfl⟩
        have ez : (b : Int) % 9 = z := hz.symm
        have HZ := Lib.hid hz
        clear hz
        go_wp2_with fail
        refine Calls.mono (sort_any z _) ?_
        rintro e w3 ⟨qv, rfl, kk, tt⟩
        have HS2 : Hid (Kp [] w w3 ∧ TA w3 (tel b (bK k)) p2 ∧ TmAt w3 (srt b) qv) := ⟨HS.out.1.trans kk, HS.out.2.kp kk, by unfold srt; rw [← HZ.out]; exact tt⟩
        clear kk tt HS
        go_wp2_with fail
        refine Calls.mono (pi_any HS2.out.2.2 HS2.out.2.1.at') ?_
        rintro e w4 ⟨qn, rfl, kk, tt⟩
        have HS3 : Hid (Kp [] w w4 ∧ TA w4 (tel (b + 1) (bK k)) qn) := ⟨HS2.out.1.trans kk, ⟨tt⟩⟩
        clear kk tt HS2
        go_wp2_with fail
        go_roundw
        case rel => exact ⟨b + 1, qn, hlt, rfl, by go_num, HS3⟩
        case measure => simp [intOf]; omega
      have l1 : decide ((b : Int) < (j : Int)) = false := by simpa using hlt
      have l1' : decide (b < j) = false := by simpa using hlt
      have T1 : Hid (Kp [] w wr ∧ TA wr (tel j (bK k)) p2) := by
        have : b = j := by omega
        rw [this] at HS
        exact HS
      clear HS
      obtain ⟨w6, hw6⟩ : ∃ w6, w6 = wr := ⟨_, rfl⟩
      rw [← hw6] at T1 ⊢
      clear hw6
      go_wp2_with fail
      clear l1 l1' hlt hb
      have hsz : (tel j (bK k)).sz ≤ 100000 := by rw [tel_sz, bK_sz]; omega
      have HSZ := Lib.hid hsz
      clear hsz
      refine Calls.mono (spis_any HSZ.out (q : Int) q (by omega) T1.out.2.at') ?_
      rintro e w7 ⟨qr, vl, rfl, pl, kk, rr, tt⟩
      have K7 : Hid (Kp [] w w7) := T1.out.1.trans kk
      have T7 : Hid (TA w7 (tel j (bK k)) p2) := T1.out.2.kp kk
      unfold pis at rr tt
      rw [tel_row _ (bK_no k)] at rr tt
      have Rl : Hid (RA w7 vl pl ((List.range (min j q)).map (fun i => srt (j - 1 - i)))) := RA.mk' rr
      have Tr : Hid (TA w7 (tel (j - q) (bK k)) qr) := ⟨tt⟩
      clear kk rr tt T1
      obtain ⟨al, cl, hv, hpl⟩ := Rl.out.form
      rw [List.length_map, List.length_range] at hv hpl
      subst hv
      obtain ⟨r, hr⟩ : ∃ r : Nat, r = min j q := ⟨_, rfl⟩
      rw [← hr] at hpl Rl ⊢
      have hmin : ∀ W, (Builtin.min_ #[3, 3] 3 #[.int .i64 (j : Int), .int .i64 (q : Int)]).run Try.prog W = .ok (.int .i64 (r : Int)) W := fun W => by
        rw [hr]
        by_cases h : (q : Int) < (j : Int)
        · rw [Nat.min_eq_right (by omega)]
          simp [Builtin.min_, Builtin.min2, h]
        · rw [Nat.min_eq_left (by omega)]
          simp [Builtin.min_, Builtin.min2, h]
      have hr9 : r < 30 := by omega
      have HR := Lib.hid (And.intro hr hpl)
      obtain ⟨z, zn, zs, zx, zy, zc, hz, hz4⟩ := tel_kind k (j - q)
      have Tr2 := Tr.out.at'
      rw [hz] at Tr2
      obtain ⟨gr, pa, pb, pc, rfl, _, ND, _, _, _⟩ := Tr2
      obtain ⟨x0, _, _, _, _, _⟩ := ND.cells
      have HZ := Lib.hid hz4
      clear hr hpl hz ND
      dsimp only
      obtain ⟨jb, d1, d1', d2⟩ : ∃ jb : Bool, decide ((q : Int) < (j : Int)) = jb ∧ decide (q < j) = jb ∧ (z == 4) = jb := by
        by_cases h : q < j
        · exact ⟨true, by simpa using h, by simpa using h, by rw [HZ.out.2 (by omega)]; rfl⟩
        · refine ⟨false, by simpa using h, by simpa using h, ?_⟩
          have := HZ.out.1
          simp only [beq_eq_false_iff_ne]
          intro e
          have := this e
          omega
      cases jb <;> go_wp2_with fail
      all_goals
        clear d1 d1' d2 x0
        go_loopw [15] (fun i wr => ∃ (x : Nat), x ≤ r ∧ i = .int .i64 (x : Int) ∧ wr = w7) (fun i _ => r - (intOf i).toNat)
        case atStart => exact ⟨0, Nat.zero_le _, rfl, rfl⟩
        case round =>
          obtain ⟨x, hx, rfl, rfl⟩ := hrel
          by_cases hlt : x < r
          · have l1 : decide ((x : Int) < (r : Int)) = true := by simpa using hlt
            have l1' : decide (x < r) = true := by simpa using hlt
            obtain ⟨g5, c5, q5, t5, e1, e2, _, _, e3, e4⟩ := Rl.out.row.cell x (by rw [HR.out.2]; exact hlt)
            injection e1 with e1 e1b e1c
            clear e1b e1c
            subst e1
            rw [List.getElem?_map, List.getElem?_range hlt] at e3
            obtain rfl : srt (j - 1 - x) = t5 := by simpa using e3
            obtain ⟨g6, pa6, pb6, pc6, rfl, _, ND6, _, _, _⟩ := e4
            obtain ⟨_, y1, _, _, _, _⟩ := ND6.cells
            clear ND6 e3
            obtain ⟨l, hl⟩ : ∃ l : Nat, l = j - 1 - x := ⟨_, rfl⟩
            rw [← hl] at y1
            have hrj : r ≤ j := by rw [HR.out.1]; exact Nat.min_le_left _ _
            have el : (j : Int) - 1 - (x : Int) = (l : Int) := by omega
            clear hl
            go_wp2_with fail
            go_roundw
            case rel => exact ⟨x + 1, hlt, by go_num, trivial⟩
            case measure => simp [intOf]; omega
          · have l1 : decide ((x : Int) < (r : Int)) = false := by simpa using hlt
            have l1' : decide (x < r) = false := by simpa using hlt
            clear hlt
            go_wp2_with fail
            refine Calls.mono (spis_any HSZ.out 100 100 rfl T7.out.at') ?_
            rintro e w8 ⟨qe, ve, rfl, pe, kk, rr, tt⟩
            have K8 := Lib.hid (K7.out.trans kk)
            unfold pis at tt
            rw [tel_row _ (bK_no k), show j - 100 = 0 by omega] at tt
            have T8 : Hid (TA w8 (bK k) qe) := ⟨tt⟩
            clear kk tt rr Rl Tr K7 T7 l1 l1' hx
            go_wp2_with fail
            refine Calls.mono (shead_any (by rw [bK_sz]; omega) T8.out.at') ?_
            rintro e w9 ⟨qh, vh, rfl, ph, kk, rr, tt⟩
            have K9 := Lib.hid (K8.out.trans kk)
            rw [head_bK] at rr tt
            have Rh : Hid (RA w9 vh ph (ups k)) := RA.mk' rr
            obtain ⟨ah, ch, hv, hph⟩ := Rh.out.form
            have hul : (ups k).length = k := by unfold ups; rw [List.length_map, List.length_range]
            rw [hul] at hv hph
            subst hv
            obtain ⟨gh, pa7, pb7, pc7, rfl, _, ND7, _, _, _⟩ := tt
            obtain ⟨_, _, y2, _, _, _⟩ := ND7.cells
            have HPH := Lib.hid hph
            clear kk rr K8 T8 hul hph ND7
            dsimp only
            go_wp2_with fail
            clear y2
            go_loopw [20] (fun i wr => ∃ (x : Nat), x ≤ k ∧ i = .int .i64 (x : Int) ∧ wr = w9) (fun i _ => k - (intOf i).toNat)
            case atStart => exact ⟨0, Nat.zero_le _, rfl, rfl⟩
            case round =>
              obtain ⟨y, hy, rfl, rfl⟩ := hrel
              by_cases hlt : y < k
              · have l1 : decide ((y : Int) < (k : Int)) = true := by simpa using hlt
                have l1' : decide (y < k) = true := by simpa using hlt
                obtain ⟨g5, c5, q5, t5, e1, e2, _, _, e3, e4⟩ := Rh.out.row.cell y (by rw [HPH.out]; exact hlt)
                injection e1 with e1 e1b e1c
                clear e1b e1c
                subst e1
                unfold ups at e3
                rw [List.getElem?_map, List.getElem?_range hlt] at e3
                obtain rfl : vr (y : Int) = t5 := by simpa using e3
                obtain ⟨g6, pa6, pb6, pc6, rfl, _, ND6, _, _, _⟩ := e4
                obtain ⟨_, y1, _, _, _, _⟩ := ND6.cells
                clear ND6 e3
                go_wp2_with fail
                go_roundw
                case rel => exact ⟨y + 1, hlt, by go_num, trivial⟩
                case measure => simp [intOf]; omega
              · have l1 : decide ((y : Int) < (k : Int)) = false := by simpa using hlt
                have l1' : decide (y < k) = false := by simpa using hlt
                clear hlt
                go_wp2_with fail
                go_ret
                exact ⟨rfl, K9.out⟩
end Go.Proofs.Ytcfhhabjiofehaa
