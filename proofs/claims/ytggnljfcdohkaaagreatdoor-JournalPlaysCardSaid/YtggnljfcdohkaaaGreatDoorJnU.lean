/- Contracts of package journal: wrapped. -/
import Derived.Test.YtggnljfcdohkaaaGreatDoorJnS
import Derived.Test.YtggnljfcdohkaaaGreatDoorRowsAt
namespace Go.Proofs.YtggnljfcdohkaaaGreatDoor
open Go.RowKit

theorem wrapS_le (k : Nat) (hk : k < 128 ^ 8) (s : ByteArray) (hs : s.size ≤ 2010) : (wrapS k s).size ≤ s.size + 30 := by
  have h1 : (numS k).size ≤ 8 := by rw [numS_size]; exact numL_len 7 k hk
  have h2 : (numS k ++ s).size = (numS k).size + s.size := ByteArray.size_append
  have h128 : (128 : Nat) ^ 8 = 72057594037927936 := by decide
  have h3 : (numS (numS k ++ s).size).size ≤ 8 := by
    rw [numS_size]
    exact numL_len 7 _ (by rw [h2]; show _ < (128 : Nat) ^ 8; omega)
  have h4 : (wrapS k s).size = (textS (numS k ++ s)).size + 4 := by unfold wrapS; exact ByteArray.size_append
  have h5 : (textS (numS k ++ s)).size = (numS (numS k ++ s).size).size + (numS k ++ s).size := ByteArray.size_append
  omega
/-- Records one behind the other, from such a seq on. -/
def wrapsL (seq : Nat) (sx : Nat → ByteArray) : Nat → List UInt8
  | 0 => []
  | k + 1 => wrapsL seq sx k ++ (wrapS (seq + k) (sx k)).data.toList
def wrapsS (seq : Nat) (sx : Nat → ByteArray) (n : Nat) : ByteArray := ⟨(wrapsL seq sx n).toArray⟩
theorem wrapsS_size (seq : Nat) (sx : Nat → ByteArray) (n : Nat) : (wrapsS seq sx n).size = (wrapsL seq sx n).length := by simp [wrapsS, ByteArray.size]
theorem wrapsL_mono (seq : Nat) (sx : Nat → ByteArray) : ∀ (n k : Nat), k ≤ n → (wrapsL seq sx k).length ≤ (wrapsL seq sx n).length
  | 0, k, h => by obtain rfl : k = 0 := by omega
                  exact Nat.le_refl _
  | n + 1, k, h => by
    rcases Nat.lt_or_ge n k with h1 | h1
    · obtain rfl : k = n + 1 := by omega
      exact Nat.le_refl _
    · refine Nat.le_trans (wrapsL_mono seq sx n k h1) ?_
      show _ ≤ (wrapsL seq sx n ++ _).length
      rw [List.length_append]; omega
theorem wrapsL_le (seq : Nat) (sx : Nat → ByteArray) (n : Nat) (hs : seq + n ≤ 128 ^ 8) (h : ∀ i, i < n → (sx i).size ≤ 2010) : ∀ k, k ≤ n → (wrapsL seq sx k).length ≤ 2040 * k
  | 0, _ => by simp [wrapsL]
  | k + 1, hk => by
    have h1 := wrapsL_le seq sx n hs h k (by omega)
    have h2 := wrapS_le (seq + k) (by omega) (sx k) (h k (by omega))
    have h3 := h k (by omega)
    show (wrapsL seq sx k ++ _).length ≤ _
    have h4 : (wrapS (seq + k) (sx k)).data.toList.length = (wrapS (seq + k) (sx k)).size := by rw [Array.length_toList]; rfl
    rw [List.length_append, h4]
    omega
/-- What is wrong with so many records, where there is room for so many bytes. -/
def Small (sx : Nat → ByteArray) (n : Nat) : Prop := ∀ i, i < n → (sx i).size ≤ 2010
/-- What wrapped answers. -/
def WrPost (seq : Nat) (sx : Nat → ByteArray) (n rm : Nat) (e : Ending) : Prop :=
  (¬ Small sx n ∧ e = .returned (.tuple #[.string ⟨#[]⟩, errNum 13])) ∨ (Small sx n ∧ rm < (wrapsL seq sx n).length ∧ e = .returned (.tuple #[.string ⟨#[]⟩, errNum 14]))
    ∨ (Small sx n ∧ (wrapsL seq sx n).length ≤ rm ∧ e = .returned (.tuple #[.string (wrapsS seq sx n), .nilIface]))
/-- Between two rounds. -/
structure WpMid (seq : Nat) (sx : Nat → ByteArray) (bb : Nat) (w0 w : World) (k : Nat) : Prop where
  kp : Kp [] w0 w
  bd : BdAt w0.heap.size bb (wrapsL seq sx k) w
set_option maxHeartbeats 3200000 in
set_option maxRecDepth 20000 in
theorem wrapped_any (turn place : Nat) (ht : turn ≤ 1000000) (hp : place ≤ 1000000) (rm : Nat) (hrm : rm ≤ 1000000000) (a : Option Addr) (n c : Nat) (hn : n ≤ 100000) (sx : Nat → ByteArray) (w : World) (hR : StrsAt w w.heap.size a n sx) :
    Calls Tryz.prog 70 #[.int .i64 (turn : Int), .int .i64 (place : Int), .int .i64 (rm : Int), .slice a n c] w fun e w2 => WrPost (turn * 1000000 + place) sx n rm e ∧ Kp [] w w2 := by
  have HR := Lib.hid hR
  obtain ⟨seq, hseq⟩ : ∃ seq, seq = turn * 1000000 + place := ⟨_, rfl⟩
  have hseq9 : seq ≤ 2000000000000 := by rw [hseq]; omega
  obtain ⟨tq, htq⟩ : ∃ tq : Nat, tq = turn * 1000000 := ⟨_, rfl⟩
  have e1 : (turn : Int) * 1000000 = (tq : Int) := by omega
  have e2 : (tq : Int) + (place : Int) = (seq : Int) := by omega
  have htq9 : tq ≤ 2000000000000 := by omega
  have K0 : Hid (Kp [] w w) := Kp.refl [] w
  rw [← hseq]
  clear hR hseq htq
  go_enter Tryz.func70, Tryz.ntmps70
  go_wp2_with fail
  go_loopw [17] (fun i wr => ∃ (k : Nat), k ≤ n ∧ i = .int .i64 (k : Int) ∧ Hid (∀ i, i < k → (sx i).size ≤ 2010) ∧ w = wr) (fun i _ => n - (intOf i).toNat)
  case atStart => exact ⟨0, Nat.zero_le _, rfl, (fun i hi => by omega), rfl⟩
  case round =>
    obtain ⟨k, hk, rfl, HS, rfl⟩ := hrel
    by_cases hlt : k < n
    · have l1 : decide ((k : Int) < (n : Int)) = true := by simpa using hlt
      have l1' : decide (k < n) = true := by simpa using hlt
      obtain ⟨g, o, rfl, hg, hc⟩ := HR.out k hlt
      obtain ⟨s, hs⟩ : ∃ s, s = sx k := ⟨_, rfl⟩
      rw [← hs] at hc
      by_cases h2 : 2010 < s.size
      · have d1 : decide ((2010 : Int) < (s.size : Int)) = true := by simp; omega
        have HX : Hid (¬ Small sx n) := fun h => by have := h k hlt; rw [← hs] at this; omega
        clear hs HS
        go_wp2_with fail
        go_ret2
        exact ⟨.inl ⟨HX.out, rfl⟩, Kp.refl _ _⟩
      · have d1 : decide ((2010 : Int) < (s.size : Int)) = false := by simp; omega
        have HX : Hid (∀ i, i < k + 1 → (sx i).size ≤ 2010) := fun i hi => by
          rcases Nat.lt_or_ge i k with h | h
          · exact HS.out i h
          · obtain rfl : i = k := by omega
            rw [← hs]; omega
        clear hs HS
        go_wp2_with fail
        go_roundw
        case rel => exact ⟨k + 1, by omega, by go_num, HX, trivial⟩
        case measure => simp [intOf]; omega
    · have l1 : decide ((k : Int) < (n : Int)) = false := by simpa using hlt
      have l1' : decide (k < n) = false := by simpa using hlt
      obtain rfl : k = n := by omega
      have HSm : Hid (Small sx k) := HS.out
      clear HS hlt
      go_wp2_with fail
      obtain ⟨bb, hbb⟩ : ∃ bb, bb = w.heap.size := ⟨_, rfl⟩
      have M0 : Hid (WpMid seq sx bb w (w.alloc (.cells #[.pointer none, .slice none 0 0] 156)) 0) := ⟨(Kp.refl [] w).alloc _, by rw [hbb]; exact BdAt.new w _ (Nat.le_refl _)⟩
      rw [← hbb]
      clear hbb l1 l1'
      go_loopw [28] (fun i wr => ∃ (j : Nat), j ≤ k ∧ i = .int .i64 (j : Int) ∧ (wrapsL seq sx j).length ≤ rm ∧ Hid (WpMid seq sx bb w wr j)) (fun i _ => k - (intOf i).toNat)
      case atStart => exact ⟨0, Nat.zero_le _, rfl, Nat.zero_le _, M0⟩
      case round =>
        clear M0
        obtain ⟨j, hj, rfl, hl, HM⟩ := hrel
        by_cases hlt : j < k
        · have l1 : decide ((j : Int) < (k : Int)) = true := by simpa using hlt
          have l1' : decide (j < k) = true := by simpa using hlt
          obtain ⟨g, o, rfl, hg, hc0⟩ := HR.out j hlt
          obtain ⟨s, hs⟩ : ∃ s, s = sx j := ⟨_, rfl⟩
          rw [← hs] at hc0
          have hc : wr.cell? ⟨g, o + j, none⟩ = some (.string s) := (HM.out.kp.cell0 hg).trans hc0
          have hsz : s.size ≤ 2010 := by rw [hs]; exact HSm.out j hlt
          obtain ⟨q, hq⟩ : ∃ q : Nat, q = seq + j := ⟨_, rfl⟩
          have e3 : (seq : Int) + (j : Int) = (q : Int) := by omega
          have hq9 : q ≤ 3000000000000 := by omega
          have HW := Lib.hid (wrap_any (q : Int) (by omega) (by omega) s (by omega))
          rw [Int.toNat_natCast] at HW
          have h128 : (128 : Nat) ^ 8 = 72057594037927936 := by decide
          have hwl := wrapS_le q (by omega) s hsz
          have hll := wrapsL_le seq sx k (by omega) HSm.out j (by omega)
          have HN : Hid (wrapsL seq sx (j + 1) = wrapsL seq sx j ++ (wrapS q s).data.toList) := by rw [hq, hs]; rfl
          have HMo := Lib.hid (wrapsL_mono seq sx k (j + 1) (by omega))
          clear hs hq h128 hc0
          obtain ⟨ws, hws⟩ : ∃ ws, ws = wrapS q s := ⟨_, rfl⟩
          rw [← hws] at HW HN hwl
          clear hws
          obtain ⟨L, hL⟩ : ∃ L, L = wrapsL seq sx j := ⟨_, rfl⟩
          have HLe := Lib.hid hL
          rw [← hL] at hl hll HN
          have HM2 : Hid (Kp [] w wr ∧ BdAt w.heap.size bb L wr) := ⟨HM.out.kp, by rw [hL]; exact HM.out.bd⟩
          clear hL HM
          go_wp2_with fail
          refine Calls.mono (HW.out _) ?_
          rintro e x1 ⟨rfl, K1⟩
          have K2 : Hid (Kp [] w x1) := HM2.out.1.trans K1
          have B2 : Hid (BdAt w.heap.size bb L x1) := HM2.out.2.kept K1
          clear HM2 K1
          go_wp2_with fail
          refine Calls.mono (bd_write B2.out ws (by omega) K2.out.size) ?_
          rintro e x2 ⟨rfl, B4, L4⟩
          have M5 : Hid (WpMid seq sx bb w x2 (j + 1)) := ⟨Kp.of_below ((K2.out.below (Nat.le_refl _) (fun x hx => by cases hx)).trans L4) [], by rw [HN.out]; exact B4⟩
          clear B4 L4 B2 K2
          go_wp2_with fail
          refine Calls.mono (bd_len M5.out.bd) ?_
          rintro e x3 ⟨rfl, rfl⟩
          obtain ⟨y, hy⟩ : ∃ y, y = (wrapsL seq sx (j + 1)).length := ⟨_, rfl⟩
          rw [← hy]
          by_cases h2 : rm < y
          · have d1 : decide ((rm : Int) < (y : Int)) = true := by simpa using h2
            have HX : Hid (rm < (wrapsL seq sx k).length) := by rw [hy] at h2; exact Nat.lt_of_lt_of_le h2 HMo.out
            clear hy
            go_wp2_with fail
            go_ret2
            exact ⟨.inr (.inl ⟨HSm.out, HX.out, rfl⟩), M5.out.kp⟩
          · have d1 : decide ((rm : Int) < (y : Int)) = false := by simpa using h2
            have HX : Hid ((wrapsL seq sx (j + 1)).length ≤ rm) := by rw [hy] at h2; exact Nat.le_of_not_lt h2
            clear hy
            go_wp2_with fail
            go_roundw
            case rel => exact ⟨j + 1, by omega, by go_num, HX.out, M5⟩
            case measure => simp [intOf]; omega
        · have l1 : decide ((j : Int) < (k : Int)) = false := by simpa using hlt
          have l1' : decide (j < k) = false := by simpa using hlt
          obtain rfl : j = k := by omega
          have Hl := Lib.hid hl
          clear hl
          go_wp2_with fail
          refine Calls.mono (bd_string HM.out.bd HM.out.kp.size) ?_
          rintro e x1 ⟨rfl, B4, L4⟩
          have K3 : Hid (Kp [] w x1) := Kp.of_below ((HM.out.kp.below (Nat.le_refl _) (fun x hx => by cases hx)).trans L4) []
          clear B4 L4 HM
          go_wp2_with fail
          go_ret2
          exact ⟨.inr (.inr ⟨HSm.out, Hl.out, rfl⟩), K3.out⟩
end Go.Proofs.YtggnljfcdohkaaaGreatDoor
/- Contracts of package journal: unwrapped. -/
namespace Go.Proofs.YtggnljfcdohkaaaGreatDoor
open Go.RowKit

theorem ttS_shrink {s t r : ByteArray} {m : Int} (h : ttS s m = (0, t, r)) : r.size ≤ s.size := by
  unfold ttS at h
  split at h
  · split at h
    · simp at h
    · split at h
      · simp at h
      · simp only [Prod.mk.injEq, true_and] at h
        rw [← h.2]
        simp only [ByteArray.size_extract]
        omega
  · simp at h
theorem opS_shrink {s t r : ByteArray} {q : Int} (h : opS s q = (0, t, r)) : r.size + 4 ≤ s.size := by
  unfold opS at h
  split at h
  · next t' r' hu =>
    split at h
    · split at h
      · simp only [Prod.mk.injEq, true_and] at h
        rw [← h.2]
        unfold unS at hu
        split at hu
        · next t2 r2 ht =>
          have := ttS_shrink ht
          split at hu
          · simp at hu
          · split at hu
            · simp only [Prod.mk.injEq, true_and] at hu
              rw [← hu.2]
              simp only [ByteArray.size_extract]
              omega
            · simp at hu
        · simp at hu
      · simp at h
    · simp at h
  · simp at h
/-- The records at the front of these bytes, the first one at the k-th place; what is behind them. -/
def unL (seq : Nat) (k : Nat) (s : ByteArray) : List ByteArray × ByteArray :=
  match h : opS s ((seq + k : Nat) : Int) with
  | (0, t, r) => let x := unL seq (k + 1) r; (t :: x.1, x.2)
  | (_ + 1, _, _) => ([], s)
termination_by s.size
decreasing_by have := opS_shrink h; omega
theorem unL_yes {seq k : Nat} {s t r : ByteArray} (h : opS s ((seq + k : Nat) : Int) = (0, t, r)) : unL seq k s = (t :: (unL seq (k + 1) r).1, (unL seq (k + 1) r).2) := by
  rw [unL]
  split
  · next t' r' h' =>
    rw [h] at h'
    simp only [Prod.mk.injEq, true_and] at h'
    obtain ⟨rfl, rfl⟩ := h'
    rfl
  · next h' => rw [h] at h'; simp at h'
theorem unL_no {seq k : Nat} {s : ByteArray} (h : (opS s ((seq + k : Nat) : Int)).1 ≠ 0) : unL seq k s = ([], s) := by
  rw [unL]
  split
  · next h' => rw [h'] at h; exact absurd rfl h
  · rfl
theorem unL_size (m : Nat) : ∀ (seq k : Nat) (s : ByteArray), s.size ≤ m → (unL seq k s).2.size + 4 * (unL seq k s).1.length ≤ s.size := by
  induction m with
  | zero =>
    intro seq k s hm
    obtain ⟨⟨c, t, r⟩, h⟩ : ∃ x, opS s ((seq + k : Nat) : Int) = x := ⟨_, rfl⟩
    rcases c with _ | c
    · have h4 := opS_shrink h
      omega
    · rw [unL_no (by rw [h]; simp)]
      simp
  | succ m ih =>
    intro seq k s hm
    obtain ⟨⟨c, t, r⟩, h⟩ : ∃ x, opS s ((seq + k : Nat) : Int) = x := ⟨_, rfl⟩
    rcases c with _ | c
    · have h4 := opS_shrink h
      rw [unL_yes h]
      have := ih seq (k + 1) r (by omega)
      simp only [List.length_cons]
      omega
    · rw [unL_no (by rw [h]; simp)]
      simp
/-- A new []string. -/
def OwnStrs (w : World) (B : Nat) (v : Value) (l : List ByteArray) : Prop := w.ownsRow B 9 1 v l.length (l.map Value.string)
theorem strInfo : (Tryz.prog.info? 9).map (fun i => (i.zero, i.size, i.bytes)) = some (some (.string ⟨#[]⟩), 1, 16) := by kernel_rfl
theorem OwnStrs.form {w : World} {B : Nat} {v : Value} {l : List ByteArray} (h : OwnStrs w B v l) : ∃ a c, v = .slice a l.length c ∧ StrsAt w w.heap.size a l.length (fun i => l.getD i ⟨#[]⟩) ∧ ∀ g, v.ownBlock = some g → B ≤ g ∧ g < w.heap.size := by
  obtain ⟨h1, ⟨rfl, h0⟩ | ⟨g, cap, cur, rfl, hb, hg, h2, h3, h4, h5⟩⟩ := h
  · exact ⟨none, 0, by rw [h0], fun i hi => by omega, fun g hg => by cases hg⟩
  · have hlt : g < w.heap.size := by
      rcases Nat.lt_or_ge g w.heap.size with hlt | hge
      · exact hlt
      · rw [Array.getElem?_eq_none hge] at hg; cases hg
    refine ⟨_, cap, rfl, fun i hi => ⟨g, 0, rfl, hlt, ?_⟩, fun g2 hg2 => ?_⟩
    · have h6 : (l.map Value.string)[i]? = some (.string (l.getD i ⟨#[]⟩)) := by
        rw [List.getElem?_map, List.getElem?_eq_getElem hi]
        simp [List.getD, List.getElem?_eq_getElem hi]
      simp only [World.cell?, hg, Nat.zero_add]
      rw [← h5, List.getElem?_take] at h6
      split at h6
      · rw [← Array.getElem?_toList]; exact h6
      · cases h6
    · obtain rfl : g = g2 := by simpa [Value.ownBlock] using hg2
      exact ⟨hb, hlt⟩
/-- Between two rounds of unwrapped. -/
structure UnMid (seq : Nat) (all : ByteArray) (w0 w : World) (k : Nat) (rest : ByteArray) (v : Value) : Prop where
  kp : Kp [] w0 w
  ex : ∃ l, l.length = k ∧ OwnStrs w w0.heap.size v l ∧ (l ++ (unL seq k rest).1, (unL seq k rest).2) = unL seq 0 all
set_option maxHeartbeats 3200000 in
set_option maxRecDepth 20000 in
theorem unwrapped_any (turn : Nat) (ht : turn ≤ 1000000) (all : ByteArray) (hs : all.size ≤ 1000000) (w : World) (hE : EHas w) :
    Calls Tryz.prog 66 #[.int .i64 (turn : Int), .string all] w fun e w2 => ∃ v, e = .returned (.tuple #[v, .int .i64 ((all.size - (unL (turn * 1000000) 0 all).2.size : Nat) : Int)]) ∧ OwnStrs w2 w.heap.size v (unL (turn * 1000000) 0 all).1 ∧ Kp [] w w2 := by
  obtain ⟨i0, hi0, hz0, hz1, hz2⟩ := info_parts strInfo
  obtain ⟨seq, hseq⟩ : ∃ seq, seq = turn * 1000000 := ⟨_, rfl⟩
  have e1 : (turn : Int) * 1000000 = (seq : Int) := by omega
  have hseq9 : seq ≤ 1000000000000 := by omega
  rw [← hseq]
  have HE := Lib.hid hE
  have Hi := Lib.hid hi0
  have M0 : Hid (UnMid seq all w w 0 all (.slice none 0 0)) := ⟨Kp.refl [] w, [], rfl, ⟨rfl, .inl ⟨rfl, rfl⟩⟩, by simp⟩
  have HS := Lib.hid (unL_size all.size seq 0 all (Nat.le_refl _))
  clear hseq hE hi0
  go_enter Tryz.func66, Tryz.ntmps66
  go_wp2_with fail
  go_loopw [6, 7] (fun v r wr => ∃ (k : Nat) (rest : ByteArray) (a : Option Addr) (c : Nat), v = .slice a k c ∧ r = .string rest ∧ rest.size + 4 * k ≤ all.size ∧ Hid (UnMid seq all w wr k rest (.slice a k c))) (fun _ r _ => Lib.strSize r)
  case atStart => exact ⟨0, all, none, 0, rfl, rfl, by omega, M0⟩
  case round =>
    clear M0
    obtain ⟨k, rest, a, c, rfl, rfl, hk, HM⟩ := hrel
    obtain ⟨q, hq⟩ : ∃ q : Nat, q = seq + k := ⟨_, rfl⟩
    have e3 : (seq : Int) + (k : Int) = (q : Int) := by omega
    have hq9 : q ≤ 3000000000000 := by omega
    have hr9 : rest.size ≤ all.size := by omega
    have HO := Lib.hid (open_any rest (by omega) (q : Int))
    have Hq := Lib.hid hq
    have Hk := Lib.hid hk
    clear hq hk
    go_wp2_with fail
    refine Calls.mono (HO.out _ (HE.out.kept HM.out.kp)) ?_
    rintro e w2 ⟨K, ⟨t, r, ho, rfl⟩ | ⟨cc, v, hc, ho, hv, rfl⟩⟩
    · have h4 := opS_shrink ho
      have HY : Hid (unL seq k rest = (t :: (unL seq (k + 1) r).1, (unL seq (k + 1) r).2)) := unL_yes (by rw [← Hq.out]; exact ho)
      have K2 : Hid (Kp [] w w2) := HM.out.kp.trans K
      have hown : Hid (∃ l : List ByteArray, l.length = k ∧ w2.ownsRow w.heap.size 9 1 (.slice a k c) k (l.map Value.string) ∧ (l ++ (unL seq k rest).1, (unL seq k rest).2) = unL seq 0 all) := by
        obtain ⟨l, h1, h2, h3⟩ := HM.out.ex
        have := K.owns h2 (fun g hg hm => by cases hm)
        rw [h1] at this
        exact ⟨l, h1, this, h3⟩
      have hk9 : k ≤ 1000000 := by have := Hk.out; omega
      have hrr : r.size + 4 ≤ rest.size := h4
      clear ho K HM h4
      obtain ⟨l, hl1, hl2, hl3⟩ := hown.out
      have Hl := Lib.hid (And.intro hl1 hl3)
      have hsz : w.heap.size ≤ w2.heap.size := K2.out.size
      go_wp2_with (at_builtin; refine wpList_append_own _ rfl _ _ 34 rfl w.heap.size 9 i0 (.string ⟨#[]⟩) 1 16 Tryz.underlying34 Hi.out hz0 hz1 hz2 rfl (by decide) _ k (l.map Value.string) rfl (hl2.alloc _) ⟨w2.heap.size, 0, none⟩ 1 1 [.string t] rfl rfl ?c1 ?c2 ?c3 ?c4 ?c5 ?_)
      case c1 =>
        intro j u hj
        match j, hj with
        | 0, hj => simp at hj; subst hj; simp [Addr.add]
      case c2 => intro u hu; simp at hu; subst hu; rfl
      case c3 => unfold maxLen; omega
      case c4 => omega
      case c5 => simp; omega
      intro v' w3 hown' hgrow _
      have H5 : Hid (UnMid seq all w w3 (k + 1) r v') := by
        refine ⟨(K2.out.alloc _).grown hgrow (fun g hg => ?_), l ++ [t], by simp [Hl.out.1], ?_, ?_⟩
        · rcases hl2.2 with ⟨h, _⟩ | ⟨g2, cap, cur, h, hb, _⟩
          · rw [h] at hg; cases hg
          · rw [h] at hg
            obtain rfl : g2 = g := by simpa [Value.ownBlock] using hg
            exact .inr hb
        · unfold OwnStrs
          rw [List.length_append, Hl.out.1, List.map_append]
          exact hown'
        · rw [← Hl.out.2, HY.out]
          simp
      obtain ⟨a2, c2, rfl⟩ : ∃ a2 c2, v' = .slice a2 (k + 1) c2 := by
        obtain ⟨l2, h1, h2, h3⟩ := H5.out.ex
        obtain ⟨a, c, h4, _, _⟩ := h2.form
        rw [h1] at h4
        exact ⟨a, c, h4⟩
      clear hown' hgrow hl2 hl3 hown HY K2
      go_wp2_with fail
      go_roundw
      case rel => exact ⟨k + 1, r, a2, c2, rfl, rfl, by have := Hk.out; omega, H5⟩
      case measure => simp [Lib.strSize]; omega
    · have HN : Hid (unL seq k rest = ([], rest)) := unL_no (by rw [← Hq.out, ho]; simp only; omega)
      obtain ⟨x, rfl⟩ := hv.iface
      have K2 := Lib.hid (HM.out.kp.trans K)
      have HR : Hid (OwnStrs w2 w.heap.size (.slice a k c) (unL seq 0 all).1 ∧ (unL seq 0 all).2 = rest) := by
        obtain ⟨l, h1, h2, h3⟩ := HM.out.ex
        rw [HN.out] at h3
        rw [← h3]
        refine ⟨?_, rfl⟩
        simp only [List.append_nil]
        exact K.owns h2 (fun g hg hm => by cases hm)
      clear hc ho hv K HM HN
      go_wp2_with fail
      go_ret2
      rw [HR.out.2]
      have e9 : ((all.size - rest.size : Nat) : Int) = (all.size : Int) - (rest.size : Int) := by omega
      rw [e9]
      exact ⟨_, rfl, HR.out.1, K2.out⟩
end Go.Proofs.YtggnljfcdohkaaaGreatDoor
