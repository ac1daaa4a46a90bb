/- Contracts of package journal: unwrapped. -/
import Derived.Test.YtkkjbljhehnmjaaGreatDoorJnP
namespace Go.Proofs.YtkkjbljhehnmjaaGreatDoor
open Go.RowKit

theorem ttS_shrink {s t r : ByteArray} {m : Int} (h : ttS s m = (0, t, r)) : r.size ≤ s.size := by
  unfold ttS at h
  split at h
  · split at h
    · simp at h
    · split at h
      · simp at h
      · simp only [Prod.mk.injEq, true_and] at h
        rw [← h.2]
        simp only [ByteArray.size_extract]
        omega
  · simp at h
theorem opS_shrink {s t r : ByteArray} {q : Int} (h : opS s q = (0, t, r)) : r.size + 4 ≤ s.size := by
  unfold opS at h
  split at h
  · next t' r' hu =>
    split at h
    · split at h
      · simp only [Prod.mk.injEq, true_and] at h
        rw [← h.2]
        unfold unS at hu
        split at hu
        · next t2 r2 ht =>
          have := ttS_shrink ht
          split at hu
          · simp at hu
          · split at hu
            · simp only [Prod.mk.injEq, true_and] at hu
              rw [← hu.2]
              simp only [ByteArray.size_extract]
              omega
            · simp at hu
        · simp at hu
      · simp at h
    · simp at h
  · simp at h
/-- The records at the front of these bytes, the first one at the k-th place; what is behind them. -/
def unL (seq : Nat) (k : Nat) (s : ByteArray) : List ByteArray × ByteArray :=
  match h : opS s ((seq + k : Nat) : Int) with
  | (0, t, r) => let x := unL seq (k + 1) r; (t :: x.1, x.2)
  | (_ + 1, _, _) => ([], s)
termination_by s.size
decreasing_by have := opS_shrink h; omega
theorem unL_yes {seq k : Nat} {s t r : ByteArray} (h : opS s ((seq + k : Nat) : Int) = (0, t, r)) : unL seq k s = (t :: (unL seq (k + 1) r).1, (unL seq (k + 1) r).2) := by
  rw [unL]
  split
  · next t' r' h' =>
    rw [h] at h'
    simp only [Prod.mk.injEq, true_and] at h'
    obtain ⟨rfl, rfl⟩ := h'
    rfl
  · next h' => rw [h] at h'; simp at h'
theorem unL_no {seq k : Nat} {s : ByteArray} (h : (opS s ((seq + k : Nat) : Int)).1 ≠ 0) : unL seq k s = ([], s) := by
  rw [unL]
  split
  · next h' => rw [h'] at h; exact absurd rfl h
  · rfl
theorem unL_size (m : Nat) : ∀ (seq k : Nat) (s : ByteArray), s.size ≤ m → (unL seq k s).2.size + 4 * (unL seq k s).1.length ≤ s.size := by
  induction m with
  | zero =>
    intro seq k s hm
    obtain ⟨⟨c, t, r⟩, h⟩ : ∃ x, opS s ((seq + k : Nat) : Int) = x := ⟨_, rfl⟩
    rcases c with _ | c
    · have h4 := opS_shrink h
      omega
    · rw [unL_no (by rw [h]; simp)]
      simp
  | succ m ih =>
    intro seq k s hm
    obtain ⟨⟨c, t, r⟩, h⟩ : ∃ x, opS s ((seq + k : Nat) : Int) = x := ⟨_, rfl⟩
    rcases c with _ | c
    · have h4 := opS_shrink h
      rw [unL_yes h]
      have := ih seq (k + 1) r (by omega)
      simp only [List.length_cons]
      omega
    · rw [unL_no (by rw [h]; simp)]
      simp
/-- A new []string. -/
def OwnStrs (w : World) (B : Nat) (v : Value) (l : List ByteArray) : Prop := w.ownsRow B 9 1 v l.length (l.map Value.string)
theorem strInfo : (Tryz.prog.info? 9).map (fun i => (i.zero, i.size, i.bytes)) = some (some (.string ⟨#[]⟩), 1, 16) := by kernel_rfl
theorem OwnStrs.form {w : World} {B : Nat} {v : Value} {l : List ByteArray} (h : OwnStrs w B v l) : ∃ a c, v = .slice a l.length c ∧ StrsAt w w.heap.size a l.length (fun i => l.getD i ⟨#[]⟩) ∧ ∀ g, v.ownBlock = some g → B ≤ g ∧ g < w.heap.size := by
  obtain ⟨h1, ⟨rfl, h0⟩ | ⟨g, cap, cur, rfl, hb, hg, h2, h3, h4, h5⟩⟩ := h
  · exact ⟨none, 0, by rw [h0], fun i hi => by omega, fun g hg => by cases hg⟩
  · have hlt : g < w.heap.size := by
      rcases Nat.lt_or_ge g w.heap.size with hlt | hge
      · exact hlt
      · rw [Array.getElem?_eq_none hge] at hg; cases hg
    refine ⟨_, cap, rfl, fun i hi => ⟨g, 0, rfl, hlt, ?_⟩, fun g2 hg2 => ?_⟩
    · have h6 : (l.map Value.string)[i]? = some (.string (l.getD i ⟨#[]⟩)) := by
        rw [List.getElem?_map, List.getElem?_eq_getElem hi]
        simp [List.getD, List.getElem?_eq_getElem hi]
      simp only [World.cell?, hg, Nat.zero_add]
      rw [← h5, List.getElem?_take] at h6
      split at h6
      · rw [← Array.getElem?_toList]; exact h6
      · cases h6
    · obtain rfl : g = g2 := by simpa [Value.ownBlock] using hg2
      exact ⟨hb, hlt⟩
/-- Between two rounds of unwrapped. -/
structure UnMid (seq : Nat) (all : ByteArray) (w0 w : World) (k : Nat) (rest : ByteArray) (v : Value) : Prop where
  kp : Kp [] w0 w
  ex : ∃ l, l.length = k ∧ OwnStrs w w0.heap.size v l ∧ (l ++ (unL seq k rest).1, (unL seq k rest).2) = unL seq 0 all
set_option maxHeartbeats 3200000 in
set_option maxRecDepth 20000 in
theorem unwrapped_any (turn : Nat) (ht : turn ≤ 1000000) (all : ByteArray) (hs : all.size ≤ 1000000) (w : World) (hE : EHas w) :
    Calls Tryz.prog 71 #[.int .i64 (turn : Int), .string all] w fun e w2 => ∃ v, e = .returned (.tuple #[v, .int .i64 ((all.size - (unL (turn * 1000000) 0 all).2.size : Nat) : Int)]) ∧ OwnStrs w2 w.heap.size v (unL (turn * 1000000) 0 all).1 ∧ Kp [] w w2 := by
  obtain ⟨i0, hi0, hz0, hz1, hz2⟩ := info_parts strInfo
  obtain ⟨seq, hseq⟩ : ∃ seq, seq = turn * 1000000 := ⟨_, rfl⟩
  have e1 : (turn : Int) * 1000000 = (seq : Int) := by omega
  have hseq9 : seq ≤ 1000000000000 := by omega
  rw [← hseq]
  have HE := Lib.hid hE
  have Hi := Lib.hid hi0
  have M0 : Hid (UnMid seq all w w 0 all (.slice none 0 0)) := ⟨Kp.refl [] w, [], rfl, ⟨rfl, .inl ⟨rfl, rfl⟩⟩, by simp⟩
  have HS := Lib.hid (unL_size all.size seq 0 all (Nat.le_refl _))
  clear hseq hE hi0
  go_enter Tryz.func71, Tryz.ntmps71
  go_wp2_with fail
  go_loopw [6, 7] (fun v r wr => ∃ (k : Nat) (rest : ByteArray) (a : Option Addr) (c : Nat), v = .slice a k c ∧ r = .string rest ∧ rest.size + 4 * k ≤ all.size ∧ Hid (UnMid seq all w wr k rest (.slice a k c))) (fun _ r _ => Lib.strSize r)
  case atStart => exact ⟨0, all, none, 0, rfl, rfl, by omega, M0⟩
  case round =>
    clear M0
    obtain ⟨k, rest, a, c, rfl, rfl, hk, HM⟩ := hrel
    obtain ⟨q, hq⟩ : ∃ q : Nat, q = seq + k := ⟨_, rfl⟩
    have e3 : (seq : Int) + (k : Int) = (q : Int) := by omega
    have hq9 : q ≤ 3000000000000 := by omega
    have hr9 : rest.size ≤ all.size := by omega
    have HO := Lib.hid (open_any rest (by omega) (q : Int))
    have Hq := Lib.hid hq
    have Hk := Lib.hid hk
    clear hq hk
    go_wp2_with fail
    refine Calls.mono (HO.out _ (HE.out.kept HM.out.kp)) ?_
    rintro e w2 ⟨K, ⟨t, r, ho, rfl⟩ | ⟨cc, v, hc, ho, hv, rfl⟩⟩
    · have h4 := opS_shrink ho
      have HY : Hid (unL seq k rest = (t :: (unL seq (k + 1) r).1, (unL seq (k + 1) r).2)) := unL_yes (by rw [← Hq.out]; exact ho)
      have K2 : Hid (Kp [] w w2) := HM.out.kp.trans K
      have hown : Hid (∃ l : List ByteArray, l.length = k ∧ w2.ownsRow w.heap.size 9 1 (.slice a k c) k (l.map Value.string) ∧ (l ++ (unL seq k rest).1, (unL seq k rest).2) = unL seq 0 all) := by
        obtain ⟨l, h1, h2, h3⟩ := HM.out.ex
        have := K.owns h2 (fun g hg hm => by cases hm)
        rw [h1] at this
        exact ⟨l, h1, this, h3⟩
      have hk9 : k ≤ 1000000 := by have := Hk.out; omega
      have hrr : r.size + 4 ≤ rest.size := h4
      clear ho K HM h4
      obtain ⟨l, hl1, hl2, hl3⟩ := hown.out
      have Hl := Lib.hid (And.intro hl1 hl3)
      have hsz : w.heap.size ≤ w2.heap.size := K2.out.size
      go_wp2_with (at_builtin; refine wpList_append_own _ rfl _ _ 34 rfl w.heap.size 9 i0 (.string ⟨#[]⟩) 1 16 Tryz.underlying34 Hi.out hz0 hz1 hz2 rfl (by decide) _ k (l.map Value.string) rfl (hl2.alloc _) ⟨w2.heap.size, 0, none⟩ 1 1 [.string t] rfl rfl ?c1 ?c2 ?c3 ?c4 ?c5 ?_)
      case c1 =>
        intro j u hj
        match j, hj with
        | 0, hj => simp at hj; subst hj; simp [Addr.add]
      case c2 => intro u hu; simp at hu; subst hu; rfl
      case c3 => unfold maxLen; omega
      case c4 => omega
      case c5 => simp; omega
      intro v' w3 hown' hgrow _
      have H5 : Hid (UnMid seq all w w3 (k + 1) r v') := by
        refine ⟨(K2.out.alloc _).grown hgrow (fun g hg => ?_), l ++ [t], by simp [Hl.out.1], ?_, ?_⟩
        · rcases hl2.2 with ⟨h, _⟩ | ⟨g2, cap, cur, h, hb, _⟩
          · rw [h] at hg; cases hg
          · rw [h] at hg
            obtain rfl : g2 = g := by simpa [Value.ownBlock] using hg
            exact .inr hb
        · unfold OwnStrs
          rw [List.length_append, Hl.out.1, List.map_append]
          exact hown'
        · rw [← Hl.out.2, HY.out]
          simp
      obtain ⟨a2, c2, rfl⟩ : ∃ a2 c2, v' = .slice a2 (k + 1) c2 := by
        obtain ⟨l2, h1, h2, h3⟩ := H5.out.ex
        obtain ⟨a, c, h4, _, _⟩ := h2.form
        rw [h1] at h4
        exact ⟨a, c, h4⟩
      clear hown' hgrow hl2 hl3 hown HY K2
      go_wp2_with fail
      go_roundw
      case rel => exact ⟨k + 1, r, a2, c2, rfl, rfl, by have := Hk.out; omega, H5⟩
      case measure => simp [Lib.strSize]; omega
    · have HN : Hid (unL seq k rest = ([], rest)) := unL_no (by rw [← Hq.out, ho]; simp only; omega)
      obtain ⟨x, rfl⟩ := hv.iface
      have K2 := Lib.hid (HM.out.kp.trans K)
      have HR : Hid (OwnStrs w2 w.heap.size (.slice a k c) (unL seq 0 all).1 ∧ (unL seq 0 all).2 = rest) := by
        obtain ⟨l, h1, h2, h3⟩ := HM.out.ex
        rw [HN.out] at h3
        rw [← h3]
        refine ⟨?_, rfl⟩
        simp only [List.append_nil]
        exact K.owns h2 (fun g hg hm => by cases hm)
      clear hc ho hv K HM HN
      go_wp2_with fail
      go_ret2
      rw [HR.out.2]
      have e9 : ((all.size - rest.size : Nat) : Int) = (all.size : Int) - (rest.size : Int) := by omega
      rw [e9]
      exact ⟨_, rfl, HR.out.1, K2.out⟩
end Go.Proofs.YtkkjbljhehnmjaaGreatDoor
