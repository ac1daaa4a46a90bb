/- Contracts of the reference's Head, Pis, Apply, Pi, Lam, Vars. -/
import Derived.Test.YtcfhhabjiofehaaSpX
namespace Go.Proofs.Ytcfhhabjiofehaa
open Go.RowKit

/-- One more term appended to a row, what was there before unchanged. -/
theorem Row.grow {w w3 : World} {B n c : Nat} {a : Option Addr} {v' : Value} {ps : List (Option Addr)} {ts : List Tm} {q : Option Addr} {t : Tm} {tmp : Obj} (h : Row w B (.slice a n c) ps ts) (hl : ps.length = n) (hq : TmAt w t q)
    (hown : w3.ownsRow B 24 1 v' (n + 1) (ps.map Value.pointer ++ [.pointer q])) (hg : (w.alloc tmp).grownBy w3 (Value.slice a n c).ownBlock) : ∃ a2 c2, v' = .slice a2 (n + 1) c2 ∧ (ps ++ [q]).length = n + 1 ∧ Row w3 B (.slice a2 (n + 1) c2) (ps ++ [q]) (ts ++ [t]) ∧ (∀ w0, Kp [] w0 w → w0.heap.size ≤ B → Kp [] w0 w3) := by
  subst hl
  obtain ⟨r1, r2⟩ := h.push hq hown hg
  obtain ⟨a2, c2, h2⟩ := r1.slice
  have hl2 : (ps ++ [q]).length = ps.length + 1 := by simp
  rw [hl2] at h2
  subst h2
  exact ⟨a2, c2, rfl, hl2, r1, fun w0 K hB => K.trans2 r2 (fun g hg => .inr (Nat.le_trans hB (h.own_ge g hg).1))⟩
/-- Where a loop of the reference that takes a nest apart stands. -/
structure NestSt (w wr : World) (k : Int) (m : Nat) (t : Tm) (i : Nat) (a : Option Addr) (c : Nat) (q : Option Addr) : Prop where
  kp : Kp [] w wr
  ex : ∃ u ps L, Row wr w.heap.size (.slice a i c) ps L ∧ ps.length = i ∧ TmAt wr u q ∧ Okn u ∧ i + u.sz ≤ t.sz ∧ i ≤ m ∧ row k m t = (L ++ (row k (m - i) u).1, (row k (m - i) u).2)
theorem NestSt.start {w : World} (k : Int) (m : Nat) {t : Tm} {p : Option Addr} (hp : TmAt w t p) (ho : Okn t) : NestSt w w k m t 0 none 0 p := ⟨Kp.refl _ _, t, [], [], Row.nil _ _, rfl, hp, ho, by omega, Nat.zero_le _, by simp⟩
theorem NestSt.done {w wr : World} {k : Int} {m : Nat} {t : Tm} {i c g : Nat} {a : Option Addr} (h : NestSt w wr k m t i a c (some ⟨g, 0, none⟩)) (he : i = m ∨ ∃ k2 n s pa pb pc, NdAt wr g k2 n s pa pb pc ∧ k2 ≠ k) : ∃ ps, ps.length = i ∧ Row wr w.heap.size (.slice a i c) ps (row k m t).1 ∧ TmAt wr (row k m t).2 (some ⟨g, 0, none⟩) := by
  obtain ⟨K, u, ps, L, h1, h2, h3, _, h4, h5, h6⟩ := h
  have e : row k (m - i) u = ([], u) := by
    rcases he with rfl | ⟨k2, n, s, pa, pb, pc, hn, hk⟩
    · rw [Nat.sub_self]; rfl
    · cases u with
      | nil => cases h3
      | node k3 n3 s3 a b c =>
        obtain ⟨g3, _, _, _, h7, _, h8, _⟩ := h3
        injection h7 with h7
        injection h7 with h7
        subst h7
        unfold NdAt at hn h8
        rw [hn] at h8
        injection h8 with h8
        injection h8 with h8
        simp only [Array.mk.injEq, List.cons.injEq, Value.int.injEq, true_and] at h8
        rw [← h8.1]
        exact row_other hk _ _ _ _ _ _
  rw [e, List.append_nil] at h6
  exact ⟨ps, h2, by rw [h6]; exact h1, by rw [h6]; exact h3⟩
set_option maxHeartbeats 6400000 in
theorem rhead_any {t : Tm} (ho : Okn t) (hsz : t.sz ≤ 100000) {w : World} {p : Option Addr} (hp : TmAt w t p) : Calls Try.prog 10 #[.pointer p] w (HeadPost w t) := by
  obtain ⟨i0, hi0, hz0, hz1, hz2⟩ := info_parts ptrInfo
  have Hi := Lib.hid hi0
  have M0 := Lib.hid (NestSt.start 6 t.sz hp ho)
  obtain ⟨m, hm⟩ : ∃ m, m = t.sz := ⟨_, rfl⟩
  unfold HeadPost PartsPost head
  rw [← hm] at M0 hsz ⊢
  have HM := Lib.hid hm
  clear hi0 hp hm ho
  go_enter Try.func10, Try.ntmps10
  go_wp2_with fail
  go_loopw [4, 0] (fun v q wr => ∃ (i : Nat) (a : Option Addr) (c : Nat) (x : Option Addr), v = .slice a i c ∧ q = .pointer x ∧ Hid (NestSt w wr 6 m t i a c x)) (fun v _ _ => 200000 - lenV v)
  case atStart => exact ⟨0, none, 0, p, rfl, rfl, M0⟩
  case round =>
    clear M0
    obtain ⟨i, a, c, x, rfl, rfl, HR⟩ := hrel
    obtain ⟨u, ps, L, h1, h2, h3, h4, h5, h6, h7⟩ := HR.out.ex
    cases u with
    | nil => exact absurd rfl h4.2
    | node k2 n s ta tb tc =>
      have him : i < m := by have := HM.out; simp only [Tm.sz] at h5; omega
      obtain ⟨g, pa, pb, pc, rfl, _, ND, hA, hB, _⟩ := h3
      obtain ⟨x0, _, _, x3, x4, _⟩ := ND.cells
      by_cases hk : k2 = 6
      · subst hk
        have ho2 := (row_ok 6 (.inr rfl) 1 _ h4)
        rw [row_step] at ho2
        have HN : Hid (Kp [] w wr ∧ Row wr w.heap.size (.slice a i c) ps L ∧ ps.length = i ∧ TmAt wr tb pb ∧ TmAt wr ta pa ∧ Okn ta ∧ i + 1 + ta.sz ≤ t.sz ∧ row 6 m t = ((L ++ [tb]) ++ (row 6 (m - (i + 1)) ta).1, (row 6 (m - (i + 1)) ta).2)) := by
          refine ⟨HR.out.kp, h1, h2, hB, hA, ho2.2, ?_, ?_⟩
          · simp only [Tm.sz] at h5
            omega
          · have e : m - i = (m - (i + 1)) + 1 := by omega
            rw [h7, e, row_step]
            simp [part, rest]
        have hown : wr.ownsRow w.heap.size 24 1 (.slice a i c) i (ps.map Value.pointer) := by
          have := h1.own
          rw [h2] at this
          exact this
        have hws : w.heap.size ≤ wr.heap.size := HR.out.kp.size
        have hw4 : ∀ o, (wr.alloc o).cell? ⟨g, 3, none⟩ = some (.pointer pa) := fun o => ((Kp.refl [] wr).alloc o).cell0 ND.lt |>.trans x3
        have HND := Lib.hid ND
        clear h1 h2 h4 h5 h6 h7 HR hA hB ND ho2
        go_wp2_with (at_builtin; refine wpList_append_own _ rfl _ _ 26 rfl w.heap.size 24 i0 (.pointer none) 1 8 Try.underlying26 Hi.out hz0 hz1 hz2 rfl (by decide) _ i (ps.map Value.pointer) rfl (hown.alloc _) ⟨wr.heap.size, 0, none⟩ 1 1 [.pointer pb] rfl rfl ?c1 ?c2 ?c3 ?c4 ?c5 ?_)
        case c1 =>
          intro j u hj
          match j, hj with
          | 0, hj => simp at hj; subst hj; simp [Addr.add]
        case c2 => intro u hu; simp at hu; subst hu; rfl
        case c3 => unfold maxLen; omega
        case c4 => omega
        case c5 => simp; omega
        intro v' w3 hown' hgrow _
        obtain ⟨n1, n2, n3, n4, n5, n6, n7, n8⟩ := HN.out
        have n5' : TmAt w3 ta pa := n5.row (((Kp.refl _ wr).alloc _).grown hgrow (fun g hg => .inl (by rw [hg]; simp))) (fun g hg => (n2.own_ge g hg).2)
        have z3 : w3.cell? ⟨g, 3, none⟩ = some (.pointer pa) := by
          have K : Kp (Value.slice a i c).ownBlock.toList wr w3 := ((Kp.refl _ wr).alloc _).grown hgrow (fun g hg => .inl (by rw [hg]; simp))
          exact (K.cell (p := ⟨g, 3, none⟩) HND.out.lt (fun hm => (n2.own_ge g hm).2 _ _ _ _ _ _ HND.out)).trans x3
        obtain ⟨a2, c2, rfl, r1, r2, r3⟩ := n2.grow n3 n4 hown' hgrow
        have HA : Hid (NestSt w w3 6 m t (i + 1) a2 c2 pa) := ⟨r3 w n1 (Nat.le_refl _), ta, _, _, r2, r1, n5', n6, n7, him, n8⟩
        clear hown' hgrow hown n1 n2 n3 n4 n5 n5' n6 n7 n8 r1 r2 r3 HN x0 x3 x4 hw4
        go_wp2_with fail
        go_roundw
        case rel => exact ⟨i + 1, a2, c2, pa, rfl, rfl, HA⟩
        case measure => simp [lenV]; omega
      · have k1 : (k2 == 6) = false := by simpa using hk
        obtain ⟨ps9, q1, q2, q3⟩ := HR.out.done (.inr ⟨k2, n, s, pa, pb, pc, ND, hk⟩)
        have HB : Hid (Kp [] w wr ∧ ps9.length = i ∧ Row wr w.heap.size (.slice a i c) ps9 (row 6 m t).1 ∧ TmAt wr (row 6 m t).2 (some ⟨g, 0, none⟩)) := ⟨HR.out.kp, q1, q2, q3⟩
        have hi9 : i ≤ 100000 := by omega
        clear h1 h2 h4 h5 h6 h7 HR hA hB ND hk q1 q2 q3 x3 x4
        go_wp2_with fail
        obtain ⟨w1, hw1⟩ : ∃ w1, w1 = wr := ⟨_, rfl⟩
        rw [← hw1] at HB ⊢
        clear hw1 x0
        have M1 : Hid (Kp [] w1 w1 ∧ ∃ qs, qs.length = 0 ∧ Row w1 w1.heap.size (.slice none 0 0) qs ((row 6 m t).1.reverse.take 0)) := ⟨Kp.refl _ _, [], rfl, by simpa using Row.nil _ _⟩
        go_loopw [5, 6] (fun v y wq => ∃ (j : Nat) (a2 : Option Addr) (c2 : Nat), j ≤ i ∧ v = .slice a2 j c2 ∧ y = .int .i64 ((i : Int) - 1 - (j : Int)) ∧ Hid (Kp [] w1 wq ∧ ∃ qs, qs.length = j ∧ Row wq w1.heap.size (.slice a2 j c2) qs ((row 6 m t).1.reverse.take j))) (fun _ y _ => (intOf y + 1).toNat)
        case atStart => exact ⟨0, none, 0, Nat.zero_le _, rfl, by go_num, M1⟩
        case round =>
          clear M1
          obtain ⟨j, a2, c2, hj, rfl, rfl, HS⟩ := hrel
          by_cases hlt : j < i
          · obtain ⟨l, hl⟩ : ∃ l : Nat, l + 1 + j = i := ⟨i - 1 - j, by omega⟩
            have el : (i : Int) - 1 - (j : Int) = (l : Int) := by omega
            have l1 : decide ((0 : Int) ≤ (l : Int)) = true := by simp
            rw [el]
            obtain ⟨K, qs, b1, b2⟩ := HS.out
            obtain ⟨_, B1, B2, _⟩ := HB.out
            obtain ⟨g5, c5, q5, t5, d1, d2, _, d3, d4, d5⟩ := (B2.kp0 K).cell l (by omega)
            injection d1 with d1 d1b d1c
            clear d1b d1c
            subst d1
            have hli : l < i := by omega
            have htake : (row 6 m t).1.reverse.take (j + 1) = (row 6 m t).1.reverse.take j ++ [t5] := by
              have hlen : (row 6 m t).1.length = i := by rw [B2.len, B1]
              rw [List.take_add_one, List.getElem?_reverse (by omega), show (row 6 m t).1.length - 1 - j = l by omega, d4]
              rfl
            have hown : wr.ownsRow w1.heap.size 24 1 (.slice a2 j c2) j (qs.map Value.pointer) := by
              have := b2.own
              rw [b1] at this
              exact this
            have hws : w1.heap.size ≤ wr.heap.size := K.size
            have HN := Lib.hid (And.intro K (And.intro b1 (And.intro b2 (And.intro d5 htake))))
            clear HS K b1 b2 B1 B2 d3 d4 d5 htake
            go_wp2_with (at_builtin; refine wpList_append_own _ rfl _ _ 26 rfl w1.heap.size 24 i0 (.pointer none) 1 8 Try.underlying26 Hi.out hz0 hz1 hz2 rfl (by decide) _ j (qs.map Value.pointer) rfl (hown.alloc _) ⟨wr.heap.size, 0, none⟩ 1 1 [.pointer q5] rfl rfl ?c1 ?c2 ?c3 ?c4 ?c5 ?_)
            case c1 =>
              intro j u hj
              match j, hj with
              | 0, hj => simp at hj; subst hj; simp [Addr.add]
            case c2 => intro u hu; simp at hu; subst hu; rfl
            case c3 => unfold maxLen; omega
            case c4 => omega
            case c5 => simp; omega
            intro v' w3 hown' hgrow _
            obtain ⟨n1, n2, n3, n4, n5⟩ := HN.out
            obtain ⟨a3, c3, rfl, r1, r2, r3⟩ := n3.grow n2 n4 hown' hgrow
            have HA : Hid (Kp [] w1 w3 ∧ ∃ qs, qs.length = j + 1 ∧ Row w3 w1.heap.size (.slice a3 (j + 1) c3) qs ((row 6 m t).1.reverse.take (j + 1))) := ⟨r3 w1 n1 (Nat.le_refl _), _, r1, by rw [n5]; exact r2⟩
            clear hown' hgrow hown n1 n2 n3 n4 n5 r1 r2 r3 HN d2 l1
            go_wp2_with fail
            go_roundw
            case rel => exact ⟨j + 1, a3, c3, by omega, rfl, by go_num, HA⟩
            case measure => simp [intOf]
          · have ej : (i : Int) - 1 - (j : Int) = -1 := by omega
            have hji : Hid (j = i) := by show j = i; omega
            rw [ej]
            clear hlt
            go_wp2_with fail
            refine bodyPost_ret (v := .tuple #[.pointer (some ⟨g, 0, none⟩), .slice a2 j c2]) (by simp [results, Try.results10, go_sem]) rfl ?_
            obtain ⟨K, qs, b1, b2⟩ := HS.out
            obtain ⟨KB, B1, B2, B3⟩ := HB.out
            rw [List.take_of_length_le (by rw [List.length_reverse, B2.len, B1, hji.out]; exact Nat.le_refl _)] at b2
            exact ⟨_, _, rfl, qs, KB.trans K, b2.mono KB.size, TmAt.kp K B3⟩
end Go.Proofs.Ytcfhhabjiofehaa
