/- Contract of row of package spine: a nest taken apart. -/
import Derived.Test.YtcfhhabjiofehaaSpL
import Derived.OwnWalk
namespace Go.Proofs.Ytcfhhabjiofehaa
open Go.RowKit Go.ChangeMaps

/-- Where row stands behind i of its rounds. -/
structure RowSt (w wr : World) (k : Int) (m : Nat) (t : Tm) (i : Nat) (v : Value) (q : Option Addr) : Prop where
  kp : Kp [] w wr
  ex : ∃ u ps L, Row wr w.heap.size v ps L ∧ ps.length = i ∧ TmAt wr u q ∧ i + u.sz ≤ t.sz ∧ i ≤ m ∧ row k m t = (L ++ (row k (m - i) u).1, (row k (m - i) u).2)
theorem RowSt.done {w wr : World} {k : Int} {m : Nat} {t : Tm} {i : Nat} {v : Value} {q : Option Addr} (h : RowSt w wr k m t i v q) (he : i = m ∨ q = none ∨ ∃ g k2 n s pa pb pc, q = some ⟨g, 0, none⟩ ∧ NdAt wr g k2 n s pa pb pc ∧ k2 ≠ k) : RowPost w k m t (.returned (.tuple #[v, .pointer q])) wr := by
  obtain ⟨K, u, ps, L, h1, h2, h3, h4, h5, h6⟩ := h
  have e : row k (m - i) u = ([], u) := by
    rcases he with rfl | rfl | ⟨g, k2, n, s, pa, pb, pc, rfl, hn, hk⟩
    · rw [Nat.sub_self]; rfl
    · have : u = .nil := by
        cases u with
        | nil => rfl
        | node _ _ _ _ _ _ => obtain ⟨_, _, _, _, h, _⟩ := h3; cases h
      rw [this]; exact row_nil _ _
    · cases u with
      | nil => cases h3
      | node k3 n3 s3 a b c =>
        obtain ⟨g3, _, _, _, h7, _, h8, _⟩ := h3
        injection h7 with h7
        injection h7 with h7
        subst h7
        unfold NdAt at hn h8
        rw [hn] at h8
        injection h8 with h8
        injection h8 with h8
        simp only [Array.mk.injEq, List.cons.injEq, Value.int.injEq, true_and] at h8
        rw [← h8.1]
        exact row_other hk _ _ _ _ _ _
  rw [e, List.append_nil] at h6
  refine ⟨v, q, ps, rfl, K, ?_, ?_⟩
  · rw [h6]; exact h1
  · rw [h6]; exact h3
set_option maxHeartbeats 6400000 in
theorem row_any (k : Int) (most : Int) (m : Nat) (hm : m = most.toNat) (t : Tm) (ht : t.sz ≤ 100000) (w : World) (p : Option Addr) (hp : TmAt w t p) :
    Calls Try.prog 30 #[.int .i64 k, .pointer p, .int .i64 most] w (RowPost w k m t) := by
  obtain ⟨i0, hi0, hz0, hz1, hz2⟩ := info_parts ptrInfo
  have Hi := Lib.hid hi0
  have M0 : Hid (RowSt w w k m t 0 (.slice none 0 0) p) := ⟨Kp.refl [] w, t, [], [], Row.nil _ _, rfl, hp, by omega, Nat.zero_le _, by simp⟩
  have HM := Lib.hid hm
  have HT := Lib.hid ht
  clear hi0 hp hm ht
  go_enter Try.func30, Try.ntmps30
  go_wp2_with fail
  go_loopw [8, 1, 9] (fun v q mk wr => ∃ (i : Nat) (a : Option Addr) (c : Nat) (x : Option Addr), v = .slice a i c ∧ q = .pointer x ∧ mk = .pointer none ∧ Hid (RowSt w wr k m t i v x)) (fun v _ _ _ => 200000 - lenV v)
  case atStart => exact ⟨0, none, 0, p, rfl, rfl, rfl, M0⟩
  case round =>
    clear M0
    obtain ⟨i, a, c, x, rfl, rfl, rfl, HR⟩ := hrel
    by_cases hlt : (i : Int) < most
    · have l1 : decide ((i : Int) < most) = true := by simpa using hlt
      have him : Hid (i < m) := by have := HM.out; show i < m; omega
      clear hlt
      cases x with
      | none =>
        go_wp2_with fail
        exact bodyPost_ret (v := .tuple #[_, _]) (by simp [results, Try.results30, go_sem]) rfl (HR.out.done (.inr (.inl rfl)))
      | some xg =>
        obtain ⟨u, ps, L, h1, h2, h3, h4, h5, h6⟩ := HR.out.ex
        cases u with
        | nil => cases h3
        | node k2 n s ta tb tc =>
          obtain ⟨g, pa, pb, pc, hg, _, ND, hA, hB, _⟩ := h3
          injection hg with hg
          subst hg
          obtain ⟨x0, _, _, x3, x4, _⟩ := ND.cells
          by_cases hk : k2 = k
          · subst hk
            have k1 : (k2 == k2) = true := by simp
            have hszi : i < 131071 := by have := HT.out; simp only [Tm.sz] at h4; omega
            have MK := Lib.hid (marked_no i (by omega))
            have SD := Lib.hid (sides_any k2 pa pb)
            obtain ⟨qp, hqp⟩ : ∃ qp, qp = (if k2 = 6 then pb else pa) := ⟨_, rfl⟩
            obtain ⟨qr, hqr⟩ : ∃ qr, qr = (if k2 = 6 then pa else pb) := ⟨_, rfl⟩
            rw [← hqp, ← hqr] at SD
            have hP : TmAt wr (part k2 ta tb) qp := by
              rw [hqp]; unfold part
              split
              · exact hB
              · exact hA
            have hQ : TmAt wr (rest k2 ta tb) qr := by
              rw [hqr]; unfold rest
              split
              · exact hA
              · exact hB
            have HN : Hid (∃ u ps L, Row wr w.heap.size (.slice a i c) ps L ∧ ps.length = i ∧ TmAt wr (part k2 ta tb) qp ∧ TmAt wr u qr ∧ i + 1 + u.sz ≤ t.sz ∧ row k2 m t = ((L ++ [part k2 ta tb]) ++ (row k2 (m - (i + 1)) u).1, (row k2 (m - (i + 1)) u).2)) := by
              refine ⟨rest k2 ta tb, ps, L, h1, h2, hP, hQ, ?_, ?_⟩
              · have := sz_part k2 ta tb
                simp only [Tm.sz] at h4
                omega
              · have e : m - i = (m - (i + 1)) + 1 := by have := him.out; omega
                rw [h6, e, row_step]
                simp
            have K0 : Hid (Kp [] w wr) := HR.out.kp
            clear h1 h2 h4 h5 h6 HR hA hB ND hP hQ hqp hqr
            have y3 : wr.drew.cell? ⟨g, 3, none⟩ = some (.pointer pa) := x3
            have y4 : wr.drew.cell? ⟨g, 4, none⟩ = some (.pointer pb) := x4
            go_wp2_with (go_at_call 38; refine Calls.mono (MK.out _) ?_; rintro e w2 ⟨rfl, rfl⟩)
            go_quiet ((go_at_call 39; exact Calls.quiet_of ((SD.out _).mono (fun e w2 ⟨h1, h2⟩ => ⟨h1, 0, h2⟩))))
            obtain ⟨wd, hwd⟩ : ∃ wd, wd = w2.drewN nq := ⟨_, rfl⟩
            have D : Kp [] w2 wd := by rw [hwd]; exact (Kp.refl [] w2).drewN nq
            rw [← hwd]
            have KD : Hid (Kp [] w wd) := K0.out.trans D
            have HND : Hid (∃ u ps L, Row wd w.heap.size (.slice a i c) ps L ∧ ps.length = i ∧ TmAt wd (part k2 ta tb) qp ∧ TmAt wd u qr ∧ i + 1 + u.sz ≤ t.sz ∧ row k2 m t = ((L ++ [part k2 ta tb]) ++ (row k2 (m - (i + 1)) u).1, (row k2 (m - (i + 1)) u).2)) := by
              obtain ⟨u, ps, L, h1, h2, hP, hQ, h4, h6⟩ := HN.out
              exact ⟨u, ps, L, h1.kp0 D, h2, hP.kp0 D, hQ.kp0 D, h4, h6⟩
            have hown : Hid (∃ ps : List (Option Addr), ps.length = i ∧ wd.ownsRow w.heap.size 24 1 (.slice a i c) i (ps.map Value.pointer)) := by
              obtain ⟨u, ps, L, h1, h2, _⟩ := HND.out
              have := h1.own
              rw [h2] at this
              exact ⟨ps, h2, this⟩
            clear HN K0 hwd D x0 x3 x4 y3 y4 MK SD
            obtain ⟨u, ps, L, h1, h2, hP, hQ, h4, h6⟩ := HND.out
            have ho : wd.ownsRow w.heap.size 24 1 (.slice a i c) i (ps.map Value.pointer) := by
              have := h1.own
              rw [h2] at this
              exact this
            have HP := Lib.hid (And.intro h1 (And.intro h2 (And.intro hP (And.intro hQ (And.intro h4 h6)))))
            have hsz : w.heap.size ≤ wd.heap.size := KD.out.size
            clear h1 h2 hP hQ h4 h6 hown HND
            go_wp2_with (at_builtin; refine wpList_append_own _ rfl _ _ 26 rfl w.heap.size 24 i0 (.pointer none) 1 8 Try.underlying26 Hi.out hz0 hz1 hz2 rfl (by decide) _ i (ps.map Value.pointer) rfl (ho.alloc _) ⟨wd.heap.size, 0, none⟩ 1 1 [.pointer qp] rfl rfl ?c1 ?c2 ?c3 ?c4 ?c5 ?_)
            case c1 =>
              intro j u hj
              match j, hj with
              | 0, hj => simp at hj; subst hj; simp [Addr.add]
            case c2 => intro u hu; simp at hu; subst hu; rfl
            case c3 => unfold maxLen; omega
            case c4 => omega
            case c5 => simp; omega
            intro v' w3 hown' hgrow _
            have HA : Hid (∃ ps2 L2, Row w3 w.heap.size v' ps2 L2 ∧ ps2.length = i + 1 ∧ TmAt w3 u qr ∧ i + 1 + u.sz ≤ t.sz ∧ row k2 m t = (L2 ++ (row k2 (m - (i + 1)) u).1, (row k2 (m - (i + 1)) u).2) ∧ Kp [] w w3) := by
              obtain ⟨h1, h2, hP, hQ, h4, h6⟩ := HP.out
              rw [← h2] at hown'
              obtain ⟨r1, r2⟩ := h1.push hP hown' hgrow
              exact ⟨_, _, r1, by simp [h2], hQ.row r2 (fun g hg => (h1.own_ge g hg).2), h4, h6, KD.out.trans2 r2 (fun g hg => .inr (h1.own_ge g hg).1)⟩
            obtain ⟨a2, c2, rfl⟩ : ∃ a2 c2, v' = .slice a2 (i + 1) c2 := by
              obtain ⟨ps2, L2, r1, r2, _⟩ := HA.out
              obtain ⟨a2, c2, h⟩ := r1.slice
              rw [r2] at h
              exact ⟨a2, c2, h⟩
            clear hown' hgrow ho HP
            go_wp2_with fail
            go_roundw
            case rel => exact ⟨i + 1, a2, c2, qr, rfl, rfl, rfl, by
              obtain ⟨ps2, L2, r1, r2, r3, r4, r5, r6⟩ := HA.out
              exact ⟨r6, u, ps2, L2, r1, r2, r3, r4, him.out, r5⟩⟩
            case measure => simp [lenV]; omega
          · have k1 : (k2 == k) = false := by simpa using hk
            have HK := Lib.hid hk
            have HND := Lib.hid ND
            clear h1 h2 h4 h5 h6 hA hB ND hk
            go_wp2_with fail
            exact bodyPost_ret (v := .tuple #[_, _]) (by simp [results, Try.results30, go_sem]) rfl (HR.out.done (.inr (.inr ⟨g, k2, n, s, pa, pb, pc, rfl, HND.out, HK.out⟩)))
    · have l1 : decide ((i : Int) < most) = false := by simpa using hlt
      have him : Hid (i = m) := by
        obtain ⟨_, _, _, _, _, _, _, h5, _⟩ := HR.out.ex
        have := HM.out
        show i = m; omega
      clear hlt
      go_wp2_with fail
      exact bodyPost_ret (v := .tuple #[_, _]) (by simp [results, Try.results30, go_sem]) rfl (HR.out.done (.inl him.out))
end Go.Proofs.Ytcfhhabjiofehaa
