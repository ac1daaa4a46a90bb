/- Contract of add, where a node has parts. -/
import Derived.Test.YtphdfopdephanaaShH
namespace Go.Proofs.Ytphdfopdephanaa
open Go.RowKit Go.ChangeMaps

set_option maxHeartbeats 6400000 in
/-- A node with parts is added with its parts made anew. -/
theorem add_node {w : World} {A : Nat} {X : List Nat} {m : Mv} {ta : Option Addr} {tn tc : Nat} {ps : List (Option Addr)} {nd : Int} {M : Option Nat} {O : List Key} (h : Env w A X m ta tn tc ps nd M O)
    {t0 : Tm} {g0 : Nat} (ht0 : TmP w (fun b => b ∉ X) t0 (some ⟨g0, 0, none⟩)) (ar li : Int) (hc : Clr w X O li t0) (har : 0 ≤ ar) (k n : Int) (s : ByteArray) {a b c : Tm} {pa pb pc : Option Addr}
    (ha : TmP w (fun b => b ∉ X) a pa) (hb : TmP w (fun b => b ∉ X) b pb) (hcc : TmP w (fun b => b ∉ X) c pc) (sa : a.sz < t0.sz) (sb : b.sz < t0.sz) (sc : c.sz < t0.sz)
    (ca : CAt m li a) (cb : CAt m li b) (cc : CAt m li c) (la : ar + a.ht ≤ 131072) (lb : ar + 1 + b.ht ≤ 131072) (lc : ar + 1 + c.ht ≤ 131072)
    (hr : res m li ar t0 = .node k n s (res m li ar a) (res m li (ar + hB k) b) (res m li (ar + hC k) c)) (hne : ¬ (pa = none ∧ pb = none ∧ pc = none)) :
    Calls Try.prog 48 #[.pointer (some ⟨A, 0, none⟩), pv (some ⟨g0, 0, none⟩) ar li, nv k n s pa pb pc] w (AtPost w A X m ta tn tc ps M O (res m li ar t0)) := by
  have b1 := hB_01 k
  have b2 := hC_01 k
  unfold CAt pv at ca cb cc
  unfold AtPost pv nv
  obtain ⟨T, hT⟩ : ∃ T, T = w.heap.size := ⟨_, rfl⟩
  obtain ⟨y0, hy0⟩ : ∃ y, y = w.alloc (plO (some ⟨g0, 0, none⟩) ar li) := ⟨_, rfl⟩
  obtain ⟨g, hg⟩ : ∃ g, g = y0.heap.size := ⟨_, rfl⟩
  obtain ⟨y, hy⟩ : ∃ y, y = y0.alloc (ndO k n s pa pb pc) := ⟨_, rfl⟩
  have hgT : g = T + 1 := by rw [hg, hT, hy0]; simp
  have k0 : Kp [] w y := by rw [hy, hy0]; exact ((Kp.refl [] w).alloc _).alloc _
  have hwg : w.heap.size ≤ g := by rw [hgT, hT]; exact Nat.le_succ _
  have hgX : ∀ x, x < w.heap.size → x ∉ X → x ∉ g :: X := fun x hx hn hm => by
    rcases List.mem_cons.1 hm with rfl | hm
    · omega
    · exact hn hm
  have e0 : Env y A (g :: X) m ta tn tc ps nd M O := h.kp k0 (fun _ h => by cases h) (by simp) (fun _ _ => by simp) hgX (fun x hx => by
    rcases List.mem_cons.1 hx with rfl | hx
    · rw [hy, hg]; simp
    · exact k0.lt (h.xs x hx)) (fun _ h => h)
  have N0 : NdAt y g k n s pa pb pc := by rw [hy, hg]; exact NdAt.new y0 k n s pa pb pc
  have P0 : PlAt y T (some ⟨g0, 0, none⟩) ar li := by
    unfold PlAt
    rw [hy, hT, Below.heap_alloc _ _ _ (by rw [hy0]; simp), hy0]
    exact (MapKept.heap_alloc w _).1
  have S0 : St w y A g T (g :: X).tail m ta tn tc ps M O (some ⟨g0, 0, none⟩) ar li k n s pa pb pc nd M := ⟨hwg, k0.mono (fun _ h => by cases h), MapStep.refl _ _, e0, N0, P0⟩
  have S0 : St w y A g T X m ta tn tc ps M O (some ⟨g0, 0, none⟩) ar li k n s pa pb pc nd M := S0
  have hF0 : ∀ x ∈ ([] : List Nat), NoPtr w x ∨ ¬ (x ∉ X) := fun _ h => by cases h
  have t0' := ht0.kp k0 hF0 hgX
  have a0' := ha.kp k0 hF0 hgX
  have b0' := hb.kp k0 hF0 hgX
  have c0' := hcc.kp k0 hF0 hgX
  have h0' : Clr y (g :: X) O li t0 := hc.kp k0 (fun _ h => by cases h) hgX
  obtain ⟨_, _, _, _, _, x5, _⟩ := e0.ans.cells
  have f5 := frozen_of e0.ans 5
  obtain ⟨nd2, hnd⟩ : ∃ nd2, nd2 = IntKind.i64.wrap (nd + 1) := ⟨_, rfl⟩
  have e1 : IntKind.i64.wrap (nd + 1) = nd2 := hnd.symm
  obtain ⟨y2, hy2⟩ : ∃ y2, y2 = y.setCell ⟨A, 5, none⟩ (.int .i64 nd2) := ⟨_, rfl⟩
  have k2 : Kp [A] y y2 := by rw [hy2]; exact (Kp.refl [A] y).setCell (.inl (by simp)) _
  have e2 : Env y2 A (g :: X) m ta tn tc ps nd2 M O := e0.ansChange k2 (by rw [hy2]; exact e0.ans.setNodes nd2)
  have k2' : Kp (A :: M.toList) y y2 := k2.mono (fun x hx => by simp at hx; simp [hx])
  have S2 := S0.call k2' (MapStep.refl _ _) e2
  have t2 := t0'.call e0 k2'
  have a2 := a0'.call e0 k2'
  have bb2 := b0'.call e0 k2'
  have c2 := c0'.call e0 k2'
  have hc2 := h0'.call e0 k2'
  obtain ⟨v, hlook, hv⟩ := e2.look t2 ar li
  obtain ⟨z0, _, _, z3, z4, z5⟩ := S2.node.cells
  obtain ⟨p0, p1, p2⟩ : y2.cell? ⟨T, 0, none⟩ = some (.pointer (some ⟨g0, 0, none⟩)) ∧ y2.cell? ⟨T, 1, none⟩ = some (.int .i64 ar) ∧ y2.cell? ⟨T, 2, none⟩ = some (.int .i64 li) := ⟨cell_of S2.pl 0, cell_of S2.pl 1, cell_of S2.pl 2⟩
  obtain ⟨_, _, _, _, _, _, x6⟩ := e2.ans.cells
  unfold kv at hlook
  have HS2 := Lib.hid S2
  have HT2 := Lib.hid t2
  have HA2 := Lib.hid a2
  have HB2 := Lib.hid bb2
  have HC2 := Lib.hid c2
  have HCl := Lib.hid hc2
  have HV := Lib.hid hv
  have HR := Lib.hid hr
  have HY := Lib.hid (And.intro hy0 (And.intro hT (And.intro hy (And.intro hgT hy2))))
  have HX : Hid (∀ b, b ∉ g :: X → b ∉ X) := fun b hb hm => hb (List.mem_cons_of_mem _ hm)
  have HgX : Hid (g ∉ X) := fun hm => by have := h.xs g hm; omega
  have HCA := Lib.hid ca
  have HCB := Lib.hid cb
  have HCC := Lib.hid cc
  have HSZ := Lib.hid (And.intro sa (And.intro sb sc))
  have HL := Lib.hid (And.intro har (And.intro la (And.intro lb lc)))
  have HB1 := Lib.hid (And.intro b1 b2)
  clear h hT hy0 hg hy hgT k0 hwg e0 N0 hnd hy2 k2 e2 hgX ht0 hc ha hb hcc sa sb sc ca cb cc la lb lc hr b1 b2 S0 P0 hF0 t0' a0' b0' c0' h0' k2' S2 t2 a2 bb2 c2 hc2 hv har
  have hcase : (∃ x, pa = some x) ∨ (pa = none ∧ ∃ x, pb = some x) ∨ (pa = none ∧ pb = none ∧ ∃ x, pc = some x) := by
    cases pa with
    | some x => exact .inl ⟨x, rfl⟩
    | none =>
      cases pb with
      | some x => exact .inr (.inl ⟨rfl, x, rfl⟩)
      | none =>
        cases pc with
        | some x => exact .inr (.inr ⟨rfl, rfl, x, rfl⟩)
        | none => exact absurd ⟨rfl, rfl, rfl⟩ hne
  clear hne
  cases v with
  | some v0 =>
    have HRes : Hid (∀ n, TmP (y2.drewN n) (fun b => b ∉ X) (res m li ar t0) (some v0)) := fun n => by
      rcases HV.out with h | h | h
      · cases h
      · exact (h.mono (fun b _ => HX.out b)).kp0 ((Kp.refl [] y2).drewN n)
      · exfalso
        rcases HCl.out _ h with ⟨h1, h2⟩ | ⟨_, t9, h9, hs⟩
        · exact h2 h1
        · have := h9.one HT2.out
          rw [this] at hs
          exact Nat.lt_irrefl _ hs
    have HEnd : Hid (∀ n, Kp (A :: M.toList) w (y2.drewN n) ∧ Env (y2.drewN n) A X m ta tn tc ps nd2 M O) := fun n => by
      have S3 := HS2.out.kp0 ((Kp.refl [] y2).drewN n)
      refine ⟨S3.kp, ?_⟩
      exact S3.env.kp (Kp.refl [] _) (fun _ h => by cases h) (by simp) (fun _ _ => by simp) (fun b _ => HX.out b) (fun x hx => S3.env.xs x (List.mem_cons_of_mem _ hx)) (fun _ h => h)
    clear HS2 HT2 HA2 HB2 HC2 HCl HV HR HX HgX HCA HCB HCC HSZ HL HB1
    rcases hcase with ⟨xa, rfl⟩ | ⟨rfl, xa, rfl⟩ | ⟨rfl, rfl, xa, rfl⟩
    all_goals
      go_enter Try.func48, Try.ntmps48
      go_upto_region 1 with fail
      have hy0 := HY.out.1
      have hy := HY.out.2.2.1
      unfold plO at hy0
      unfold ndO at hy
      rw [← hy0, ← hy, ← HY.out.2.1, ← HY.out.2.2.2.1]
      clear hy hy0
      go_upto_region 2 with fail
      rw [← HY.out.2.2.2.2]
      clear x5 f5
      go_wp2_with fail
      go_quiet (fail)
      go_wp2_with fail
      go_ret
      exact ⟨_, M, nd2, rfl, (HEnd.out _).1, MapStep.refl _ _, (HEnd.out _).2, HRes.out _⟩
  | none =>
    have HK : Hid (∀ i, Calls Try.prog 52 #[.pointer (some ⟨A, 0, none⟩), .agg #[.pointer (some ⟨g0, 0, none⟩), .int .i64 ar, .int .i64 li], .pointer (some ⟨g, 0, none⟩)] (y2.drewN i) (KeepPost (y2.drewN i) A (g :: X) m ta tn tc ps nd2 M ((g0, ar, li, some ⟨g, 0, none⟩) :: O))) := fun i =>
      keep_any ((HS2.out.kp0 ((Kp.refl [] y2).drewN i)).env) (HT2.out.kp0 ((Kp.refl [] y2).drewN i)) ar li (some ⟨g, 0, none⟩)
    clear HV
    rcases hcase with ⟨xa, hpa⟩ | ⟨hpa, xa, hpb⟩ | ⟨hpa, hpb, xa, hpc⟩
    all_goals
      first | subst hpa | skip
      first | subst hpb | skip
      first | subst hpc | skip
      go_enter Try.func48, Try.ntmps48
      go_upto_region 1 with fail
      have hy0 := HY.out.1
      have hy := HY.out.2.2.1
      unfold plO at hy0
      unfold ndO at hy
      rw [← hy0, ← hy, ← HY.out.2.1, ← HY.out.2.2.2.1]
      clear hy hy0
      go_upto_region 2 with fail
      rw [← HY.out.2.2.2.2]
      clear x5 f5
      go_wp2_with fail
      go_quiet (fail)
      go_upto_region 9 with (go_at_call 52; refine Calls.mono (HK.out _) ?_; rintro e w4 ⟨M4, rfl, kk, ss, ee⟩)
      have S3 := HS2.out.kp0 ((Kp.refl [] y2).drewN nq)
      have d3 := (Kp.refl [] y2).drewN nq
      have S4 := S3.call kk ss ee
      have t4 := (HT2.out.kp0 d3).call S3.env kk
      have a4 := (HA2.out.kp0 d3).call S3.env kk
      have b4 := (HB2.out.kp0 d3).call S3.env kk
      have c4 := (HC2.out.kp0 d3).call S3.env kk
      have h4 : Clr w4 (g :: X) O li t0 := (HCl.out.kp d3 (fun _ h => by cases h) (fun _ _ h => h)).call S3.env kk
      clear z0 z3 z4 z5 p0 p1 p2 x6 hlook
      obtain ⟨z0, _, _, _, _, _⟩ := S4.node.cells
      obtain ⟨p0, p1, p2⟩ : w4.cell? ⟨T, 0, none⟩ = some (.pointer (some ⟨g0, 0, none⟩)) ∧ w4.cell? ⟨T, 1, none⟩ = some (.int .i64 ar) ∧ w4.cell? ⟨T, 2, none⟩ = some (.int .i64 li) := ⟨cell_of S4.pl 0, cell_of S4.pl 1, cell_of S4.pl 2⟩
      have HS4 := Lib.hid S4
      have HT4 := Lib.hid t4
      have HA4 := Lib.hid a4
      have HB4 := Lib.hid b4
      have HC4 := Lib.hid c4
      have HCl4 := Lib.hid h4
      clear HK HS2 HT2 HA2 HB2 HC2 HCl S3 d3 S4 t4 a4 b4 c4 h4 kk ss ee
      go_upto_region 10 with (go_at_call 53; refine Calls.mono (within_any k ar _ li HL.out.1 (by have := HL.out.2.1; omega) w4) ?_; rintro e w5 ⟨rfl, kk⟩)
      have S5 := HS4.out.kp0 kk
      have t5 := HT4.out.kp0 kk
      have a5 := HA4.out.kp0 kk
      have b5 := HB4.out.kp0 kk
      have c5 := HC4.out.kp0 kk
      have h5 : Clr w5 (g :: X) O li t0 := HCl4.out.kp kk (fun _ h => by cases h) (fun _ _ h => h)
      clear z0 p0 p1 p2 HS4 HT4 HA4 HB4 HC4 HCl4 kk
      obtain ⟨_, _, _, z3, _, _⟩ := S5.node.cells
      obtain ⟨p1, p2⟩ : w5.cell? ⟨T, 1, none⟩ = some (.int .i64 ar) ∧ w5.cell? ⟨T, 2, none⟩ = some (.int .i64 li) := ⟨cell_of S5.pl 1, cell_of S5.pl 2⟩
      have HK5 : Hid _ := HCA.out w5 A (g :: X) ta tn tc ps _ M4 _ ar _ S5.env (Clr.part h5 t5 HSZ.out.1) HL.out.1 HL.out.2.1 a5
      have HS5 := Lib.hid S5
      have HT5 := Lib.hid t5
      have HB5 := Lib.hid b5
      have HC5 := Lib.hid c5
      have HCl5 := Lib.hid h5
      clear S5 t5 a5 b5 c5 h5
      go_upto_region 11 with (go_at_call 40; refine Calls.mono HK5.out ?_; rintro e w6 ⟨q1, M6, nd6, rfl, kk, ss, ee, tt⟩; have S6 := Lib.hid (HS5.out.call kk ss ee); have T6 := Lib.hid (HT5.out.call HS5.out.env kk); have B6 := Lib.hid (HB5.out.call HS5.out.env kk); have C6 := Lib.hid (HC5.out.call HS5.out.env kk); have H6 := Lib.hid (HCl5.out.call HS5.out.env kk); have R6 := Lib.hid tt; clear kk ss ee tt; have g3 := S6.out.node.cells.2.2.2.1; have f3 := frozen_of S6.out.node 3)
      obtain ⟨w7, hw7⟩ : ∃ w7, w7 = w6.setCell ⟨g, 3, none⟩ (.pointer q1) := ⟨_, rfl⟩
      rw [← hw7]
      have S7 := S6.out.store 3 (.pointer q1) (S6.out.node.set3 q1)
      have t7 := T6.out.store (i := 3) (v := .pointer q1)
      have b7 := B6.out.store (i := 3) (v := .pointer q1)
      have c7 := C6.out.store (i := 3) (v := .pointer q1)
      have r7 := R6.out.store (i := 3) (v := .pointer q1)
      have h7 := H6.out.store (i := 3) (v := .pointer q1)
      rw [← hw7] at S7 t7 b7 c7 r7 h7
      clear z3 p1 p2 HK5 HS5 HT5 HB5 HC5 HCl5 S6 T6 B6 C6 H6 R6 g3 f3 hw7
      obtain ⟨_, _, _, _, z4, _⟩ := S7.node.cells
      have p2 : w7.cell? ⟨T, 2, none⟩ = some (.int .i64 li) := cell_of S7.pl 2
      have HK7 : Hid _ := HCB.out w7 A (g :: X) ta tn tc ps _ M6 _ (ar + hB k) _ S7.env (Clr.part h7 t7 HSZ.out.2.1) (by have := HL.out.1; have := HB1.out.1; omega) (by have := HL.out.2.2.1; have := HB1.out.1; omega) b7
      have HS7 := Lib.hid S7
      have HT7 := Lib.hid t7
      have HC7 := Lib.hid c7
      have HR7 := Lib.hid r7
      have HCl7 := Lib.hid h7
      clear S7 t7 b7 c7 r7 h7
      go_upto_region 12 with (go_at_call 40; refine Calls.mono HK7.out ?_; rintro e w8 ⟨q2, M8, nd8, rfl, kk, ss, ee, tt⟩; have S8 := Lib.hid (HS7.out.call kk ss ee); have T8 := Lib.hid (HT7.out.call HS7.out.env kk); have C8 := Lib.hid (HC7.out.call HS7.out.env kk); have H8 := Lib.hid (HCl7.out.call HS7.out.env kk); have R8 := Lib.hid (HR7.out.call HS7.out.env kk); have U8 := Lib.hid tt; clear kk ss ee tt; have g4 := S8.out.node.cells.2.2.2.2.1; have f4 := frozen_of S8.out.node 4)
      obtain ⟨w9, hw9⟩ : ∃ w9, w9 = w8.setCell ⟨g, 4, none⟩ (.pointer q2) := ⟨_, rfl⟩
      rw [← hw9]
      have S9 := S8.out.store 4 (.pointer q2) (S8.out.node.set4 q2)
      have t9 := T8.out.store (i := 4) (v := .pointer q2)
      have c9 := C8.out.store (i := 4) (v := .pointer q2)
      have r9 := R8.out.store (i := 4) (v := .pointer q2)
      have u9 := U8.out.store (i := 4) (v := .pointer q2)
      have h9 := H8.out.store (i := 4) (v := .pointer q2)
      rw [← hw9] at S9 t9 c9 r9 u9 h9
      clear z4 p2 HK7 HS7 HT7 HC7 HR7 HCl7 S8 T8 C8 H8 R8 U8 g4 f4 hw9
      obtain ⟨_, _, _, _, _, z5⟩ := S9.node.cells
      have p2 : w9.cell? ⟨T, 2, none⟩ = some (.int .i64 li) := cell_of S9.pl 2
      have HK9 : Hid _ := HCC.out w9 A (g :: X) ta tn tc ps _ M8 _ (ar + hC k) _ S9.env (Clr.part h9 t9 HSZ.out.2.2) (by have := HL.out.1; have := HB1.out.2; omega) (by have := HL.out.2.2.2; have := HB1.out.2; omega) c9
      have HS9 := Lib.hid S9
      have HT9 := Lib.hid t9
      have HR9 := Lib.hid r9
      have HU9 := Lib.hid u9
      clear S9 t9 c9 r9 u9 h9
      go_wp2_with (go_at_call 40; refine Calls.mono HK9.out ?_; rintro e wa ⟨q3, Ma, nda, rfl, kk, ss, ee, tt⟩; have SA := Lib.hid (HS9.out.call kk ss ee); have TA := Lib.hid (HT9.out.call HS9.out.env kk); have RA := Lib.hid (HR9.out.call HS9.out.env kk); have UA := Lib.hid (HU9.out.call HS9.out.env kk); have VA := Lib.hid tt; clear kk ss ee tt; have g5 := SA.out.node.cells.2.2.2.2.2; have f5 := frozen_of SA.out.node 5)
      go_ret
      have SB := SA.out.store 5 (.pointer q3) (SA.out.node.set5 q3)
      have tb := TA.out.store (i := 5) (v := .pointer q3)
      have rb := RA.out.store (i := 5) (v := .pointer q3)
      have ub := UA.out.store (i := 5) (v := .pointer q3)
      have vb := VA.out.store (i := 5) (v := .pointer q3)
      have hres : TmP (wa.setCell ⟨g, 5, none⟩ (.pointer q3)) (fun b => b ∉ X) (res m li ar t0) (some ⟨g, 0, none⟩) := by
        rw [HR.out]
        exact ⟨g, q1, q2, q3, rfl, HgX.out, SB.node, rb.mono (fun b _ => HX.out b), ub.mono (fun b _ => HX.out b), vb.mono (fun b _ => HX.out b)⟩
      exact ⟨_, Ma, nda, rfl, SB.kp, SB.step, SB.env.close tb hres, hres⟩
end Go.Proofs.Ytphdfopdephanaa
