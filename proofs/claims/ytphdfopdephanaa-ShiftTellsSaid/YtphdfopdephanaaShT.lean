/- Contracts of Read, Term, size, Size, Light, Free, of the reference's makers of terms. -/
import Derived.Test.YtphdfopdephanaaShQ
import Derived.Test.YtphdfopdephanaaShM
namespace Go.Proofs.Ytphdfopdephanaa
open Go.RowKit Go.ChangeMaps

/-- A term that was read. -/
structure Read (w : World) (t : Tm) (q : Option Addr) : Prop where
  at' : TmAt w t q
  ok : Ok 100000 t
  sz : t.sz ≤ 3000
  ne : t ≠ .nil
theorem Read.kp {w w2 : World} (K : Kp [] w w2) {t : Tm} {q : Option Addr} (h : Read w t q) : Read w2 t q := ⟨h.at'.kp K, h.ok, h.sz, h.ne⟩
theorem Read.some {w : World} {t : Tm} {q : Option Addr} (h : Read w t q) : ∃ g, q = .some ⟨g, 0, none⟩ := by
  have := h.at'
  have hn := h.ne
  cases t with
  | nil => exact absurd rfl hn
  | node k n s a b c => obtain ⟨g, _, _, _, h1, _⟩ := this; exact ⟨g, h1⟩
def ReadPost (w : World) (e : Ending) (w2 : World) : Prop :=
  ∃ (q : Option Addr) (r : ByteArray) (c : Nat), e = .returned (.tuple #[.pointer q, .string r, .int .i64 (c : Int)]) ∧ Kp [] w w2 ∧ (c = 0 → ∃ t, Read w2 t q)
theorem read_ret {w w2 : World} {a : Act} {q : Option Addr} {r : ByteArray} {c : Nat} (hk : Kp [] w w2) (hc : c = 0 → ∃ t, Read w2 t q) (h2 : a.tmps.getD 2 undef = .pointer q) (h3 : a.tmps.getD 3 undef = .string r) (h4 : a.tmps.getD 4 undef = .int .i64 (c : Int)) (hd : a.defers = []) :
    bodyPost Try.prog Try.f28 (ReadPost w) .ret a w2 := by
  exact bodyPost_ret (v := .tuple #[.pointer q, .string r, .int .i64 (c : Int)]) (by simp [results, Try.results28, go_sem]; simp at h2 h3 h4; exact ⟨h2, h3, h4⟩) hd ⟨q, r, c, rfl, hk, hc⟩
set_option maxHeartbeats 3200000 in
theorem read_any (s : ByteArray) (hs : s.size ≤ 1000000000000000) (w : World) :
    Calls Try.prog 28 #[.string s] w (ReadPost w) := by
  obtain ⟨R, hR⟩ : ∃ R, R = w.heap.size := ⟨_, rfl⟩
  obtain ⟨y, hy⟩ : ∃ y, y = w.alloc (.cells #[.string s, .int .i64 0, .int .i64 0] 58) := ⟨_, rfl⟩
  have k0 : Hid (Kp [] w y) := by rw [hy]; exact (Kp.refl [] w).alloc _
  have hr : RdAt y R s ((0 : Nat) : Int) 0 := by rw [hy, hR]; exact (MapKept.heap_alloc w _).1
  have hw : Hid (w.heap.size ≤ R) := by rw [hR]; exact Nat.le_refl _
  have TC := Lib.hid (term_any 0 (by decide) y R s hr hs)
  have HY := Lib.hid (And.intro hy hR)
  clear hR hy hr hs
  go_enter Try.func28, Try.ntmps28
  go_upto_region 2 with fail
  rw [← HY.out.1, ← HY.out.2]
  go_upto_region 3 with (go_at_call 38; refine Calls.mono TC.out ?_; rintro e w2 ⟨q, r, n2, c, rfl, kk, hr, _, _, _, _, ht⟩)
  have KK : Hid (Kp [] w w2) := k0.out.trans2 kk (fun x hx => .inr (by rw [List.mem_singleton.1 hx]; exact hw.out))
  have HT : Hid (c = 0 → ∃ t, Read w2 t q) := fun h0 => by
    obtain ⟨h1, t, h2, h3, h4, h5⟩ := ht h0
    exact ⟨t, h2.at, h3, by omega, h5⟩
  obtain ⟨x0, x1, x2⟩ := hr.cells
  clear kk hr ht TC HY
  by_cases h0 : c = 0
  · subst h0
    go_wp2_with fail
    go_quiet (fail)
    go_wp2_with fail
    exact read_ret (c := 0) (KK.out.drewN _) (fun h => by obtain ⟨t, h⟩ := HT.out (by first | exact h | trivial); exact ⟨t, h.kp ((Kp.refl [] w2).drewN _)⟩) rfl rfl rfl rfl
  · have d0 : ((c : Int) != 0) = true := by simp; omega
    have d0' : ((c : Int) == 0) = false := by simp; omega
    have H0 := Lib.hid h0
    clear h0
    go_wp2_with fail
    go_quiet (fail)
    go_wp2_with fail
    exact read_ret (c := c) (KK.out.drewN _) (fun h => absurd h H0.out) rfl rfl rfl rfl
def ReadTermPost (w : World) (e : Ending) (w2 : World) : Prop := ∃ q, e = .returned (.pointer q) ∧ Kp [] w w2 ∧ (q = none ∨ ∃ t, Read w2 t q)
set_option maxHeartbeats 3200000 in
theorem hterm_any (s : ByteArray) (hs : s.size ≤ 1000000000000000) (w : World) :
    Calls Try.prog 9 #[.string s] w (ReadTermPost w) := by
  have HR := Lib.hid (read_any s hs w)
  clear hs
  go_enter Try.func9, Try.ntmps9
  go_upto_region 2 with (go_at_call 28; refine Calls.mono HR.out ?_; rintro e w2 ⟨q, r, c, rfl, kk, ht⟩)
  have KK := Lib.hid kk
  have HT := Lib.hid ht
  clear kk ht HR
  by_cases h0 : c = 0
  · subst h0
    cases he : r.toList.isEmpty with
    | true =>
      go_wp2_with fail
      go_ret
      exact ⟨q, rfl, KK.out, .inr (HT.out (by first | rfl | trivial))⟩
    | false =>
      go_wp2_with fail
      go_ret
      exact ⟨none, rfl, KK.out, .inl rfl⟩
  · have d0 : ((c : Int) != 0) = true := by simp; omega
    have d0' : ((c : Int) == 0) = false := by simp; omega
    clear h0
    go_wp2_with fail
    go_ret
    exact ⟨none, rfl, KK.out, .inl rfl⟩
/-- Some number, and nothing has changed. -/
def AnyInt (w : World) (e : Ending) (w2 : World) : Prop := ∃ n, e = .returned (.int .i64 n) ∧ w2 = w
set_option maxHeartbeats 3200000 in
theorem size_any : ∀ (t : Tm) (w : World) (p : Option Addr) (most : Int), TmAt w t p → Calls Try.prog 39 #[.pointer p, .int .i64 most] w (AnyInt w) := by
  intro t
  induction t with
  | nil =>
    intro w p most hp
    obtain rfl : p = none := hp
    go_enter Try.func39, Try.ntmps39
    go_wp2_with fail
    go_ret
    exact ⟨_, rfl, rfl⟩
  | node k n s a b c ia ib ic =>
    intro w p most hp
    obtain ⟨g, pa, pb, pc, rfl, _, N, A, B, C⟩ := hp
    obtain ⟨_, _, _, x3, x4, x5⟩ := N.cells
    have JA := Lib.hid (fun m => ia w pa m A)
    have JB := Lib.hid (fun m => ib w pb m B)
    have JC := Lib.hid (fun m => ic w pc m C)
    clear ia ib ic A B C N
    by_cases h : most ≤ 0
    · have d1 : decide (most ≤ 0) = true := decide_eq_true h
      clear h
      go_enter Try.func39, Try.ntmps39
      go_wp2_with fail
      go_ret
      exact ⟨_, rfl, rfl⟩
    · have d1 : decide (most ≤ 0) = false := decide_eq_false h
      clear h
      go_enter Try.func39, Try.ntmps39
      go_wp2_with (first
        | (go_at_call_of 39 pa; refine Calls.mono (JA.out _) ?_; rintro e w2 ⟨n1, rfl, rfl⟩)
        | (go_at_call_of 39 pb; refine Calls.mono (JB.out _) ?_; rintro e w2 ⟨n2, rfl, rfl⟩)
        | (go_at_call_of 39 pc; refine Calls.mono (JC.out _) ?_; rintro e w2 ⟨n3, rfl, rfl⟩))
      go_ret
      exact ⟨_, rfl, rfl⟩
theorem bigSize_any {t : Tm} {w : World} {p : Option Addr} (h : TmAt w t p) : Calls Try.prog 29 #[.pointer p] w (AnyInt w) := by
  have H := Lib.hid (size_any t w p 3001 h)
  clear h
  go_enter Try.func29, Try.ntmps29
  go_wp2_with (go_at_call 39; refine Calls.mono H.out ?_; rintro e w2 ⟨n1, rfl, rfl⟩)
  go_ret
  exact ⟨_, rfl, rfl⟩
theorem light_any {t x y : Tm} {w : World} {p q r : Option Addr} (h1 : TmAt w t p) (h2 : TmAt w x q) (h3 : TmAt w y r) : Calls Try.prog 10 #[.pointer p, .pointer q, .pointer r] w (AnyBool w) := by
  have H1 := Lib.hid (bigSize_any h1)
  have H2 := Lib.hid (bigSize_any h2)
  have H3 := Lib.hid (bigSize_any h3)
  clear h1 h2 h3
  go_enter Try.func10, Try.ntmps10
  go_wp2_with (go_at_call 29; first
    | (have _h := n2; refine Calls.mono H3.out ?_; rintro e w2 ⟨n3, rfl, rfl⟩)
    | (have _h := n1; refine Calls.mono H2.out ?_; rintro e w2 ⟨n2, rfl, rfl⟩)
    | (refine Calls.mono H1.out ?_; rintro e w2 ⟨n1, rfl, rfl⟩))
  go_ret
  exact ⟨_, rfl, rfl⟩
theorem sort_any (n : Int) (w : World) : Calls Try.prog 25 #[.int .i64 n] w (MkPost (.node 1 n noS .nil .nil .nil) w) := by
  unfold MkPost
  go_enter Try.func25, Try.ntmps25
  go_wp2_with fail
  go_ret
  exact ⟨_, rfl, (Kp.refl [] w).alloc _, TmP.new (P := fun _ => True) trivial rfl rfl rfl⟩
theorem const_any (s : ByteArray) (w : World) : Calls Try.prog 23 #[.string s] w (MkPost (.node 3 0 s .nil .nil .nil) w) := by
  unfold MkPost
  go_enter Try.func23, Try.ntmps23
  go_wp2_with fail
  go_ret
  exact ⟨_, rfl, (Kp.refl [] w).alloc _, TmP.new (P := fun _ => True) trivial rfl rfl rfl⟩
theorem lam_any {a b : Tm} {p q : Option Addr} {w : World} (ha : TmAt w a p) (hb : TmAt w b q) : Calls Try.prog 24 #[.pointer p, .pointer q] w (MkPost (.node 5 0 noS a b .nil) w) := by
  have HA := Lib.hid ha
  have HB := Lib.hid hb
  clear ha hb
  unfold MkPost
  go_enter Try.func24, Try.ntmps24
  go_wp2_with fail
  go_ret
  exact ⟨_, rfl, (Kp.refl [] w).alloc _, TmP.new (P := fun _ => True) trivial HA.out HB.out rfl⟩
theorem app_any {a b : Tm} {p q : Option Addr} {w : World} (ha : TmAt w a p) (hb : TmAt w b q) : Calls Try.prog 26 #[.pointer p, .pointer q] w (MkPost (.node 6 0 noS a b .nil) w) := by
  have HA := Lib.hid ha
  have HB := Lib.hid hb
  clear ha hb
  unfold MkPost
  go_enter Try.func26, Try.ntmps26
  go_wp2_with fail
  go_ret
  exact ⟨_, rfl, (Kp.refl [] w).alloc _, TmP.new (P := fun _ => True) trivial HA.out HB.out rfl⟩
theorem free_le {N : Int} (hN : 0 ≤ N) {t : Tm} (o : Ok N t) : free t ≤ N + 1 := by
  induction o with
  | nil => show (0 : Int) ≤ _; omega
  | var n h0 h1 => show n + 1 ≤ _; omega
  | leaf k n s hk => rw [free_leaf _ _ _ hk]; omega
  | inner k a b c hk hc _ _ _ i1 i2 i3 =>
    have := hB_01 k
    have := hC_01 k
    rw [free_inner _ _ _ _ _ _ (by omega)]
    omega
theorem run_max4 {P : Program} (w : World) (ts : Array TypeId) (t : TypeId) (a b c d : Int) : (Builtin.max_ ts t #[.int .i64 a, .int .i64 b, .int .i64 c, .int .i64 d]).run P w = .ok (.int .i64 (max (max a b) (max c d))) w := by
  have e : ∀ x y : Int, (if y > x then y else x) = max x y := fun x y => by
    rw [Int.max_def]
    split <;> split <;> omega
  simp [Builtin.max_, Builtin.max2, e]
/-- A number, and nothing that was has changed. -/
def IntPost (n : Int) (w : World) (e : Ending) (w2 : World) : Prop := e = .returned (.int .i64 n) ∧ Kp [] w w2
set_option maxHeartbeats 3200000 in
theorem free_node {w : World} {g : Nat} {k n : Int} {s : ByteArray} {pa pb pc : Option Addr} (ND : NdAt w g k n s pa pb pc) (hk : k ≠ 2) (fa fb fc r : Int)
    (ha : ∀ W, Kp [] w W → Calls Try.prog 21 #[.pointer pa] W (IntPost fa W))
    (hb : ∀ W, Kp [] w W → Calls Try.prog 21 #[.pointer pb] W (IntPost fb W))
    (hc : ∀ W, Kp [] w W → Calls Try.prog 21 #[.pointer pc] W (IntPost fc W))
    (b1 : 0 ≤ fb ∧ fb ≤ 2000000000000) (b2 : 0 ≤ fc ∧ fc ≤ 2000000000000) (hr : r = max (max 0 fa) (max (fb - hB k) (fc - 1))) :
    Calls Try.prog 21 #[.pointer (some ⟨g, 0, none⟩)] w (IntPost r w) := by
  obtain ⟨x0, _, _, x3, x4, x5⟩ := ND.cells
  have bb := hB_01 k
  have k2 : (k == 2) = false := by simpa using hk
  have HA := Lib.hid ha
  have HB := Lib.hid hb
  have HC := Lib.hid hc
  have HU1 := Lib.hid (fun W (K : Kp [] w W) => under_one (ND.kp0 K))
  have HU2 := Lib.hid (fun W (K : Kp [] w W) => under_two (ND.kp0 K))
  have S0 : Hid (∀ W, Kp [] w W → W.cell? ⟨g, 3, none⟩ = some (.pointer pa) ∧ W.cell? ⟨g, 4, none⟩ = some (.pointer pb) ∧ W.cell? ⟨g, 5, none⟩ = some (.pointer pc)) :=
    fun W K => have h := (ND.kp0 K).cells; ⟨h.2.2.2.1, h.2.2.2.2.1, h.2.2.2.2.2⟩
  have K0 : Hid (Kp [] w w.drew) := (Kp.refl [] w).drew
  obtain ⟨d1, hd1⟩ : ∃ d, d = fb - hB k := ⟨_, rfl⟩
  obtain ⟨d2, hd2⟩ : ∃ d, d = fc - 1 := ⟨_, rfl⟩
  have e1 : IntKind.i64.wrap (fb - hB k) = d1 := wrap_id hd1.symm (by omega) (by omega)
  have e2 : IntKind.i64.wrap (fc - 1) = d2 := wrap_id hd2.symm (by omega) (by omega)
  rw [← hd1, ← hd2] at hr
  have hmax : ∀ W, (Builtin.max_ #[3, 3, 3, 3] 3 #[.int .i64 0, .int .i64 fa, .int .i64 d1, .int .i64 d2]).run Try.prog W = .ok (.int .i64 r) W := fun W => by rw [run_max4, hr]
  generalize hB k = u1 at *
  clear ND hk ha hb hc b1 b2 hd1 hd2 bb hr
  go_enter Try.func21, Try.ntmps21
  go_wp2_with fail
  go_region_held3 (fun w' => w'.cell? ⟨g, 3, none⟩ = some (.pointer pa) ∧ w'.cell? ⟨g, 4, none⟩ = some (.pointer pb) ∧ w'.cell? ⟨g, 5, none⟩ = some (.pointer pc))
    (first | exact S0.out _ K0.out | exact S0.out _ K1.out | exact S0.out _ K2.out | exact S0.out _ K3.out)
    (first
    | (go_at_call_of 21 pa; refine Calls.mono (HA.out _ K0.out) ?_; rintro e w1 ⟨rfl, k1⟩; have K1 := Lib.hid (K0.out.trans k1); clear k1)
    | (go_at_call_of 21 pb; refine Calls.mono (HB.out _ K1.out) ?_; rintro e w3 ⟨rfl, k2⟩; have K2 := Lib.hid (K1.out.trans k2); clear k2)
    | (go_at_call_of 21 pc; refine Calls.mono (HC.out _ K2.out) ?_; rintro e w4 ⟨rfl, k3⟩; have K3 := Lib.hid (K2.out.trans k3); clear k3)
    | (go_at_call 32; have _h := K3; refine Calls.mono (HU2.out _ K3.out) ?_; rintro e w6 ⟨rfl, rfl⟩)
    | (go_at_call 32; refine Calls.mono (HU1.out _ K2.out) ?_; rintro e w5 ⟨rfl, rfl⟩))
  all_goals
    go_wp2_with fail
    go_ret
    exact ⟨rfl, K3.out⟩
set_option maxHeartbeats 3200000 in
theorem free_any {N : Int} (hN0 : 0 ≤ N) (hN : N ≤ 1000000000000) {t : Tm} (o : Ok N t) : ∀ (w : World) (p : Option Addr), TmAt w t p →
    Calls Try.prog 21 #[.pointer p] w (IntPost (free t) w) := by
  induction o with
  | nil =>
    intro w p hp
    obtain rfl : p = none := hp
    go_enter Try.func21, Try.ntmps21
    go_wp2_with fail
    go_ret
    exact ⟨rfl, Kp.refl _ _⟩
  | var n h0 h1 =>
    intro w p hp
    obtain ⟨g, pa, pb, pc, rfl, _, ND, _, _, _⟩ := hp
    obtain ⟨x0, x1, _, _, _, _⟩ := ND.cells
    have e1 : IntKind.i64.wrap (n + 1) = n + 1 := wrap_id rfl (by omega) (by omega)
    rw [show free (.node 2 n noS .nil .nil .nil) = n + 1 from rfl]
    clear ND h0 h1 hN0 hN
    go_enter Try.func21, Try.ntmps21
    go_wp2_with fail
    go_ret
    exact ⟨rfl, Kp.refl _ _⟩
  | leaf k n s hk =>
    intro w p hp
    obtain ⟨g, pa, pb, pc, rfl, _, ND, A, B, C⟩ := hp
    obtain rfl : pa = none := A
    obtain rfl : pb = none := B
    obtain rfl : pc = none := C
    have h0 : ∀ W, Calls Try.prog 21 #[.pointer none] W (IntPost 0 W) := fun W => by
      go_enter Try.func21, Try.ntmps21
      go_wp2_with fail
      go_ret
      exact ⟨rfl, Kp.refl _ _⟩
    exact free_node ND (by omega) 0 0 0 _ (fun W _ => h0 W) (fun W _ => h0 W) (fun W _ => h0 W) (by omega) (by omega) (by have := hB_01 k; rw [free_leaf _ _ _ hk]; omega)
  | inner k a b c hk hc oa ob oc ia ib ic =>
    intro w p hp
    obtain ⟨g, pa, pb, pc, rfl, _, ND, A, B, C⟩ := hp
    have fa := free_le hN0 oa
    have fb := free_le hN0 ob
    have fc := free_le hN0 oc
    have fb0 := free_pos ob
    have fc0 := free_pos oc
    refine free_node ND (by omega) _ _ _ _ (fun W K => ia _ _ (A.kp0 K)) (fun W K => ib _ _ (B.kp0 K)) (fun W K => ic _ _ (C.kp0 K)) (by omega) (by omega) ?_
    rw [free_inner _ _ _ _ _ _ (by omega)]
    by_cases h7 : k = 7
    · have : hC k = 1 := by subst h7; rfl
      rw [this]
    · have : free c = 0 := by rw [hc h7]; rfl
      have := hC_01 k
      omega
end Go.Proofs.Ytphdfopdephanaa
