/- Contracts of Read, Term, of the reference's makers of terms. -/
import Derived.Test.YtcfhhabjiofehaaSpQ
namespace Go.Proofs.Ytcfhhabjiofehaa
open Go.RowKit Go.ChangeMaps

/-- A term that was read. -/
structure Read (w : World) (t : Tm) (q : Option Addr) : Prop where
  at' : TmAt w t q
  ok : Okn t
  sz : t.sz ≤ 3000
  ne : t ≠ .nil
theorem Read.kp {w w2 : World} (K : Kp [] w w2) {t : Tm} {q : Option Addr} (h : Read w t q) : Read w2 t q := ⟨h.at'.kp K, h.ok, h.sz, h.ne⟩
theorem Read.some {w : World} {t : Tm} {q : Option Addr} (h : Read w t q) : ∃ g, q = .some ⟨g, 0, none⟩ := by
  have := h.at'
  have hn := h.ne
  cases t with
  | nil => exact absurd rfl hn
  | node k n s a b c => obtain ⟨g, _, _, _, h1, _⟩ := this; exact ⟨g, h1⟩
def ReadPost (w : World) (e : Ending) (w2 : World) : Prop :=
  ∃ (q : Option Addr) (r : ByteArray) (c : Nat), e = .returned (.tuple #[.pointer q, .string r, .int .i64 (c : Int)]) ∧ Kp [] w w2 ∧ (c = 0 → ∃ t, Read w2 t q)
theorem read_ret {w w2 : World} {a : Act} {q : Option Addr} {r : ByteArray} {c : Nat} (hk : Kp [] w w2) (hc : c = 0 → ∃ t, Read w2 t q) (h2 : a.tmps.getD 2 undef = .pointer q) (h3 : a.tmps.getD 3 undef = .string r) (h4 : a.tmps.getD 4 undef = .int .i64 (c : Int)) (hd : a.defers = []) :
    bodyPost Try.prog Try.f29 (ReadPost w) .ret a w2 := by
  exact bodyPost_ret (v := .tuple #[.pointer q, .string r, .int .i64 (c : Int)]) (by simp [results, Try.results29, go_sem]; simp at h2 h3 h4; exact ⟨h2, h3, h4⟩) hd ⟨q, r, c, rfl, hk, hc⟩
set_option maxHeartbeats 3200000 in
theorem read_any (s : ByteArray) (hs : s.size ≤ 1000000000000000) (w : World) :
    Calls Try.prog 29 #[.string s] w (ReadPost w) := by
  obtain ⟨R, hR⟩ : ∃ R, R = w.heap.size := ⟨_, rfl⟩
  obtain ⟨y, hy⟩ : ∃ y, y = w.alloc (.cells #[.string s, .int .i64 0, .int .i64 0] 60) := ⟨_, rfl⟩
  have k0 : Hid (Kp [] w y) := by rw [hy]; exact (Kp.refl [] w).alloc _
  have hr : RdAt y R s ((0 : Nat) : Int) 0 := by rw [hy, hR]; exact (MapKept.heap_alloc w _).1
  have hw : Hid (w.heap.size ≤ R) := by rw [hR]; exact Nat.le_refl _
  have TC := Lib.hid (term_any 0 (by decide) y R s hr hs)
  have HY := Lib.hid (And.intro hy hR)
  clear hR hy hr hs
  go_enter Try.func29, Try.ntmps29
  go_upto_region 2 with fail
  rw [← HY.out.1, ← HY.out.2]
  go_upto_region 3 with (go_at_call 37; refine Calls.mono TC.out ?_; rintro e w2 ⟨q, r, n2, c, rfl, kk, hr, _, _, _, _, ht⟩)
  have KK : Hid (Kp [] w w2) := k0.out.trans2 kk (fun x hx => .inr (by rw [List.mem_singleton.1 hx]; exact hw.out))
  have HT : Hid (c = 0 → ∃ t, Read w2 t q) := fun h0 => by
    obtain ⟨h1, t, h2, h3, h4, h5⟩ := ht h0
    exact ⟨t, h2.at, h3, by omega, h5⟩
  obtain ⟨x0, x1, x2⟩ := hr.cells
  clear kk hr ht TC HY
  by_cases h0 : c = 0
  · subst h0
    go_wp2_with fail
    go_quiet (fail)
    go_wp2_with fail
    exact read_ret (c := 0) (KK.out.drewN _) (fun h => by obtain ⟨t, h⟩ := HT.out (by first | exact h | trivial); exact ⟨t, h.kp ((Kp.refl [] w2).drewN _)⟩) rfl rfl rfl rfl
  · have d0 : ((c : Int) != 0) = true := by simp; omega
    have d0' : ((c : Int) == 0) = false := by simp; omega
    have H0 := Lib.hid h0
    clear h0
    go_wp2_with fail
    go_quiet (fail)
    go_wp2_with fail
    exact read_ret (c := c) (KK.out.drewN _) (fun h => absurd h H0.out) rfl rfl rfl rfl
def ReadTermPost (w : World) (e : Ending) (w2 : World) : Prop := ∃ q, e = .returned (.pointer q) ∧ Kp [] w w2 ∧ (q = none ∨ ∃ t, Read w2 t q)
set_option maxHeartbeats 3200000 in
theorem hterm_any (s : ByteArray) (hs : s.size ≤ 1000000000000000) (w : World) :
    Calls Try.prog 7 #[.string s] w (ReadTermPost w) := by
  have HR := Lib.hid (read_any s hs w)
  clear hs
  go_enter Try.func7, Try.ntmps7
  go_upto_region 2 with (go_at_call 29; refine Calls.mono HR.out ?_; rintro e w2 ⟨q, r, c, rfl, kk, ht⟩)
  have KK := Lib.hid kk
  have HT := Lib.hid ht
  clear kk ht HR
  by_cases h0 : c = 0
  · subst h0
    cases he : r.toList.isEmpty with
    | true =>
      go_wp2_with fail
      go_ret
      exact ⟨q, rfl, KK.out, .inr (HT.out (by first | rfl | trivial))⟩
    | false =>
      go_wp2_with fail
      go_ret
      exact ⟨none, rfl, KK.out, .inl rfl⟩
  · have d0 : ((c : Int) != 0) = true := by simp; omega
    have d0' : ((c : Int) == 0) = false := by simp; omega
    clear h0
    go_wp2_with fail
    go_ret
    exact ⟨none, rfl, KK.out, .inl rfl⟩
theorem sort_any (n : Int) (w : World) : Calls Try.prog 27 #[.int .i64 n] w (MkPost (.node 1 n noS .nil .nil .nil) w) := by
  unfold MkPost
  go_enter Try.func27, Try.ntmps27
  go_wp2_with fail
  go_ret
  exact ⟨_, rfl, (Kp.refl [] w).alloc _, TmP.new (P := fun _ => True) trivial rfl rfl rfl⟩
theorem const_any (s : ByteArray) (w : World) : Calls Try.prog 23 #[.string s] w (MkPost (.node 3 0 s .nil .nil .nil) w) := by
  unfold MkPost
  go_enter Try.func23, Try.ntmps23
  go_wp2_with fail
  go_ret
  exact ⟨_, rfl, (Kp.refl [] w).alloc _, TmP.new (P := fun _ => True) trivial rfl rfl rfl⟩
theorem pi_any {a b : Tm} {p q : Option Addr} {w : World} (ha : TmAt w a p) (hb : TmAt w b q) : Calls Try.prog 26 #[.pointer p, .pointer q] w (MkPost (.node 4 0 noS a b .nil) w) := by
  have HA := Lib.hid ha
  have HB := Lib.hid hb
  clear ha hb
  unfold MkPost
  go_enter Try.func26, Try.ntmps26
  go_wp2_with fail
  go_ret
  exact ⟨_, rfl, (Kp.refl [] w).alloc _, TmP.new (P := fun _ => True) trivial HA.out HB.out rfl⟩
theorem lam_any {a b : Tm} {p q : Option Addr} {w : World} (ha : TmAt w a p) (hb : TmAt w b q) : Calls Try.prog 28 #[.pointer p, .pointer q] w (MkPost (.node 5 0 noS a b .nil) w) := by
  have HA := Lib.hid ha
  have HB := Lib.hid hb
  clear ha hb
  unfold MkPost
  go_enter Try.func28, Try.ntmps28
  go_wp2_with fail
  go_ret
  exact ⟨_, rfl, (Kp.refl [] w).alloc _, TmP.new (P := fun _ => True) trivial HA.out HB.out rfl⟩
theorem app_any {a b : Tm} {p q : Option Addr} {w : World} (ha : TmAt w a p) (hb : TmAt w b q) : Calls Try.prog 24 #[.pointer p, .pointer q] w (MkPost (.node 6 0 noS a b .nil) w) := by
  have HA := Lib.hid ha
  have HB := Lib.hid hb
  clear ha hb
  unfold MkPost
  go_enter Try.func24, Try.ntmps24
  go_wp2_with fail
  go_ret
  exact ⟨_, rfl, (Kp.refl [] w).alloc _, TmP.new (P := fun _ => True) trivial HA.out HB.out rfl⟩
end Go.Proofs.Ytcfhhabjiofehaa
