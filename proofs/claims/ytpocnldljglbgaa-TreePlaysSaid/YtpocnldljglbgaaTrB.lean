/- Contracts of package tree: height, count, Compare, join. -/
import Derived.Test.YtpocnldljglbgaaProg
import Derived.Test.YtpocnldljglbgaaTrA
import Derived.Test.YtpocnldljglbgaaMem
import Derived.WalkKit
import Derived.Deep.QuietTactic
import Derived.Deep.RegionWith
import Derived.Deep.RegionHeld3
import Derived.BigQuiet
import Derived.Lib.Hide
import Derived.Laws.Cover1
import Derived.Lib.MinMax
namespace Go.Proofs.Ytpocnldljglbgaa
open Go.RowKit

/-- A node that lies at g. -/
structure NdAt (w : World) (g : Nat) (k : ByteArray) (n : Int) (pl pr : Option Addr) (d s : Int) : Prop where
  lt : g < w.heap.size
  c0 : w.cell? ⟨g, 0, none⟩ = some (.string k)
  c1 : w.cell? ⟨g, 1, none⟩ = some (.int .i64 n)
  c2 : w.cell? ⟨g, 2, none⟩ = some (.pointer pl)
  c3 : w.cell? ⟨g, 3, none⟩ = some (.pointer pr)
  c4 : w.cell? ⟨g, 4, none⟩ = some (.int .i64 d)
  c5 : w.cell? ⟨g, 5, none⟩ = some (.int .i64 s)
theorem NdAt.kp {w w2 : World} {g : Nat} {k : ByteArray} {n : Int} {pl pr : Option Addr} {d s : Int} (h : NdAt w g k n pl pr d s) (K : Kp [] w w2) : NdAt w2 g k n pl pr d s :=
  ⟨K.lt h.lt, (K.cell0 h.lt).trans h.c0, (K.cell0 h.lt).trans h.c1, (K.cell0 h.lt).trans h.c2, (K.cell0 h.lt).trans h.c3, (K.cell0 h.lt).trans h.c4, (K.cell0 h.lt).trans h.c5⟩
/-- A tree that lies there. -/
def TAt (w : World) : Tr → Option Addr → Prop
  | .nil, p => p = none
  | .node k n l r, p => ∃ g pl pr, p = some ⟨g, 0, none⟩ ∧ NdAt w g k n pl pr ((Tr.node k n l r).h : Nat) ((Tr.node k n l r).sz : Nat) ∧ TAt w l pl ∧ TAt w r pr
theorem TAt.kp {w w2 : World} (K : Kp [] w w2) : ∀ {t : Tr} {p : Option Addr}, TAt w t p → TAt w2 t p
  | .nil, _, h => h
  | .node _ _ _ _, _, ⟨g, pl, pr, h1, h2, h3, h4⟩ => ⟨g, pl, pr, h1, h2.kp K, h3.kp K, h4.kp K⟩
theorem TAt.nil {w : World} : TAt w .nil none := rfl

theorem height_any {w : World} {t : Tr} {p : Option Addr} (h : TAt w t p) :
    Calls Try.prog 22 #[.pointer p] w fun e w2 => e = .returned (.int .i64 (t.h : Nat)) ∧ w2 = w := by
  cases t with
  | nil =>
    obtain rfl : p = none := h
    go_enter Try.func22, Try.ntmps22
    go_wp2
    go_ret
    exact ⟨rfl, rfl⟩
  | node k n l r =>
    obtain ⟨g, pl, pr, rfl, N, _, _⟩ := h
    have c4 := N.c4
    generalize (((Tr.node k n l r).h : Nat) : Int) = d at c4 ⊢
    clear N
    go_enter Try.func22, Try.ntmps22
    go_wp2
    go_ret
    exact ⟨rfl, rfl⟩
theorem count_any {w : World} {t : Tr} {p : Option Addr} (h : TAt w t p) :
    Calls Try.prog 24 #[.pointer p] w fun e w2 => e = .returned (.int .i64 (t.sz : Nat)) ∧ w2 = w := by
  cases t with
  | nil =>
    obtain rfl : p = none := h
    go_enter Try.func24, Try.ntmps24
    go_wp2
    go_ret
    exact ⟨rfl, rfl⟩
  | node k n l r =>
    obtain ⟨g, pl, pr, rfl, N, _, _⟩ := h
    have c5 := N.c5
    generalize (((Tr.node k n l r).sz : Nat) : Int) = d at c5 ⊢
    clear N
    go_enter Try.func24, Try.ntmps24
    go_wp2
    go_ret
    exact ⟨rfl, rfl⟩
theorem isNaN_str (x : ByteArray) (w : World) : Calls Try.prog 29 #[.string x] w fun e w' => e = .returned (.bool false) ∧ w' = w := by
  go_enter Try.func29, Try.ntmps29
  go_wp2
  go_ret
  exact ⟨by simp, rfl⟩
def cmpS (a b : ByteArray) : Int := if klt a b then -1 else if klt b a then 1 else 0
set_option maxHeartbeats 1000000 in
theorem compare_str (x y : ByteArray) (w : World) : Calls Try.prog 25 #[.string x, .string y] w fun e w' => e = .returned (.int .i64 (cmpS x y)) ∧ w' = w := by
  have hb := less_klt x y
  have he := eq_toList x y
  rcases klt_tri x y with h | h | h
  · have hc : cmpS x y = -1 := if_pos h
    rw [hc]
    rw [decide_eq_true h] at hb
    clear h hc he
    go_enter Try.func25, Try.ntmps25
    go_wp2_with (go_at_call 29; refine (isNaN_str _ _).mono ?_; rintro e w' ⟨rfl, hw⟩; rw [hw])
    go_ret
    exact ⟨rfl, rfl⟩
  · have hc : cmpS x y = 0 := by subst h; exact (if_neg (klt_irrefl x)).trans (if_neg (klt_irrefl x))
    rw [hc]
    rw [decide_eq_true h] at he
    rw [decide_eq_false (fun k => by subst h; exact klt_irrefl x k)] at hb
    clear h hc
    go_enter Try.func25, Try.ntmps25
    go_wp2_with (go_at_call 29; refine (isNaN_str _ _).mono ?_; rintro e w' ⟨rfl, hw⟩; rw [hw])
    go_ret
    exact ⟨rfl, rfl⟩
  · have hc : cmpS x y = 1 := (if_neg (klt_asymm h)).trans (if_pos h)
    rw [hc]
    rw [decide_eq_false (klt_ne h).symm] at he
    rw [decide_eq_false (klt_asymm h)] at hb
    clear h hc
    go_enter Try.func25, Try.ntmps25
    go_wp2_with (go_at_call 29; refine (isNaN_str _ _).mono ?_; rintro e w' ⟨rfl, hw⟩; rw [hw])
    go_ret
    exact ⟨rfl, rfl⟩
theorem size_alloc (w : World) (o : Obj) : (w.alloc o).heap.size = w.heap.size + 1 := by simp
/-- A node's new block. -/
theorem NdAt.new (w : World) (k : ByteArray) (n : Int) (pl pr : Option Addr) (d s : Int) (w2 : World) (K : Kp [] (w.alloc (.cells #[.string k, .int .i64 n, .pointer pl, .pointer pr, .int .i64 d, .int .i64 s] 57)) w2) :
    NdAt w2 w.heap.size k n pl pr d s := by
  refine NdAt.kp ⟨?_, ?_, ?_, ?_, ?_, ?_, ?_⟩ K
  · simp
  all_goals (rw [World.cell?_alloc_new]; rfl)
/-- An entry that lies at g. -/
structure EntAt (w : World) (g : Nat) (k : ByteArray) (n : Int) : Prop where
  lt : g < w.heap.size
  two : w.cell? ⟨g, 0, none⟩ = some (.string k) ∧ w.cell? ⟨g, 1, none⟩ = some (.int .i64 n)
theorem EntAt.kp {w w2 : World} {g : Nat} {k : ByteArray} {n : Int} (h : EntAt w g k n) (K : Kp [] w w2) : EntAt w2 g k n :=
  ⟨K.lt h.lt, (K.cell0 h.lt).trans h.two.1, (K.cell0 h.lt).trans h.two.2⟩
theorem EntAt.new (w : World) (k : ByteArray) (n : Int) : EntAt (w.alloc (.cells #[.string k, .int .i64 n] 55)) w.heap.size k n := by
  refine ⟨by simp, ?_, ?_⟩
  all_goals (rw [World.cell?_alloc_new]; rfl)
set_option maxHeartbeats 1600000 in
theorem join_any {w : World} (k : ByteArray) (n : Int) {l r : Tr} {pl pr : Option Addr} (hl : TAt w l pl) (hr : TAt w r pr) (hs : l.sz + r.sz ≤ 1000000) :
    Calls Try.prog 28 #[.agg #[.string k, .int .i64 n], .pointer pl, .pointer pr] w fun e w2 => ∃ p, e = .returned (.pointer p) ∧ Kp [] w w2 ∧ TAt w2 (.node k n l r) p := by
  have b1 := l.h_le
  have b2 := r.h_le
  have e1 : IntKind.i64.wrap (1 + max (l.h : Int) (r.h : Int)) = ((Tr.node k n l r).h : Nat) := by rw [IntKind.wrap_i64]; simp only [Tr.h]; omega
  have e2 : IntKind.i64.wrap ((l.sz : Int) + 1) = (l.sz : Int) + 1 := by rw [IntKind.wrap_i64]; omega
  have e3 : IntKind.i64.wrap ((l.sz : Int) + 1 + (r.sz : Int)) = ((Tr.node k n l r).sz : Nat) := by rw [IntKind.wrap_i64]; simp only [Tr.sz]; omega
  have HL := Lib.hid hl
  have HR := Lib.hid hr
  clear hl hr hs b1 b2
  go_enter Try.func28, Try.ntmps28
  go_wp2_with fail
  have E0 := Lib.hid (EntAt.new w k n)
  have Kd : Kp [] w (w.alloc (.cells #[.string k, .int .i64 n] 55)).drew := ((Kp.refl [] w).alloc _).drew
  go_region_held3 (fun w' => w'.cell? ⟨w.heap.size, 0, none⟩ = some (.string k) ∧ w'.cell? ⟨w.heap.size, 1, none⟩ = some (.int .i64 n)) (first | exact (E0.out.kp (Kp.refl [] _).drew).two | exact (E0.out.kp ((Kp.refl [] _).alloc _).drew).two) (first
    | (go_at_call_of 22 pl; refine Calls.mono (height_any (HL.out.kp Kd)) ?_; rintro e w2 ⟨rfl, rfl⟩)
    | (go_at_call_of 22 pr; refine Calls.mono (height_any (HR.out.kp Kd)) ?_; rintro e w2 ⟨rfl, rfl⟩)
    | (go_at_call_of 24 pl; refine Calls.mono (count_any (HL.out.kp Kd)) ?_; rintro e w2 ⟨rfl, rfl⟩)
    | (go_at_call_of 24 pr; refine Calls.mono (count_any (HR.out.kp Kd)) ?_; rintro e w2 ⟨rfl, rfl⟩))
  all_goals
    go_wp2_with fail
    go_ret
    exact ⟨_, rfl, (((Kp.refl [] w).alloc _).alloc _).drew, _, _, _, rfl, size_alloc w _ ▸ NdAt.new (w.alloc _) k n pl pr _ _ _ (Kp.refl [] _).drew, HL.out.kp ((((Kp.refl [] w).alloc _).alloc _).drew), HR.out.kp ((((Kp.refl [] w).alloc _).alloc _).drew)⟩
end Go.Proofs.Ytpocnldljglbgaa
