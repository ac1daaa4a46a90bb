/- Contracts of package tree: find. -/
import Derived.Test.YtpocnldljglbgaaTrG
namespace Go.Proofs.Ytpocnldljglbgaa
open Go.RowKit

/-- How many entries there are below a pointer, by what the node says. -/
def sizeOf (v : Value) (w : World) : Nat := match v with
  | .pointer (some a) => match w.cell? ⟨a.block, 5, none⟩ with
    | some (.int _ s) => s.toNat
    | _ => 0
  | _ => 0
theorem sizeOf_t {w : World} {t : Tr} {p : Option Addr} (h : TAt w t p) : sizeOf (.pointer p) w = t.sz := by
  cases t with
  | nil => obtain rfl : p = none := h; rfl
  | node k n l r =>
    obtain ⟨g, pl, pr, rfl, N, _, _⟩ := h
    simp only [sizeOf, N.c5]
    omega
/-- What find tells: a node of the key, or none. -/
def Found (w : World) (t : Tr) (k : ByteArray) (q : Option Addr) : Prop :=
  (t.get k = none ∧ q = none) ∨ ∃ g n, q = some ⟨g, 0, none⟩ ∧ t.get k = some n ∧ w.cell? ⟨g, 1, none⟩ = some (.int .i64 n)
set_option maxHeartbeats 3200000 in
theorem find_any {w : World} (k : ByteArray) {t : Tr} {p : Option Addr} (h : TAt w t p) :
    Calls Try.prog 19 #[.pointer p, .string k] w fun e w2 => ∃ q, e = .returned (.pointer q) ∧ w2 = w ∧ Found w t k q := by
  have HT := Lib.hid h
  clear h
  go_enter Try.func19, Try.ntmps19
  go_wp2_with fail
  go_loopw [0] (fun v wr => ∃ t' p', v = .pointer p' ∧ wr = w ∧ Hid (TAt w t' p') ∧ Hid (t'.get k = t.get k)) (fun v wr => sizeOf v wr)
  case atStart => exact ⟨t, p, rfl, rfl, HT, rfl⟩
  case round =>
    obtain ⟨t', p', rfl, hw, H1, H2⟩ := hrel
    have hw := hw.symm
    subst hw
    have hm := sizeOf_t H1.out
    cases t' with
    | nil =>
      obtain rfl : p' = none := H1.out
      have hg : Hid (t.get k = none) := H2.out.symm
      clear hm H1 H2 HT
      go_wp2_with fail
      go_ret
      exact ⟨_, rfl, rfl, .inl ⟨hg.out, rfl⟩⟩
    | node a m l r =>
      obtain ⟨g, px, py, rfl, N, X, Y⟩ := id H1.out
      have c0 := N.c0
      have c2 := N.c2
      have c3 := N.c3
      have HX := Lib.hid X
      have HY := Lib.hid Y
      have C1 := Lib.hid N.c1
      have Hm := Lib.hid hm
      clear N X Y H1 hm HT
      have hb := less_klt k a
      have he := eq_toList a k
      rcases klt_tri k a with h | h | h
      · have h2 : Hid (l.get k = t.get k) := by
          rw [← H2.out]; exact ((if_neg (klt_ne h).symm).trans (if_pos h)).symm
        rw [decide_eq_true h] at hb
        rw [decide_eq_false (klt_ne h).symm] at he
        clear h H2
        go_wp2_with fail
        go_roundw
        case rel => exact ⟨l, px, rfl, by simp, HX, h2⟩
        case measure => rw [Hm.out, sizeOf_t HX.out]; simp only [Tr.sz]; omega
      · subst h
        have h2 : Hid (t.get k = some m) := H2.out.symm.trans (if_pos rfl)
        rw [decide_eq_false (klt_irrefl k)] at hb
        rw [decide_eq_true rfl] at he
        clear H2
        go_wp2_with fail
        go_ret
        exact ⟨_, rfl, rfl, .inr ⟨g, m, rfl, h2.out, C1.out⟩⟩
      · have h2 : Hid (r.get k = t.get k) := by
          rw [← H2.out]; exact ((if_neg (klt_ne h)).trans (if_neg (klt_asymm h))).symm
        rw [decide_eq_false (klt_asymm h)] at hb
        rw [decide_eq_false (klt_ne h)] at he
        clear h H2
        go_wp2_with fail
        go_roundw
        case rel => exact ⟨r, py, rfl, by simp, HY, h2⟩
        case measure => rw [Hm.out, sizeOf_t HY.out]; simp only [Tr.sz]; omega
end Go.Proofs.Ytpocnldljglbgaa
