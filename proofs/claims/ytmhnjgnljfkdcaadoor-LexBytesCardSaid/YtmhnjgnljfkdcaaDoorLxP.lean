/- The law LexPoints. -/
import Derived.Test.YtmhnjgnljfkdcaaDoorLxJ
namespace Go.Proofs.YtmhnjgnljfkdcaaDoor
open Go.RowKit

theorem conv_one (W : World) (g : Nat) (c : UInt8) (h : W.cell? ⟨g, 0, none⟩ = some (.int .u8 (c.toNat : Int))) : (convert 33 9 (.slice (some ⟨g, 0, none⟩) 1 1)).run Tryd.prog W = .ok (.string (mkB [c])) W := by
  have := run_convert_bytes_back (P := Tryd.prog) W 33 9 5 ⟨g, 0, none⟩ 1 [c] Tryd.underlying33 Tryd.underlying5 Tryd.underlying9 (fun j hj => by
    match j, hj with
    | 0, _ => simpa [Addr.add] using h
    | j + 1, hj => simp at hj)
  simpa [mkB] using this
def ptP (i : Nat) : UInt8 := UInt8.ofNat (97 + i)
def ptQ (j : Nat) : UInt8 := UInt8.ofNat (48 + j)
theorem pt_words : ∀ (i : Fin 26) (j : Fin 10), wordsL [ptP i, 46, ptQ j] = some [[ptP i, 46, ptQ j]] ∧ wordsL [ptP i, 32, 46, ptQ j] = some [[ptP i], [46], [ptQ j]] ∧ wordsL [ptP i, 46, 32, ptQ j] = some [[ptP i], [46], [ptQ j]] ∧ wordsL [ptP i, 32, 46, 32, ptQ j] = some [[ptP i], [46], [ptQ j]] := by decide +kernel
theorem mkB_append (a b : List UInt8) : mkB a ++ mkB b = mkB (a ++ b) := by
  apply ByteArray.ext
  rw [ByteArray.data_append]
  simp [mkB]
/-- What Words answers where all is well. -/
def YesPost (ws : List ByteArray) (w : World) (e : Ending) (w2 : World) : Prop := ∃ a c, e = .returned (.tuple #[.slice a ws.length c, .nilIface]) ∧ Kp [] w w2 ∧ StrsAt w2 w2.heap.size a ws.length (fun i => ws.getD i ⟨#[]⟩)
theorem words_of {s : ByteArray} {l : List UInt8} {vs : List (List UInt8)} {ws : List ByteArray} (hs : s = mkB l) (hl : l.length ≤ 2000) (h : wordsL l = some vs) (hv : vs.map mkB = ws) (w : World) : Calls Tryd.prog 8 #[.string s] w (YesPost ws w) := by
  subst hs
  subst hv
  exact words_yes (by rw [mkB_size]; exact hl) (by rw [mkB_list]; unfold res; rw [h]; rfl) w
theorem StrsAt.cell {w : World} {a : Option Addr} {n : Nat} {sx : Nat → ByteArray} (h : StrsAt w w.heap.size a n sx) (i : Nat) (hi : i < n) : ∃ g o, a = some ⟨g, o, none⟩ ∧ w.cell? ⟨g, o + i, none⟩ = some (.string (sx i)) := by
  obtain ⟨g, o, h1, _, h3⟩ := h i hi
  exact ⟨g, o, h1, h3⟩
theorem StrsAt.all {w : World} {g o n : Nat} {sx : Nat → ByteArray} (h : StrsAt w w.heap.size (some ⟨g, o, none⟩) n sx) (i : Nat) (hi : i < n) : w.cell? ⟨g, o + i, none⟩ = some (.string (sx i)) := by
  obtain ⟨g2, o2, h1, h3⟩ := h.cell i hi
  injection h1 with h1
  injection h1 with h4 h5
  rw [h4, h5]
  exact h3

set_option maxHeartbeats 6400000 in
set_option maxRecDepth 20000 in
theorem lpoints_any (a b : Nat) (left right : Bool) (w : World) :
    Calls Tryd.prog 5 #[.int .u8 (a : Int), .int .u8 (b : Int), .bool left, .bool right] w fun e w2 => e = .returned (.bool true) ∧ Kp [] w w2 := by
  obtain ⟨hw1, hw2, hw3, hw4⟩ := pt_words ⟨a % 26, Nat.mod_lt _ (by decide)⟩ ⟨b % 10, Nat.mod_lt _ (by decide)⟩
  obtain ⟨p, hp⟩ : ∃ p, p = ptP (a % 26) := ⟨_, rfl⟩
  obtain ⟨q, hq⟩ : ∃ q, q = ptQ (b % 10) := ⟨_, rfl⟩
  rw [← hp, ← hq] at hw1 hw2 hw3 hw4
  obtain ⟨x, hx⟩ : ∃ x, x = mkB [p] := ⟨_, rfl⟩
  obtain ⟨y, hy⟩ : ∃ y, y = mkB [q] := ⟨_, rfl⟩
  have ep : IntKind.u8.wrap (97 + (a : Int).tmod 26) = (p.toNat : Int) := by
    rw [hp, ptP, UInt8.toNat_ofNat', IntKind.wrap_u8, Int.tmod_eq_emod_of_nonneg (by omega)]; omega
  have eq : IntKind.u8.wrap (48 + (b : Int).tmod 10) = (q.toNat : Int) := by
    rw [hq, ptQ, UInt8.toNat_ofNat', IntKind.wrap_u8, Int.tmod_eq_emod_of_nonneg (by omega)]; omega
  have cx : ∀ (W : World) (g : Nat), W.cell? ⟨g, 0, none⟩ = some (.int .u8 (p.toNat : Int)) → (convert 33 9 (.slice (some ⟨g, 0, none⟩) 1 1)).run Tryd.prog W = .ok (.string x) W := fun W g h => by rw [hx]; exact conv_one W g p h
  have cy : ∀ (W : World) (g : Nat), W.cell? ⟨g, 0, none⟩ = some (.int .u8 (q.toNat : Int)) → (convert 33 9 (.slice (some ⟨g, 0, none⟩) 1 1)).run Tryd.prog W = .ok (.string y) W := fun W g h => by rw [hy]; exact conv_one W g q h
  have zx : x.size = 1 := by rw [hx, mkB_size]; rfl
  have zy : y.size = 1 := by rw [hy, mkB_size]; rfl
  have e32 : (⟨#[32]⟩ : ByteArray) = mkB [32] := rfl
  have e46 : (⟨#[46]⟩ : ByteArray) = mkB [46] := rfl
  have W1 : Hid (∀ W, Calls Tryd.prog 8 #[.string ((x ++ ⟨#[46]⟩) ++ y)] W (YesPost [(x ++ ⟨#[46]⟩) ++ y] W)) := fun W => words_of (by rw [hx, hy, e46, mkB_append, mkB_append]; rfl) (by simp) hw1 (by rw [hx, hy, e46, mkB_append, mkB_append]; rfl) W
  have W2 : Hid (∀ W, Calls Tryd.prog 8 #[.string (((x ++ ⟨#[32]⟩) ++ ⟨#[46]⟩) ++ y)] W (YesPost [x, ⟨#[46]⟩, y] W)) := fun W => words_of (by rw [hx, hy, e32, e46, mkB_append, mkB_append, mkB_append]; rfl) (by simp) hw2 (by rw [hx, hy]; rfl) W
  have W3 : Hid (∀ W, Calls Tryd.prog 8 #[.string (((x ++ ⟨#[46]⟩) ++ ⟨#[32]⟩) ++ y)] W (YesPost [x, ⟨#[46]⟩, y] W)) := fun W => words_of (by rw [hx, hy, e32, e46, mkB_append, mkB_append, mkB_append]; rfl) (by simp) hw3 (by rw [hx, hy]; rfl) W
  have W4 : Hid (∀ W, Calls Tryd.prog 8 #[.string ((((x ++ ⟨#[32]⟩) ++ ⟨#[46]⟩) ++ ⟨#[32]⟩) ++ y)] W (YesPost [x, ⟨#[46]⟩, y] W)) := fun W => words_of (by rw [hx, hy, e32, e46, mkB_append, mkB_append, mkB_append, mkB_append]; rfl) (by simp) hw4 (by rw [hx, hy]; rfl) W
  clear hx hy hp hq hw1 hw2 hw3 hw4 e32 e46
  cases left <;> cases right
  · go_enter Tryd.func5, Tryd.ntmps5
    go_wp2_with fail
    refine Calls.mono (known_any _) ?_
    rintro e w1 ⟨rfl, k1⟩
    have KA := Lib.hid k1
    clear k1
    go_wp2_with fail
    go_region_with (fail)
    all_goals
      go_wp2_with fail
      refine Calls.mono (W4.out _) ?_
      rintro e w2 ⟨r, c, rfl, k2, s2⟩
      have KB := Lib.hid (KA.out.trans ((((Kp.refl [] w1).alloc _).alloc _).drew.trans k2))
      obtain ⟨g, o, rfl, s0⟩ := s2.cell 0 (by simp)
      have s0' : w2.cell? ⟨g, o, none⟩ = some (.string x) := s0
      have s1 : w2.cell? ⟨g, o + 1, none⟩ = some (.string ⟨#[46]⟩) := s2.all 1 (by simp)
      have s3 : w2.cell? ⟨g, o + 2, none⟩ = some (.string y) := s2.all 2 (by simp)
      clear k2 s2
      go_wp2_with fail
      go_ret
      exact ⟨rfl, KB.out⟩
  · go_enter Tryd.func5, Tryd.ntmps5
    go_wp2_with fail
    refine Calls.mono (known_any _) ?_
    rintro e w1 ⟨rfl, k1⟩
    have KA := Lib.hid k1
    clear k1
    go_wp2_with fail
    go_region_with (fail)
    all_goals
      go_wp2_with fail
      refine Calls.mono (W2.out _) ?_
      rintro e w2 ⟨r, c, rfl, k2, s2⟩
      have KB := Lib.hid (KA.out.trans ((((Kp.refl [] w1).alloc _).alloc _).drew.trans k2))
      obtain ⟨g, o, rfl, s0⟩ := s2.cell 0 (by simp)
      have s0' : w2.cell? ⟨g, o, none⟩ = some (.string x) := s0
      have s1 : w2.cell? ⟨g, o + 1, none⟩ = some (.string ⟨#[46]⟩) := s2.all 1 (by simp)
      have s3 : w2.cell? ⟨g, o + 2, none⟩ = some (.string y) := s2.all 2 (by simp)
      clear k2 s2
      go_wp2_with fail
      go_ret
      exact ⟨rfl, KB.out⟩
  · go_enter Tryd.func5, Tryd.ntmps5
    go_wp2_with fail
    refine Calls.mono (known_any _) ?_
    rintro e w1 ⟨rfl, k1⟩
    have KA := Lib.hid k1
    clear k1
    go_wp2_with fail
    go_region_with (fail)
    all_goals
      go_wp2_with fail
      refine Calls.mono (W3.out _) ?_
      rintro e w2 ⟨r, c, rfl, k2, s2⟩
      have KB := Lib.hid (KA.out.trans ((((Kp.refl [] w1).alloc _).alloc _).drew.trans k2))
      obtain ⟨g, o, rfl, s0⟩ := s2.cell 0 (by simp)
      have s0' : w2.cell? ⟨g, o, none⟩ = some (.string x) := s0
      have s1 : w2.cell? ⟨g, o + 1, none⟩ = some (.string ⟨#[46]⟩) := s2.all 1 (by simp)
      have s3 : w2.cell? ⟨g, o + 2, none⟩ = some (.string y) := s2.all 2 (by simp)
      clear k2 s2
      go_wp2_with fail
      go_ret
      exact ⟨rfl, KB.out⟩
  · go_enter Tryd.func5, Tryd.ntmps5
    go_wp2_with fail
    refine Calls.mono (known_any _) ?_
    rintro e w1 ⟨rfl, k1⟩
    have KA := Lib.hid k1
    clear k1
    go_wp2_with fail
    go_region_with (fail)
    all_goals
      go_wp2_with fail
      refine Calls.mono (W1.out _) ?_
      rintro e w2 ⟨r, c, rfl, k2, s2⟩
      have KB := Lib.hid (KA.out.trans ((((Kp.refl [] w1).alloc _).alloc _).drew.trans k2))
      obtain ⟨g, o, rfl, s0⟩ := s2.cell 0 (by simp)
      have s0' : w2.cell? ⟨g, o, none⟩ = some (.string ((x ++ ⟨#[46]⟩) ++ y)) := s0
      clear k2 s2
      go_wp2_with fail
      go_ret
      exact ⟨rfl, KB.out⟩
end Go.Proofs.YtmhnjgnljfkdcaaDoor
