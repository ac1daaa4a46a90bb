/- How a row of steps that is handed over is read, as the walk of JournalPlays wants it. -/
import Derived.Test.YtggnljfcdohkaaaGreatDoorRjl
import Derived.Deep.Strs
import Derived.Deep.Grids
import Derived.Deep.Slices
import Derived.Carry
import Derived.ProofKit
import Derived.OpenShut
import Derived.Test.YtggnljfcdohkaaaGreatDoorRows
import Derived.Test.YtggnljfcdohkaaaGreatDoorCards
import Derived.Test.YtggnljfcdohkaaaGreatDoorTie
import Derived.Test.YtggnljfcdohkaaaGreatDoorJnLaid
import Derived.LaidMore
import Derived.SevenTiedAt
import Derived.ChangeMaps5
namespace Go.Proofs.YtggnljfcdohkaaaGreatDoor
open Go Go.ChangeShapes Go.WideShapes Go.ChangeAt Go.RowKit Go.Deep

theorem laidOut : laidOutB Tryz.prog = true := by kernel_rfl
theorem cellsBool : Tryz.prog.cellsOf 4 = 1 := by kernel_rfl
theorem cellsStep : Tryz.prog.cellsOf 42 = 4 := by kernel_rfl
theorem cellsInt1 : Tryz.prog.cellsOf 3 = 1 := by kernel_rfl
theorem cellsStr1 : Tryz.prog.cellsOf 9 = 1 := by kernel_rfl
theorem cellsSl1 : Tryz.prog.cellsOf 40 = 1 := by kernel_rfl
theorem addr_plain {w : World} {a : Addr} {v : Value} (h : w.cell? a = some v) : a = ⟨a.block, a.off, none⟩ := by
  have := World.cell?_spot h
  obtain ⟨b, o, s⟩ := a
  simp only at this
  rw [this]
theorem keep_at {H : Type} {enc : TypeId × Value → H} {W : World} {fuel : Nat} {v : Value} {x : DataW H × List MemPlace}
    (hf : DataW.trod enc Tryz.prog W 0 (fun _ => true) true fuel 40 [v] = some x) : ∃ a c, ∃ ks : List Bool, v = .slice a ks.length c ∧ ks.length ≤ maxLen ∧ KeepP (fun x => x < W.heap.size) W a ks := by
  rcases open_bools Tryz.underlying40 Tryz.underlying4 cellsBool hf with ⟨hcs, _⟩ | ⟨x, len, cap, Bx, hcs, _, hl, hmx, _, hcell⟩
  · obtain rfl : v = .slice none 0 0 := by simpa using hcs
    exact ⟨none, 0, [], rfl, Nat.zero_le _, fun i hi => by simp at hi⟩
  · obtain rfl : v = .slice (some x) len cap := by simpa using hcs
    refine ⟨some x, cap, (List.range len).map Bx, by simp, by simp; omega, fun i hi => ?_⟩
    simp only [List.length_map, List.length_range] at hi
    have h0 := hcell 0 (by omega)
    have hx : x = ⟨x.block, x.off, none⟩ := by
      have e0 : x.add 0 = x := rfl
      rw [e0] at h0
      exact addr_plain h0
    have hi2 := hcell i (by omega)
    rw [hx, Addr.add_mid] at hi2
    refine ⟨x.block, x.off, by rw [hx], World.block_lt_of_cell? W _ h0, ?_⟩
    rw [hi2]
    simp [List.getD_eq_getElem?_getD, hi]
theorem four_of {cs : List Value} (h : cs.length = 4) : ∃ a b c d, cs = [a, b, c, d] := by
  match cs, h with
  | [a, b, c, d], _ => exact ⟨a, b, c, d, rfl⟩
/-- One step of a row. -/
def StepAt (W : World) (g o i : Nat) (x : StepV) : Prop :=
  (W.cell? ⟨g, o + i * 4, none⟩ = some (.int .i64 x.what) ∧ W.cell? ⟨g, o + i * 4 + 1, none⟩ = some (.int .i64 x.at_) ∧ W.cell? ⟨g, o + i * 4 + 2, none⟩ = some (.string x.b) ∧ W.cell? ⟨g, o + i * 4 + 3, none⟩ = some (.slice x.ka x.ks.length x.kc))
    ∧ KeepP (fun x => x < W.heap.size) W x.ka x.ks ∧ -9223372036854775808 ≤ x.what ∧ x.what ≤ 9223372036854775807 ∧ -9223372036854775808 ≤ x.at_ ∧ x.at_ ≤ 9223372036854775807 ∧ x.ks.length ≤ 9223372036854775807
theorem steps_at {H : Type} {enc : TypeId × Value → H} {W : World} {a : Option Addr} {n c : Nat} {d : DataW H} {p : List MemPlace}
    (h : DataW.Trod enc Tryz.prog W 0 (fun _ => true) true 22 (.slice a n c) d p) : ∃ st, StepsAt (fun x => x < W.heap.size) W a n st := by
  obtain ⟨fuel, hf⟩ := h
  rcases open_slice Tryz.underlying22 hf with ⟨hcs, _⟩ | ⟨x, len, cap, m, nn, D, Pl, hcs, _, hl, _, hm, _, hi⟩
  · simp [Value.cells] at hcs
    obtain ⟨rfl, rfl, rfl⟩ := hcs
    exact ⟨fun _ => ⟨0, 0, ByteArray.empty, none, 0, []⟩, fun i hi => by omega⟩
  · simp [Value.cells] at hcs
    obtain ⟨rfl, rfl, rfl⟩ := hcs
    simp only [if_true] at hm
    rw [cellsStep] at hi
    have hx : 0 < n → x = ⟨x.block, x.off, none⟩ ∧ x.block < W.heap.size := fun h0 => by
      obtain ⟨cs', hc, _⟩ := hi 0 (by omega)
      obtain ⟨_, hcl, hat⟩ := World.cells?_some hc
      obtain ⟨a0, a1, a2, a3, rfl⟩ := four_of hcl
      have h1 := hat 0 (by omega)
      have e0 : (x.add (0 * 4)).add 0 = x := rfl
      rw [e0] at h1
      exact ⟨addr_plain h1, World.block_lt_of_cell? W _ h1⟩
    have each : ∀ i, i < n → ∃ sv : StepV, StepAt W x.block x.off i sv := fun i hin => by
      obtain ⟨hxe, hxl⟩ := hx (by omega)
      obtain ⟨cs', hc, ht⟩ := hi i (by omega)
      obtain ⟨_, hcl, hat⟩ := World.cells?_some hc
      obtain ⟨a0, a1, a2, a3, rfl⟩ := four_of hcl
      obtain ⟨xs, n', _, _, _, hxs, hfld⟩ := DataW.trod_struct Tryz.underlying42 ht
      have g0 : DataW.trod enc Tryz.prog W 0 (fun _ => true) true n' 3 ((([a0, a1, a2, a3] : List Value).drop 0).take (Tryz.prog.cellsOf 3)) = xs[0]? := hfld 0 _ rfl
      rw [cellsInt1] at g0
      have f0 : DataW.trod enc Tryz.prog W 0 (fun _ => true) true n' 3 [a0] = xs[0]? := g0
      have g1 : DataW.trod enc Tryz.prog W 0 (fun _ => true) true n' 3 ((([a0, a1, a2, a3] : List Value).drop 1).take (Tryz.prog.cellsOf 3)) = xs[1]? := hfld 1 _ rfl
      rw [cellsInt1] at g1
      have f1 : DataW.trod enc Tryz.prog W 0 (fun _ => true) true n' 3 [a1] = xs[1]? := g1
      have g2 : DataW.trod enc Tryz.prog W 0 (fun _ => true) true n' 9 ((([a0, a1, a2, a3] : List Value).drop 2).take (Tryz.prog.cellsOf 9)) = xs[2]? := hfld 2 _ rfl
      rw [cellsStr1] at g2
      have f2 : DataW.trod enc Tryz.prog W 0 (fun _ => true) true n' 9 [a2] = xs[2]? := g2
      have g3 : DataW.trod enc Tryz.prog W 0 (fun _ => true) true n' 40 ((([a0, a1, a2, a3] : List Value).drop 3).take (Tryz.prog.cellsOf 40)) = xs[3]? := hfld 3 _ rfl
      rw [cellsSl1] at g3
      have f3 : DataW.trod enc Tryz.prog W 0 (fun _ => true) true n' 40 [a3] = xs[3]? := g3
      clear g0 g1 g2 g3
      have hlen : xs.length = 4 := hxs
      obtain ⟨y0, hy0⟩ : ∃ y, xs[0]? = some y := ⟨_, List.getElem?_eq_getElem (by omega)⟩
      obtain ⟨y1, hy1⟩ : ∃ y, xs[1]? = some y := ⟨_, List.getElem?_eq_getElem (by omega)⟩
      obtain ⟨y2, hy2⟩ : ∃ y, xs[2]? = some y := ⟨_, List.getElem?_eq_getElem (by omega)⟩
      obtain ⟨y3, hy3⟩ : ∃ y, xs[3]? = some y := ⟨_, List.getElem?_eq_getElem (by omega)⟩
      rw [hy0] at f0
      rw [hy1] at f1
      rw [hy2] at f2
      rw [hy3] at f3
      obtain ⟨v, hv, _, wv⟩ := DataW.trod_int Tryz.underlying3 f0
      obtain ⟨q, hq, _, wq⟩ := DataW.trod_int Tryz.underlying3 f1
      obtain ⟨s, hs, _, _⟩ := DataW.trod_string Tryz.underlying9 f2
      obtain ⟨ka, kc, ks, hk, hkl, hkk⟩ := keep_at f3
      obtain rfl : a0 = .int .i64 v := by simpa using hv
      obtain rfl : a1 = .int .i64 q := by simpa using hq
      obtain rfl : a2 = .string s := by simpa using hs
      subst hk
      have bv := bounds_i64 wv
      have bq := bounds_i64 wq
      have g0 := hat 0 (by omega)
      have g1 := hat 1 (by omega)
      have g2 := hat 2 (by omega)
      have g3 := hat 3 (by omega)
      rw [hxe, Addr.add_mid, Addr.add_mid] at g0 g1 g2 g3
      exact ⟨⟨v, q, s, ka, kc, ks⟩, ⟨g0, g1, g2, g3⟩, hkk, bv.1, bv.2, bq.1, bq.2, by unfold maxLen at hkl; omega⟩
    refine ⟨fun i => if h : i < n then Classical.choose (each i h) else ⟨0, 0, ByteArray.empty, none, 0, []⟩, fun i hin => ?_⟩
    obtain ⟨hxe, hxl⟩ := hx (by omega)
    have hs := Classical.choose_spec (each i hin)
    refine ⟨x.block, x.off, by rw [← hxe], hxl, ?_⟩
    simp only [dif_pos hin]
    exact ⟨hs.1, hs.2⟩
end Go.Proofs.YtggnljfcdohkaaaGreatDoor
/-
    The law JournalPlays of layer 4 holds: for every byte and every row of steps it returns true.
  Conditions: the listed variables of math/bits, strconv, utf8 and errors start as the program lays them (the card ties them).
-/
namespace Go.Proofs.YtggnljfcdohkaaaGreatDoor
open Go Go.ChangeMaps Go.ChangeShapes Go.WideShapes Go.ChangeAt Go.RowKit

set_option maxRecDepth 100000 in
theorem journalPlays_lifted (os : Os) (started : os.Started) (H : Type) (enc : TypeId × Value → H) :
    ReturnsInHanded {} Tryz.checked os 3 .any (fun w args => (Rows.journalPlaysSpec.pre enc Tryz.prog Tryz.f3 [] false w args ∧ laidMetH Tryz.prog laid6 w) ∧ sizedMet enc Tryz.prog Tryz.f3 (OpenSpec.ofChange Rows.journalPlaysSpec) false w args)
      (Rows.journalPlaysSpec.post enc Tryz.prog Tryz.f3 false true false false) := by
  refine returnsInHanded_of_change_and (C := Tryz.checked) (X := fun w _ => laidMetH Tryz.prog laid6 w) (fun _ _ _ hh h => h.of_heap hh) own started (by kernel_rfl) Tryz.func3
    (ChangeSpec.witness_shaped (enc := enc) (C := Tryz.checked) (os := os) (X := fun w _ => laidMetH Tryz.prog laid6 w) false (wit6 os) #[.int .u8 0, .slice none 0 0] 8 (wit6_os os) (World.shaped_of_ZipB (by kernel_rfl) (by kernel_rfl)) (by kernel_rfl) (by kernel_rfl) (by kernel_rfl) (door6 os _)) ?_
  intro W base args ds gs before hval0 hW _ _ hL _
  have hval : ∀ (j : Nat) t v, Tryz.f3.params[j]? = some t → args[j]? = some v → Value.okWide Tryz.prog W .any base t v := hval0
  have hW' := hW
  obtain ⟨p, q, hA0, hV, rfl, hfz, hnd⟩ := hW
  have hA : DataW.TrodAll enc Tryz.prog W 0 (fun _ => true) true Tryz.f3.params.toList args.toList ds p := hA0
  rw [Tryz.params3] at hA hval
  obtain ⟨v0, vs0, d0, ds0, p0, q0, hargs, rfl, rfl, h0, r0⟩ := trodAll_cons hA
  obtain ⟨v1, vs1, d1, ds1, p1, q1, rfl, rfl, rfl, h1, r1⟩ := trodAll_cons r0
  obtain ⟨rfl, rfl, rfl⟩ := trodAll_nil r1
  obtain rfl : args = #[v0, v1] := by cases args; simp_all
  obtain ⟨rfl, rfl⟩ := trodVars_none hV
  obtain ⟨n, rfl, rfl, rfl, w0⟩ := open_int Tryz.underlying5 (hval 0 5 v0 rfl rfl) h0
  have bn := bounds_u8 w0
  obtain ⟨n, rfl⟩ := Int.eq_ofNat_of_zero_le bn.1
  obtain ⟨la, ln, lc, rfl⟩ := okWide_slice Tryz.underlying22 (hval 1 22 v1 rfl rfl)
  clear hA0 hval0
  obtain ⟨l, hl⟩ := steps_at h1
  have hlt : ∀ x ∈ [] ++ (p1 ++ []) ++ [], x.block < W.heap.size := fun x hx => hW'.lt x hx
  refine (plays_any (n : Int) (by omega) (by omega) la ln lc l W (have_of_laid hL).1 (have_of_laid hL).2 hl).mono fun e W' ⟨he, hk⟩ => ?_
  subst he
  have hb := hk.below (B := W.heap.size) (Nat.le_refl _) (fun x hx => by cases hx)
  have e1 : Rows.journalPlaysSpec.fn H ([.lit (.int .u8 (n : Int)), d1] ++ []) = { results := [.lit (.bool true)], args := [.lit (.int .u8 (n : Int)), d1] } := rfl
  refine ⟨_, rfl, _, _, _, [], [] ++ (p1 ++ []), [], hW', ?_, ?_, ?_, hb.frame _, fun h => by cases h⟩
  · rw [e1]; exact trodAll_cons_mk (shut_bool Tryz.underlying4 _) trodAll_mk0
  · rw [e1]; exact (trodAll_cons_mk (shut_int Tryz.underlying5 w0) (trodAll_cons_mk (Below.trod laidOut (by kernel_rfl) (of_decide_eq_true (by kernel_rfl)) h1 hb (fun x hx => hlt x (by simp [hx]))) trodAll_mk0))
  · rw [e1]; rfl

theorem journalPlays_row : Rows.JournalPlaysSaid :=
  OpenClaim.holds_of_wide 3 Tryz.f3 rfl rfl rfl rfl rfl rfl rfl ⟨rfl, rfl, rfl, rfl, rfl⟩ rfl rfl rfl rfl rfl (by kernel_rfl) Tryz.func3 (by kernel_rfl)
    (of_decide_eq_true (by kernel_rfl)) (by unfold Func.isWrapper; first | (rw [if_pos (by decide +kernel)]; kernel_rfl) | (rw [if_neg (by decide +kernel)]; exact ⟨rfl, rfl⟩))
    (fun os started H enc _ => journalPlays_lifted os started H enc)

theorem journalPlays_proved : Rows.JournalPlaysCardSaid :=
  Claim7.holds_tied_plain_at .later [] [.data, .data, .data, .data, .handle, .pinned] true (true, "3e15ba4f8ca525822f6b2d0f6d6b0637256260b61da5861616ad0d74f8b8981d") true
    journalPlays_row (fun _ h => by cases h) (by kernel_rfl) (fun _ h => by cases h) journalPlays_row_tie rfl ⟨rfl, rfl⟩ (by kernel_rfl) rfl
    (fun f fn hf hfn => by
      obtain rfl : f = 3 := Option.some.inj ((show Tryz.prog.funcNamed "vademecum/vademecumlaw4.JournalPlays" = some 3 by kernel_rfl).symm.trans hf) |>.symm
      obtain rfl : fn = Tryz.f3 := (Option.some.inj (Tryz.func3.symm.trans hfn)).symm
      exact ⟨by kernel_rfl, fun j t ht => by
        rw [Tryz.params3] at ht
        have hm : t ∈ [5, 22] := by simpa using Array.mem_of_getElem? ht
        have hall : ([5, 22].all fun u => !Tryz.prog.wantsStandIn u) = true := by kernel_rfl
        exact (show Tryz.prog.wantsStandIn t = false by simpa using List.all_eq_true.1 hall t hm)⟩)
    (by kernel_rfl)
#print axioms journalPlays_proved
end Go.Proofs.YtggnljfcdohkaaaGreatDoor
