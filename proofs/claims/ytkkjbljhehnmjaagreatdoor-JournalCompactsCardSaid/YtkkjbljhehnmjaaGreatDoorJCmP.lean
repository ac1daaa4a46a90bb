/-
  The law JournalCompacts of layer 4 holds: for every two rows of texts, every byte, row of bools and int8 it returns true.
  Conditions: the listed variables of math/bits, strconv, utf8 and errors start as the program lays them (the card ties them).
-/
import Derived.Test.YtkkjbljhehnmjaaGreatDoorRows
import Derived.Test.YtkkjbljhehnmjaaGreatDoorCards
import Derived.Test.YtkkjbljhehnmjaaGreatDoorTie
import Derived.Test.YtkkjbljhehnmjaaGreatDoorJnLaid
import Derived.Test.YtkkjbljhehnmjaaGreatDoorJnV
import Derived.Test.YtkkjbljhehnmjaaGreatDoorStOpen
import Derived.ProofKit
import Derived.Deep.Grids
import Derived.LaidMore
import Derived.OpenShut
import Derived.SevenTiedAt
import Derived.Carry
import Derived.ChangeMaps5
namespace Go.Proofs.YtkkjbljhehnmjaaGreatDoor
open Go Go.ChangeMaps Go.ChangeShapes Go.WideShapes Go.ChangeAt Go.RowKit Go.Deep

theorem cellsBool : Tryz.prog.cellsOf 4 = 1 := by kernel_rfl
theorem bools_at {H : Type} {enc : TypeId × Value → H} {W : World} {a : Option Addr} {n c : Nat} {d : DataW H} {p : List MemPlace}
    (h : DataW.Trod enc Tryz.prog W 0 (fun _ => true) true 40 (.slice a n c) d p) : ∃ ks : List Bool, ks.length = n ∧ BoolsAt W W.heap.size a ks := by
  obtain ⟨fuel, hf⟩ := h
  rcases open_bools Tryz.underlying40 Tryz.underlying4 cellsBool hf with ⟨hcs, _⟩ | ⟨x, len, cap, Bx, hcs, _, hl, _, _, hcell⟩
  · simp [Value.cells] at hcs
    obtain ⟨rfl, rfl, rfl⟩ := hcs
    exact ⟨[], rfl, fun i hi => by simp at hi⟩
  · simp [Value.cells] at hcs
    obtain ⟨rfl, rfl, rfl⟩ := hcs
    refine ⟨(List.range n).map Bx, by simp, fun i hi => ?_⟩
    simp only [List.length_map, List.length_range] at hi
    have h0 := hcell 0 (by omega)
    have hx : x = ⟨x.block, x.off, none⟩ := by
      have e0 : x.add 0 = x := rfl
      rw [e0] at h0
      exact addr_plain h0
    have hi2 := hcell i (by omega)
    rw [hx, Addr.add_mid] at hi2
    refine ⟨x.block, x.off, by rw [hx], World.block_lt_of_cell? W _ h0, ?_⟩
    rw [hi2]
    simp [List.getD_eq_getElem?_getD, hi]

set_option maxRecDepth 100000 in
theorem journalCompacts_lifted (os : Os) (started : os.Started) (H : Type) (enc : TypeId × Value → H) :
    ReturnsInHanded {} Tryz.checked os 4 .any (fun w args => (Rows.journalCompactsSpec.pre enc Tryz.prog Tryz.f4 [] false w args ∧ laidMetH Tryz.prog laid6 w) ∧ sizedMet enc Tryz.prog Tryz.f4 (OpenSpec.ofChange Rows.journalCompactsSpec) false w args)
      (Rows.journalCompactsSpec.post enc Tryz.prog Tryz.f4 false true false false) := by
  refine returnsInHanded_of_change_and (C := Tryz.checked) (X := fun w _ => laidMetH Tryz.prog laid6 w) (fun _ _ _ hh h => h.of_heap hh) own started (by kernel_rfl) Tryz.func4
    (ChangeSpec.witness_shaped (enc := enc) (C := Tryz.checked) (os := os) (X := fun w _ => laidMetH Tryz.prog laid6 w) false (wit6 os) #[.slice none 0 0, .slice none 0 0, .int .u8 0, .slice none 0 0, .int .i8 0] 8 (wit6_os os) (World.shaped_of_ZipB (by kernel_rfl) (by kernel_rfl)) (by kernel_rfl) (by kernel_rfl) (by kernel_rfl) (door6 os _)) ?_
  intro W base args ds gs before hval0 hW _ _ hL _
  have hval : ∀ (j : Nat) t v, Tryz.f4.params[j]? = some t → args[j]? = some v → Value.okWide Tryz.prog W .any base t v := hval0
  have hW' := hW
  obtain ⟨p, q, hA0, hV, rfl, hfz, hnd⟩ := hW
  have hA : DataW.TrodAll enc Tryz.prog W 0 (fun _ => true) true Tryz.f4.params.toList args.toList ds p := hA0
  rw [Tryz.params4] at hA hval
  obtain ⟨v0, vs0, d0, ds0, p0, q0, hargs, rfl, rfl, h0, r0⟩ := trodAll_cons hA
  obtain ⟨v1, vs1, d1, ds1, p1, q1, rfl, rfl, rfl, h1, r1⟩ := trodAll_cons r0
  obtain ⟨v2, vs2, d2, ds2, p2, q2, rfl, rfl, rfl, h2, r2⟩ := trodAll_cons r1
  obtain ⟨v3, vs3, d3, ds3, p3, q3, rfl, rfl, rfl, h3, r3⟩ := trodAll_cons r2
  obtain ⟨v4, vs4, d4, ds4, p4, q4, rfl, rfl, rfl, h4, r4⟩ := trodAll_cons r3
  obtain ⟨rfl, rfl, rfl⟩ := trodAll_nil r4
  obtain rfl : args = #[v0, v1, v2, v3, v4] := by cases args; simp_all
  obtain ⟨rfl, rfl⟩ := trodVars_none hV
  obtain ⟨laa, lan, lac, rfl⟩ := okWide_slice Tryz.underlying34 (hval 0 34 v0 rfl rfl)
  obtain ⟨lba, lbn, lbc, rfl⟩ := okWide_slice Tryz.underlying34 (hval 1 34 v1 rfl rfl)
  obtain ⟨q, rfl, rfl, rfl, w2⟩ := open_int Tryz.underlying5 (hval 2 5 v2 rfl rfl) h2
  have bq := bounds_u8 w2
  obtain ⟨q, rfl⟩ := Int.eq_ofNat_of_zero_le bq.1
  obtain ⟨kpa, kpn, kpc, rfl⟩ := okWide_slice Tryz.underlying40 (hval 3 40 v3 rfl rfl)
  obtain ⟨tn, rfl, rfl, rfl, w4⟩ := open_int Tryz.underlying62 (hval 4 62 v4 rfl rfl) h4
  have btn := bounds_i8 w4
  clear hA0 hval0
  obtain ⟨la, hla⟩ := strs_at h0
  obtain ⟨lb, hlb⟩ := strs_at h1
  obtain ⟨kp, rfl, hkp⟩ := bools_at h3
  have hlt : ∀ x ∈ p0 ++ (p1 ++ ([] ++ (p3 ++ ([] ++ [])))) ++ [], x.block < W.heap.size := fun x hx => hW'.lt x hx
  refine (compacts_any laa lan lac la lba lbn lbc lb q (by omega) kpa kpc kp tn (by omega) (by omega) W (have_of_laid hL).1 (have_of_laid hL).2 hla hlb hkp).mono fun e W' ⟨he, hk⟩ => ?_
  subst he
  have hb := hk.below (B := W.heap.size) (Nat.le_refl _) (fun x hx => by cases hx)
  have e1 : Rows.journalCompactsSpec.fn H ([d0, d1, .lit (.int .u8 (q : Int)), d3, .lit (.int .i8 tn)] ++ []) = { results := [.lit (.bool true)], args := [d0, d1, .lit (.int .u8 (q : Int)), d3, .lit (.int .i8 tn)] } := rfl
  refine ⟨_, rfl, _, _, _, [], p0 ++ (p1 ++ ([] ++ (p3 ++ ([] ++ [])))), [], hW', ?_, ?_, ?_, hb.frame _, fun h => by cases h⟩
  · rw [e1]; exact trodAll_cons_mk (shut_bool Tryz.underlying4 _) trodAll_mk0
  · rw [e1]; exact (trodAll_cons_mk (Below.trod laidOut (by kernel_rfl) (of_decide_eq_true (by kernel_rfl)) h0 hb (fun x hx => hlt x (by simp [hx]))) (trodAll_cons_mk (Below.trod laidOut (by kernel_rfl) (of_decide_eq_true (by kernel_rfl)) h1 hb (fun x hx => hlt x (by simp [hx]))) (trodAll_cons_mk (shut_int Tryz.underlying5 w2) (trodAll_cons_mk (Below.trod laidOut (by kernel_rfl) (of_decide_eq_true (by kernel_rfl)) h3 hb (fun x hx => hlt x (by simp [hx]))) (trodAll_cons_mk (shut_int Tryz.underlying62 w4) trodAll_mk0)))))
  · rw [e1]; rfl

theorem journalCompacts_row : Rows.JournalCompactsSaid :=
  OpenClaim.holds_of_wide 4 Tryz.f4 rfl rfl rfl rfl rfl rfl rfl ⟨rfl, rfl, rfl, rfl, rfl⟩ rfl rfl rfl rfl rfl (by kernel_rfl) Tryz.func4 (by kernel_rfl)
    (of_decide_eq_true (by kernel_rfl)) (by unfold Func.isWrapper; first | (rw [if_pos (by decide +kernel)]; kernel_rfl) | (rw [if_neg (by decide +kernel)]; exact ⟨rfl, rfl⟩))
    (fun os started H enc _ => journalCompacts_lifted os started H enc)

theorem journalCompacts_proved : Rows.JournalCompactsCardSaid :=
  Claim7.holds_tied_plain_at .later [] [.data, .data, .data, .data, .handle, .pinned] true (true, "08d5060e42de72fbc830f0a555fe07a99e9f5e58ea562ec7251825bdba2408d2") true
    journalCompacts_row (fun _ h => by cases h) (by kernel_rfl) (fun _ h => by cases h) journalCompacts_row_tie rfl ⟨rfl, rfl⟩ (by kernel_rfl) rfl
    (fun f fn hf hfn => by
      obtain rfl : f = 4 := Option.some.inj ((show Tryz.prog.funcNamed "vademecum/vademecumlaw4.JournalCompacts" = some 4 by kernel_rfl).symm.trans hf) |>.symm
      obtain rfl : fn = Tryz.f4 := (Option.some.inj (Tryz.func4.symm.trans hfn)).symm
      exact ⟨by kernel_rfl, fun j t ht => by
        rw [Tryz.params4] at ht
        have hm : t ∈ [34, 34, 5, 40, 62] := by simpa using Array.mem_of_getElem? ht
        have hall : ([34, 34, 5, 40, 62].all fun u => !Tryz.prog.wantsStandIn u) = true := by kernel_rfl
        exact (show Tryz.prog.wantsStandIn t = false by simpa using List.all_eq_true.1 hall t hm)⟩)
    (by kernel_rfl)
#print axioms journalCompacts_proved
end Go.Proofs.YtkkjbljhehnmjaaGreatDoor
