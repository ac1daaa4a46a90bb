/-
  The law SpineTells of layer 12 holds: for every text, every row of texts and every three numbers it returns true. No condition.
-/
import Derived.Test.YtcfhhabjiofehaaRows
import Derived.Test.YtcfhhabjiofehaaSpVt
import Derived.Test.YtcfhhabjiofehaaSpOpen
import Derived.ProofKit
import Derived.OpenShut
import Derived.Carry
import Derived.ChangeMaps5
import Derived.SizedLaws
namespace Go.Proofs.Ytcfhhabjiofehaa
open Go Go.ChangeMaps Go.ChangeShapes Go.WideShapes Go.ChangeAt Go.RowKit

theorem own_spineTells : ownKnob Try.prog.godebug = none := by kernel_rfl
set_option maxRecDepth 100000 in
theorem spineTells_lifted (os : Os) (started : os.Started) (H : Type) (enc : TypeId × Value → H) :
    ReturnsInHanded {} Try.checked os 3 .any (Rows.spineTellsSpec.pre6 enc Try.prog Try.f3 Rows.spineTellsRow.domain false) (Rows.spineTellsSpec.post enc Try.prog Try.f3 false true false false) := by
  refine returnsInHanded_of_change_sized (C := Try.checked) own_spineTells started (by kernel_rfl) Try.func3
    (ChangeSpec.witness6 (enc := enc) (C := Try.checked) false ⟨#[], #[.string ⟨#[]⟩, .slice none 0 0, .int .u8 0, .int .u8 0, .int .u8 0], []⟩ 8 (by kernel_rfl) (by kernel_rfl) (by kernel_rfl) (by kernel_rfl)) ?_
  intro W base args ds gs before hval0 hW _ hreach _
  have hval : ∀ (j : Nat) t v, Try.f3.params[j]? = some t → args[j]? = some v → Value.okWide Try.prog W .any base t v := hval0
  have hW' := hW
  obtain ⟨p, q, hA0, hV, rfl, hfz, hnd⟩ := hW
  have hA : DataW.TrodAll enc Try.prog W 0 (fun _ => true) true Try.f3.params.toList args.toList ds p := hA0
  rw [Try.params3] at hA hval hreach
  obtain ⟨v0, vs0, d0, ds0, p0, q0, hargs, rfl, rfl, h0, r0⟩ := trodAll_cons hA
  obtain ⟨v1, vs1, d1, ds1, p1, q1, rfl, rfl, rfl, h1, r1⟩ := trodAll_cons r0
  obtain ⟨v2, vs2, d2, ds2, p2, q2, rfl, rfl, rfl, h2, r2⟩ := trodAll_cons r1
  obtain ⟨v3, vs3, d3, ds3, p3, q3, rfl, rfl, rfl, h3, r3⟩ := trodAll_cons r2
  obtain ⟨v4, vs4, d4, ds4, p4, q4, rfl, rfl, rfl, h4, r4⟩ := trodAll_cons r3
  obtain ⟨rfl, rfl, rfl⟩ := trodAll_nil r4
  obtain rfl : args = #[v0, v1, v2, v3, v4] := by cases args; simp_all
  obtain ⟨rfl, rfl⟩ := trodVars_none hV
  obtain ⟨s, rfl, rfl, rfl, zs⟩ := open_string Try.underlying9 (hval 0 9 v0 rfl rfl) h0
  obtain ⟨la, ln, lc, rfl⟩ := okWide_slice Try.underlying22 (hval 1 22 v1 rfl rfl)
  obtain ⟨i, rfl, rfl, rfl, w2⟩ := open_int Try.underlying5 (hval 2 5 v2 rfl rfl) h2
  have bi := bounds_u8 w2
  obtain ⟨i, rfl⟩ := Int.eq_ofNat_of_zero_le bi.1
  obtain ⟨j, rfl, rfl, rfl, w3⟩ := open_int Try.underlying5 (hval 3 5 v3 rfl rfl) h3
  have bj := bounds_u8 w3
  obtain ⟨j, rfl⟩ := Int.eq_ofNat_of_zero_le bj.1
  obtain ⟨k, rfl, rfl, rfl, w4⟩ := open_int Try.underlying5 (hval 4 5 v4 rfl rfl) h4
  have bk := bounds_u8 w4
  obtain ⟨k, rfl⟩ := Int.eq_ofNat_of_zero_le bk.1
  clear hA0 hval0
  have hz := hreach
  simp [DataW.weightsEach, DataW.weights] at hz
  obtain ⟨hz0, HZL⟩ := hz
  obtain ⟨sx, hl, hl2, hl3⟩ := strs_at3 h1 HZL
  have hlt : ∀ x ∈ [] ++ (p1 ++ ([] ++ ([] ++ ([] ++ [])))) ++ [], x.block < W.heap.size := fun x hx => hW'.lt x hx
  refine (tells_any s la ln lc sx i j k (by omega) (by omega) (by omega) (Nat.le_trans hz0 (by decide)) hl3 hl2 W hl).mono fun e W' ⟨he, hkp⟩ => ?_
  subst he
  have hb := hkp.below (B := W.heap.size) (Nat.le_refl _) (fun x hx => by cases hx)
  have e1 : Rows.spineTellsSpec.fn H ([.lit (.string s.data.toList), d1, .lit (.int .u8 (i : Int)), .lit (.int .u8 (j : Int)), .lit (.int .u8 (k : Int))] ++ []) = { results := [.lit (.bool true)], args := [.lit (.string s.data.toList), d1, .lit (.int .u8 (i : Int)), .lit (.int .u8 (j : Int)), .lit (.int .u8 (k : Int))] } := rfl
  refine ⟨_, rfl, _, _, _, [], [] ++ (p1 ++ ([] ++ ([] ++ ([] ++ [])))), [], hW', ?_, ?_, ?_, hb.frame _, fun h => by cases h⟩
  · rw [e1]; exact trodAll_cons_mk (shut_bool Try.underlying4 _) trodAll_mk0
  · rw [e1]; exact (trodAll_cons_mk (shut_string Try.underlying9 zs) (trodAll_cons_mk (Below.trod laidOut (by kernel_rfl) (of_decide_eq_true (by kernel_rfl)) h1 hb (fun x hx => hlt x (by simp [hx]))) (trodAll_cons_mk (shut_int Try.underlying5 w2) (trodAll_cons_mk (shut_int Try.underlying5 w3) (trodAll_cons_mk (shut_int Try.underlying5 w4) trodAll_mk0)))))
  · rw [e1]; rfl

theorem spineTells_proved : Rows.SpineTellsSaid :=
  OpenClaim.holds_of_wide 3 Try.f3 rfl rfl rfl rfl rfl rfl rfl ⟨rfl, rfl, rfl, rfl, rfl⟩ rfl rfl rfl rfl rfl (by kernel_rfl) Try.func3 (by kernel_rfl)
    (of_decide_eq_true (by kernel_rfl)) (by unfold Func.isWrapper; first | (rw [if_pos (by decide +kernel)]; kernel_rfl) | (rw [if_neg (by decide +kernel)]; exact ⟨rfl, rfl⟩))
    (fun os started H enc _ => spineTells_lifted os started H enc)
#print axioms spineTells_proved
end Go.Proofs.Ytcfhhabjiofehaa
