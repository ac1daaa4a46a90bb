/- What the rows' listed variables give a walk; the start that meets them (one table is pinned: it is laid by the kit's function). -/
import Derived.Test.YtmhnjgnljfkdcaaDoorRows
import Derived.Test.YtmhnjgnljfkdcaaDoorLxI
import Derived.ProofKit
import Derived.LaidMore
import Derived.OpenShut
import Derived.Stop.Joined
import Derived.Stop.LaidErr
import Derived.MakeChecks
import Derived.LaidHandle
import Derived.Lay
namespace Go.Proofs.YtmhnjgnljfkdcaaDoor
open Go.ChangeShapes Go.WideShapes Go.ChangeAt Go.WideMaps Go.WideElems Go.RowKit

theorem own : ownKnob Tryd.prog.godebug = none := by kernel_rfl
/-- The variables that LexTells' row lists; those of the others. -/
def laid3 : List (String × DataW Unit) := [("unicode/utf8.acceptRanges", Rows.laid_unicode_utf8_acceptRanges), ("errors.errorType", Rows.laid_errors_errorType), ("unicode/utf8.first", Rows.laid_unicode_utf8_first)]
def laid2 : List (String × DataW Unit) := [("unicode/utf8.acceptRanges", Rows.laid_unicode_utf8_acceptRanges), ("unicode/utf8.first", Rows.laid_unicode_utf8_first)]
/-- The start: what the door lays, and the tables. -/
noncomputable def wit2 (os : Os) : World := (World.doorLaid Tryd.prog 4000 os).layVars Tryd.prog laid2
theorem wit2_os (os : Os) : (wit2 os).os = os := (World.layVars_os _ _ _).trans rfl
def names2 : List String := ["unicode/utf8.acceptRanges", "unicode/utf8.first"]
theorem great2 : (laid2.filter fun x => names2.contains x.1) = laid2 := by
  rw [List.filter_eq_self]
  intro x hx
  simp only [laid2, List.mem_cons, List.mem_nil_iff, or_false] at hx
  rcases hx with rfl | rfl <;> rfl
theorem small2 : (laid2.filter fun x => !names2.contains x.1) = [] := by
  rw [List.filter_eq_nil_iff]
  intro x hx
  simp only [laid2, List.mem_cons, List.mem_nil_iff, or_false] at hx
  rcases hx with rfl | rfl <;> decide
theorem fits2w (os : Os) : (World.doorLaid Tryd.prog 4000 os).layFits Tryd.prog laid2 [] = true := by kernel_rfl
theorem ifaces2 (os : Os) : (World.doorLaid Tryd.prog 4000 os).layIfaces Tryd.prog laid2 (wit2 os) = true := by kernel_rfl
theorem laidMet2 (os : Os) : laidMet Tryd.prog laid2 (wit2 os) :=
  laidMet_layVars (w0 := World.doorLaid Tryd.prog 4000 os) names2 [] (by rw [great2]; rfl) (by rw [great2]; exact fits2w os) (by rw [great2]; exact ifaces2 os) (by rw [small2]; exact LaidIn.none)
theorem plain3 : (laid3.filter fun x => x.2.handleName?.isNone) = laid2 := by kernel_rfl
theorem plain2 : (laid2.filter fun x => x.2.handleName?.isNone) = laid2 := by kernel_rfl
theorem door3 (os : Os) (args : Array Value) : laidMetH Tryd.prog laid3 ((wit2 os).forCall (fun _ _ => 0) ⟨#[], args, []⟩).memory :=
  laidMetH_of_parts (by rw [plain3]; exact (laidMet2 os).of_heap (by simp [World.memory, World.forCall, Input.heap])) (by kernel_rfl)
theorem door2 (os : Os) (args : Array Value) : laidMetH Tryd.prog laid2 ((wit2 os).forCall (fun _ _ => 0) ⟨#[], args, []⟩).memory :=
  laidMetH_of_parts (by rw [plain2]; exact (laidMet2 os).of_heap (by simp [World.memory, World.forCall, Input.heap])) (by kernel_rfl)
theorem etGlob : Tryd.prog.globalNamed "errors.errorType" = some 0 := by kernel_rfl
theorem etRtype : (Tryd.prog.cutTypes.find? (·.1 == "internal/reflectlite.rtype")).map (·.2) = some 70 := by kernel_rfl
theorem etOne : ((List.range (229 - 100)).filter fun t => Tryd.prog.rowNamed t [101, 114, 114, 111, 114]) = [25] := by kernel_rfl
theorem etSize : Tryd.prog.types.size = 229 - 100 := by kernel_rfl
theorem ehas_of_laid {W : World} (h : laidMetH Tryd.prog laid3 W) : EHas W := by
  have h' : laidMet Tryd.prog laid2 W ∧ handlesMet Tryd.prog [("errors.errorType", Rows.laid_errors_errorType)] W := h
  obtain ⟨name, u, ty, e1, e2, e3, e4, e5⟩ := h'.2 _ (List.mem_singleton.2 rfl)
  have en : name = [101, 114, 114, 111, 114] := (Option.some.inj e1).symm
  subst en
  obtain rfl := Option.some.inj (etRtype.symm.trans e2)
  have hm : ty ∈ (List.range (229 - 100)).filter fun t => Tryd.prog.rowNamed t [101, 114, 114, 111, 114] := List.mem_filter.2 ⟨List.mem_range.2 (by rw [← etSize]; exact e3), e4⟩
  rw [etOne] at hm
  obtain rfl := List.mem_singleton.1 hm
  have hh : typeHandle Tryd.prog 25 = .pointer (some ⟨4, 25, none⟩) := by kernel_rfl
  rw [hh] at e5
  have hc : W.cell? ⟨0, 0, none⟩ = some (.iface 70 (.agg #[.pointer (some ⟨4, 25, none⟩)])) := by simpa using World.var?_cell etGlob e5 0
  refine ⟨hc, ?_⟩
  rcases Nat.lt_or_ge 0 W.heap.size with hl | hl
  · exact hl
  · simp [World.cell?, Array.getElem?_eq_none hl] at hc
end Go.Proofs.YtmhnjgnljfkdcaaDoor
