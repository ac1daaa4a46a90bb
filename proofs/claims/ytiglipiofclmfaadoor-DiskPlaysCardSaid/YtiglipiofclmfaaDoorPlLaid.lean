/- What the row's listed variables give the walk of DiskPlays; the start that meets them. -/
import Derived.Test.YtiglipiofclmfaaDoorRows
import Derived.Test.YtiglipiofclmfaaDoorDmAs
import Derived.ProofKit
import Derived.LaidMore
import Derived.OpenShut
import Derived.Stop.Joined
import Derived.Stop.LaidErr
import Derived.MakeChecks
import Derived.LaidHandle
namespace Go.Proofs.YtiglipiofclmfaaDoor
open Go.ChangeShapes Go.WideShapes Go.ChangeAt Go.WideMaps Go.WideElems Go.RowKit

theorem own : ownKnob Tryd.prog.godebug = none := by kernel_rfl
/-- The variables that the row lists. -/
def laid4 : List (String × DataW Unit) := [("math/bits.deBruijn32tab", Rows.laid_math_bits_deBruijn32tab), ("math/bits.deBruijn64tab", Rows.laid_math_bits_deBruijn64tab), ("internal/strconv.uint64pow10", Rows.laid_internal_strconv_uint64pow10), ("errors.errorType", Rows.laid_errors_errorType)]
def laid4p : List (String × DataW Unit) := [("math/bits.deBruijn32tab", Rows.laid_math_bits_deBruijn32tab), ("math/bits.deBruijn64tab", Rows.laid_math_bits_deBruijn64tab), ("internal/strconv.uint64pow10", Rows.laid_internal_strconv_uint64pow10)]
theorem door4 (os : Os) (args : Array Value) : laidMetH Tryd.prog laid4 ((World.doorLaid Tryd.prog 4000 os).forCall (fun _ _ => 0) ⟨#[], args, []⟩).memory :=
  laidMetH_of_parts3 (fuel := 8) (laidMet_of_run' 8 (by kernel_rfl) (by kernel_rfl)) (by kernel_rfl) (by kernel_rfl)
theorem cells20 : Tryd.prog.cellsOf 108 = 20 := by kernel_rfl
theorem cellsU64 : Tryd.prog.cellsOf 101 = 1 := by kernel_rfl
theorem pow_data : (Rows.laid_internal_strconv_uint64pow10 : DataW Unit) = Lib.tabData .u64 Lib.pow10Tab := by rfl
theorem etGlob : Tryd.prog.globalNamed "errors.errorType" = some 0 := by kernel_rfl
theorem etRtype : (Tryd.prog.cutTypes.find? (·.1 == "internal/reflectlite.rtype")).map (·.2) = some 84 := by kernel_rfl
theorem etOne : ((List.range (244 - 100)).filter fun t => Tryd.prog.rowNamed t [101, 114, 114, 111, 114]) = [33] := by kernel_rfl
theorem etSize : Tryd.prog.types.size = 244 - 100 := by kernel_rfl
theorem have_of_laid {W : World} (h : laidMetH Tryd.prog laid4 W) : Tab W ∧ 4 ≤ W.heap.size ∧ EHas W := by
  have h' : laidMet Tryd.prog laid4p W ∧ handlesMet Tryd.prog [("errors.errorType", Rows.laid_errors_errorType)] W := h
  have h2 := laidMet.tail h'.1
  have h3 := laidMet.tail h2
  have hE : EHas W := by
    obtain ⟨name, u, ty, e1, e2, e3, e4, e5⟩ := h'.2 _ (List.mem_singleton.2 rfl)
    have en : name = [101, 114, 114, 111, 114] := (Option.some.inj e1).symm
    subst en
    obtain rfl := Option.some.inj (etRtype.symm.trans e2)
    have hm : ty ∈ (List.range (244 - 100)).filter fun t => Tryd.prog.rowNamed t [101, 114, 114, 111, 114] := List.mem_filter.2 ⟨List.mem_range.2 (by rw [← etSize]; exact e3), e4⟩
    rw [etOne] at hm
    obtain rfl := List.mem_singleton.1 hm
    have hh : typeHandle Tryd.prog 33 = .pointer (some ⟨4, 33, none⟩) := by kernel_rfl
    rw [hh] at e5
    have hc : W.cell? ⟨0, 0, none⟩ = some (.iface 84 (.agg #[.pointer (some ⟨4, 33, none⟩)])) := by simpa using World.var?_cell etGlob e5 0
    refine ⟨hc, ?_⟩
    rcases Nat.lt_or_ge 0 W.heap.size with hl | hl
    · exact hl
    · simp [World.cell?, Array.getElem?_eq_none hl] at hc
  refine ⟨?_, ?_, hE⟩
  · rw [pow_data] at h3
    exact Lib.tabIs_of_head globPow (by kernel_rfl : (Tryd.prog.globals[1]?).map (·.type) = some 108) Tryd.underlying108 Tryd.underlying101 cellsU64 cells20 h3
  · obtain ⟨ps, ⟨g, t, cs, fuel, p, q, hg, ht, hv, _⟩, _⟩ := h2
    obtain rfl := Option.some.inj ((show Tryd.prog.globalNamed "math/bits.deBruijn64tab" = some 3 by kernel_rfl).symm.trans hg)
    unfold World.var? at hv
    rw [hg] at hv
    simp only [Option.bind_some] at hv
    rcases Nat.lt_or_ge 3 W.heap.size with hl | hl
    · exact hl
    · rw [Array.getElem?_eq_none hl] at hv
      cases hv
end Go.Proofs.YtiglipiofclmfaaDoor
