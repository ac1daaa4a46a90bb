/- What the rows' listed variables give a walk; the start that meets them (one table is pinned: it is laid by the kit's function). -/
import Derived.Test.YtggnljfcdohkaaaGreatDoorRows
import Derived.Test.YtggnljfcdohkaaaGreatDoorDkF
import Derived.ProofKit
import Derived.LaidMore
import Derived.OpenShut
import Derived.Stop.Joined
import Derived.Stop.LaidErr
import Derived.MakeChecks
import Derived.LaidHandle
import Derived.Lay
namespace Go.Proofs.YtggnljfcdohkaaaGreatDoor
open Go.ChangeShapes Go.WideShapes Go.ChangeAt Go.WideMaps Go.WideElems Go.RowKit

theorem own : ownKnob Tryz.prog.godebug = none := by kernel_rfl
/-- The variables that the row lists. -/
def laid6 : List (String × DataW Unit) := [("math/bits.deBruijn32tab", Rows.laid_math_bits_deBruijn32tab), ("math/bits.deBruijn64tab", Rows.laid_math_bits_deBruijn64tab), ("internal/strconv.uint64pow10", Rows.laid_internal_strconv_uint64pow10), ("unicode/utf8.acceptRanges", Rows.laid_unicode_utf8_acceptRanges), ("errors.errorType", Rows.laid_errors_errorType), ("unicode/utf8.first", Rows.laid_unicode_utf8_first)]
def laid6p : List (String × DataW Unit) := [("math/bits.deBruijn32tab", Rows.laid_math_bits_deBruijn32tab), ("math/bits.deBruijn64tab", Rows.laid_math_bits_deBruijn64tab), ("internal/strconv.uint64pow10", Rows.laid_internal_strconv_uint64pow10), ("unicode/utf8.acceptRanges", Rows.laid_unicode_utf8_acceptRanges), ("unicode/utf8.first", Rows.laid_unicode_utf8_first)]
/-- The start: what the door lays, and the tables. -/
noncomputable def wit6 (os : Os) : World := (World.doorLaid Tryz.prog 4000 os).layVars Tryz.prog laid6p
theorem wit6_os (os : Os) : (wit6 os).os = os := (World.layVars_os _ _ _).trans rfl
def names6 : List String := ["math/bits.deBruijn32tab", "math/bits.deBruijn64tab", "internal/strconv.uint64pow10", "unicode/utf8.acceptRanges", "unicode/utf8.first"]
theorem great6 : (laid6p.filter fun x => names6.contains x.1) = laid6p := by
  rw [List.filter_eq_self]
  intro x hx
  simp only [laid6p, List.mem_cons, List.mem_nil_iff, or_false] at hx
  rcases hx with rfl | rfl | rfl | rfl | rfl <;> rfl
theorem small6 : (laid6p.filter fun x => !names6.contains x.1) = [] := by
  rw [List.filter_eq_nil_iff]
  intro x hx
  simp only [laid6p, List.mem_cons, List.mem_nil_iff, or_false] at hx
  rcases hx with rfl | rfl | rfl | rfl | rfl <;> decide
theorem fits6 (os : Os) : (World.doorLaid Tryz.prog 4000 os).layFits Tryz.prog laid6p [] = true := by kernel_rfl
theorem ifaces6 (os : Os) : (World.doorLaid Tryz.prog 4000 os).layIfaces Tryz.prog laid6p (wit6 os) = true := by kernel_rfl
theorem laidMet6 (os : Os) : laidMet Tryz.prog laid6p (wit6 os) :=
  laidMet_layVars (w0 := World.doorLaid Tryz.prog 4000 os) names6 [] (by rw [great6]; rfl) (by rw [great6]; exact fits6 os) (by rw [great6]; exact ifaces6 os) (by rw [small6]; exact LaidIn.none)
theorem plain6 : (laid6.filter fun x => x.2.handleName?.isNone) = laid6p := by kernel_rfl
theorem door6 (os : Os) (args : Array Value) : laidMetH Tryz.prog laid6 ((wit6 os).forCall (fun _ _ => 0) ⟨#[], args, []⟩).memory :=
  laidMetH_of_parts (by rw [plain6]; exact (laidMet6 os).of_heap (by simp [World.memory, World.forCall, Input.heap])) (by kernel_rfl)
theorem cells20 : Tryz.prog.cellsOf 203 = 20 := by kernel_rfl
theorem cellsU64 : Tryz.prog.cellsOf 173 = 1 := by kernel_rfl
theorem pow_data : (Rows.laid_internal_strconv_uint64pow10 : DataW Unit) = Lib.tabData .u64 Lib.pow10Tab := by rfl
theorem etGlob : Tryz.prog.globalNamed "errors.errorType" = some 0 := by kernel_rfl
theorem etRtype : (Tryz.prog.cutTypes.find? (·.1 == "internal/reflectlite.rtype")).map (·.2) = some 139 := by kernel_rfl
theorem etOne : ((List.range (342 - 100)).filter fun t => Tryz.prog.rowNamed t [101, 114, 114, 111, 114]) = [30] := by kernel_rfl
theorem etSize : Tryz.prog.types.size = 342 - 100 := by kernel_rfl
theorem have_of_laid {W : World} (h : laidMetH Tryz.prog laid6 W) : 7 ≤ W.heap.size ∧ Gl W := by
  have h' : laidMet Tryz.prog laid6p W ∧ handlesMet Tryz.prog [("errors.errorType", Rows.laid_errors_errorType)] W := h
  have h2 := laidMet.tail h'.1
  have h3 := laidMet.tail h2
  have hE : EHas W := by
    obtain ⟨name, u, ty, e1, e2, e3, e4, e5⟩ := h'.2 _ (List.mem_singleton.2 rfl)
    have en : name = [101, 114, 114, 111, 114] := (Option.some.inj e1).symm
    subst en
    obtain rfl := Option.some.inj (etRtype.symm.trans e2)
    have hm : ty ∈ (List.range (342 - 100)).filter fun t => Tryz.prog.rowNamed t [101, 114, 114, 111, 114] := List.mem_filter.2 ⟨List.mem_range.2 (by rw [← etSize]; exact e3), e4⟩
    rw [etOne] at hm
    obtain rfl := List.mem_singleton.1 hm
    have hh : typeHandle Tryz.prog 30 = .pointer (some ⟨7, 30, none⟩) := by kernel_rfl
    rw [hh] at e5
    have hc : W.cell? ⟨0, 0, none⟩ = some (.iface 139 (.agg #[.pointer (some ⟨7, 30, none⟩)])) := by simpa using World.var?_cell etGlob e5 0
    refine ⟨hc, ?_⟩
    rcases Nat.lt_or_ge 0 W.heap.size with hl | hl
    · exact hl
    · simp [World.cell?, Array.getElem?_eq_none hl] at hc
  refine ⟨?_, ?_, hE⟩
  · obtain ⟨ps, ⟨g, t, cs, fuel, p, q, hg, ht, hv, _⟩, _⟩ := h2
    obtain rfl := Option.some.inj ((show Tryz.prog.globalNamed "math/bits.deBruijn64tab" = some 6 by kernel_rfl).symm.trans hg)
    unfold World.var? at hv
    rw [hg] at hv
    simp only [Option.bind_some] at hv
    rcases Nat.lt_or_ge 6 W.heap.size with hl | hl
    · exact hl
    · rw [Array.getElem?_eq_none hl] at hv
      cases hv
  · rw [pow_data] at h3
    exact Lib.tabIs_of_head globPow (by kernel_rfl : (Tryz.prog.globals[2]?).map (·.type) = some 203) Tryz.underlying203 Tryz.underlying173 cellsU64 cells20 h3
end Go.Proofs.YtggnljfcdohkaaaGreatDoor
