/- errors.Is at any error of package journal and its number: by Go's own text. (Made by wip/tools/genis.py's gen.) -/
import Derived.Test.YtblchlgoejmnmaaGreatDoorJnH
namespace Go.Proofs.YtblchlgoejmnmaaGreatDoor
open Go.RowKit Go.Extern.Stop Go.Stop Go.Extern
namespace JnE
set_option maxHeartbeats 1600000 in
set_option maxRecDepth 20000 in
theorem is_jdr_yes (call : ByteArray) (t : ByteArray) (c : Int) (w : World) :
    Calls Tryz.prog 34 #[.iface 80 (.agg #[.string call, .iface 132 (.agg #[.iface 142 (.agg #[.string t, .int .i64 c])])]), .iface 70 (.int .i64 c)] w fun e w' => e = .returned (.bool true) ∧ Kp [] w w' := by
  have h8 := @run_callFunc_extern Tryz.prog 61 _ Extern.ReflectliteType.typeOf Tryz.func61 (by kernel_rfl) (by kernel_rfl) (by kernel_rfl) (by kernel_rfl)
  have tT := isTypeOf
  have cT := isComparable
  have mR := isMethodComparable
  have nJ := noIsJ
  have uJ := hasUnwrapJ
  have mJ := methodUnwrapJ
  have hty0 := run_eql_iface_types (P := Tryz.prog) 80 70 (.agg #[.string call, .iface 132 (.agg #[.iface 142 (.agg #[.string t, .int .i64 c])])]) (.int .i64 c) Tryz.underlying30 (by decide)
  have nD := noIsD
  have uD := hasUnwrapD
  have mD := methodUnwrapD
  have hty1 := run_eql_iface_types (P := Tryz.prog) 132 70 (.agg #[.iface 142 (.agg #[.string t, .int .i64 c])]) (.int .i64 c) Tryz.underlying30 (by decide)
  have nR := noIsR
  have uR := hasUnwrapR
  have mR := methodUnwrapR
  have hty2 := run_eql_iface_types (P := Tryz.prog) 142 70 (.agg #[.string t, .int .i64 c]) (.int .i64 c) Tryz.underlying30 (by decide)
  have hsame : ∀ w, (binOp .eql 30 (.iface 70 (.int .i64 c)) (.iface 70 (.int .i64 c))).run Tryz.prog w = .ok (.bool true) w := fun w => by
    have := Lib.run_eql_iface_int (P := Tryz.prog) w (k := .i64) c c Tryz.underlying30 compErrno Tryz.underlying70
    simpa using this
  go_enter Tryz.func34, Tryz.ntmps34
  go_wp2
  refine wp_loop_rounds 4 ?_
  rw [rounds_succ]
  go_wp2
  rw [rounds_succ]
  go_wp2
  rw [rounds_succ]
  go_wp2
  rw [rounds_succ]
  go_wp2
  go_ret
  exact ⟨rfl, ((((Kp.refl [] w).alloc _).alloc _).alloc _)⟩
end JnE
theorem is_jerr {c : Int} {v : Value} (h : JErr c v) (w : World) :
    Calls Tryz.prog 34 #[v, .iface 70 (.int .i64 c)] w fun e w' => e = .returned (.bool true) ∧ Kp [] w w' := by
  obtain ⟨call, x, rfl, rfl | ⟨t, rfl⟩⟩ := h
  · exact JnE.is_j_yes call c w
  · exact JnE.is_jdr_yes call t c w
end Go.Proofs.YtblchlgoejmnmaaGreatDoor
