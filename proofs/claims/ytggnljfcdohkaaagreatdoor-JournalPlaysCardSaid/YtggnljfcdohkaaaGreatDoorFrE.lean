/- errors.Is between an error of package frame (round one of package pack, or round a number) and a number: by Go's own text. -/
import Derived.Test.YtggnljfcdohkaaaGreatDoorPkE
namespace Go.Proofs.YtggnljfcdohkaaaGreatDoor
open Go.RowKit Go.Extern.Stop Go.Stop Go.Extern

theorem noIsF (v : Value) (xT : TypeId) (w : World) : (Instr.typeAssert (.iface 188 v) xT 141 true).run Tryz.prog w = .ok (.tuple #[.nilIface, .bool false]) w := run_typeAssert_lacksB Tryz.underlying141 (by kernel_rfl) (by kernel_rfl) v xT w
theorem hasUnwrapF (v : Value) (xT : TypeId) (w : World) : (Instr.typeAssert (.iface 188 v) xT 144 true).run Tryz.prog w = .ok (.tuple #[.iface 188 v, .bool true]) w := run_typeAssert_hasB Tryz.underlying144 (by kernel_rfl) v xT w
theorem methodUnwrapF (v : Value) (w : World) : (Go.method 342 188 v "Unwrap").run Tryz.prog w = .ok (192, v) w := by kernel_rfl

/-- errors.Is(a number, that number). -/
theorem is_num_yes (c : Int) (w : World) :
    Calls Tryz.prog 27 #[.iface 63 (.int .i64 c), .iface 63 (.int .i64 c)] w fun e w' => e = .returned (.bool true) ∧ Kp [] w w' := by
  have h8 := @run_callFunc_extern Tryz.prog 53 _ Extern.ReflectliteType.typeOf Tryz.func53 (by kernel_rfl) (by kernel_rfl) (by kernel_rfl) (by kernel_rfl)
  have tT := isTypeOf
  have cT := isComparable
  have mR := isMethodComparable
  have hsame : ∀ w, (binOp .eql 30 (.iface 63 (.int .i64 c)) (.iface 63 (.int .i64 c))).run Tryz.prog w = .ok (.bool true) w := fun w => by
    have := Lib.run_eql_iface_int (P := Tryz.prog) w (k := .i64) c c Tryz.underlying30 compErrno Tryz.underlying63
    simpa using this
  go_enter Tryz.func27, Tryz.ntmps27
  go_wp2
  refine wp_loop_rounds 1 ?_
  rw [rounds_succ]
  go_wp2
  go_ret
  exact ⟨rfl, Kp.refl [] w⟩
/-- errors.Is(an error of package frame round a number, that number). -/
theorem is_fr1_yes (s : ByteArray) (c : Int) (w : World) :
    Calls Tryz.prog 27 #[.iface 188 (.agg #[.string s, .iface 63 (.int .i64 c)]), .iface 63 (.int .i64 c)] w fun e w' => e = .returned (.bool true) ∧ Kp [] w w' := by
  have h8 := @run_callFunc_extern Tryz.prog 53 _ Extern.ReflectliteType.typeOf Tryz.func53 (by kernel_rfl) (by kernel_rfl) (by kernel_rfl) (by kernel_rfl)
  have tT := isTypeOf
  have cT := isComparable
  have mR := isMethodComparable
  have nR := noIsF
  have uR := hasUnwrapF
  have mU := methodUnwrapF
  have hty := run_eql_iface_types (P := Tryz.prog) 188 63 (.agg #[.string s, .iface 63 (.int .i64 c)]) (.int .i64 c) Tryz.underlying30 (by decide)
  have hsame : ∀ w, (binOp .eql 30 (.iface 63 (.int .i64 c)) (.iface 63 (.int .i64 c))).run Tryz.prog w = .ok (.bool true) w := fun w => by
    have := Lib.run_eql_iface_int (P := Tryz.prog) w (k := .i64) c c Tryz.underlying30 compErrno Tryz.underlying63
    simpa using this
  go_enter Tryz.func27, Tryz.ntmps27
  go_wp2
  refine wp_loop_rounds 2 ?_
  rw [rounds_succ]
  go_wp2
  rw [rounds_succ]
  go_wp2
  go_ret
  exact ⟨rfl, (Kp.refl [] w).alloc _⟩
/-- errors.Is(an error of package frame round one of package pack, a number): that number. -/
theorem is_fr2_yes (s of : ByteArray) (n c : Int) (w : World) :
    Calls Tryz.prog 27 #[.iface 188 (.agg #[.string s, .iface 186 (.agg #[.string of, .int .i64 n, .int .i64 c])]), .iface 63 (.int .i64 c)] w fun e w' => e = .returned (.bool true) ∧ Kp [] w w' := by
  have h8 := @run_callFunc_extern Tryz.prog 53 _ Extern.ReflectliteType.typeOf Tryz.func53 (by kernel_rfl) (by kernel_rfl) (by kernel_rfl) (by kernel_rfl)
  have tT := isTypeOf
  have cT := isComparable
  have mR := isMethodComparable
  have nR := noIsF
  have uR := hasUnwrapF
  have mU := methodUnwrapF
  have nP := noIsR
  have uP := hasUnwrapR
  have mP := methodUnwrapR
  have hty := run_eql_iface_types (P := Tryz.prog) 188 63 (.agg #[.string s, .iface 186 (.agg #[.string of, .int .i64 n, .int .i64 c])]) (.int .i64 c) Tryz.underlying30 (by decide)
  have htz := run_eql_iface_types (P := Tryz.prog) 186 63 (.agg #[.string of, .int .i64 n, .int .i64 c]) (.int .i64 c) Tryz.underlying30 (by decide)
  have hsame : ∀ w, (binOp .eql 30 (.iface 63 (.int .i64 c)) (.iface 63 (.int .i64 c))).run Tryz.prog w = .ok (.bool true) w := fun w => by
    have := Lib.run_eql_iface_int (P := Tryz.prog) w (k := .i64) c c Tryz.underlying30 compErrno Tryz.underlying63
    simpa using this
  go_enter Tryz.func27, Tryz.ntmps27
  go_wp2
  refine wp_loop_rounds 3 ?_
  rw [rounds_succ]
  go_wp2
  rw [rounds_succ]
  go_wp2
  rw [rounds_succ]
  go_wp2
  go_ret
  exact ⟨rfl, ((Kp.refl [] w).alloc _).alloc _⟩
end Go.Proofs.YtggnljfcdohkaaaGreatDoor
