/- errors.Is between an error of package frame (round one of package pack, or round a number) and a number: by Go's own text. -/
import Derived.Test.YtmeidihbglljiaaDoorPkE
namespace Go.Proofs.YtmeidihbglljiaaDoor
open Go.RowKit Go.Extern.Stop Go.Stop Go.Extern

theorem noIsF (v : Value) (xT : TypeId) (w : World) : (Instr.typeAssert (.iface 58 v) xT 77 true).run Tryd.prog w = .ok (.tuple #[.nilIface, .bool false]) w := run_typeAssert_lacksB Tryd.underlying77 (by kernel_rfl) (by kernel_rfl) v xT w
theorem hasUnwrapF (v : Value) (xT : TypeId) (w : World) : (Instr.typeAssert (.iface 58 v) xT 80 true).run Tryd.prog w = .ok (.tuple #[.iface 58 v, .bool true]) w := run_typeAssert_hasB Tryd.underlying80 (by kernel_rfl) v xT w
theorem methodUnwrapF (v : Value) (w : World) : (Go.method 221 58 v "Unwrap").run Tryd.prog w = .ok (58, v) w := by kernel_rfl

/-- errors.Is(a number, that number). -/
theorem is_num_yes (c : Int) (w : World) :
    Calls Tryd.prog 15 #[.iface 38 (.int .i64 c), .iface 38 (.int .i64 c)] w fun e w' => e = .returned (.bool true) ∧ Kp [] w w' := by
  have h8 := @run_callFunc_extern Tryd.prog 25 _ Extern.ReflectliteType.typeOf Tryd.func25 (by kernel_rfl) (by kernel_rfl) (by kernel_rfl) (by kernel_rfl)
  have tT := isTypeOf
  have cT := isComparable
  have mR := isMethodComparable
  have hsame : ∀ w, (binOp .eql 24 (.iface 38 (.int .i64 c)) (.iface 38 (.int .i64 c))).run Tryd.prog w = .ok (.bool true) w := fun w => by
    have := Lib.run_eql_iface_int (P := Tryd.prog) w (k := .i64) c c Tryd.underlying24 compErrno Tryd.underlying38
    simpa using this
  go_enter Tryd.func15, Tryd.ntmps15
  go_wp2
  refine wp_loop_rounds 1 ?_
  rw [rounds_succ]
  go_wp2
  go_ret
  exact ⟨rfl, Kp.refl [] w⟩
/-- errors.Is(an error of package frame round a number, that number). -/
theorem is_fr1_yes (s : ByteArray) (c : Int) (w : World) :
    Calls Tryd.prog 15 #[.iface 58 (.agg #[.string s, .iface 38 (.int .i64 c)]), .iface 38 (.int .i64 c)] w fun e w' => e = .returned (.bool true) ∧ Kp [] w w' := by
  have h8 := @run_callFunc_extern Tryd.prog 25 _ Extern.ReflectliteType.typeOf Tryd.func25 (by kernel_rfl) (by kernel_rfl) (by kernel_rfl) (by kernel_rfl)
  have tT := isTypeOf
  have cT := isComparable
  have mR := isMethodComparable
  have nR := noIsF
  have uR := hasUnwrapF
  have mU := methodUnwrapF
  have hty := run_eql_iface_types (P := Tryd.prog) 58 38 (.agg #[.string s, .iface 38 (.int .i64 c)]) (.int .i64 c) Tryd.underlying24 (by decide)
  have hsame : ∀ w, (binOp .eql 24 (.iface 38 (.int .i64 c)) (.iface 38 (.int .i64 c))).run Tryd.prog w = .ok (.bool true) w := fun w => by
    have := Lib.run_eql_iface_int (P := Tryd.prog) w (k := .i64) c c Tryd.underlying24 compErrno Tryd.underlying38
    simpa using this
  go_enter Tryd.func15, Tryd.ntmps15
  go_wp2
  refine wp_loop_rounds 2 ?_
  rw [rounds_succ]
  go_wp2
  rw [rounds_succ]
  go_wp2
  go_ret
  exact ⟨rfl, (Kp.refl [] w).alloc _⟩
/-- errors.Is(an error of package frame round one of package pack, a number): that number. -/
theorem is_fr2_yes (s of : ByteArray) (n c : Int) (w : World) :
    Calls Tryd.prog 15 #[.iface 58 (.agg #[.string s, .iface 86 (.agg #[.string of, .int .i64 n, .int .i64 c])]), .iface 38 (.int .i64 c)] w fun e w' => e = .returned (.bool true) ∧ Kp [] w w' := by
  have h8 := @run_callFunc_extern Tryd.prog 25 _ Extern.ReflectliteType.typeOf Tryd.func25 (by kernel_rfl) (by kernel_rfl) (by kernel_rfl) (by kernel_rfl)
  have tT := isTypeOf
  have cT := isComparable
  have mR := isMethodComparable
  have nR := noIsF
  have uR := hasUnwrapF
  have mU := methodUnwrapF
  have nP := noIsR
  have uP := hasUnwrapR
  have mP := methodUnwrapR
  have hty := run_eql_iface_types (P := Tryd.prog) 58 38 (.agg #[.string s, .iface 86 (.agg #[.string of, .int .i64 n, .int .i64 c])]) (.int .i64 c) Tryd.underlying24 (by decide)
  have htz := run_eql_iface_types (P := Tryd.prog) 86 38 (.agg #[.string of, .int .i64 n, .int .i64 c]) (.int .i64 c) Tryd.underlying24 (by decide)
  have hsame : ∀ w, (binOp .eql 24 (.iface 38 (.int .i64 c)) (.iface 38 (.int .i64 c))).run Tryd.prog w = .ok (.bool true) w := fun w => by
    have := Lib.run_eql_iface_int (P := Tryd.prog) w (k := .i64) c c Tryd.underlying24 compErrno Tryd.underlying38
    simpa using this
  go_enter Tryd.func15, Tryd.ntmps15
  go_wp2
  refine wp_loop_rounds 3 ?_
  rw [rounds_succ]
  go_wp2
  rw [rounds_succ]
  go_wp2
  rw [rounds_succ]
  go_wp2
  go_ret
  exact ⟨rfl, ((Kp.refl [] w).alloc _).alloc _⟩
end Go.Proofs.YtmeidihbglljiaaDoor
