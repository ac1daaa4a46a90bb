/- errors.Is at the errors of package journal and at those that it wraps: by Go's own text. (Made by wip/tools/genis.py.) -/
import Derived.Test.YtggnljfcdohkaaaGreatDoorFrE
import Derived.Test.YtggnljfcdohkaaaGreatDoorJnU
namespace Go.Proofs.YtggnljfcdohkaaaGreatDoor
open Go.RowKit Go.Extern.Stop Go.Stop Go.Extern
namespace JnE

theorem noIsP (v : Value) (xT : TypeId) (w : World) : (Instr.typeAssert (.iface 186 v) xT 141 true).run Tryz.prog w = .ok (.tuple #[.nilIface, .bool false]) w := run_typeAssert_lacksB Tryz.underlying141 (by kernel_rfl) (by kernel_rfl) v xT w
theorem hasUnwrapP (v : Value) (xT : TypeId) (w : World) : (Instr.typeAssert (.iface 186 v) xT 144 true).run Tryz.prog w = .ok (.tuple #[.iface 186 v, .bool true]) w := run_typeAssert_hasB Tryz.underlying144 (by kernel_rfl) v xT w
theorem methodUnwrapP (v : Value) (w : World) : (Go.method 342 186 v "Unwrap").run Tryz.prog w = .ok (190, v) w := by kernel_rfl
theorem noIsF (v : Value) (xT : TypeId) (w : World) : (Instr.typeAssert (.iface 188 v) xT 141 true).run Tryz.prog w = .ok (.tuple #[.nilIface, .bool false]) w := run_typeAssert_lacksB Tryz.underlying141 (by kernel_rfl) (by kernel_rfl) v xT w
theorem hasUnwrapF (v : Value) (xT : TypeId) (w : World) : (Instr.typeAssert (.iface 188 v) xT 144 true).run Tryz.prog w = .ok (.tuple #[.iface 188 v, .bool true]) w := run_typeAssert_hasB Tryz.underlying144 (by kernel_rfl) v xT w
theorem methodUnwrapF (v : Value) (w : World) : (Go.method 342 188 v "Unwrap").run Tryz.prog w = .ok (192, v) w := by kernel_rfl
theorem noIsD (v : Value) (xT : TypeId) (w : World) : (Instr.typeAssert (.iface 124 v) xT 141 true).run Tryz.prog w = .ok (.tuple #[.nilIface, .bool false]) w := run_typeAssert_lacksB Tryz.underlying141 (by kernel_rfl) (by kernel_rfl) v xT w
theorem hasUnwrapD (v : Value) (xT : TypeId) (w : World) : (Instr.typeAssert (.iface 124 v) xT 144 true).run Tryz.prog w = .ok (.tuple #[.iface 124 v, .bool true]) w := run_typeAssert_hasB Tryz.underlying144 (by kernel_rfl) v xT w
theorem methodUnwrapD (v : Value) (w : World) : (Go.method 342 124 v "Unwrap").run Tryz.prog w = .ok (174, v) w := by kernel_rfl
theorem noIsJ (v : Value) (xT : TypeId) (w : World) : (Instr.typeAssert (.iface 72 v) xT 141 true).run Tryz.prog w = .ok (.tuple #[.nilIface, .bool false]) w := run_typeAssert_lacksB Tryz.underlying141 (by kernel_rfl) (by kernel_rfl) v xT w
theorem hasUnwrapJ (v : Value) (xT : TypeId) (w : World) : (Instr.typeAssert (.iface 72 v) xT 144 true).run Tryz.prog w = .ok (.tuple #[.iface 72 v, .bool true]) w := run_typeAssert_hasB Tryz.underlying144 (by kernel_rfl) v xT w
theorem methodUnwrapJ (v : Value) (w : World) : (Go.method 342 72 v "Unwrap").run Tryz.prog w = .ok (169, v) w := by kernel_rfl
theorem noIsR (v : Value) (xT : TypeId) (w : World) : (Instr.typeAssert (.iface 134 v) xT 141 true).run Tryz.prog w = .ok (.tuple #[.nilIface, .bool false]) w := run_typeAssert_lacksB Tryz.underlying141 (by kernel_rfl) (by kernel_rfl) v xT w
theorem hasUnwrapR (v : Value) (xT : TypeId) (w : World) : (Instr.typeAssert (.iface 134 v) xT 144 true).run Tryz.prog w = .ok (.tuple #[.iface 134 v, .bool true]) w := run_typeAssert_hasB Tryz.underlying144 (by kernel_rfl) v xT w
theorem methodUnwrapR (v : Value) (w : World) : (Go.method 342 134 v "Unwrap").run Tryz.prog w = .ok (176, v) w := by kernel_rfl
set_option maxHeartbeats 1600000 in
set_option maxRecDepth 20000 in
theorem is_n_no  (d c : Int) (hne : d ≠ c) (w : World) :
    Calls Tryz.prog 27 #[.iface 63 (.int .i64 d), .iface 63 (.int .i64 c)] w fun e w' => e = .returned (.bool false) ∧ Kp [] w w' := by
  have h8 := @run_callFunc_extern Tryz.prog 53 _ Extern.ReflectliteType.typeOf Tryz.func53 (by kernel_rfl) (by kernel_rfl) (by kernel_rfl) (by kernel_rfl)
  have tT := isTypeOf
  have cT := isComparable
  have mR := isMethodComparable
  have nN := noIsN
  have uN := noUnwrapN
  have vN := noUnwrapsN
  have hsame : ∀ w, (binOp .eql 30 (.iface 63 (.int .i64 d)) (.iface 63 (.int .i64 c))).run Tryz.prog w = .ok (.bool false) w := fun w => by
    have := Lib.run_eql_iface_int (P := Tryz.prog) w (k := .i64) d c Tryz.underlying30 compErrno Tryz.underlying63
    have hb : (d == c) = false := by simpa using hne
    rw [hb] at this
    exact this
  clear hne
  go_enter Tryz.func27, Tryz.ntmps27
  go_wp2
  refine wp_loop_rounds 1 ?_
  rw [rounds_succ]
  go_wp2
  go_ret
  exact ⟨rfl, (Kp.refl [] w)⟩
set_option maxHeartbeats 1600000 in
set_option maxRecDepth 20000 in
theorem is_p_no (of : ByteArray) (u : Int) (d c : Int) (hne : d ≠ c) (w : World) :
    Calls Tryz.prog 27 #[.iface 186 (.agg #[.string of, .int .i64 u, .int .i64 d]), .iface 63 (.int .i64 c)] w fun e w' => e = .returned (.bool false) ∧ Kp [] w w' := by
  have h8 := @run_callFunc_extern Tryz.prog 53 _ Extern.ReflectliteType.typeOf Tryz.func53 (by kernel_rfl) (by kernel_rfl) (by kernel_rfl) (by kernel_rfl)
  have tT := isTypeOf
  have cT := isComparable
  have mR := isMethodComparable
  have nP := noIsP
  have uP := hasUnwrapP
  have mP := methodUnwrapP
  have hty0 := run_eql_iface_types (P := Tryz.prog) 186 63 (.agg #[.string of, .int .i64 u, .int .i64 d]) (.int .i64 c) Tryz.underlying30 (by decide)
  have nN := noIsN
  have uN := noUnwrapN
  have vN := noUnwrapsN
  have hsame : ∀ w, (binOp .eql 30 (.iface 63 (.int .i64 d)) (.iface 63 (.int .i64 c))).run Tryz.prog w = .ok (.bool false) w := fun w => by
    have := Lib.run_eql_iface_int (P := Tryz.prog) w (k := .i64) d c Tryz.underlying30 compErrno Tryz.underlying63
    have hb : (d == c) = false := by simpa using hne
    rw [hb] at this
    exact this
  clear hne
  go_enter Tryz.func27, Tryz.ntmps27
  go_wp2
  refine wp_loop_rounds 2 ?_
  rw [rounds_succ]
  go_wp2
  rw [rounds_succ]
  go_wp2
  go_ret
  exact ⟨rfl, ((Kp.refl [] w).alloc _)⟩
set_option maxHeartbeats 1600000 in
set_option maxRecDepth 20000 in
theorem is_f_no (s : ByteArray) (d c : Int) (hne : d ≠ c) (w : World) :
    Calls Tryz.prog 27 #[.iface 188 (.agg #[.string s, .iface 63 (.int .i64 d)]), .iface 63 (.int .i64 c)] w fun e w' => e = .returned (.bool false) ∧ Kp [] w w' := by
  have h8 := @run_callFunc_extern Tryz.prog 53 _ Extern.ReflectliteType.typeOf Tryz.func53 (by kernel_rfl) (by kernel_rfl) (by kernel_rfl) (by kernel_rfl)
  have tT := isTypeOf
  have cT := isComparable
  have mR := isMethodComparable
  have nF := noIsF
  have uF := hasUnwrapF
  have mF := methodUnwrapF
  have hty0 := run_eql_iface_types (P := Tryz.prog) 188 63 (.agg #[.string s, .iface 63 (.int .i64 d)]) (.int .i64 c) Tryz.underlying30 (by decide)
  have nN := noIsN
  have uN := noUnwrapN
  have vN := noUnwrapsN
  have hsame : ∀ w, (binOp .eql 30 (.iface 63 (.int .i64 d)) (.iface 63 (.int .i64 c))).run Tryz.prog w = .ok (.bool false) w := fun w => by
    have := Lib.run_eql_iface_int (P := Tryz.prog) w (k := .i64) d c Tryz.underlying30 compErrno Tryz.underlying63
    have hb : (d == c) = false := by simpa using hne
    rw [hb] at this
    exact this
  clear hne
  go_enter Tryz.func27, Tryz.ntmps27
  go_wp2
  refine wp_loop_rounds 2 ?_
  rw [rounds_succ]
  go_wp2
  rw [rounds_succ]
  go_wp2
  go_ret
  exact ⟨rfl, ((Kp.refl [] w).alloc _)⟩
set_option maxHeartbeats 1600000 in
set_option maxRecDepth 20000 in
theorem is_fp_no (s : ByteArray) (of : ByteArray) (u : Int) (d c : Int) (hne : d ≠ c) (w : World) :
    Calls Tryz.prog 27 #[.iface 188 (.agg #[.string s, .iface 186 (.agg #[.string of, .int .i64 u, .int .i64 d])]), .iface 63 (.int .i64 c)] w fun e w' => e = .returned (.bool false) ∧ Kp [] w w' := by
  have h8 := @run_callFunc_extern Tryz.prog 53 _ Extern.ReflectliteType.typeOf Tryz.func53 (by kernel_rfl) (by kernel_rfl) (by kernel_rfl) (by kernel_rfl)
  have tT := isTypeOf
  have cT := isComparable
  have mR := isMethodComparable
  have nF := noIsF
  have uF := hasUnwrapF
  have mF := methodUnwrapF
  have hty0 := run_eql_iface_types (P := Tryz.prog) 188 63 (.agg #[.string s, .iface 186 (.agg #[.string of, .int .i64 u, .int .i64 d])]) (.int .i64 c) Tryz.underlying30 (by decide)
  have nP := noIsP
  have uP := hasUnwrapP
  have mP := methodUnwrapP
  have hty1 := run_eql_iface_types (P := Tryz.prog) 186 63 (.agg #[.string of, .int .i64 u, .int .i64 d]) (.int .i64 c) Tryz.underlying30 (by decide)
  have nN := noIsN
  have uN := noUnwrapN
  have vN := noUnwrapsN
  have hsame : ∀ w, (binOp .eql 30 (.iface 63 (.int .i64 d)) (.iface 63 (.int .i64 c))).run Tryz.prog w = .ok (.bool false) w := fun w => by
    have := Lib.run_eql_iface_int (P := Tryz.prog) w (k := .i64) d c Tryz.underlying30 compErrno Tryz.underlying63
    have hb : (d == c) = false := by simpa using hne
    rw [hb] at this
    exact this
  clear hne
  go_enter Tryz.func27, Tryz.ntmps27
  go_wp2
  refine wp_loop_rounds 3 ?_
  rw [rounds_succ]
  go_wp2
  rw [rounds_succ]
  go_wp2
  rw [rounds_succ]
  go_wp2
  go_ret
  exact ⟨rfl, (((Kp.refl [] w).alloc _).alloc _)⟩
set_option maxHeartbeats 1600000 in
set_option maxRecDepth 20000 in
theorem is_dr_yes (t : ByteArray) (c : Int) (w : World) :
    Calls Tryz.prog 27 #[.iface 124 (.agg #[.iface 134 (.agg #[.string t, .int .i64 c])]), .iface 63 (.int .i64 c)] w fun e w' => e = .returned (.bool true) ∧ Kp [] w w' := by
  have h8 := @run_callFunc_extern Tryz.prog 53 _ Extern.ReflectliteType.typeOf Tryz.func53 (by kernel_rfl) (by kernel_rfl) (by kernel_rfl) (by kernel_rfl)
  have tT := isTypeOf
  have cT := isComparable
  have mR := isMethodComparable
  have nD := noIsD
  have uD := hasUnwrapD
  have mD := methodUnwrapD
  have hty0 := run_eql_iface_types (P := Tryz.prog) 124 63 (.agg #[.iface 134 (.agg #[.string t, .int .i64 c])]) (.int .i64 c) Tryz.underlying30 (by decide)
  have nR := noIsR
  have uR := hasUnwrapR
  have mR := methodUnwrapR
  have hty1 := run_eql_iface_types (P := Tryz.prog) 134 63 (.agg #[.string t, .int .i64 c]) (.int .i64 c) Tryz.underlying30 (by decide)
  have hsame : ∀ w, (binOp .eql 30 (.iface 63 (.int .i64 c)) (.iface 63 (.int .i64 c))).run Tryz.prog w = .ok (.bool true) w := fun w => by
    have := Lib.run_eql_iface_int (P := Tryz.prog) w (k := .i64) c c Tryz.underlying30 compErrno Tryz.underlying63
    simpa using this
  go_enter Tryz.func27, Tryz.ntmps27
  go_wp2
  refine wp_loop_rounds 3 ?_
  rw [rounds_succ]
  go_wp2
  rw [rounds_succ]
  go_wp2
  rw [rounds_succ]
  go_wp2
  go_ret
  exact ⟨rfl, (((Kp.refl [] w).alloc _).alloc _)⟩
set_option maxHeartbeats 1600000 in
set_option maxRecDepth 20000 in
theorem is_j_yes (call : ByteArray) (c : Int) (w : World) :
    Calls Tryz.prog 27 #[.iface 72 (.agg #[.string call, .iface 63 (.int .i64 c)]), .iface 63 (.int .i64 c)] w fun e w' => e = .returned (.bool true) ∧ Kp [] w w' := by
  have h8 := @run_callFunc_extern Tryz.prog 53 _ Extern.ReflectliteType.typeOf Tryz.func53 (by kernel_rfl) (by kernel_rfl) (by kernel_rfl) (by kernel_rfl)
  have tT := isTypeOf
  have cT := isComparable
  have mR := isMethodComparable
  have nJ := noIsJ
  have uJ := hasUnwrapJ
  have mJ := methodUnwrapJ
  have hty0 := run_eql_iface_types (P := Tryz.prog) 72 63 (.agg #[.string call, .iface 63 (.int .i64 c)]) (.int .i64 c) Tryz.underlying30 (by decide)
  have hsame : ∀ w, (binOp .eql 30 (.iface 63 (.int .i64 c)) (.iface 63 (.int .i64 c))).run Tryz.prog w = .ok (.bool true) w := fun w => by
    have := Lib.run_eql_iface_int (P := Tryz.prog) w (k := .i64) c c Tryz.underlying30 compErrno Tryz.underlying63
    simpa using this
  go_enter Tryz.func27, Tryz.ntmps27
  go_wp2
  refine wp_loop_rounds 2 ?_
  rw [rounds_succ]
  go_wp2
  rw [rounds_succ]
  go_wp2
  go_ret
  exact ⟨rfl, ((Kp.refl [] w).alloc _)⟩
end JnE
end Go.Proofs.YtggnljfcdohkaaaGreatDoor
