/- errors.Is between an error of package lex (or none) and a number: by Go's own text. -/
import Derived.Test.YtmhnjgnljfkdcaaDoorProg
import Derived.Test.YtmhnjgnljfkdcaaDoorLxG
import Derived.WalkKit
import Derived.LaidEql
import Derived.Lib.IfaceEq
import Derived.Stop.Asserts
import Derived.RowKitTokens
namespace Go.Proofs.YtmhnjgnljfkdcaaDoor
open Go.RowKit Go.Extern.Stop Go.Stop Go.Extern

theorem isTypeOf (v : Value) (w : World) : (Extern.ReflectliteType.typeOf #[.iface 39 v]).run Tryd.prog w = .ok (.iface 70 (.agg #[.pointer (some ⟨4, 39, none⟩)])) w := by kernel_rfl
theorem isComparable (w : World) : (callFunc 75 #[.agg #[.pointer (some ⟨4, 39, none⟩)]]).run Tryd.prog w = .ok (.value (.bool true)) w := by
  have h := @run_callFunc_extern Tryd.prog 75 _ (Extern.ReflectliteType.method fun t => do Extern.Rtype.noPackHeld "Comparable" t; pure (.bool (← typeInfo t).comparable)) Tryd.func75 (by kernel_rfl) (by kernel_rfl) (by kernel_rfl) (by kernel_rfl) #[.agg #[.pointer (some ⟨4, 39, none⟩)]] w
  have h2 : (Extern.ReflectliteType.method (fun t => do Extern.Rtype.noPackHeld "Comparable" t; pure (.bool (← typeInfo t).comparable)) #[.agg #[.pointer (some ⟨4, 39, none⟩)]]).run Tryd.prog w = .ok (.bool true) w := by kernel_rfl
  rw [h, h2]
  rfl
theorem isMethodComparable (v : Value) (w : World) : (Go.method 229 70 v "Comparable").run Tryd.prog w = .ok (75, v) w := by kernel_rfl
theorem compErrno : (Tryd.prog.info? 39).map (·.comparable) = some true := by kernel_rfl
theorem noIsR (v : Value) (xT : TypeId) (w : World) : (Instr.typeAssert (.iface 42 v) xT 72 true).run Tryd.prog w = .ok (.tuple #[.nilIface, .bool false]) w := run_typeAssert_lacksB Tryd.underlying72 (by kernel_rfl) (by kernel_rfl) v xT w
theorem hasUnwrapR (v : Value) (xT : TypeId) (w : World) : (Instr.typeAssert (.iface 42 v) xT 75 true).run Tryd.prog w = .ok (.tuple #[.iface 42 v, .bool true]) w := run_typeAssert_hasB Tryd.underlying75 (by kernel_rfl) v xT w
theorem methodUnwrapR (v : Value) (w : World) : (Go.method 229 42 v "Unwrap").run Tryd.prog w = .ok (69, v) w := by kernel_rfl
theorem noIsN (v : Value) (xT : TypeId) (w : World) : (Instr.typeAssert (.iface 39 v) xT 72 true).run Tryd.prog w = .ok (.tuple #[.nilIface, .bool false]) w := run_typeAssert_lacksB Tryd.underlying72 (by kernel_rfl) (by kernel_rfl) v xT w
theorem noUnwrapN (v : Value) (xT : TypeId) (w : World) : (Instr.typeAssert (.iface 39 v) xT 75 true).run Tryd.prog w = .ok (.tuple #[.nilIface, .bool false]) w := run_typeAssert_lacksB Tryd.underlying75 (by kernel_rfl) (by kernel_rfl) v xT w
theorem noUnwrapsN (v : Value) (xT : TypeId) (w : World) : (Instr.typeAssert (.iface 39 v) xT 77 true).run Tryd.prog w = .ok (.tuple #[.nilIface, .bool false]) w := run_typeAssert_lacksB Tryd.underlying77 (by kernel_rfl) (by kernel_rfl) v xT w

/-- errors.Is(nil, a number). -/
theorem is_nil (c : Int) (w : World) :
    Calls Tryd.prog 12 #[.nilIface, .iface 39 (.int .i64 c)] w fun e w' => e = .returned (.bool false) ∧ w = w' := by
  have hn := run_eql_iface_nil_left (P := Tryd.prog) w 39 (.int .i64 c) Tryd.underlying25
  go_enter Tryd.func12, Tryd.ntmps12
  go_wp2
  go_ret
  exact ⟨rfl, rfl⟩

theorem unwrap_any (n why : Int) (w : World) :
    Calls Tryd.prog 69 #[.agg #[.int .i64 n, .int .i64 why]] w fun e w' => e = .returned (.iface 39 (.int .i64 why)) ∧ Kp [] w w' := by
  go_enter Tryd.func69, Tryd.ntmps69
  go_wp2
  go_ret
  exact ⟨rfl, (Kp.refl [] w).alloc _⟩

/-- errors.Is(an error of the disk, a number): whether it is that number. -/
theorem is_ref_yes (n c : Int) (w : World) :
    Calls Tryd.prog 12 #[.iface 42 (.agg #[.int .i64 n, .int .i64 c]), .iface 39 (.int .i64 c)] w fun e w' => e = .returned (.bool true) ∧ Kp [] w w' := by
  have h8 := @run_callFunc_extern Tryd.prog 18 _ Extern.ReflectliteType.typeOf Tryd.func18 (by kernel_rfl) (by kernel_rfl) (by kernel_rfl) (by kernel_rfl)
  have tT := isTypeOf
  have cT := isComparable
  have mR := isMethodComparable
  have nR := noIsR
  have uR := hasUnwrapR
  have mU := methodUnwrapR
  have hty := run_eql_iface_types (P := Tryd.prog) 42 39 (.agg #[.int .i64 n, .int .i64 c]) (.int .i64 c) Tryd.underlying25 (by decide) 
  have hsame : ∀ w, (binOp .eql 25 (.iface 39 (.int .i64 c)) (.iface 39 (.int .i64 c))).run Tryd.prog w = .ok (.bool true) w := fun w => by
    have := Lib.run_eql_iface_int (P := Tryd.prog) w (k := .i64) c c Tryd.underlying25 compErrno Tryd.underlying39
    simpa using this
  go_enter Tryd.func12, Tryd.ntmps12
  go_wp2
  refine wp_loop_rounds 2 ?_
  rw [rounds_succ]
  go_wp2
  rw [rounds_succ]
  go_wp2
  go_ret
  exact ⟨rfl, (Kp.refl [] w).alloc _⟩
theorem is_ref_no (n d c : Int) (hne : d ≠ c) (w : World) :
    Calls Tryd.prog 12 #[.iface 42 (.agg #[.int .i64 n, .int .i64 d]), .iface 39 (.int .i64 c)] w fun e w' => e = .returned (.bool false) ∧ Kp [] w w' := by
  have h8 := @run_callFunc_extern Tryd.prog 18 _ Extern.ReflectliteType.typeOf Tryd.func18 (by kernel_rfl) (by kernel_rfl) (by kernel_rfl) (by kernel_rfl)
  have tT := isTypeOf
  have cT := isComparable
  have mR := isMethodComparable
  have nR := noIsR
  have uR := hasUnwrapR
  have mU := methodUnwrapR
  have nN := noIsN
  have uN := noUnwrapN
  have vN := noUnwrapsN
  have hty := run_eql_iface_types (P := Tryd.prog) 42 39 (.agg #[.int .i64 n, .int .i64 d]) (.int .i64 c) Tryd.underlying25 (by decide)
  have hsame : ∀ w, (binOp .eql 25 (.iface 39 (.int .i64 d)) (.iface 39 (.int .i64 c))).run Tryd.prog w = .ok (.bool false) w := fun w => by
    have := Lib.run_eql_iface_int (P := Tryd.prog) w (k := .i64) d c Tryd.underlying25 compErrno Tryd.underlying39
    have hb : (d == c) = false := by simpa using hne
    rw [hb] at this
    exact this
  clear hne
  go_enter Tryd.func12, Tryd.ntmps12
  go_wp2
  refine wp_loop_rounds 2 ?_
  rw [rounds_succ]
  go_wp2
  rw [rounds_succ]
  go_wp2
  go_ret
  exact ⟨rfl, (Kp.refl [] w).alloc _⟩

end Go.Proofs.YtmhnjgnljfkdcaaDoor
