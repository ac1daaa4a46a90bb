/- errors.Is between an error of the disk (or none) and a number: by Go's own text. -/
import Derived.Test.YtiglipiofclmfaaDoorProg
import Derived.Test.YtiglipiofclmfaaDoorDkA
import Derived.WalkKit
import Derived.LaidEql
import Derived.Lib.IfaceEq
import Derived.Stop.Asserts
import Derived.RowKitTokens
namespace Go.Proofs.YtiglipiofclmfaaDoor
open Go.RowKit Go.Extern.Stop Go.Stop Go.Extern

theorem isTypeOf (v : Value) (w : World) : (Extern.ReflectliteType.typeOf #[.iface 50 v]).run Tryd.prog w = .ok (.iface 84 (.agg #[.pointer (some ⟨4, 50, none⟩)])) w := by kernel_rfl
theorem isComparable (w : World) : (callFunc 75 #[.agg #[.pointer (some ⟨4, 50, none⟩)]]).run Tryd.prog w = .ok (.value (.bool true)) w := by
  have h := @run_callFunc_extern Tryd.prog 75 _ (Extern.ReflectliteType.method fun t => do Extern.Rtype.noPackHeld "Comparable" t; pure (.bool (← typeInfo t).comparable)) Tryd.func75 (by kernel_rfl) (by kernel_rfl) (by kernel_rfl) (by kernel_rfl) #[.agg #[.pointer (some ⟨4, 50, none⟩)]] w
  have h2 : (Extern.ReflectliteType.method (fun t => do Extern.Rtype.noPackHeld "Comparable" t; pure (.bool (← typeInfo t).comparable)) #[.agg #[.pointer (some ⟨4, 50, none⟩)]]).run Tryd.prog w = .ok (.bool true) w := by kernel_rfl
  rw [h, h2]
  rfl
theorem isMethodComparable (v : Value) (w : World) : (Go.method 244 84 v "Comparable").run Tryd.prog w = .ok (75, v) w := by kernel_rfl
theorem compErrno : (Tryd.prog.info? 50).map (·.comparable) = some true := by kernel_rfl
theorem noIsR (v : Value) (xT : TypeId) (w : World) : (Instr.typeAssert (.iface 65 v) xT 86 true).run Tryd.prog w = .ok (.tuple #[.nilIface, .bool false]) w := run_typeAssert_lacksB Tryd.underlying86 (by kernel_rfl) (by kernel_rfl) v xT w
theorem hasUnwrapR (v : Value) (xT : TypeId) (w : World) : (Instr.typeAssert (.iface 65 v) xT 89 true).run Tryd.prog w = .ok (.tuple #[.iface 65 v, .bool true]) w := run_typeAssert_hasB Tryd.underlying89 (by kernel_rfl) v xT w
theorem methodUnwrapR (v : Value) (w : World) : (Go.method 244 65 v "Unwrap").run Tryd.prog w = .ok (69, v) w := by kernel_rfl
theorem noIsN (v : Value) (xT : TypeId) (w : World) : (Instr.typeAssert (.iface 50 v) xT 86 true).run Tryd.prog w = .ok (.tuple #[.nilIface, .bool false]) w := run_typeAssert_lacksB Tryd.underlying86 (by kernel_rfl) (by kernel_rfl) v xT w
theorem noUnwrapN (v : Value) (xT : TypeId) (w : World) : (Instr.typeAssert (.iface 50 v) xT 89 true).run Tryd.prog w = .ok (.tuple #[.nilIface, .bool false]) w := run_typeAssert_lacksB Tryd.underlying89 (by kernel_rfl) (by kernel_rfl) v xT w
theorem noUnwrapsN (v : Value) (xT : TypeId) (w : World) : (Instr.typeAssert (.iface 50 v) xT 90 true).run Tryd.prog w = .ok (.tuple #[.nilIface, .bool false]) w := run_typeAssert_lacksB Tryd.underlying90 (by kernel_rfl) (by kernel_rfl) v xT w

/-- errors.Is(nil, a number). -/
theorem is_nil (c : Int) (w : World) :
    Calls Tryd.prog 21 #[.nilIface, .iface 50 (.int .i64 c)] w fun e w' => e = .returned (.bool false) ∧ w = w' := by
  have hn := run_eql_iface_nil_left (P := Tryd.prog) w 50 (.int .i64 c) Tryd.underlying33
  go_enter Tryd.func21, Tryd.ntmps21
  go_wp2
  go_ret
  exact ⟨rfl, rfl⟩

theorem unwrap_any (s : ByteArray) (why : Int) (w : World) :
    Calls Tryd.prog 69 #[.agg #[.string s, .int .i64 why]] w fun e w' => e = .returned (.iface 50 (.int .i64 why)) ∧ Kp [] w w' := by
  go_enter Tryd.func69, Tryd.ntmps69
  go_wp2
  go_ret
  exact ⟨rfl, (Kp.refl [] w).alloc _⟩

/-- errors.Is(an error of the disk, a number): whether it is that number. -/
theorem is_ref_yes (s : ByteArray) (c : Int) (w : World) :
    Calls Tryd.prog 21 #[.iface 65 (.agg #[.string s, .int .i64 c]), .iface 50 (.int .i64 c)] w fun e w' => e = .returned (.bool true) ∧ Kp [] w w' := by
  have h8 := @run_callFunc_extern Tryd.prog 27 _ Extern.ReflectliteType.typeOf Tryd.func27 (by kernel_rfl) (by kernel_rfl) (by kernel_rfl) (by kernel_rfl)
  have tT := isTypeOf
  have cT := isComparable
  have mR := isMethodComparable
  have nR := noIsR
  have uR := hasUnwrapR
  have mU := methodUnwrapR
  have hty := run_eql_iface_types (P := Tryd.prog) 65 50 (.agg #[.string s, .int .i64 c]) (.int .i64 c) Tryd.underlying33 (by decide) 
  have hsame : ∀ w, (binOp .eql 33 (.iface 50 (.int .i64 c)) (.iface 50 (.int .i64 c))).run Tryd.prog w = .ok (.bool true) w := fun w => by
    have := Lib.run_eql_iface_int (P := Tryd.prog) w (k := .i64) c c Tryd.underlying33 compErrno Tryd.underlying50
    simpa using this
  go_enter Tryd.func21, Tryd.ntmps21
  go_wp2
  refine wp_loop_rounds 2 ?_
  rw [rounds_succ]
  go_wp2
  rw [rounds_succ]
  go_wp2
  go_ret
  exact ⟨rfl, (Kp.refl [] w).alloc _⟩
theorem is_ref_no (s : ByteArray) (d c : Int) (hne : d ≠ c) (w : World) :
    Calls Tryd.prog 21 #[.iface 65 (.agg #[.string s, .int .i64 d]), .iface 50 (.int .i64 c)] w fun e w' => e = .returned (.bool false) ∧ Kp [] w w' := by
  have h8 := @run_callFunc_extern Tryd.prog 27 _ Extern.ReflectliteType.typeOf Tryd.func27 (by kernel_rfl) (by kernel_rfl) (by kernel_rfl) (by kernel_rfl)
  have tT := isTypeOf
  have cT := isComparable
  have mR := isMethodComparable
  have nR := noIsR
  have uR := hasUnwrapR
  have mU := methodUnwrapR
  have nN := noIsN
  have uN := noUnwrapN
  have vN := noUnwrapsN
  have hty := run_eql_iface_types (P := Tryd.prog) 65 50 (.agg #[.string s, .int .i64 d]) (.int .i64 c) Tryd.underlying33 (by decide)
  have hsame : ∀ w, (binOp .eql 33 (.iface 50 (.int .i64 d)) (.iface 50 (.int .i64 c))).run Tryd.prog w = .ok (.bool false) w := fun w => by
    have := Lib.run_eql_iface_int (P := Tryd.prog) w (k := .i64) d c Tryd.underlying33 compErrno Tryd.underlying50
    have hb : (d == c) = false := by simpa using hne
    rw [hb] at this
    exact this
  clear hne
  go_enter Tryd.func21, Tryd.ntmps21
  go_wp2
  refine wp_loop_rounds 2 ?_
  rw [rounds_succ]
  go_wp2
  rw [rounds_succ]
  go_wp2
  go_ret
  exact ⟨rfl, (Kp.refl [] w).alloc _⟩

/-- errors.Is(err, number) for whatever the disk answers: 0 for none. -/
theorem is_any (v : Value) (why c : Int) (hv : (v = .nilIface ∧ why = 0) ∨ IsRef why v) (hc : c ≠ 0) (w : World) :
    Calls Tryd.prog 21 #[v, .iface 50 (.int .i64 c)] w fun e w' => e = .returned (.bool (decide (why = c))) ∧ Kp [] w w' := by
  rcases hv with ⟨rfl, rfl⟩ | ⟨s, rfl⟩
  · refine (is_nil c w).mono ?_
    rintro e w' ⟨rfl, rfl⟩
    refine ⟨?_, Kp.refl _ _⟩
    rw [decide_eq_false (fun h => hc h.symm)]
  · by_cases h : why = c
    · subst h
      refine (is_ref_yes s why w).mono ?_
      rintro e w' ⟨rfl, hk⟩
      exact ⟨by simp, hk⟩
    · refine (is_ref_no s why c h w).mono ?_
      rintro e w' ⟨rfl, hk⟩
      exact ⟨by rw [decide_eq_false h], hk⟩
end Go.Proofs.YtiglipiofclmfaaDoor
