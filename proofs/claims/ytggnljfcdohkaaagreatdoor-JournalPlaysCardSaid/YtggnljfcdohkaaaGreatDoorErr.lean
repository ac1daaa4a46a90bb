/- errors.Is between an error of the disk (or none) and a number: by Go's own text. -/
import Derived.Test.YtggnljfcdohkaaaGreatDoorProg
import Derived.Test.YtggnljfcdohkaaaGreatDoorDkB
import Derived.WalkKit
import Derived.LaidEql
import Derived.Lib.IfaceEq
import Derived.Stop.Asserts
import Derived.RowKitTokens
namespace Go.Proofs.YtggnljfcdohkaaaGreatDoor
open Go.RowKit Go.Extern.Stop Go.Stop Go.Extern
namespace DkE

theorem isTypeOf (v : Value) (w : World) : (Extern.ReflectliteType.typeOf #[.iface 63 v]).run Tryz.prog w = .ok (.iface 139 (.agg #[.pointer (some ⟨7, 63, none⟩)])) w := by kernel_rfl
theorem isComparable (w : World) : (callFunc 179 #[.agg #[.pointer (some ⟨7, 63, none⟩)]]).run Tryz.prog w = .ok (.value (.bool true)) w := by
  have h := @run_callFunc_extern Tryz.prog 179 _ (Extern.ReflectliteType.method fun t => do Extern.Rtype.noPackHeld "Comparable" t; pure (.bool (← typeInfo t).comparable)) Tryz.func179 (by kernel_rfl) (by kernel_rfl) (by kernel_rfl) (by kernel_rfl) #[.agg #[.pointer (some ⟨7, 63, none⟩)]] w
  have h2 : (Extern.ReflectliteType.method (fun t => do Extern.Rtype.noPackHeld "Comparable" t; pure (.bool (← typeInfo t).comparable)) #[.agg #[.pointer (some ⟨7, 63, none⟩)]]).run Tryz.prog w = .ok (.bool true) w := by kernel_rfl
  rw [h, h2]
  rfl
theorem isMethodComparable (v : Value) (w : World) : (Go.method 342 139 v "Comparable").run Tryz.prog w = .ok (179, v) w := by kernel_rfl
theorem compErrno : (Tryz.prog.info? 63).map (·.comparable) = some true := by kernel_rfl
theorem noIsR (v : Value) (xT : TypeId) (w : World) : (Instr.typeAssert (.iface 134 v) xT 141 true).run Tryz.prog w = .ok (.tuple #[.nilIface, .bool false]) w := run_typeAssert_lacksB Tryz.underlying141 (by kernel_rfl) (by kernel_rfl) v xT w
theorem hasUnwrapR (v : Value) (xT : TypeId) (w : World) : (Instr.typeAssert (.iface 134 v) xT 144 true).run Tryz.prog w = .ok (.tuple #[.iface 134 v, .bool true]) w := run_typeAssert_hasB Tryz.underlying144 (by kernel_rfl) v xT w
theorem methodUnwrapR (v : Value) (w : World) : (Go.method 342 134 v "Unwrap").run Tryz.prog w = .ok (176, v) w := by kernel_rfl
theorem noIsN (v : Value) (xT : TypeId) (w : World) : (Instr.typeAssert (.iface 63 v) xT 141 true).run Tryz.prog w = .ok (.tuple #[.nilIface, .bool false]) w := run_typeAssert_lacksB Tryz.underlying141 (by kernel_rfl) (by kernel_rfl) v xT w
theorem noUnwrapN (v : Value) (xT : TypeId) (w : World) : (Instr.typeAssert (.iface 63 v) xT 144 true).run Tryz.prog w = .ok (.tuple #[.nilIface, .bool false]) w := run_typeAssert_lacksB Tryz.underlying144 (by kernel_rfl) (by kernel_rfl) v xT w
theorem noUnwrapsN (v : Value) (xT : TypeId) (w : World) : (Instr.typeAssert (.iface 63 v) xT 145 true).run Tryz.prog w = .ok (.tuple #[.nilIface, .bool false]) w := run_typeAssert_lacksB Tryz.underlying145 (by kernel_rfl) (by kernel_rfl) v xT w

/-- errors.Is(nil, a number). -/
theorem is_nil (c : Int) (w : World) :
    Calls Tryz.prog 27 #[.nilIface, .iface 63 (.int .i64 c)] w fun e w' => e = .returned (.bool false) ∧ w = w' := by
  have hn := run_eql_iface_nil_left (P := Tryz.prog) w 63 (.int .i64 c) Tryz.underlying30
  go_enter Tryz.func27, Tryz.ntmps27
  go_wp2
  go_ret
  exact ⟨rfl, rfl⟩

theorem unwrap_any (s : ByteArray) (why : Int) (w : World) :
    Calls Tryz.prog 176 #[.agg #[.string s, .int .i64 why]] w fun e w' => e = .returned (.iface 63 (.int .i64 why)) ∧ Kp [] w w' := by
  go_enter Tryz.func176, Tryz.ntmps176
  go_wp2
  go_ret
  exact ⟨rfl, (Kp.refl [] w).alloc _⟩

/-- errors.Is(an error of the disk, a number): whether it is that number. -/
theorem is_ref_yes (s : ByteArray) (c : Int) (w : World) :
    Calls Tryz.prog 27 #[.iface 134 (.agg #[.string s, .int .i64 c]), .iface 63 (.int .i64 c)] w fun e w' => e = .returned (.bool true) ∧ Kp [] w w' := by
  have h8 := @run_callFunc_extern Tryz.prog 53 _ Extern.ReflectliteType.typeOf Tryz.func53 (by kernel_rfl) (by kernel_rfl) (by kernel_rfl) (by kernel_rfl)
  have tT := isTypeOf
  have cT := isComparable
  have mR := isMethodComparable
  have nR := noIsR
  have uR := hasUnwrapR
  have mU := methodUnwrapR
  have hty := run_eql_iface_types (P := Tryz.prog) 134 63 (.agg #[.string s, .int .i64 c]) (.int .i64 c) Tryz.underlying30 (by decide) 
  have hsame : ∀ w, (binOp .eql 30 (.iface 63 (.int .i64 c)) (.iface 63 (.int .i64 c))).run Tryz.prog w = .ok (.bool true) w := fun w => by
    have := Lib.run_eql_iface_int (P := Tryz.prog) w (k := .i64) c c Tryz.underlying30 compErrno Tryz.underlying63
    simpa using this
  go_enter Tryz.func27, Tryz.ntmps27
  go_wp2
  refine wp_loop_rounds 2 ?_
  rw [rounds_succ]
  go_wp2
  rw [rounds_succ]
  go_wp2
  go_ret
  exact ⟨rfl, (Kp.refl [] w).alloc _⟩
theorem is_ref_no (s : ByteArray) (d c : Int) (hne : d ≠ c) (w : World) :
    Calls Tryz.prog 27 #[.iface 134 (.agg #[.string s, .int .i64 d]), .iface 63 (.int .i64 c)] w fun e w' => e = .returned (.bool false) ∧ Kp [] w w' := by
  have h8 := @run_callFunc_extern Tryz.prog 53 _ Extern.ReflectliteType.typeOf Tryz.func53 (by kernel_rfl) (by kernel_rfl) (by kernel_rfl) (by kernel_rfl)
  have tT := isTypeOf
  have cT := isComparable
  have mR := isMethodComparable
  have nR := noIsR
  have uR := hasUnwrapR
  have mU := methodUnwrapR
  have nN := noIsN
  have uN := noUnwrapN
  have vN := noUnwrapsN
  have hty := run_eql_iface_types (P := Tryz.prog) 134 63 (.agg #[.string s, .int .i64 d]) (.int .i64 c) Tryz.underlying30 (by decide)
  have hsame : ∀ w, (binOp .eql 30 (.iface 63 (.int .i64 d)) (.iface 63 (.int .i64 c))).run Tryz.prog w = .ok (.bool false) w := fun w => by
    have := Lib.run_eql_iface_int (P := Tryz.prog) w (k := .i64) d c Tryz.underlying30 compErrno Tryz.underlying63
    have hb : (d == c) = false := by simpa using hne
    rw [hb] at this
    exact this
  clear hne
  go_enter Tryz.func27, Tryz.ntmps27
  go_wp2
  refine wp_loop_rounds 2 ?_
  rw [rounds_succ]
  go_wp2
  rw [rounds_succ]
  go_wp2
  go_ret
  exact ⟨rfl, (Kp.refl [] w).alloc _⟩

/-- errors.Is(err, number) for whatever the disk answers: 0 for none. -/
theorem is_any (v : Value) (why c : Int) (hv : (v = .nilIface ∧ why = 0) ∨ IsRef why v) (hc : c ≠ 0) (w : World) :
    Calls Tryz.prog 27 #[v, .iface 63 (.int .i64 c)] w fun e w' => e = .returned (.bool (decide (why = c))) ∧ Kp [] w w' := by
  rcases hv with ⟨rfl, rfl⟩ | ⟨s, rfl⟩
  · refine (is_nil c w).mono ?_
    rintro e w' ⟨rfl, rfl⟩
    refine ⟨?_, Kp.refl _ _⟩
    rw [decide_eq_false (fun h => hc h.symm)]
  · by_cases h : why = c
    · subst h
      refine (is_ref_yes s why w).mono ?_
      rintro e w' ⟨rfl, hk⟩
      exact ⟨by simp, hk⟩
    · refine (is_ref_no s why c h w).mono ?_
      rintro e w' ⟨rfl, hk⟩
      exact ⟨by rw [decide_eq_false h], hk⟩
end DkE
end Go.Proofs.YtggnljfcdohkaaaGreatDoor
