/- errors.As at the errors of package journal and of the disk, its target a variable of the number's type: by Go's own text; the law's code. (Made by wip/tools/genas4.py.) -/
import Derived.Test.YtggnljfcdohkaaaGreatDoorJnQ
namespace Go.Proofs.YtggnljfcdohkaaaGreatDoor
open Go.RowKit Go.Extern.Stop Go.Stop Go.Extern
namespace JnC

theorem eValueOfP (t : Addr) (w : World) : (ReflectliteValue.unpack (.iface 70 (.pointer (some t)))).run Tryz.prog w
    = .ok (.agg #[.pointer (some ⟨7, 70, none⟩), .pointer (some ⟨w.heap.size, 0, none⟩), .int .u64 150]) (w.alloc (.cells #[.pointer (some t)] 70)) := by kernel_rfl
theorem eTypeP (a : Addr) (w : World) : (ReflectliteValue.methodAny (ReflectliteValue.valueError "reflectlite.Value.Type" 0) (fun t _ _ _ => ReflectliteType.toType t) #[.agg #[.pointer (some ⟨7, 70, none⟩), .pointer (some a), .int .u64 150]]).run Tryz.prog w
    = .ok (.iface 139 (.agg #[.pointer (some ⟨7, 70, none⟩)])) w := by kernel_rfl
theorem eKindP (w : World) : ((ReflectliteType.abiMethod fun t => (fun a : Nat => Value.int IntKind.u8 (a : Int)) <$> Rtype.kind t) #[.pointer (some ⟨7, 70, none⟩)]).run Tryz.prog w = .ok (.int .u8 22) w := by kernel_rfl
theorem eKindE (w : World) : ((ReflectliteType.abiMethod fun t => (fun a : Nat => Value.int IntKind.u8 (a : Int)) <$> Rtype.kind t) #[.pointer (some ⟨7, 63, none⟩)]).run Tryz.prog w = .ok (.int .u8 2) w := by kernel_rfl
theorem ePartsP (a : Addr) (w : World) : (ReflectliteValue.parts (.agg #[.pointer (some ⟨7, 70, none⟩), .pointer (some a), .int .u64 150])).run Tryz.prog w = .ok (some (70, a, 150)) w := by kernel_rfl
theorem eIsNilP (a p : Addr) (W : World) (ha : W.cell? a = some (.pointer (some p))) :
    (ReflectliteValue.method (ReflectliteValue.valueError "reflectlite.Value.IsNil" 0) ReflectliteValue.isNil #[.agg #[.pointer (some ⟨7, 70, none⟩), .pointer (some a), .int .u64 150]]).run Tryz.prog W = .ok (.bool false) W := by
  rw [rlmF]
  simp only [Sem.run_bind, ePartsP, Result.andThen]
  simp [ReflectliteValue.isNil, loadVar, isAgg, underlying, Tryz.underlying70, ha, Result.andThen]
theorem eElemP (w : World) : (ReflectliteType.method ReflectliteType.elem #[.agg #[.pointer (some ⟨7, 70, none⟩)]]).run Tryz.prog w = .ok (.iface 139 (.agg #[.pointer (some ⟨7, 63, none⟩)])) w := by kernel_rfl
theorem eImplementsE (w : World) : (ReflectliteType.relation "Implements" ReflectliteType.implements_ #[.agg #[.pointer (some ⟨7, 63, none⟩)], .iface 139 (.agg #[.pointer (some ⟨7, 30, none⟩)])]).run Tryz.prog w = .ok (.bool true) w := by kernel_rfl
theorem eTypeOfJ (v : Value) (w : World) : (ReflectliteType.typeOf #[.iface 72 v]).run Tryz.prog w = .ok (.iface 139 (.agg #[.pointer (some ⟨7, 72, none⟩)])) w := by kernel_rfl
theorem eTypeOfD (v : Value) (w : World) : (ReflectliteType.typeOf #[.iface 124 v]).run Tryz.prog w = .ok (.iface 139 (.agg #[.pointer (some ⟨7, 124, none⟩)])) w := by kernel_rfl
theorem eTypeOfR (v : Value) (w : World) : (ReflectliteType.typeOf #[.iface 134 v]).run Tryz.prog w = .ok (.iface 139 (.agg #[.pointer (some ⟨7, 134, none⟩)])) w := by kernel_rfl
theorem eTypeOfE (v : Value) (w : World) : (ReflectliteType.typeOf #[.iface 63 v]).run Tryz.prog w = .ok (.iface 139 (.agg #[.pointer (some ⟨7, 63, none⟩)])) w := by kernel_rfl
theorem eAssignJ (w : World) : (ReflectliteType.relation "AssignableTo" ReflectliteType.assignableTo #[.agg #[.pointer (some ⟨7, 72, none⟩)], .iface 139 (.agg #[.pointer (some ⟨7, 63, none⟩)])]).run Tryz.prog w = .ok (.bool false) w := by kernel_rfl
theorem eAssignD (w : World) : (ReflectliteType.relation "AssignableTo" ReflectliteType.assignableTo #[.agg #[.pointer (some ⟨7, 124, none⟩)], .iface 139 (.agg #[.pointer (some ⟨7, 63, none⟩)])]).run Tryz.prog w = .ok (.bool false) w := by kernel_rfl
theorem eAssignR (w : World) : (ReflectliteType.relation "AssignableTo" ReflectliteType.assignableTo #[.agg #[.pointer (some ⟨7, 134, none⟩)], .iface 139 (.agg #[.pointer (some ⟨7, 63, none⟩)])]).run Tryz.prog w = .ok (.bool false) w := by kernel_rfl
theorem eAssignE (w : World) : (ReflectliteType.relation "AssignableTo" ReflectliteType.assignableTo #[.agg #[.pointer (some ⟨7, 63, none⟩)], .iface 139 (.agg #[.pointer (some ⟨7, 63, none⟩)])]).run Tryz.prog w = .ok (.bool true) w := by kernel_rfl
theorem eValueOfE' (c : Int) (w : World) : (ReflectliteValue.unpack (.iface 63 (.int .i64 c))).run Tryz.prog w
    = .ok (.agg #[.pointer (some ⟨7, 63, none⟩), .pointer (some ⟨w.heap.size, 0, none⟩), .int .u64 130]) (w.alloc (.cells #[.int .i64 c] 63)) := by kernel_rfl
theorem eElemOfP (w : World) : (Rtype.elem? 70).run Tryz.prog w = .ok (some 63) w := by kernel_rfl
theorem eMkE (p : Addr) (w : World) : (ReflectliteValue.mk 63 p ReflectliteValue.flagAddr).run Tryz.prog w = .ok (.agg #[.pointer (some ⟨7, 63, none⟩), .pointer (some p), .int .u64 386]) w := by kernel_rfl
theorem eElemVP (a p : Addr) (W : World) (ha : W.cell? a = some (.pointer (some p))) :
    (ReflectliteValue.method (ReflectliteValue.valueError "reflectlite.Value.Elem" 0) ReflectliteValue.elem #[.agg #[.pointer (some ⟨7, 70, none⟩), .pointer (some a), .int .u64 150]]).run Tryz.prog W
      = .ok (.agg #[.pointer (some ⟨7, 63, none⟩), .pointer (some p), .int .u64 386]) W := by
  rw [rlmF]
  simp only [Sem.run_bind, ePartsP, Result.andThen]
  simp [ReflectliteValue.elem, loadVar, isAgg, underlying, Tryz.underlying70, ha, Result.andThen, eElemOfP, eMkE]
theorem ePartsEa (a : Addr) (w : World) : (ReflectliteValue.parts (.agg #[.pointer (some ⟨7, 63, none⟩), .pointer (some a), .int .u64 386])).run Tryz.prog w = .ok (some (63, a, 386)) w := by kernel_rfl
theorem ePartsE (a : Addr) (w : World) : (ReflectliteValue.parts (.agg #[.pointer (some ⟨7, 63, none⟩), .pointer (some a), .int .u64 130])).run Tryz.prog w = .ok (some (63, a, 130)) w := by kernel_rfl
theorem eDirectE (w : World) : (Rtype.directlyAssignable 63 63).run Tryz.prog w = .ok true w := by kernel_rfl
theorem eSetE (b g : Addr) (c : Int) (old : Value) (W : World) (hb : W.cell? b = some (.int .i64 c)) (ht : W.cell? g = some old) (hf : W.frozen? g = false) :
    (ReflectliteValue.set #[.agg #[.pointer (some ⟨7, 63, none⟩), .pointer (some g), .int .u64 386], .agg #[.pointer (some ⟨7, 63, none⟩), .pointer (some b), .int .u64 130]]).run Tryz.prog W
      = .ok (.tuple #[]) (W.setCell g (.int .i64 c)) := by
  rw [rlsF]
  simp only [Sem.run_bind, ePartsEa, ePartsE, Result.andThen]
  simp [ReflectliteValue.flagAddr, loadVar, isAgg, underlying, Tryz.underlying63, hb, Result.andThen, eDirectE, storeVar, Value.cells, storeCells, Addr.add]
  rw [run_store Tryz.prog W g _ _ (by rfl)]
  simp [ht, hf]
theorem noAsJ (v : Value) (xT : TypeId) (w : World) : (Instr.typeAssert (.iface 72 v) xT 150 true).run Tryz.prog w = .ok (.tuple #[.nilIface, .bool false]) w := run_typeAssert_lacksB Tryz.underlying150 (by kernel_rfl) (by kernel_rfl) v xT w
theorem noAsD (v : Value) (xT : TypeId) (w : World) : (Instr.typeAssert (.iface 124 v) xT 150 true).run Tryz.prog w = .ok (.tuple #[.nilIface, .bool false]) w := run_typeAssert_lacksB Tryz.underlying150 (by kernel_rfl) (by kernel_rfl) v xT w
theorem noAsR (v : Value) (xT : TypeId) (w : World) : (Instr.typeAssert (.iface 134 v) xT 150 true).run Tryz.prog w = .ok (.tuple #[.nilIface, .bool false]) w := run_typeAssert_lacksB Tryz.underlying150 (by kernel_rfl) (by kernel_rfl) v xT w
/-- errors.As has set the number. -/
def NumHit (g : Nat) (c : Int) (w : World) (e : Ending) (w2 : World) : Prop := e = .returned (.bool true) ∧ w2.cell? ⟨g, 0, none⟩ = some (.int .i64 c) ∧ Kp [g] w w2
theorem numHit_mk {g : Nat} {c : Int} {old : Value} {w W : World} (K : Kp [g] w W) (h0 : W.cell? ⟨g, 0, none⟩ = some old) : NumHit g c w (.returned (.bool true)) (W.setCell ⟨g, 0, none⟩ (.int .i64 c)) :=
  ⟨rfl, World.cell?_setCell_same _ _ _ h0, K.setCell (.inl (by simp)) _⟩

set_option maxHeartbeats 8000000 in
set_option maxRecDepth 20000 in
theorem as_r (t : ByteArray) (c : Int) (b g : Nat) (old : Value) (tv : Value) (w : World) (hb : w.cell? ⟨b, 0, none⟩ = some (.pointer (some ⟨g, 0, none⟩))) (hg : w.cell? ⟨g, 0, none⟩ = some old) (hf : w.frozen? ⟨g, 0, none⟩ = false) :
    Calls Tryz.prog 58 #[.iface 134 (.agg #[.string t, .int .i64 c]), tv, .agg #[.pointer (some ⟨7, 70, none⟩), .pointer (some ⟨b, 0, none⟩), .int .u64 150], .iface 139 (.agg #[.pointer (some ⟨7, 63, none⟩)])] w (NumHit g c w) := by
  have hbl : b < w.heap.size := World.block_lt_of_cell? w _ hb
  have hgl : g < w.heap.size := World.block_lt_of_cell? w _ hg
  have h8 := @run_callFunc_extern Tryz.prog 53 _ ReflectliteType.typeOf Tryz.func53 (by kernel_rfl) (by kernel_rfl) (by kernel_rfl) (by kernel_rfl)
  have h6 := @run_callFunc_extern Tryz.prog 55 _ (fun args => ReflectliteValue.unpack (args.getD 0 (.tuple #[]))) Tryz.func55 (by kernel_rfl) (by kernel_rfl) (by kernel_rfl) (by kernel_rfl)
  have h35 := @run_callFunc_extern Tryz.prog 178 _ (ReflectliteType.relation "AssignableTo" ReflectliteType.assignableTo) Tryz.func178 (by kernel_rfl) (by kernel_rfl) (by kernel_rfl) (by kernel_rfl)
  have h11 := @run_callFunc_extern Tryz.prog 80 _ (ReflectliteValue.method (ReflectliteValue.valueError "reflectlite.Value.Elem" 0) ReflectliteValue.elem) Tryz.func80 (by kernel_rfl) (by kernel_rfl) (by kernel_rfl) (by kernel_rfl)
  have h12 := @run_callFunc_extern Tryz.prog 81 _ ReflectliteValue.set Tryz.func81 (by kernel_rfl) (by kernel_rfl) (by kernel_rfl) (by kernel_rfl)
  have mA := aMethodAssignableTo
  have tR := eTypeOfR
  have tE := eTypeOfE
  have aR := eAssignR
  have aE := eAssignE
  have vE := eValueOfE'
  have nR := noAsR
  have uR := JnE.hasUnwrapR
  have mR := JnE.methodUnwrapR
  have el := eElemVP ⟨b, 0, none⟩ ⟨g, 0, none⟩ ((w.alloc (.cells #[.pointer (some ⟨7, 70, none⟩), .pointer (some ⟨b, 0, none⟩), .int .u64 150] 102)).alloc (.cells #[.string t, .int .i64 c] 134)) (by rw [Kp.cell0 (((Kp.refl [] w).alloc _).alloc _) hbl]; exact hb)
  have st := eSetE ⟨w.heap.size + 1 + 1, 0, none⟩ ⟨g, 0, none⟩ c old (((w.alloc (.cells #[.pointer (some ⟨7, 70, none⟩), .pointer (some ⟨b, 0, none⟩), .int .u64 150] 102)).alloc (.cells #[.string t, .int .i64 c] 134)).alloc (.cells #[.int .i64 c] 63)) (by rw [World.cell?_alloc_at _ _ _ _ (by simp)]; rfl) (by rw [Kp.cell0 ((((Kp.refl [] w).alloc _).alloc _).alloc _) hgl]; exact hg) (by rw [Kp.frozen0 ((((Kp.refl [] w).alloc _).alloc _).alloc _) hgl]; exact hf)
  have K := Lib.hid (show Kp [g] w (((w.alloc (.cells #[.pointer (some ⟨7, 70, none⟩), .pointer (some ⟨b, 0, none⟩), .int .u64 150] 102)).alloc (.cells #[.string t, .int .i64 c] 134)).alloc (.cells #[.int .i64 c] 63)) from ((((Kp.refl [g] w).alloc _).alloc _).alloc _))
  have C := Lib.hid (show ((((w.alloc (.cells #[.pointer (some ⟨7, 70, none⟩), .pointer (some ⟨b, 0, none⟩), .int .u64 150] 102)).alloc (.cells #[.string t, .int .i64 c] 134)).alloc (.cells #[.int .i64 c] 63))).cell? ⟨g, 0, none⟩ = some old by rw [Kp.cell0 ((((Kp.refl [] w).alloc _).alloc _).alloc _) hgl]; exact hg)
  clear hb hg hf
  go_enter Tryz.func58, Tryz.ntmps58
  go_wp2
  refine wp_loop_rounds 2 ?_
  rw [rounds_succ]
  go_wp2
  rw [rounds_succ]
  go_wp2
  go_ret
  exact numHit_mk K.out C.out

set_option maxHeartbeats 8000000 in
set_option maxRecDepth 20000 in
theorem as_j (s : ByteArray) (c : Int) (b g : Nat) (old : Value) (tv : Value) (w : World) (hb : w.cell? ⟨b, 0, none⟩ = some (.pointer (some ⟨g, 0, none⟩))) (hg : w.cell? ⟨g, 0, none⟩ = some old) (hf : w.frozen? ⟨g, 0, none⟩ = false) :
    Calls Tryz.prog 58 #[.iface 72 (.agg #[.string s, .iface 63 (.int .i64 c)]), tv, .agg #[.pointer (some ⟨7, 70, none⟩), .pointer (some ⟨b, 0, none⟩), .int .u64 150], .iface 139 (.agg #[.pointer (some ⟨7, 63, none⟩)])] w (NumHit g c w) := by
  have hbl : b < w.heap.size := World.block_lt_of_cell? w _ hb
  have hgl : g < w.heap.size := World.block_lt_of_cell? w _ hg
  have h8 := @run_callFunc_extern Tryz.prog 53 _ ReflectliteType.typeOf Tryz.func53 (by kernel_rfl) (by kernel_rfl) (by kernel_rfl) (by kernel_rfl)
  have h6 := @run_callFunc_extern Tryz.prog 55 _ (fun args => ReflectliteValue.unpack (args.getD 0 (.tuple #[]))) Tryz.func55 (by kernel_rfl) (by kernel_rfl) (by kernel_rfl) (by kernel_rfl)
  have h35 := @run_callFunc_extern Tryz.prog 178 _ (ReflectliteType.relation "AssignableTo" ReflectliteType.assignableTo) Tryz.func178 (by kernel_rfl) (by kernel_rfl) (by kernel_rfl) (by kernel_rfl)
  have h11 := @run_callFunc_extern Tryz.prog 80 _ (ReflectliteValue.method (ReflectliteValue.valueError "reflectlite.Value.Elem" 0) ReflectliteValue.elem) Tryz.func80 (by kernel_rfl) (by kernel_rfl) (by kernel_rfl) (by kernel_rfl)
  have h12 := @run_callFunc_extern Tryz.prog 81 _ ReflectliteValue.set Tryz.func81 (by kernel_rfl) (by kernel_rfl) (by kernel_rfl) (by kernel_rfl)
  have mA := aMethodAssignableTo
  have tJ := eTypeOfJ
  have tE := eTypeOfE
  have aJ := eAssignJ
  have aE := eAssignE
  have vE := eValueOfE'
  have nJ := noAsJ
  have uJ := JnE.hasUnwrapJ
  have mJ := JnE.methodUnwrapJ
  have el := eElemVP ⟨b, 0, none⟩ ⟨g, 0, none⟩ ((w.alloc (.cells #[.pointer (some ⟨7, 70, none⟩), .pointer (some ⟨b, 0, none⟩), .int .u64 150] 102)).alloc (.cells #[.string s, .iface 63 (.int .i64 c)] 72)) (by rw [Kp.cell0 (((Kp.refl [] w).alloc _).alloc _) hbl]; exact hb)
  have st := eSetE ⟨w.heap.size + 1 + 1, 0, none⟩ ⟨g, 0, none⟩ c old (((w.alloc (.cells #[.pointer (some ⟨7, 70, none⟩), .pointer (some ⟨b, 0, none⟩), .int .u64 150] 102)).alloc (.cells #[.string s, .iface 63 (.int .i64 c)] 72)).alloc (.cells #[.int .i64 c] 63)) (by rw [World.cell?_alloc_at _ _ _ _ (by simp)]; rfl) (by rw [Kp.cell0 ((((Kp.refl [] w).alloc _).alloc _).alloc _) hgl]; exact hg) (by rw [Kp.frozen0 ((((Kp.refl [] w).alloc _).alloc _).alloc _) hgl]; exact hf)
  have K := Lib.hid (show Kp [g] w (((w.alloc (.cells #[.pointer (some ⟨7, 70, none⟩), .pointer (some ⟨b, 0, none⟩), .int .u64 150] 102)).alloc (.cells #[.string s, .iface 63 (.int .i64 c)] 72)).alloc (.cells #[.int .i64 c] 63)) from ((((Kp.refl [g] w).alloc _).alloc _).alloc _))
  have C := Lib.hid (show ((((w.alloc (.cells #[.pointer (some ⟨7, 70, none⟩), .pointer (some ⟨b, 0, none⟩), .int .u64 150] 102)).alloc (.cells #[.string s, .iface 63 (.int .i64 c)] 72)).alloc (.cells #[.int .i64 c] 63))).cell? ⟨g, 0, none⟩ = some old by rw [Kp.cell0 ((((Kp.refl [] w).alloc _).alloc _).alloc _) hgl]; exact hg)
  clear hb hg hf
  go_enter Tryz.func58, Tryz.ntmps58
  go_wp2
  refine wp_loop_rounds 2 ?_
  rw [rounds_succ]
  go_wp2
  rw [rounds_succ]
  go_wp2
  go_ret
  exact numHit_mk K.out C.out

set_option maxHeartbeats 8000000 in
set_option maxRecDepth 20000 in
theorem as_jd (s t : ByteArray) (c : Int) (b g : Nat) (old : Value) (tv : Value) (w : World) (hb : w.cell? ⟨b, 0, none⟩ = some (.pointer (some ⟨g, 0, none⟩))) (hg : w.cell? ⟨g, 0, none⟩ = some old) (hf : w.frozen? ⟨g, 0, none⟩ = false) :
    Calls Tryz.prog 58 #[.iface 72 (.agg #[.string s, .iface 124 (.agg #[.iface 134 (.agg #[.string t, .int .i64 c])])]), tv, .agg #[.pointer (some ⟨7, 70, none⟩), .pointer (some ⟨b, 0, none⟩), .int .u64 150], .iface 139 (.agg #[.pointer (some ⟨7, 63, none⟩)])] w (NumHit g c w) := by
  have hbl : b < w.heap.size := World.block_lt_of_cell? w _ hb
  have hgl : g < w.heap.size := World.block_lt_of_cell? w _ hg
  have h8 := @run_callFunc_extern Tryz.prog 53 _ ReflectliteType.typeOf Tryz.func53 (by kernel_rfl) (by kernel_rfl) (by kernel_rfl) (by kernel_rfl)
  have h6 := @run_callFunc_extern Tryz.prog 55 _ (fun args => ReflectliteValue.unpack (args.getD 0 (.tuple #[]))) Tryz.func55 (by kernel_rfl) (by kernel_rfl) (by kernel_rfl) (by kernel_rfl)
  have h35 := @run_callFunc_extern Tryz.prog 178 _ (ReflectliteType.relation "AssignableTo" ReflectliteType.assignableTo) Tryz.func178 (by kernel_rfl) (by kernel_rfl) (by kernel_rfl) (by kernel_rfl)
  have h11 := @run_callFunc_extern Tryz.prog 80 _ (ReflectliteValue.method (ReflectliteValue.valueError "reflectlite.Value.Elem" 0) ReflectliteValue.elem) Tryz.func80 (by kernel_rfl) (by kernel_rfl) (by kernel_rfl) (by kernel_rfl)
  have h12 := @run_callFunc_extern Tryz.prog 81 _ ReflectliteValue.set Tryz.func81 (by kernel_rfl) (by kernel_rfl) (by kernel_rfl) (by kernel_rfl)
  have mA := aMethodAssignableTo
  have tD := eTypeOfD
  have tJ := eTypeOfJ
  have tR := eTypeOfR
  have tE := eTypeOfE
  have aD := eAssignD
  have aJ := eAssignJ
  have aR := eAssignR
  have aE := eAssignE
  have vE := eValueOfE'
  have nD := noAsD
  have uD := JnE.hasUnwrapD
  have mD := JnE.methodUnwrapD
  have nJ := noAsJ
  have uJ := JnE.hasUnwrapJ
  have mJ := JnE.methodUnwrapJ
  have nR := noAsR
  have uR := JnE.hasUnwrapR
  have mR := JnE.methodUnwrapR
  have el := eElemVP ⟨b, 0, none⟩ ⟨g, 0, none⟩ ((((w.alloc (.cells #[.pointer (some ⟨7, 70, none⟩), .pointer (some ⟨b, 0, none⟩), .int .u64 150] 102)).alloc (.cells #[.string s, .iface 124 (.agg #[.iface 134 (.agg #[.string t, .int .i64 c])])] 72)).alloc (.cells #[.iface 134 (.agg #[.string t, .int .i64 c])] 124)).alloc (.cells #[.string t, .int .i64 c] 134)) (by rw [Kp.cell0 (((((Kp.refl [] w).alloc _).alloc _).alloc _).alloc _) hbl]; exact hb)
  have st := eSetE ⟨w.heap.size + 1 + 1 + 1 + 1, 0, none⟩ ⟨g, 0, none⟩ c old (((((w.alloc (.cells #[.pointer (some ⟨7, 70, none⟩), .pointer (some ⟨b, 0, none⟩), .int .u64 150] 102)).alloc (.cells #[.string s, .iface 124 (.agg #[.iface 134 (.agg #[.string t, .int .i64 c])])] 72)).alloc (.cells #[.iface 134 (.agg #[.string t, .int .i64 c])] 124)).alloc (.cells #[.string t, .int .i64 c] 134)).alloc (.cells #[.int .i64 c] 63)) (by rw [World.cell?_alloc_at _ _ _ _ (by simp)]; rfl) (by rw [Kp.cell0 ((((((Kp.refl [] w).alloc _).alloc _).alloc _).alloc _).alloc _) hgl]; exact hg) (by rw [Kp.frozen0 ((((((Kp.refl [] w).alloc _).alloc _).alloc _).alloc _).alloc _) hgl]; exact hf)
  have K := Lib.hid (show Kp [g] w (((((w.alloc (.cells #[.pointer (some ⟨7, 70, none⟩), .pointer (some ⟨b, 0, none⟩), .int .u64 150] 102)).alloc (.cells #[.string s, .iface 124 (.agg #[.iface 134 (.agg #[.string t, .int .i64 c])])] 72)).alloc (.cells #[.iface 134 (.agg #[.string t, .int .i64 c])] 124)).alloc (.cells #[.string t, .int .i64 c] 134)).alloc (.cells #[.int .i64 c] 63)) from ((((((Kp.refl [g] w).alloc _).alloc _).alloc _).alloc _).alloc _))
  have C := Lib.hid (show ((((((w.alloc (.cells #[.pointer (some ⟨7, 70, none⟩), .pointer (some ⟨b, 0, none⟩), .int .u64 150] 102)).alloc (.cells #[.string s, .iface 124 (.agg #[.iface 134 (.agg #[.string t, .int .i64 c])])] 72)).alloc (.cells #[.iface 134 (.agg #[.string t, .int .i64 c])] 124)).alloc (.cells #[.string t, .int .i64 c] 134)).alloc (.cells #[.int .i64 c] 63))).cell? ⟨g, 0, none⟩ = some old by rw [Kp.cell0 ((((((Kp.refl [] w).alloc _).alloc _).alloc _).alloc _).alloc _) hgl]; exact hg)
  clear hb hg hf
  go_enter Tryz.func58, Tryz.ntmps58
  go_wp2
  refine wp_loop_rounds 4 ?_
  rw [rounds_succ]
  go_wp2
  rw [rounds_succ]
  go_wp2
  rw [rounds_succ]
  go_wp2
  rw [rounds_succ]
  go_wp2
  go_ret
  exact numHit_mk K.out C.out

/-- The errors that the law asks for their number. -/
def CErr (c : Int) (v : Value) : Prop := IsRef c v ∨ JErr c v
theorem CErr.iface {c : Int} {v : Value} (h : CErr c v) : ∃ T x, v = .iface T x := by
  rcases h with ⟨t, rfl⟩ | ⟨s, x, rfl, _⟩
  · exact ⟨_, _, rfl⟩
  · exact ⟨_, _, rfl⟩
set_option maxHeartbeats 8000000 in
set_option maxRecDepth 20000 in
theorem as_num (v : Value) (c : Int) (g : Nat) (old : Value) (hv : CErr c v) (w : World) (hE : EHas w) (hg : w.cell? ⟨g, 0, none⟩ = some old) (hf : w.frozen? ⟨g, 0, none⟩ = false) :
    Calls Tryz.prog 29 #[v, .iface 70 (.pointer (some ⟨g, 0, none⟩))] w (NumHit g c w) := by
  have h8 := @run_callFunc_extern Tryz.prog 57 _ (ReflectliteValue.method (ReflectliteValue.valueError "reflectlite.Value.IsNil" 0) ReflectliteValue.isNil) Tryz.func57 (by kernel_rfl) (by kernel_rfl) (by kernel_rfl) (by kernel_rfl)
  have h6 := @run_callFunc_extern Tryz.prog 55 _ (fun args => ReflectliteValue.unpack (args.getD 0 (.tuple #[]))) Tryz.func55 (by kernel_rfl) (by kernel_rfl) (by kernel_rfl) (by kernel_rfl)
  have h7 := @run_callFunc_extern Tryz.prog 56 _ (ReflectliteValue.methodAny (ReflectliteValue.valueError "reflectlite.Value.Type" 0) (fun t _ _ _ => ReflectliteType.toType t)) Tryz.func56 (by kernel_rfl) (by kernel_rfl) (by kernel_rfl) (by kernel_rfl)
  have h27 := @run_callFunc_extern Tryz.prog 164 _ (ReflectliteType.abiMethod fun t => do pure (.int .u8 (← Rtype.kind t))) Tryz.func164 (by kernel_rfl) (by kernel_rfl) (by kernel_rfl) (by kernel_rfl)
  have h37 := @run_callFunc_extern Tryz.prog 180 _ (ReflectliteType.method ReflectliteType.elem) Tryz.func180 (by kernel_rfl) (by kernel_rfl) (by kernel_rfl) (by kernel_rfl)
  have h38 := @run_callFunc_extern Tryz.prog 181 _ (ReflectliteType.relation "Implements" ReflectliteType.implements_) Tryz.func181 (by kernel_rfl) (by kernel_rfl) (by kernel_rfl) (by kernel_rfl)
  have f6 := eValueOfP
  have f7 := eTypeP
  have mK := aMethodKind
  have mE := aMethodElem
  have mI := aMethodImplements
  have kP := eKindP
  have kE := eKindE
  have eP := eElemP
  have iE := eImplementsE
  have hgl : g < w.heap.size := World.block_lt_of_cell? w _ hg
  have n8 := eIsNilP ⟨w.heap.size, 0, none⟩ ⟨g, 0, none⟩ ((w.alloc (.cells #[.pointer (some ⟨g, 0, none⟩)] 70)).alloc (.cells #[.pointer (some ⟨7, 70, none⟩), .pointer (some ⟨w.heap.size, 0, none⟩), .int .u64 150] 102)) (by simp)
  have hg2 : ((w.alloc (.cells #[.pointer (some ⟨g, 0, none⟩)] 70)).alloc (.cells #[.pointer (some ⟨7, 70, none⟩), .pointer (some ⟨w.heap.size, 0, none⟩), .int .u64 150] 102)).cell? ⟨0, 0, none⟩ = some (.iface 139 (.agg #[.pointer (some ⟨7, 30, none⟩)])) := by
    rw [Kp.cell0 (((Kp.refl [] w).alloc _).alloc _) hE.2]; exact hE.1
  obtain ⟨W2, hW2⟩ : ∃ W2, W2 = ((w.alloc (.cells #[.pointer (some ⟨g, 0, none⟩)] 70)).alloc (.cells #[.pointer (some ⟨7, 70, none⟩), .pointer (some ⟨w.heap.size, 0, none⟩), .int .u64 150] 102)) := ⟨_, rfl⟩
  have k0 : Kp [] w W2 := by rw [hW2]; exact ((Kp.refl [] w).alloc _).alloc _
  have b2 : W2.cell? ⟨w.heap.size, 0, none⟩ = some (.pointer (some ⟨g, 0, none⟩)) := by rw [hW2]; simp
  have g2 : W2.cell? ⟨g, 0, none⟩ = some old := by rw [k0.cell0 hgl]; exact hg
  have fz2 : W2.frozen? ⟨g, 0, none⟩ = false := by rw [k0.frozen0 hgl]; exact hf
  have hcall : Calls Tryz.prog 58 #[v, .iface 70 (.pointer (some ⟨g, 0, none⟩)), .agg #[.pointer (some ⟨7, 70, none⟩), .pointer (some ⟨w.heap.size, 0, none⟩), .int .u64 150], .iface 139 (.agg #[.pointer (some ⟨7, 63, none⟩)])] W2 (NumHit g c W2) := by
    rcases hv with ⟨t, rfl⟩ | ⟨s, x, rfl, rfl | ⟨t, rfl⟩⟩
    · exact as_r t c _ g old _ W2 b2 g2 fz2
    · exact as_j s c _ g old _ W2 b2 g2 fz2
    · exact as_jd s t c _ g old _ W2 b2 g2 fz2
  obtain ⟨T, x, rfl⟩ := hv.iface
  rw [hW2] at hcall
  have HC := Lib.hid hcall
  have K0 := Lib.hid k0
  have HW := Lib.hid hW2
  clear hcall k0 hW2 b2 g2 fz2 hv hE hg hf
  go_enter Tryz.func29, Tryz.ntmps29
  go_wp2_with fail
  refine Calls.mono HC.out ?_
  rintro e w3 ⟨rfl, h1, h2⟩
  have H1 := Lib.hid h1
  have H2 := Lib.hid h2
  clear h1 h2
  go_wp2_with fail
  go_ret
  exact ⟨rfl, H1.out, ((((Kp.refl [g] w).alloc _).alloc _).trans H2.out)⟩
/-- The law's code, of such an error and of none. -/
theorem code_nil (w : World) : Calls Tryz.prog 7 #[.nilIface] w fun e w2 => e = .returned (.int .i64 0) ∧ Kp [] w w2 := by
  go_enter Tryz.func7, Tryz.ntmps7
  go_wp2
  go_ret
  exact ⟨rfl, (Kp.refl [] w).alloc _⟩
theorem code_cerr (v : Value) (c : Int) (hv : CErr c v) (w : World) (hE : EHas w) :
    Calls Tryz.prog 7 #[v] w fun e w2 => e = .returned (.int .i64 c) ∧ Kp [] w w2 := by
  have hcall := as_num v c w.heap.size (.int .i64 0) hv (w.alloc (.cells #[.int .i64 0] 63)) (hE.kept ((Kp.refl [] w).alloc _)) (by simp) (by simp)
  obtain ⟨T, x, rfl⟩ := hv.iface
  have HC := Lib.hid hcall
  clear hcall hv hE
  go_enter Tryz.func7, Tryz.ntmps7
  go_wp2_with fail
  refine Calls.mono HC.out ?_
  rintro e w3 ⟨rfl, h1, h2⟩
  have H2 := Lib.hid h2
  clear h2
  go_wp2_with fail
  go_ret
  exact ⟨rfl, ((Kp.refl [] w).alloc _).trans2 H2.out (fun x hx => .inr (by simp at hx; omega))⟩


/-- What code makes of what a call of the disk or of the journal answers. -/
def CAns (c : Int) (v : Value) : Prop := (v = .nilIface ∧ c = 0) ∨ (CErr c v ∧ c ≠ 0)
theorem code_any {c : Int} {v : Value} (h : CAns c v) (w : World) (hE : EHas w) :
    Calls Tryz.prog 7 #[v] w fun e w2 => e = .returned (.int .i64 c) ∧ Kp [] w w2 := by
  rcases h with ⟨rfl, rfl⟩ | ⟨hv, _⟩
  · exact code_nil w
  · exact code_cerr v c hv w hE
end JnC
end Go.Proofs.YtggnljfcdohkaaaGreatDoor
