/- errors.As at an error of package lex, its target a variable of the number's type: by Go's own text; the law's code. -/
import Derived.Test.YtmhnjgnljfkdcaaDoorLxH
namespace Go.Proofs.YtmhnjgnljfkdcaaDoor
open Go.RowKit Go.Extern.Stop Go.Stop Go.Extern
def EHas (w : World) : Prop := w.cell? ⟨0, 0, none⟩ = some (.iface 70 (.agg #[.pointer (some ⟨4, 25, none⟩)])) ∧ 0 < w.heap.size
theorem EHas.kept {w w2 : World} (h : EHas w) (k : Kp [] w w2) : EHas w2 := ⟨(k.cell0 h.2).trans h.1, k.lt h.2⟩
theorem as_nil (t : Value) (w : World) :
    Calls Tryd.prog 17 #[.nilIface, t] w fun e w' => e = .returned (.bool false) ∧ w = w' := by
  go_enter Tryd.func17, Tryd.ntmps17
  go_wp2
  go_ret
  exact ⟨rfl, rfl⟩
theorem aMethodKind (h : Value) (w : World) : (Go.method 229 70 (.agg #[h]) "Kind").run Tryd.prog w = .ok (64, h) w := by kernel_rfl
theorem rlmF (z : Sem Value) (f : TypeId → Addr → Nat → Nat → Sem Value) (v : Value) :
    ReflectliteValue.method z f #[v] = (do match ← ReflectliteValue.parts v with | none => z | some (t, a, fl) => f t a fl (fl % 32)) := rfl
theorem aMethodElem (h : Value) (w : World) : (Go.method 229 70 (.agg #[h]) "Elem").run Tryd.prog w = .ok (76, .agg #[h]) w := by kernel_rfl
theorem aMethodImplements (h : Value) (w : World) : (Go.method 229 70 (.agg #[h]) "Implements").run Tryd.prog w = .ok (77, .agg #[h]) w := by kernel_rfl
theorem aMethodAssignableTo (h : Value) (w : World) : (Go.method 229 70 (.agg #[h]) "AssignableTo").run Tryd.prog w = .ok (74, .agg #[h]) w := by kernel_rfl
theorem rlsF (v x : Value) : ReflectliteValue.set #[v, x] = (do
    let (some (dst, a, fl), some (src, b, _)) := (← ReflectliteValue.parts v, ← ReflectliteValue.parts x)
      | unsupported (.noEntry "extern/(internal/reflectlite.Value).Set.zeroValue")
    if fl / ReflectliteValue.flagAddr % 2 == 0 then unsupported (.noEntry "extern/(internal/reflectlite.Value).Set.unaddressable")
    let val ← loadVar src b
    if ← Rtype.directlyAssignable dst src then storeVar dst a val
    else if ← Rtype.implements dst src then
      if (← Rtype.kind src) == 20 then
        match val with
        | .nilIface => unsupported (.noEntry "extern/reflectlite: a nil value of one interface type handed on as a value of another")
        | _ => storeVar dst a val
      else storeVar dst a (.iface src val)
    else panicString ("reflectlite.Set: value of type " ++ (← Rtype.spelt src) ++ " is not assignable to type " ++ (← Rtype.spelt dst))
    pure (.tuple #[])) := rfl
theorem eValueOfP (t : Addr) (w : World) : (ReflectliteValue.unpack (.iface 47 (.pointer (some t)))).run Tryd.prog w
    = .ok (.agg #[.pointer (some ⟨4, 47, none⟩), .pointer (some ⟨w.heap.size, 0, none⟩), .int .u64 150]) (w.alloc (.cells #[.pointer (some t)] 47)) := by kernel_rfl
theorem eTypeP (a : Addr) (w : World) : (ReflectliteValue.methodAny (ReflectliteValue.valueError "reflectlite.Value.Type" 0) (fun t _ _ _ => ReflectliteType.toType t) #[.agg #[.pointer (some ⟨4, 47, none⟩), .pointer (some a), .int .u64 150]]).run Tryd.prog w
    = .ok (.iface 70 (.agg #[.pointer (some ⟨4, 47, none⟩)])) w := by kernel_rfl
theorem eKindP (w : World) : ((ReflectliteType.abiMethod fun t => (fun a : Nat => Value.int IntKind.u8 (a : Int)) <$> Rtype.kind t) #[.pointer (some ⟨4, 47, none⟩)]).run Tryd.prog w = .ok (.int .u8 22) w := by kernel_rfl
theorem eKindE (w : World) : ((ReflectliteType.abiMethod fun t => (fun a : Nat => Value.int IntKind.u8 (a : Int)) <$> Rtype.kind t) #[.pointer (some ⟨4, 39, none⟩)]).run Tryd.prog w = .ok (.int .u8 2) w := by kernel_rfl
theorem ePartsP (a : Addr) (w : World) : (ReflectliteValue.parts (.agg #[.pointer (some ⟨4, 47, none⟩), .pointer (some a), .int .u64 150])).run Tryd.prog w = .ok (some (47, a, 150)) w := by kernel_rfl
theorem eIsNilP (a p : Addr) (W : World) (ha : W.cell? a = some (.pointer (some p))) :
    (ReflectliteValue.method (ReflectliteValue.valueError "reflectlite.Value.IsNil" 0) ReflectliteValue.isNil #[.agg #[.pointer (some ⟨4, 47, none⟩), .pointer (some a), .int .u64 150]]).run Tryd.prog W = .ok (.bool false) W := by
  rw [rlmF]
  simp only [Sem.run_bind, ePartsP, Result.andThen]
  simp [ReflectliteValue.isNil, loadVar, isAgg, underlying, Tryd.underlying47, ha, Result.andThen]
theorem eElemP (w : World) : (ReflectliteType.method ReflectliteType.elem #[.agg #[.pointer (some ⟨4, 47, none⟩)]]).run Tryd.prog w = .ok (.iface 70 (.agg #[.pointer (some ⟨4, 39, none⟩)])) w := by kernel_rfl
theorem eImplementsE (w : World) : (ReflectliteType.relation "Implements" ReflectliteType.implements_ #[.agg #[.pointer (some ⟨4, 39, none⟩)], .iface 70 (.agg #[.pointer (some ⟨4, 25, none⟩)])]).run Tryd.prog w = .ok (.bool true) w := by kernel_rfl
theorem eTypeOfR (v : Value) (w : World) : (ReflectliteType.typeOf #[.iface 42 v]).run Tryd.prog w = .ok (.iface 70 (.agg #[.pointer (some ⟨4, 42, none⟩)])) w := by kernel_rfl
theorem eTypeOfE (v : Value) (w : World) : (ReflectliteType.typeOf #[.iface 39 v]).run Tryd.prog w = .ok (.iface 70 (.agg #[.pointer (some ⟨4, 39, none⟩)])) w := by kernel_rfl
theorem eAssignR (w : World) : (ReflectliteType.relation "AssignableTo" ReflectliteType.assignableTo #[.agg #[.pointer (some ⟨4, 42, none⟩)], .iface 70 (.agg #[.pointer (some ⟨4, 39, none⟩)])]).run Tryd.prog w = .ok (.bool false) w := by kernel_rfl
theorem eAssignE (w : World) : (ReflectliteType.relation "AssignableTo" ReflectliteType.assignableTo #[.agg #[.pointer (some ⟨4, 39, none⟩)], .iface 70 (.agg #[.pointer (some ⟨4, 39, none⟩)])]).run Tryd.prog w = .ok (.bool true) w := by kernel_rfl
theorem eValueOfE' (c : Int) (w : World) : (ReflectliteValue.unpack (.iface 39 (.int .i64 c))).run Tryd.prog w
    = .ok (.agg #[.pointer (some ⟨4, 39, none⟩), .pointer (some ⟨w.heap.size, 0, none⟩), .int .u64 130]) (w.alloc (.cells #[.int .i64 c] 39)) := by kernel_rfl
theorem eElemOfP (w : World) : (Rtype.elem? 47).run Tryd.prog w = .ok (some 39) w := by kernel_rfl
theorem eMkE (p : Addr) (w : World) : (ReflectliteValue.mk 39 p ReflectliteValue.flagAddr).run Tryd.prog w = .ok (.agg #[.pointer (some ⟨4, 39, none⟩), .pointer (some p), .int .u64 386]) w := by kernel_rfl
theorem eElemVP (a p : Addr) (W : World) (ha : W.cell? a = some (.pointer (some p))) :
    (ReflectliteValue.method (ReflectliteValue.valueError "reflectlite.Value.Elem" 0) ReflectliteValue.elem #[.agg #[.pointer (some ⟨4, 47, none⟩), .pointer (some a), .int .u64 150]]).run Tryd.prog W
      = .ok (.agg #[.pointer (some ⟨4, 39, none⟩), .pointer (some p), .int .u64 386]) W := by
  rw [rlmF]
  simp only [Sem.run_bind, ePartsP, Result.andThen]
  simp [ReflectliteValue.elem, loadVar, isAgg, underlying, Tryd.underlying47, ha, Result.andThen, eElemOfP, eMkE]
theorem ePartsEa (a : Addr) (w : World) : (ReflectliteValue.parts (.agg #[.pointer (some ⟨4, 39, none⟩), .pointer (some a), .int .u64 386])).run Tryd.prog w = .ok (some (39, a, 386)) w := by kernel_rfl
theorem ePartsE (a : Addr) (w : World) : (ReflectliteValue.parts (.agg #[.pointer (some ⟨4, 39, none⟩), .pointer (some a), .int .u64 130])).run Tryd.prog w = .ok (some (39, a, 130)) w := by kernel_rfl
theorem eDirectE (w : World) : (Rtype.directlyAssignable 39 39).run Tryd.prog w = .ok true w := by kernel_rfl
theorem eSetE (b g : Addr) (c : Int) (old : Value) (W : World) (hb : W.cell? b = some (.int .i64 c)) (ht : W.cell? g = some old) (hf : W.frozen? g = false) :
    (ReflectliteValue.set #[.agg #[.pointer (some ⟨4, 39, none⟩), .pointer (some g), .int .u64 386], .agg #[.pointer (some ⟨4, 39, none⟩), .pointer (some b), .int .u64 130]]).run Tryd.prog W
      = .ok (.tuple #[]) (W.setCell g (.int .i64 c)) := by
  rw [rlsF]
  simp only [Sem.run_bind, ePartsEa, ePartsE, Result.andThen]
  simp [ReflectliteValue.flagAddr, loadVar, isAgg, underlying, Tryd.underlying39, hb, Result.andThen, eDirectE, storeVar, Value.cells, storeCells, Addr.add]
  rw [run_store Tryd.prog W g _ _ (by rfl)]
  simp [ht, hf]
theorem noAsR (v : Value) (xT : TypeId) (w : World) : (Instr.typeAssert (.iface 42 v) xT 87 true).run Tryd.prog w = .ok (.tuple #[.nilIface, .bool false]) w := run_typeAssert_lacksB Tryd.underlying87 (by kernel_rfl) (by kernel_rfl) v xT w
/-- errors.As has set the number. -/
def NumHit (g : Nat) (c : Int) (w : World) (e : Ending) (w2 : World) : Prop := e = .returned (.bool true) ∧ w2.cell? ⟨g, 0, none⟩ = some (.int .i64 c) ∧ Kp [g] w w2
theorem numHit_mk {g : Nat} {c : Int} {old : Value} {w W : World} (K : Kp [g] w W) (h0 : W.cell? ⟨g, 0, none⟩ = some old) : NumHit g c w (.returned (.bool true)) (W.setCell ⟨g, 0, none⟩ (.int .i64 c)) :=
  ⟨rfl, World.cell?_setCell_same _ _ _ h0, K.setCell (.inl (by simp)) _⟩
set_option maxHeartbeats 4000000 in
set_option maxRecDepth 20000 in
theorem as_num1 (u c : Int) (b g : Nat) (old : Value) (tv : Value) (w : World) (hb : w.cell? ⟨b, 0, none⟩ = some (.pointer (some ⟨g, 0, none⟩))) (hg : w.cell? ⟨g, 0, none⟩ = some old) (hf : w.frozen? ⟨g, 0, none⟩ = false) :
    Calls Tryd.prog 32 #[.iface 42 (.agg #[.int .i64 u, .int .i64 c]), tv, .agg #[.pointer (some ⟨4, 47, none⟩), .pointer (some ⟨b, 0, none⟩), .int .u64 150], .iface 70 (.agg #[.pointer (some ⟨4, 39, none⟩)])] w (NumHit g c w) := by
  have hbl : b < w.heap.size := World.block_lt_of_cell? w _ hb
  have hgl : g < w.heap.size := World.block_lt_of_cell? w _ hg
  have h8 := @run_callFunc_extern Tryd.prog 18 _ ReflectliteType.typeOf Tryd.func18 (by kernel_rfl) (by kernel_rfl) (by kernel_rfl) (by kernel_rfl)
  have h6 := @run_callFunc_extern Tryd.prog 29 _ (fun args => ReflectliteValue.unpack (args.getD 0 (.tuple #[]))) Tryd.func29 (by kernel_rfl) (by kernel_rfl) (by kernel_rfl) (by kernel_rfl)
  have h35 := @run_callFunc_extern Tryd.prog 74 _ (ReflectliteType.relation "AssignableTo" ReflectliteType.assignableTo) Tryd.func74 (by kernel_rfl) (by kernel_rfl) (by kernel_rfl) (by kernel_rfl)
  have h11 := @run_callFunc_extern Tryd.prog 40 _ (ReflectliteValue.method (ReflectliteValue.valueError "reflectlite.Value.Elem" 0) ReflectliteValue.elem) Tryd.func40 (by kernel_rfl) (by kernel_rfl) (by kernel_rfl) (by kernel_rfl)
  have h12 := @run_callFunc_extern Tryd.prog 41 _ ReflectliteValue.set Tryd.func41 (by kernel_rfl) (by kernel_rfl) (by kernel_rfl) (by kernel_rfl)
  have mA := aMethodAssignableTo
  have tR := eTypeOfR
  have tE := eTypeOfE
  have aR := eAssignR
  have aE := eAssignE
  have vE := eValueOfE'
  have nR := noAsR
  have uR := hasUnwrapR
  have mR := methodUnwrapR
  have el := eElemVP ⟨b, 0, none⟩ ⟨g, 0, none⟩ ((w.alloc (.cells #[.pointer (some ⟨4, 47, none⟩), .pointer (some ⟨b, 0, none⟩), .int .u64 150] 62)).alloc (.cells #[.int .i64 u, .int .i64 c] 42)) (by rw [Kp.cell0 (((Kp.refl [] w).alloc _).alloc _) hbl]; exact hb)
  have st := eSetE ⟨w.heap.size + 1 + 1, 0, none⟩ ⟨g, 0, none⟩ c old (((w.alloc (.cells #[.pointer (some ⟨4, 47, none⟩), .pointer (some ⟨b, 0, none⟩), .int .u64 150] 62)).alloc (.cells #[.int .i64 u, .int .i64 c] 42)).alloc (.cells #[.int .i64 c] 39)) (by rw [World.cell?_alloc_at _ _ _ _ (by simp)]; rfl) (by rw [Kp.cell0 ((((Kp.refl [] w).alloc _).alloc _).alloc _) hgl]; exact hg) (by rw [Kp.frozen0 ((((Kp.refl [] w).alloc _).alloc _).alloc _) hgl]; exact hf)
  have K := Lib.hid (show Kp [g] w (((w.alloc (.cells #[.pointer (some ⟨4, 47, none⟩), .pointer (some ⟨b, 0, none⟩), .int .u64 150] 62)).alloc (.cells #[.int .i64 u, .int .i64 c] 42)).alloc (.cells #[.int .i64 c] 39)) from ((((Kp.refl [g] w).alloc _).alloc _).alloc _))
  have C := Lib.hid (show ((((w.alloc (.cells #[.pointer (some ⟨4, 47, none⟩), .pointer (some ⟨b, 0, none⟩), .int .u64 150] 62)).alloc (.cells #[.int .i64 u, .int .i64 c] 42)).alloc (.cells #[.int .i64 c] 39))).cell? ⟨g, 0, none⟩ = some old by rw [Kp.cell0 ((((Kp.refl [] w).alloc _).alloc _).alloc _) hgl]; exact hg)
  clear hb hg hf
  go_enter Tryd.func32, Tryd.ntmps32
  go_wp2
  refine wp_loop_rounds 2 ?_
  rw [rounds_succ]
  go_wp2
  rw [rounds_succ]
  go_wp2
  go_ret
  exact numHit_mk K.out C.out
theorem FErr.iface {c : Int} {v : Value} (h : FErr c v) : ∃ x, v = .iface 42 x := by obtain ⟨u, rfl⟩ := h; exact ⟨_, rfl⟩
set_option maxHeartbeats 4000000 in
set_option maxRecDepth 20000 in
/-- errors.As(an error of package frame, &a variable of the number's type). -/
theorem as_num (v : Value) (c : Int) (g : Nat) (old : Value) (hv : FErr c v) (w : World) (hE : EHas w) (hg : w.cell? ⟨g, 0, none⟩ = some old) (hf : w.frozen? ⟨g, 0, none⟩ = false) :
    Calls Tryd.prog 17 #[v, .iface 47 (.pointer (some ⟨g, 0, none⟩))] w (NumHit g c w) := by
  have h8 := @run_callFunc_extern Tryd.prog 31 _ (ReflectliteValue.method (ReflectliteValue.valueError "reflectlite.Value.IsNil" 0) ReflectliteValue.isNil) Tryd.func31 (by kernel_rfl) (by kernel_rfl) (by kernel_rfl) (by kernel_rfl)
  have h6 := @run_callFunc_extern Tryd.prog 29 _ (fun args => ReflectliteValue.unpack (args.getD 0 (.tuple #[]))) Tryd.func29 (by kernel_rfl) (by kernel_rfl) (by kernel_rfl) (by kernel_rfl)
  have h7 := @run_callFunc_extern Tryd.prog 30 _ (ReflectliteValue.methodAny (ReflectliteValue.valueError "reflectlite.Value.Type" 0) (fun t _ _ _ => ReflectliteType.toType t)) Tryd.func30 (by kernel_rfl) (by kernel_rfl) (by kernel_rfl) (by kernel_rfl)
  have h27 := @run_callFunc_extern Tryd.prog 64 _ (ReflectliteType.abiMethod fun t => do pure (.int .u8 (← Rtype.kind t))) Tryd.func64 (by kernel_rfl) (by kernel_rfl) (by kernel_rfl) (by kernel_rfl)
  have h37 := @run_callFunc_extern Tryd.prog 76 _ (ReflectliteType.method ReflectliteType.elem) Tryd.func76 (by kernel_rfl) (by kernel_rfl) (by kernel_rfl) (by kernel_rfl)
  have h38 := @run_callFunc_extern Tryd.prog 77 _ (ReflectliteType.relation "Implements" ReflectliteType.implements_) Tryd.func77 (by kernel_rfl) (by kernel_rfl) (by kernel_rfl) (by kernel_rfl)
  have f6 := eValueOfP
  have f7 := eTypeP
  have mK := aMethodKind
  have mE := aMethodElem
  have mI := aMethodImplements
  have kP := eKindP
  have kE := eKindE
  have eP := eElemP
  have iE := eImplementsE
  have hgl : g < w.heap.size := World.block_lt_of_cell? w _ hg
  have n8 := eIsNilP ⟨w.heap.size, 0, none⟩ ⟨g, 0, none⟩ ((w.alloc (.cells #[.pointer (some ⟨g, 0, none⟩)] 47)).alloc (.cells #[.pointer (some ⟨4, 47, none⟩), .pointer (some ⟨w.heap.size, 0, none⟩), .int .u64 150] 62)) (by simp)
  have hg2 : ((w.alloc (.cells #[.pointer (some ⟨g, 0, none⟩)] 47)).alloc (.cells #[.pointer (some ⟨4, 47, none⟩), .pointer (some ⟨w.heap.size, 0, none⟩), .int .u64 150] 62)).cell? ⟨0, 0, none⟩ = some (.iface 70 (.agg #[.pointer (some ⟨4, 25, none⟩)])) := by
    rw [Kp.cell0 (((Kp.refl [] w).alloc _).alloc _) hE.2]; exact hE.1
  obtain ⟨W2, hW2⟩ : ∃ W2, W2 = ((w.alloc (.cells #[.pointer (some ⟨g, 0, none⟩)] 47)).alloc (.cells #[.pointer (some ⟨4, 47, none⟩), .pointer (some ⟨w.heap.size, 0, none⟩), .int .u64 150] 62)) := ⟨_, rfl⟩
  have k0 : Kp [] w W2 := by rw [hW2]; exact ((Kp.refl [] w).alloc _).alloc _
  have b2 : W2.cell? ⟨w.heap.size, 0, none⟩ = some (.pointer (some ⟨g, 0, none⟩)) := by rw [hW2]; simp
  have g2 : W2.cell? ⟨g, 0, none⟩ = some old := by rw [k0.cell0 hgl]; exact hg
  have fz2 : W2.frozen? ⟨g, 0, none⟩ = false := by rw [k0.frozen0 hgl]; exact hf
  have hcall : Calls Tryd.prog 32 #[v, .iface 47 (.pointer (some ⟨g, 0, none⟩)), .agg #[.pointer (some ⟨4, 47, none⟩), .pointer (some ⟨w.heap.size, 0, none⟩), .int .u64 150], .iface 70 (.agg #[.pointer (some ⟨4, 39, none⟩)])] W2 (NumHit g c W2) := by
    obtain ⟨u, rfl⟩ := hv
    exact as_num1 u c _ g old _ W2 b2 g2 fz2
  obtain ⟨x, rfl⟩ := hv.iface
  rw [hW2] at hcall
  have HC := Lib.hid hcall
  have K0 := Lib.hid k0
  have HW := Lib.hid hW2
  clear hcall k0 hW2 b2 g2 fz2 hv hE hg hf
  go_enter Tryd.func17, Tryd.ntmps17
  go_wp2_with fail
  refine Calls.mono HC.out ?_
  rintro e w3 ⟨rfl, h1, h2⟩
  have H1 := Lib.hid h1
  have H2 := Lib.hid h2
  clear h1 h2
  go_wp2_with fail
  go_ret
  exact ⟨rfl, H1.out, ((((Kp.refl [g] w).alloc _).alloc _).trans H2.out)⟩
/-- The law's code, of an error of package frame and of none. -/
theorem code_nil (w : World) : Calls Tryd.prog 11 #[.nilIface] w fun e w2 => e = .returned (.int .i64 0) ∧ Kp [] w w2 := by
  go_enter Tryd.func11, Tryd.ntmps11
  go_wp2
  go_ret
  exact ⟨rfl, (Kp.refl [] w).alloc _⟩
theorem code_ferr (v : Value) (c : Int) (hv : FErr c v) (w : World) (hE : EHas w) :
    Calls Tryd.prog 11 #[v] w fun e w2 => e = .returned (.int .i64 c) ∧ Kp [] w w2 := by
  have hcall := as_num v c w.heap.size (.int .i64 0) hv (w.alloc (.cells #[.int .i64 0] 39)) (hE.kept ((Kp.refl [] w).alloc _)) (by simp) (by simp)
  obtain ⟨x, rfl⟩ := hv.iface
  have HC := Lib.hid hcall
  clear hcall hv hE
  go_enter Tryd.func11, Tryd.ntmps11
  go_wp2_with fail
  refine Calls.mono HC.out ?_
  rintro e w3 ⟨rfl, h1, h2⟩
  have H2 := Lib.hid h2
  clear h2
  go_wp2_with fail
  go_ret
  exact ⟨rfl, ((Kp.refl [] w).alloc _).trans2 H2.out (fun x hx => .inr (by simp at hx; omega))⟩

end Go.Proofs.YtmhnjgnljfkdcaaDoor
