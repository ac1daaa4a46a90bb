/- errors.As at an error of package journal, its target a variable of the type diskFault: by Go's own text. (Made by wip/tools/genas.py.) -/
import Derived.Test.YtggnljfcdohkaaaGreatDoorJnH
namespace Go.Proofs.YtggnljfcdohkaaaGreatDoor
open Go.RowKit Go.Extern.Stop Go.Stop Go.Extern
namespace JnAs

theorem aValueOfP (t : Addr) (w : World) : (ReflectliteValue.unpack (.iface 125 (.pointer (some t)))).run Tryz.prog w
    = .ok (.agg #[.pointer (some ⟨7, 125, none⟩), .pointer (some ⟨w.heap.size, 0, none⟩), .int .u64 150]) (w.alloc (.cells #[.pointer (some t)] 125)) := by kernel_rfl
theorem aTypeP (a : Addr) (w : World) : (ReflectliteValue.methodAny (ReflectliteValue.valueError "reflectlite.Value.Type" 0) (fun t _ _ _ => ReflectliteType.toType t) #[.agg #[.pointer (some ⟨7, 125, none⟩), .pointer (some a), .int .u64 150]]).run Tryz.prog w
    = .ok (.iface 139 (.agg #[.pointer (some ⟨7, 125, none⟩)])) w := by kernel_rfl
theorem aKindP (w : World) : ((ReflectliteType.abiMethod fun t => (fun a : Nat => Value.int IntKind.u8 (a : Int)) <$> Rtype.kind t) #[.pointer (some ⟨7, 125, none⟩)]).run Tryz.prog w = .ok (.int .u8 22) w := by kernel_rfl
theorem aKindF (w : World) : ((ReflectliteType.abiMethod fun t => (fun a : Nat => Value.int IntKind.u8 (a : Int)) <$> Rtype.kind t) #[.pointer (some ⟨7, 124, none⟩)]).run Tryz.prog w = .ok (.int .u8 25) w := by kernel_rfl
theorem aPartsP (a : Addr) (w : World) : (ReflectliteValue.parts (.agg #[.pointer (some ⟨7, 125, none⟩), .pointer (some a), .int .u64 150])).run Tryz.prog w = .ok (some (125, a, 150)) w := by kernel_rfl
theorem aIsNilP (a p : Addr) (W : World) (ha : W.cell? a = some (.pointer (some p))) :
    (ReflectliteValue.method (ReflectliteValue.valueError "reflectlite.Value.IsNil" 0) ReflectliteValue.isNil #[.agg #[.pointer (some ⟨7, 125, none⟩), .pointer (some a), .int .u64 150]]).run Tryz.prog W = .ok (.bool false) W := by
  rw [rlmF]
  simp only [Sem.run_bind, aPartsP, Result.andThen]
  simp [ReflectliteValue.isNil, loadVar, isAgg, underlying, Tryz.underlying125, ha, Result.andThen]
theorem aElemP (w : World) : (ReflectliteType.method ReflectliteType.elem #[.agg #[.pointer (some ⟨7, 125, none⟩)]]).run Tryz.prog w = .ok (.iface 139 (.agg #[.pointer (some ⟨7, 124, none⟩)])) w := by kernel_rfl
theorem aImplementsF (w : World) : (ReflectliteType.relation "Implements" ReflectliteType.implements_ #[.agg #[.pointer (some ⟨7, 124, none⟩)], .iface 139 (.agg #[.pointer (some ⟨7, 30, none⟩)])]).run Tryz.prog w = .ok (.bool true) w := by kernel_rfl
theorem aTypeOfF (v : Value) (w : World) : (ReflectliteType.typeOf #[.iface 124 v]).run Tryz.prog w = .ok (.iface 139 (.agg #[.pointer (some ⟨7, 124, none⟩)])) w := by kernel_rfl
theorem aAssignableF (w : World) : (ReflectliteType.relation "AssignableTo" ReflectliteType.assignableTo #[.agg #[.pointer (some ⟨7, 124, none⟩)], .iface 139 (.agg #[.pointer (some ⟨7, 124, none⟩)])]).run Tryz.prog w = .ok (.bool true) w := by kernel_rfl
theorem aValueOfF (x : Value) (w : World) : (ReflectliteValue.unpack (.iface 124 (.agg #[x]))).run Tryz.prog w
    = .ok (.agg #[.pointer (some ⟨7, 124, none⟩), .pointer (some ⟨w.heap.size, 0, none⟩), .int .u64 153]) (w.alloc (.cells #[x] 124)) := by kernel_rfl
theorem aElemOfP (w : World) : (Rtype.elem? 125).run Tryz.prog w = .ok (some 124) w := by kernel_rfl
theorem aMkF (p : Addr) (w : World) : (ReflectliteValue.mk 124 p ReflectliteValue.flagAddr).run Tryz.prog w = .ok (.agg #[.pointer (some ⟨7, 124, none⟩), .pointer (some p), .int .u64 409]) w := by kernel_rfl
theorem aElemVP (a p : Addr) (W : World) (ha : W.cell? a = some (.pointer (some p))) :
    (ReflectliteValue.method (ReflectliteValue.valueError "reflectlite.Value.Elem" 0) ReflectliteValue.elem #[.agg #[.pointer (some ⟨7, 125, none⟩), .pointer (some a), .int .u64 150]]).run Tryz.prog W
      = .ok (.agg #[.pointer (some ⟨7, 124, none⟩), .pointer (some p), .int .u64 409]) W := by
  rw [rlmF]
  simp only [Sem.run_bind, aPartsP, Result.andThen]
  simp [ReflectliteValue.elem, loadVar, isAgg, underlying, Tryz.underlying125, ha, Result.andThen, aElemOfP, aMkF]
theorem aPartsFa (a : Addr) (w : World) : (ReflectliteValue.parts (.agg #[.pointer (some ⟨7, 124, none⟩), .pointer (some a), .int .u64 409])).run Tryz.prog w = .ok (some (124, a, 409)) w := by kernel_rfl
theorem aPartsF (a : Addr) (w : World) : (ReflectliteValue.parts (.agg #[.pointer (some ⟨7, 124, none⟩), .pointer (some a), .int .u64 153])).run Tryz.prog w = .ok (some (124, a, 153)) w := by kernel_rfl
theorem aDirectF (w : World) : (Rtype.directlyAssignable 124 124).run Tryz.prog w = .ok true w := by kernel_rfl
theorem aSizeF (w : World) : (sizeOf 124).run Tryz.prog w = .ok 1 w := by kernel_rfl
theorem aIsAggF (w : World) : (isAgg 124).run Tryz.prog w = .ok true w := by kernel_rfl
theorem aSetF (b g : Nat) (sx : Value) (o0 : Value) (W : World) (h0 : W.cell? ⟨b, 0, none⟩ = some sx)
    (t0 : W.cell? ⟨g, 0, none⟩ = some o0) (f0 : W.frozen? ⟨g, 0, none⟩ = false) (h1c : sx.oneCell' = true) :
    (ReflectliteValue.set #[.agg #[.pointer (some ⟨7, 124, none⟩), .pointer (some ⟨g, 0, none⟩), .int .u64 409], .agg #[.pointer (some ⟨7, 124, none⟩), .pointer (some ⟨b, 0, none⟩), .int .u64 153]]).run Tryz.prog W
      = .ok (.tuple #[]) (W.setCells g 0 [sx]) := by
  rw [rlsF]
  simp only [Sem.run_bind, aPartsFa, aPartsF, Result.andThen]
  simp [ReflectliteValue.flagAddr, loadVar, Result.andThen, aDirectF, storeVar, loadCells, loadCellsFrom, h0, Addr.add]
  have hsz : (Value.agg #[sx]).cells = #[sx] := by rfl
  rw [hsz]
  have hst := run_storeCells_cells (P := Tryz.prog) g 0 [sx] 0 W (fun j hj => by
      match j, hj with
      | 0, _ => simp [t0]
      | j + 1, hj => (simp at hj)) (fun j hj => by
      match j, hj with
      | 0, _ => simpa using f0
      | j + 1, hj => (simp at hj)) (fun v hv => by simp at hv; subst hv; exact h1c)
  simp only [List.size_toArray, List.length_cons, List.length_nil, if_true, hst]

/-- errors.As has set the variable. -/
def AsHit (g : Nat) (sx : Value) (w : World) (e : Ending) (w2 : World) : Prop := e = .returned (.bool true) ∧ w2.rangeAt g 0 [sx] ∧ w2.there g 0 1 ∧ Kp [g] w w2
theorem asHit_mk {g : Nat} {sx : Value} {w : World} (a b d e : Obj) (hth : ((((w.alloc a).alloc b).alloc d).alloc e).there g 0 1) :
    AsHit g sx w (.returned (.bool true)) (((((w.alloc a).alloc b).alloc d).alloc e).setCells g 0 [sx]) :=
  ⟨rfl, World.rangeAt_setCells_same _ _ _ _ hth, World.there_setCells hth _ _ _, (((((Kp.refl [g] w).alloc _).alloc _).alloc _).alloc _).setCells (.inl (by simp)) _ _⟩
set_option maxHeartbeats 4000000 in
/-- errors.As(an error of the package, &a variable of its type): true; the variable is the error. -/
theorem as_hit (sx : Value) (g : Nat) (o0 : Value) (w : World) (hg : w.cell? ⟨0, 0, none⟩ = some (.iface 139 (.agg #[.pointer (some ⟨7, 30, none⟩)])))
    (t0 : w.cell? ⟨g, 0, none⟩ = some o0) (f0 : w.frozen? ⟨g, 0, none⟩ = false) (h1c : sx.oneCell' = true) :
    Calls Tryz.prog 29 #[.iface 124 (.agg #[sx]), .iface 125 (.pointer (some ⟨g, 0, none⟩))] w (AsHit g sx w) := by
  have h6 := @run_callFunc_extern Tryz.prog 55 _ (fun args => ReflectliteValue.unpack (args.getD 0 (.tuple #[]))) Tryz.func55 (by kernel_rfl) (by kernel_rfl) (by kernel_rfl) (by kernel_rfl)
  have h7 := @run_callFunc_extern Tryz.prog 56 _ (ReflectliteValue.methodAny (ReflectliteValue.valueError "reflectlite.Value.Type" 0) (fun t _ _ _ => ReflectliteType.toType t)) Tryz.func56 (by kernel_rfl) (by kernel_rfl) (by kernel_rfl) (by kernel_rfl)
  have h8 := @run_callFunc_extern Tryz.prog 57 _ (ReflectliteValue.method (ReflectliteValue.valueError "reflectlite.Value.IsNil" 0) ReflectliteValue.isNil) Tryz.func57 (by kernel_rfl) (by kernel_rfl) (by kernel_rfl) (by kernel_rfl)
  have h27 := @run_callFunc_extern Tryz.prog 164 _ (ReflectliteType.abiMethod fun t => do pure (.int .u8 (← Rtype.kind t))) Tryz.func164 (by kernel_rfl) (by kernel_rfl) (by kernel_rfl) (by kernel_rfl)
  have h37 := @run_callFunc_extern Tryz.prog 180 _ (ReflectliteType.method ReflectliteType.elem) Tryz.func180 (by kernel_rfl) (by kernel_rfl) (by kernel_rfl) (by kernel_rfl)
  have h38 := @run_callFunc_extern Tryz.prog 181 _ (ReflectliteType.relation "Implements" ReflectliteType.implements_) Tryz.func181 (by kernel_rfl) (by kernel_rfl) (by kernel_rfl) (by kernel_rfl)
  have h10 := @run_callFunc_extern Tryz.prog 53 _ ReflectliteType.typeOf Tryz.func53 (by kernel_rfl) (by kernel_rfl) (by kernel_rfl) (by kernel_rfl)
  have h35 := @run_callFunc_extern Tryz.prog 178 _ (ReflectliteType.relation "AssignableTo" ReflectliteType.assignableTo) Tryz.func178 (by kernel_rfl) (by kernel_rfl) (by kernel_rfl) (by kernel_rfl)
  have h11 := @run_callFunc_extern Tryz.prog 80 _ (ReflectliteValue.method (ReflectliteValue.valueError "reflectlite.Value.Elem" 0) ReflectliteValue.elem) Tryz.func80 (by kernel_rfl) (by kernel_rfl) (by kernel_rfl) (by kernel_rfl)
  have h12 := @run_callFunc_extern Tryz.prog 81 _ ReflectliteValue.set Tryz.func81 (by kernel_rfl) (by kernel_rfl) (by kernel_rfl) (by kernel_rfl)
  have tO := aTypeOfF
  have mA := aMethodAssignableTo
  have a25 := aAssignableF
  have v25 := aValueOfF
  have f6 := aValueOfP
  have f7 := aTypeP
  have mK := aMethodKind
  have mE := aMethodElem
  have mI := aMethodImplements
  have k27 := aKindP
  have k25 := aKindF
  have e27 := aElemP
  have i25 := aImplementsF
  have hlt : 0 < w.heap.size := by
    rcases Nat.lt_or_ge 0 w.heap.size with h | h
    · exact h
    · simp [World.cell?, Array.getElem?_eq_none h] at hg
  have htl : g < w.heap.size := by
    rcases Nat.lt_or_ge g w.heap.size with h | h
    · exact h
    · simp [World.cell?, Array.getElem?_eq_none h] at t0
  obtain ⟨W2, hW2⟩ : ∃ W2, W2 = ((w.alloc (.cells #[.pointer (some ⟨g, 0, none⟩)] 125)).alloc (.cells #[.pointer (some ⟨7, 125, none⟩), .pointer (some ⟨w.heap.size, 0, none⟩), .int .u64 150] 102)) := ⟨_, rfl⟩
  have n8 := aIsNilP ⟨w.heap.size, 0, none⟩ ⟨g, 0, none⟩ ((w.alloc (.cells #[.pointer (some ⟨g, 0, none⟩)] 125)).alloc (.cells #[.pointer (some ⟨7, 125, none⟩), .pointer (some ⟨w.heap.size, 0, none⟩), .int .u64 150] 102)) (by simp)
  have hg2 : ((w.alloc (.cells #[.pointer (some ⟨g, 0, none⟩)] 125)).alloc (.cells #[.pointer (some ⟨7, 125, none⟩), .pointer (some ⟨w.heap.size, 0, none⟩), .int .u64 150] 102)).cell? ⟨0, 0, none⟩ = some (.iface 139 (.agg #[.pointer (some ⟨7, 30, none⟩)])) := by
    rw [World.cell?_alloc_lt _ _ ⟨0, 0, none⟩ (by simp), World.cell?_alloc_lt _ _ ⟨0, 0, none⟩ hlt]; exact hg
  have el := aElemVP ⟨w.heap.size, 0, none⟩ ⟨g, 0, none⟩ (((w.alloc (.cells #[.pointer (some ⟨g, 0, none⟩)] 125)).alloc (.cells #[.pointer (some ⟨7, 125, none⟩), .pointer (some ⟨w.heap.size, 0, none⟩), .int .u64 150] 102)).alloc (.cells #[.pointer (some ⟨7, 125, none⟩), .pointer (some ⟨w.heap.size, 0, none⟩), .int .u64 150] 102)) (by rw [World.cell?_alloc_lt _ _ ⟨w.heap.size, 0, none⟩ (by simp; omega)]; simp)
  have hup : ∀ (o : Nat) (W : World) (ob : Obj), g < W.heap.size → (W.alloc ob).cell? ⟨g, o, none⟩ = W.cell? ⟨g, o, none⟩ ∧ (W.alloc ob).frozen? ⟨g, o, none⟩ = W.frozen? ⟨g, o, none⟩ := fun o W ob h => ⟨World.cell?_alloc_lt _ _ ⟨g, o, none⟩ h, World.frozen?_alloc_old _ _ ⟨g, o, none⟩ (Nat.ne_of_lt h)⟩
  have hall : ∀ (o : Nat), ((((w.alloc (.cells #[.pointer (some ⟨g, 0, none⟩)] 125)).alloc (.cells #[.pointer (some ⟨7, 125, none⟩), .pointer (some ⟨w.heap.size, 0, none⟩), .int .u64 150] 102)).alloc (.cells #[.pointer (some ⟨7, 125, none⟩), .pointer (some ⟨w.heap.size, 0, none⟩), .int .u64 150] 102)).alloc (.cells #[sx] 124)).cell? ⟨g, o, none⟩ = w.cell? ⟨g, o, none⟩ ∧ ((((w.alloc (.cells #[.pointer (some ⟨g, 0, none⟩)] 125)).alloc (.cells #[.pointer (some ⟨7, 125, none⟩), .pointer (some ⟨w.heap.size, 0, none⟩), .int .u64 150] 102)).alloc (.cells #[.pointer (some ⟨7, 125, none⟩), .pointer (some ⟨w.heap.size, 0, none⟩), .int .u64 150] 102)).alloc (.cells #[sx] 124)).frozen? ⟨g, o, none⟩ = w.frozen? ⟨g, o, none⟩ := fun o => by
    obtain ⟨a1, b1⟩ := hup o w (.cells #[.pointer (some ⟨g, 0, none⟩)] 125) htl
    obtain ⟨a2, b2⟩ := hup o _ (.cells #[.pointer (some ⟨7, 125, none⟩), .pointer (some ⟨w.heap.size, 0, none⟩), .int .u64 150] 102) (show g < (w.alloc (.cells #[.pointer (some ⟨g, 0, none⟩)] 125)).heap.size by simp; omega)
    obtain ⟨a3, b3⟩ := hup o _ (.cells #[.pointer (some ⟨7, 125, none⟩), .pointer (some ⟨w.heap.size, 0, none⟩), .int .u64 150] 102) (show g < ((w.alloc (.cells #[.pointer (some ⟨g, 0, none⟩)] 125)).alloc (.cells #[.pointer (some ⟨7, 125, none⟩), .pointer (some ⟨w.heap.size, 0, none⟩), .int .u64 150] 102)).heap.size by simp; omega)
    obtain ⟨a4, b4⟩ := hup o _ (.cells #[sx] 124) (show g < (((w.alloc (.cells #[.pointer (some ⟨g, 0, none⟩)] 125)).alloc (.cells #[.pointer (some ⟨7, 125, none⟩), .pointer (some ⟨w.heap.size, 0, none⟩), .int .u64 150] 102)).alloc (.cells #[.pointer (some ⟨7, 125, none⟩), .pointer (some ⟨w.heap.size, 0, none⟩), .int .u64 150] 102)).heap.size by simp; omega)
    exact ⟨a4.trans (a3.trans (a2.trans a1)), b4.trans (b3.trans (b2.trans b1))⟩
  have st := aSetF (w.heap.size + 1 + 1 + 1) g sx o0 ((((w.alloc (.cells #[.pointer (some ⟨g, 0, none⟩)] 125)).alloc (.cells #[.pointer (some ⟨7, 125, none⟩), .pointer (some ⟨w.heap.size, 0, none⟩), .int .u64 150] 102)).alloc (.cells #[.pointer (some ⟨7, 125, none⟩), .pointer (some ⟨w.heap.size, 0, none⟩), .int .u64 150] 102)).alloc (.cells #[sx] 124))
    (by rw [World.cell?_alloc_at _ _ _ _ (by simp)]; rfl)
    ((hall 0).1.trans t0) ((hall 0).2.trans f0) h1c
  have hth : ((((w.alloc (.cells #[.pointer (some ⟨g, 0, none⟩)] 125)).alloc (.cells #[.pointer (some ⟨7, 125, none⟩), .pointer (some ⟨w.heap.size, 0, none⟩), .int .u64 150] 102)).alloc (.cells #[.pointer (some ⟨7, 125, none⟩), .pointer (some ⟨w.heap.size, 0, none⟩), .int .u64 150] 102)).alloc (.cells #[sx] 124)).there g 0 1 := fun j hj => by
    match j, hj with
    | 0, _ => exact ⟨by rw [Nat.zero_add, (hall 0).1, t0]; rfl, by rw [Nat.zero_add, (hall 0).2, f0]⟩
  have HTH := Lib.hid hth
  clear hall hup hW2 hth
  go_enter Tryz.func29, Tryz.ntmps29
  go_wp2
  refine wp_loop_rounds 1 ?_
  rw [rounds_succ]
  go_wp2
  go_ret
  exact asHit_mk _ _ _ _ HTH.out


theorem aTypeOfN (v : Value) (w : World) : (ReflectliteType.typeOf #[.iface 63 v]).run Tryz.prog w = .ok (.iface 139 (.agg #[.pointer (some ⟨7, 63, none⟩)])) w := by kernel_rfl
theorem aAssignableN (w : World) : (ReflectliteType.relation "AssignableTo" ReflectliteType.assignableTo #[.agg #[.pointer (some ⟨7, 63, none⟩)], .iface 139 (.agg #[.pointer (some ⟨7, 124, none⟩)])]).run Tryz.prog w = .ok (.bool false) w := by kernel_rfl
theorem noAsN (v : Value) (xT : TypeId) (w : World) : (Instr.typeAssert (.iface 63 v) xT 150 true).run Tryz.prog w = .ok (.tuple #[.nilIface, .bool false]) w := run_typeAssert_lacksB Tryz.underlying150 (by kernel_rfl) (by kernel_rfl) v xT w
set_option maxHeartbeats 4000000 in
/-- errors.As(a number, &a variable of the type diskFault): false. -/
theorem as_miss (c : Int) (g : Nat) (o0 : Value) (w : World) (hg : w.cell? ⟨0, 0, none⟩ = some (.iface 139 (.agg #[.pointer (some ⟨7, 30, none⟩)])))
    (t0 : w.cell? ⟨g, 0, none⟩ = some o0) (_f0 : w.frozen? ⟨g, 0, none⟩ = false) :
    Calls Tryz.prog 29 #[.iface 63 (.int .i64 c), .iface 125 (.pointer (some ⟨g, 0, none⟩))] w fun e w2 => e = .returned (.bool false) ∧ Kp [] w w2 := by
  have h6 := @run_callFunc_extern Tryz.prog 55 _ (fun args => ReflectliteValue.unpack (args.getD 0 (.tuple #[]))) Tryz.func55 (by kernel_rfl) (by kernel_rfl) (by kernel_rfl) (by kernel_rfl)
  have h7 := @run_callFunc_extern Tryz.prog 56 _ (ReflectliteValue.methodAny (ReflectliteValue.valueError "reflectlite.Value.Type" 0) (fun t _ _ _ => ReflectliteType.toType t)) Tryz.func56 (by kernel_rfl) (by kernel_rfl) (by kernel_rfl) (by kernel_rfl)
  have h8 := @run_callFunc_extern Tryz.prog 57 _ (ReflectliteValue.method (ReflectliteValue.valueError "reflectlite.Value.IsNil" 0) ReflectliteValue.isNil) Tryz.func57 (by kernel_rfl) (by kernel_rfl) (by kernel_rfl) (by kernel_rfl)
  have h27 := @run_callFunc_extern Tryz.prog 164 _ (ReflectliteType.abiMethod fun t => do pure (.int .u8 (← Rtype.kind t))) Tryz.func164 (by kernel_rfl) (by kernel_rfl) (by kernel_rfl) (by kernel_rfl)
  have h37 := @run_callFunc_extern Tryz.prog 180 _ (ReflectliteType.method ReflectliteType.elem) Tryz.func180 (by kernel_rfl) (by kernel_rfl) (by kernel_rfl) (by kernel_rfl)
  have h38 := @run_callFunc_extern Tryz.prog 181 _ (ReflectliteType.relation "Implements" ReflectliteType.implements_) Tryz.func181 (by kernel_rfl) (by kernel_rfl) (by kernel_rfl) (by kernel_rfl)
  have h10 := @run_callFunc_extern Tryz.prog 53 _ ReflectliteType.typeOf Tryz.func53 (by kernel_rfl) (by kernel_rfl) (by kernel_rfl) (by kernel_rfl)
  have h35 := @run_callFunc_extern Tryz.prog 178 _ (ReflectliteType.relation "AssignableTo" ReflectliteType.assignableTo) Tryz.func178 (by kernel_rfl) (by kernel_rfl) (by kernel_rfl) (by kernel_rfl)
  have h11 := @run_callFunc_extern Tryz.prog 80 _ (ReflectliteValue.method (ReflectliteValue.valueError "reflectlite.Value.Elem" 0) ReflectliteValue.elem) Tryz.func80 (by kernel_rfl) (by kernel_rfl) (by kernel_rfl) (by kernel_rfl)
  have h12 := @run_callFunc_extern Tryz.prog 81 _ ReflectliteValue.set Tryz.func81 (by kernel_rfl) (by kernel_rfl) (by kernel_rfl) (by kernel_rfl)
  have tO := aTypeOfF
  have mA := aMethodAssignableTo
  have a25 := aAssignableF
  have v25 := aValueOfF
  have f6 := aValueOfP
  have f7 := aTypeP
  have mK := aMethodKind
  have mE := aMethodElem
  have mI := aMethodImplements
  have k27 := aKindP
  have k25 := aKindF
  have e27 := aElemP
  have i25 := aImplementsF
  have hlt : 0 < w.heap.size := by
    rcases Nat.lt_or_ge 0 w.heap.size with h | h
    · exact h
    · simp [World.cell?, Array.getElem?_eq_none h] at hg
  have htl : g < w.heap.size := by
    rcases Nat.lt_or_ge g w.heap.size with h | h
    · exact h
    · simp [World.cell?, Array.getElem?_eq_none h] at t0
  obtain ⟨W2, hW2⟩ : ∃ W2, W2 = ((w.alloc (.cells #[.pointer (some ⟨g, 0, none⟩)] 125)).alloc (.cells #[.pointer (some ⟨7, 125, none⟩), .pointer (some ⟨w.heap.size, 0, none⟩), .int .u64 150] 102)) := ⟨_, rfl⟩
  have n8 := aIsNilP ⟨w.heap.size, 0, none⟩ ⟨g, 0, none⟩ ((w.alloc (.cells #[.pointer (some ⟨g, 0, none⟩)] 125)).alloc (.cells #[.pointer (some ⟨7, 125, none⟩), .pointer (some ⟨w.heap.size, 0, none⟩), .int .u64 150] 102)) (by simp)
  have hg2 : ((w.alloc (.cells #[.pointer (some ⟨g, 0, none⟩)] 125)).alloc (.cells #[.pointer (some ⟨7, 125, none⟩), .pointer (some ⟨w.heap.size, 0, none⟩), .int .u64 150] 102)).cell? ⟨0, 0, none⟩ = some (.iface 139 (.agg #[.pointer (some ⟨7, 30, none⟩)])) := by
    rw [World.cell?_alloc_lt _ _ ⟨0, 0, none⟩ (by simp), World.cell?_alloc_lt _ _ ⟨0, 0, none⟩ hlt]; exact hg
  have tN := aTypeOfN
  have aN := aAssignableN
  have nN := noAsN
  have uN := noUnwrapN
  have vN := noUnwrapsN
  clear hW2
  go_enter Tryz.func29, Tryz.ntmps29
  go_wp2
  refine wp_loop_rounds 1 ?_
  rw [rounds_succ]
  go_wp2
  go_ret
  exact ⟨rfl, by repeat (first | exact Kp.refl [] w | refine Kp.alloc ?_ _)⟩


end JnAs
end Go.Proofs.YtggnljfcdohkaaaGreatDoor
