/- errors.As at an error of package pack, its target a variable of that very type: by Go's own text. -/
import Derived.Test.YtggnljfcdohkaaaGreatDoorPkE
namespace Go.Proofs.YtggnljfcdohkaaaGreatDoor
open Go.RowKit Go.Extern.Stop Go.Stop Go.Extern

theorem as_nil (t : Value) (w : World) :
    Calls Tryz.prog 29 #[.nilIface, t] w fun e w' => e = .returned (.bool false) ∧ w = w' := by
  go_enter Tryz.func29, Tryz.ntmps29
  go_wp2
  go_ret
  exact ⟨rfl, rfl⟩
theorem aValueOfP (t : Addr) (w : World) : (ReflectliteValue.unpack (.iface 201 (.pointer (some t)))).run Tryz.prog w
    = .ok (.agg #[.pointer (some ⟨7, 201, none⟩), .pointer (some ⟨w.heap.size, 0, none⟩), .int .u64 150]) (w.alloc (.cells #[.pointer (some t)] 201)) := by kernel_rfl
theorem aTypeP (a : Addr) (w : World) : (ReflectliteValue.methodAny (ReflectliteValue.valueError "reflectlite.Value.Type" 0) (fun t _ _ _ => ReflectliteType.toType t) #[.agg #[.pointer (some ⟨7, 201, none⟩), .pointer (some a), .int .u64 150]]).run Tryz.prog w
    = .ok (.iface 139 (.agg #[.pointer (some ⟨7, 201, none⟩)])) w := by kernel_rfl
theorem aMethodKind (h : Value) (w : World) : (Go.method 342 139 (.agg #[h]) "Kind").run Tryz.prog w = .ok (164, h) w := by kernel_rfl
theorem aKindP (w : World) : ((ReflectliteType.abiMethod fun t => (fun a : Nat => Value.int IntKind.u8 (a : Int)) <$> Rtype.kind t) #[.pointer (some ⟨7, 201, none⟩)]).run Tryz.prog w = .ok (.int .u8 22) w := by kernel_rfl
theorem aKindF (w : World) : ((ReflectliteType.abiMethod fun t => (fun a : Nat => Value.int IntKind.u8 (a : Int)) <$> Rtype.kind t) #[.pointer (some ⟨7, 186, none⟩)]).run Tryz.prog w = .ok (.int .u8 25) w := by kernel_rfl
theorem rlmF (z : Sem Value) (f : TypeId → Addr → Nat → Nat → Sem Value) (v : Value) :
    ReflectliteValue.method z f #[v] = (do match ← ReflectliteValue.parts v with | none => z | some (t, a, fl) => f t a fl (fl % 32)) := rfl
theorem aPartsP (a : Addr) (w : World) : (ReflectliteValue.parts (.agg #[.pointer (some ⟨7, 201, none⟩), .pointer (some a), .int .u64 150])).run Tryz.prog w = .ok (some (201, a, 150)) w := by kernel_rfl
theorem aIsNilP (a p : Addr) (W : World) (ha : W.cell? a = some (.pointer (some p))) :
    (ReflectliteValue.method (ReflectliteValue.valueError "reflectlite.Value.IsNil" 0) ReflectliteValue.isNil #[.agg #[.pointer (some ⟨7, 201, none⟩), .pointer (some a), .int .u64 150]]).run Tryz.prog W = .ok (.bool false) W := by
  rw [rlmF]
  simp only [Sem.run_bind, aPartsP, Result.andThen]
  simp [ReflectliteValue.isNil, loadVar, isAgg, underlying, Tryz.underlying201, ha, Result.andThen]
theorem aMethodElem (h : Value) (w : World) : (Go.method 342 139 (.agg #[h]) "Elem").run Tryz.prog w = .ok (180, .agg #[h]) w := by kernel_rfl
theorem aMethodImplements (h : Value) (w : World) : (Go.method 342 139 (.agg #[h]) "Implements").run Tryz.prog w = .ok (181, .agg #[h]) w := by kernel_rfl
theorem aMethodAssignableTo (h : Value) (w : World) : (Go.method 342 139 (.agg #[h]) "AssignableTo").run Tryz.prog w = .ok (178, .agg #[h]) w := by kernel_rfl
theorem aElemP (w : World) : (ReflectliteType.method ReflectliteType.elem #[.agg #[.pointer (some ⟨7, 201, none⟩)]]).run Tryz.prog w = .ok (.iface 139 (.agg #[.pointer (some ⟨7, 186, none⟩)])) w := by kernel_rfl
theorem aImplementsF (w : World) : (ReflectliteType.relation "Implements" ReflectliteType.implements_ #[.agg #[.pointer (some ⟨7, 186, none⟩)], .iface 139 (.agg #[.pointer (some ⟨7, 30, none⟩)])]).run Tryz.prog w = .ok (.bool true) w := by kernel_rfl
theorem aTypeOfF (v : Value) (w : World) : (ReflectliteType.typeOf #[.iface 186 v]).run Tryz.prog w = .ok (.iface 139 (.agg #[.pointer (some ⟨7, 186, none⟩)])) w := by kernel_rfl
theorem aAssignableF (w : World) : (ReflectliteType.relation "AssignableTo" ReflectliteType.assignableTo #[.agg #[.pointer (some ⟨7, 186, none⟩)], .iface 139 (.agg #[.pointer (some ⟨7, 186, none⟩)])]).run Tryz.prog w = .ok (.bool true) w := by kernel_rfl
theorem aValueOfF (x y z : Value) (w : World) : (ReflectliteValue.unpack (.iface 186 (.agg #[x, y, z]))).run Tryz.prog w
    = .ok (.agg #[.pointer (some ⟨7, 186, none⟩), .pointer (some ⟨w.heap.size, 0, none⟩), .int .u64 153]) (w.alloc (.cells #[x, y, z] 186)) := by kernel_rfl
theorem aElemOfP (w : World) : (Rtype.elem? 201).run Tryz.prog w = .ok (some 186) w := by kernel_rfl
theorem aMkF (p : Addr) (w : World) : (ReflectliteValue.mk 186 p ReflectliteValue.flagAddr).run Tryz.prog w = .ok (.agg #[.pointer (some ⟨7, 186, none⟩), .pointer (some p), .int .u64 409]) w := by kernel_rfl
theorem aElemVP (a p : Addr) (W : World) (ha : W.cell? a = some (.pointer (some p))) :
    (ReflectliteValue.method (ReflectliteValue.valueError "reflectlite.Value.Elem" 0) ReflectliteValue.elem #[.agg #[.pointer (some ⟨7, 201, none⟩), .pointer (some a), .int .u64 150]]).run Tryz.prog W
      = .ok (.agg #[.pointer (some ⟨7, 186, none⟩), .pointer (some p), .int .u64 409]) W := by
  rw [rlmF]
  simp only [Sem.run_bind, aPartsP, Result.andThen]
  simp [ReflectliteValue.elem, loadVar, isAgg, underlying, Tryz.underlying201, ha, Result.andThen, aElemOfP, aMkF]
theorem rlsF (v x : Value) : ReflectliteValue.set #[v, x] = (do
    let (some (dst, a, fl), some (src, b, _)) := (← ReflectliteValue.parts v, ← ReflectliteValue.parts x)
      | unsupported (.noEntry "extern/(internal/reflectlite.Value).Set.zeroValue")
    if fl / ReflectliteValue.flagAddr % 2 == 0 then unsupported (.noEntry "extern/(internal/reflectlite.Value).Set.unaddressable")
    let val ← loadVar src b
    if ← Rtype.directlyAssignable dst src then storeVar dst a val
    else if ← Rtype.implements dst src then
      if (← Rtype.kind src) == 20 then
        match val with
        | .nilIface => unsupported (.noEntry "extern/reflectlite: a nil value of one interface type handed on as a value of another")
        | _ => storeVar dst a val
      else storeVar dst a (.iface src val)
    else panicString ("reflectlite.Set: value of type " ++ (← Rtype.spelt src) ++ " is not assignable to type " ++ (← Rtype.spelt dst))
    pure (.tuple #[])) := rfl
theorem aPartsFa (a : Addr) (w : World) : (ReflectliteValue.parts (.agg #[.pointer (some ⟨7, 186, none⟩), .pointer (some a), .int .u64 409])).run Tryz.prog w = .ok (some (186, a, 409)) w := by kernel_rfl
theorem aPartsF (a : Addr) (w : World) : (ReflectliteValue.parts (.agg #[.pointer (some ⟨7, 186, none⟩), .pointer (some a), .int .u64 153])).run Tryz.prog w = .ok (some (186, a, 153)) w := by kernel_rfl
theorem aDirectF (w : World) : (Rtype.directlyAssignable 186 186).run Tryz.prog w = .ok true w := by kernel_rfl
theorem aSizeF (w : World) : (sizeOf 186).run Tryz.prog w = .ok 3 w := by kernel_rfl
theorem aIsAggF (w : World) : (isAgg 186).run Tryz.prog w = .ok true w := by kernel_rfl
theorem aSetF (b g : Nat) (sx : ByteArray) (n c : Int) (o0 o1 o2 : Value) (W : World) (h0 : W.cell? ⟨b, 0, none⟩ = some (.string sx)) (h1 : W.cell? ⟨b, 1, none⟩ = some (.int .i64 n)) (h2 : W.cell? ⟨b, 2, none⟩ = some (.int .i64 c))
    (t0 : W.cell? ⟨g, 0, none⟩ = some o0) (t1 : W.cell? ⟨g, 1, none⟩ = some o1) (t2 : W.cell? ⟨g, 2, none⟩ = some o2) (f0 : W.frozen? ⟨g, 0, none⟩ = false) (f1 : W.frozen? ⟨g, 1, none⟩ = false) (f2 : W.frozen? ⟨g, 2, none⟩ = false) :
    (ReflectliteValue.set #[.agg #[.pointer (some ⟨7, 186, none⟩), .pointer (some ⟨g, 0, none⟩), .int .u64 409], .agg #[.pointer (some ⟨7, 186, none⟩), .pointer (some ⟨b, 0, none⟩), .int .u64 153]]).run Tryz.prog W
      = .ok (.tuple #[]) (W.setCells g 0 [.string sx, .int .i64 n, .int .i64 c]) := by
  rw [rlsF]
  simp only [Sem.run_bind, aPartsFa, aPartsF, Result.andThen]
  simp [ReflectliteValue.flagAddr, loadVar, Result.andThen, aDirectF, storeVar, loadCells, loadCellsFrom, h0, h1, h2, Addr.add]
  have hsz : (Value.agg #[.string sx, .int .i64 n, .int .i64 c]).cells = #[.string sx, .int .i64 n, .int .i64 c] := by rfl
  rw [hsz]
  have hst := run_storeCells_cells (P := Tryz.prog) g 0 [.string sx, .int .i64 n, .int .i64 c] 0 W (fun j hj => by
      match j, hj with
      | 0, _ => simp [t0]
      | 1, _ => simp [t1]
      | 2, _ => simp [t2]
      | j + 3, hj => (simp at hj; omega)) (fun j hj => by
      match j, hj with
      | 0, _ => simpa using f0
      | 1, _ => simpa using f1
      | 2, _ => simpa using f2
      | j + 3, hj => (simp at hj; omega)) (fun v hv => by simp at hv; rcases hv with rfl | rfl | rfl <;> rfl)
  simp only [List.size_toArray, List.length_cons, List.length_nil, if_true, hst]

/-- errors.As has set the variable. -/
def AsHit (g : Nat) (sx : ByteArray) (n c : Int) (w : World) (e : Ending) (w2 : World) : Prop := e = .returned (.bool true) ∧ w2.rangeAt g 0 [.string sx, .int .i64 n, .int .i64 c] ∧ w2.there g 0 3 ∧ Kp [g] w w2
theorem asHit_mk {g : Nat} {sx : ByteArray} {n c : Int} {w : World} (a b d e : Obj) (hth : ((((w.alloc a).alloc b).alloc d).alloc e).there g 0 3) :
    AsHit g sx n c w (.returned (.bool true)) (((((w.alloc a).alloc b).alloc d).alloc e).setCells g 0 [.string sx, .int .i64 n, .int .i64 c]) :=
  ⟨rfl, World.rangeAt_setCells_same _ _ _ _ hth, World.there_setCells hth _ _ _, (((((Kp.refl [g] w).alloc _).alloc _).alloc _).alloc _).setCells (.inl (by simp)) _ _⟩
set_option maxHeartbeats 4000000 in
/-- errors.As(an error of the package, &a variable of its type): true; the variable is the error. -/
theorem as_hit (sx : ByteArray) (n c : Int) (g : Nat) (o0 o1 o2 : Value) (w : World) (hg : w.cell? ⟨0, 0, none⟩ = some (.iface 139 (.agg #[.pointer (some ⟨7, 30, none⟩)])))
    (t0 : w.cell? ⟨g, 0, none⟩ = some o0) (t1 : w.cell? ⟨g, 1, none⟩ = some o1) (t2 : w.cell? ⟨g, 2, none⟩ = some o2) (f0 : w.frozen? ⟨g, 0, none⟩ = false) (f1 : w.frozen? ⟨g, 1, none⟩ = false) (f2 : w.frozen? ⟨g, 2, none⟩ = false) :
    Calls Tryz.prog 29 #[.iface 186 (.agg #[.string sx, .int .i64 n, .int .i64 c]), .iface 201 (.pointer (some ⟨g, 0, none⟩))] w (AsHit g sx n c w) := by
  have h6 := @run_callFunc_extern Tryz.prog 55 _ (fun args => ReflectliteValue.unpack (args.getD 0 (.tuple #[]))) Tryz.func55 (by kernel_rfl) (by kernel_rfl) (by kernel_rfl) (by kernel_rfl)
  have h7 := @run_callFunc_extern Tryz.prog 56 _ (ReflectliteValue.methodAny (ReflectliteValue.valueError "reflectlite.Value.Type" 0) (fun t _ _ _ => ReflectliteType.toType t)) Tryz.func56 (by kernel_rfl) (by kernel_rfl) (by kernel_rfl) (by kernel_rfl)
  have h8 := @run_callFunc_extern Tryz.prog 57 _ (ReflectliteValue.method (ReflectliteValue.valueError "reflectlite.Value.IsNil" 0) ReflectliteValue.isNil) Tryz.func57 (by kernel_rfl) (by kernel_rfl) (by kernel_rfl) (by kernel_rfl)
  have h27 := @run_callFunc_extern Tryz.prog 164 _ (ReflectliteType.abiMethod fun t => do pure (.int .u8 (← Rtype.kind t))) Tryz.func164 (by kernel_rfl) (by kernel_rfl) (by kernel_rfl) (by kernel_rfl)
  have h37 := @run_callFunc_extern Tryz.prog 180 _ (ReflectliteType.method ReflectliteType.elem) Tryz.func180 (by kernel_rfl) (by kernel_rfl) (by kernel_rfl) (by kernel_rfl)
  have h38 := @run_callFunc_extern Tryz.prog 181 _ (ReflectliteType.relation "Implements" ReflectliteType.implements_) Tryz.func181 (by kernel_rfl) (by kernel_rfl) (by kernel_rfl) (by kernel_rfl)
  have h10 := @run_callFunc_extern Tryz.prog 53 _ ReflectliteType.typeOf Tryz.func53 (by kernel_rfl) (by kernel_rfl) (by kernel_rfl) (by kernel_rfl)
  have h35 := @run_callFunc_extern Tryz.prog 178 _ (ReflectliteType.relation "AssignableTo" ReflectliteType.assignableTo) Tryz.func178 (by kernel_rfl) (by kernel_rfl) (by kernel_rfl) (by kernel_rfl)
  have h11 := @run_callFunc_extern Tryz.prog 80 _ (ReflectliteValue.method (ReflectliteValue.valueError "reflectlite.Value.Elem" 0) ReflectliteValue.elem) Tryz.func80 (by kernel_rfl) (by kernel_rfl) (by kernel_rfl) (by kernel_rfl)
  have h12 := @run_callFunc_extern Tryz.prog 81 _ ReflectliteValue.set Tryz.func81 (by kernel_rfl) (by kernel_rfl) (by kernel_rfl) (by kernel_rfl)
  have tO := aTypeOfF
  have mA := aMethodAssignableTo
  have a25 := aAssignableF
  have v25 := aValueOfF
  have f6 := aValueOfP
  have f7 := aTypeP
  have mK := aMethodKind
  have mE := aMethodElem
  have mI := aMethodImplements
  have k27 := aKindP
  have k25 := aKindF
  have e27 := aElemP
  have i25 := aImplementsF
  have hlt : 0 < w.heap.size := by
    rcases Nat.lt_or_ge 0 w.heap.size with h | h
    · exact h
    · simp [World.cell?, Array.getElem?_eq_none h] at hg
  have htl : g < w.heap.size := by
    rcases Nat.lt_or_ge g w.heap.size with h | h
    · exact h
    · simp [World.cell?, Array.getElem?_eq_none h] at t0
  obtain ⟨W2, hW2⟩ : ∃ W2, W2 = ((w.alloc (.cells #[.pointer (some ⟨g, 0, none⟩)] 201)).alloc (.cells #[.pointer (some ⟨7, 201, none⟩), .pointer (some ⟨w.heap.size, 0, none⟩), .int .u64 150] 102)) := ⟨_, rfl⟩
  have n8 := aIsNilP ⟨w.heap.size, 0, none⟩ ⟨g, 0, none⟩ ((w.alloc (.cells #[.pointer (some ⟨g, 0, none⟩)] 201)).alloc (.cells #[.pointer (some ⟨7, 201, none⟩), .pointer (some ⟨w.heap.size, 0, none⟩), .int .u64 150] 102)) (by simp)
  have hg2 : ((w.alloc (.cells #[.pointer (some ⟨g, 0, none⟩)] 201)).alloc (.cells #[.pointer (some ⟨7, 201, none⟩), .pointer (some ⟨w.heap.size, 0, none⟩), .int .u64 150] 102)).cell? ⟨0, 0, none⟩ = some (.iface 139 (.agg #[.pointer (some ⟨7, 30, none⟩)])) := by
    rw [World.cell?_alloc_lt _ _ ⟨0, 0, none⟩ (by simp), World.cell?_alloc_lt _ _ ⟨0, 0, none⟩ hlt]; exact hg
  have el := aElemVP ⟨w.heap.size, 0, none⟩ ⟨g, 0, none⟩ (((w.alloc (.cells #[.pointer (some ⟨g, 0, none⟩)] 201)).alloc (.cells #[.pointer (some ⟨7, 201, none⟩), .pointer (some ⟨w.heap.size, 0, none⟩), .int .u64 150] 102)).alloc (.cells #[.pointer (some ⟨7, 201, none⟩), .pointer (some ⟨w.heap.size, 0, none⟩), .int .u64 150] 102)) (by rw [World.cell?_alloc_lt _ _ ⟨w.heap.size, 0, none⟩ (by simp; omega)]; simp)
  have hup : ∀ (o : Nat) (W : World) (ob : Obj), g < W.heap.size → (W.alloc ob).cell? ⟨g, o, none⟩ = W.cell? ⟨g, o, none⟩ ∧ (W.alloc ob).frozen? ⟨g, o, none⟩ = W.frozen? ⟨g, o, none⟩ := fun o W ob h => ⟨World.cell?_alloc_lt _ _ ⟨g, o, none⟩ h, World.frozen?_alloc_old _ _ ⟨g, o, none⟩ (Nat.ne_of_lt h)⟩
  have hall : ∀ (o : Nat), ((((w.alloc (.cells #[.pointer (some ⟨g, 0, none⟩)] 201)).alloc (.cells #[.pointer (some ⟨7, 201, none⟩), .pointer (some ⟨w.heap.size, 0, none⟩), .int .u64 150] 102)).alloc (.cells #[.pointer (some ⟨7, 201, none⟩), .pointer (some ⟨w.heap.size, 0, none⟩), .int .u64 150] 102)).alloc (.cells #[.string sx, .int .i64 n, .int .i64 c] 186)).cell? ⟨g, o, none⟩ = w.cell? ⟨g, o, none⟩ ∧ ((((w.alloc (.cells #[.pointer (some ⟨g, 0, none⟩)] 201)).alloc (.cells #[.pointer (some ⟨7, 201, none⟩), .pointer (some ⟨w.heap.size, 0, none⟩), .int .u64 150] 102)).alloc (.cells #[.pointer (some ⟨7, 201, none⟩), .pointer (some ⟨w.heap.size, 0, none⟩), .int .u64 150] 102)).alloc (.cells #[.string sx, .int .i64 n, .int .i64 c] 186)).frozen? ⟨g, o, none⟩ = w.frozen? ⟨g, o, none⟩ := fun o => by
    obtain ⟨a1, b1⟩ := hup o w (.cells #[.pointer (some ⟨g, 0, none⟩)] 201) htl
    obtain ⟨a2, b2⟩ := hup o _ (.cells #[.pointer (some ⟨7, 201, none⟩), .pointer (some ⟨w.heap.size, 0, none⟩), .int .u64 150] 102) (show g < (w.alloc (.cells #[.pointer (some ⟨g, 0, none⟩)] 201)).heap.size by simp; omega)
    obtain ⟨a3, b3⟩ := hup o _ (.cells #[.pointer (some ⟨7, 201, none⟩), .pointer (some ⟨w.heap.size, 0, none⟩), .int .u64 150] 102) (show g < ((w.alloc (.cells #[.pointer (some ⟨g, 0, none⟩)] 201)).alloc (.cells #[.pointer (some ⟨7, 201, none⟩), .pointer (some ⟨w.heap.size, 0, none⟩), .int .u64 150] 102)).heap.size by simp; omega)
    obtain ⟨a4, b4⟩ := hup o _ (.cells #[.string sx, .int .i64 n, .int .i64 c] 186) (show g < (((w.alloc (.cells #[.pointer (some ⟨g, 0, none⟩)] 201)).alloc (.cells #[.pointer (some ⟨7, 201, none⟩), .pointer (some ⟨w.heap.size, 0, none⟩), .int .u64 150] 102)).alloc (.cells #[.pointer (some ⟨7, 201, none⟩), .pointer (some ⟨w.heap.size, 0, none⟩), .int .u64 150] 102)).heap.size by simp; omega)
    exact ⟨a4.trans (a3.trans (a2.trans a1)), b4.trans (b3.trans (b2.trans b1))⟩
  have st := aSetF (w.heap.size + 1 + 1 + 1) g sx n c o0 o1 o2 ((((w.alloc (.cells #[.pointer (some ⟨g, 0, none⟩)] 201)).alloc (.cells #[.pointer (some ⟨7, 201, none⟩), .pointer (some ⟨w.heap.size, 0, none⟩), .int .u64 150] 102)).alloc (.cells #[.pointer (some ⟨7, 201, none⟩), .pointer (some ⟨w.heap.size, 0, none⟩), .int .u64 150] 102)).alloc (.cells #[.string sx, .int .i64 n, .int .i64 c] 186))
    (by rw [World.cell?_alloc_at _ _ _ _ (by simp)]; rfl) (by rw [World.cell?_alloc_at _ _ _ _ (by simp)]; rfl) (by rw [World.cell?_alloc_at _ _ _ _ (by simp)]; rfl)
    ((hall 0).1.trans t0) ((hall 1).1.trans t1) ((hall 2).1.trans t2) ((hall 0).2.trans f0) ((hall 1).2.trans f1) ((hall 2).2.trans f2)
  have hth : ((((w.alloc (.cells #[.pointer (some ⟨g, 0, none⟩)] 201)).alloc (.cells #[.pointer (some ⟨7, 201, none⟩), .pointer (some ⟨w.heap.size, 0, none⟩), .int .u64 150] 102)).alloc (.cells #[.pointer (some ⟨7, 201, none⟩), .pointer (some ⟨w.heap.size, 0, none⟩), .int .u64 150] 102)).alloc (.cells #[.string sx, .int .i64 n, .int .i64 c] 186)).there g 0 3 := fun j hj => by
    match j, hj with
    | 0, _ => exact ⟨by rw [Nat.zero_add, (hall 0).1, t0]; rfl, by rw [Nat.zero_add, (hall 0).2, f0]⟩
    | 1, _ => exact ⟨by rw [Nat.zero_add, (hall 1).1, t1]; rfl, by rw [Nat.zero_add, (hall 1).2, f1]⟩
    | 2, _ => exact ⟨by rw [Nat.zero_add, (hall 2).1, t2]; rfl, by rw [Nat.zero_add, (hall 2).2, f2]⟩
  have HTH := Lib.hid hth
  clear hall hup hW2 hth
  go_enter Tryz.func29, Tryz.ntmps29
  go_wp2
  refine wp_loop_rounds 1 ?_
  rw [rounds_succ]
  go_wp2
  go_ret
  exact asHit_mk _ _ _ _ HTH.out
end Go.Proofs.YtggnljfcdohkaaaGreatDoor
