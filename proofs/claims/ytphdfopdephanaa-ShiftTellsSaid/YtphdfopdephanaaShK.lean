/- A map of places: what its look-ups and stores run to. -/
import Derived.Test.YtphdfopdephanaaShE
namespace Go.Proofs.Ytphdfopdephanaa
open Go.RowKit Go.ChangeMaps

/-- A place as a key. -/
def kv (g : Nat) (ar li : Int) : Value := .agg #[.pointer (some ⟨g, 0, none⟩), .int .i64 ar, .int .i64 li]
/-- A block of plain cells. -/
def Blk (w : World) (g : Nat) : Prop := ∃ cs T, w.heap[g]? = some (.cells cs T (0, 0))
theorem NdAt.blk {w : World} {g : Nat} {k n : Int} {s : ByteArray} {pa pb pc : Option Addr} (h : NdAt w g k n s pa pb pc) : Blk w g := ⟨_, _, h⟩
theorem underP : Try.prog.underlying 66 = some (.struct (Try.prog.fieldsOf 66)) := by kernel_rfl
theorem heldP : Try.prog.stoodInHeld 66 = false := by kernel_rfl
theorem fieldsP : (Try.prog.fieldsOf 66).toList.map (fun f => (f.name, f.type, f.offset)) = [("node", 24, 0), ("around", 3, 1), ("lift", 3, 2)] := by kernel_rfl
theorem fieldsP' : ∃ f0 f1 f2 : Field, (Try.prog.fieldsOf 66).toList = [f0, f1, f2] ∧ f0.name = "node" ∧ f0.type = 24 ∧ f0.offset = 0 ∧ f1.name = "around" ∧ f1.type = 3 ∧ f1.offset = 1 ∧ f2.name = "lift" ∧ f2.type = 3 ∧ f2.offset = 2 := by
  have h := fieldsP
  match hl : (Try.prog.fieldsOf 66).toList with
  | [] => rw [hl] at h; simp at h
  | [_] => rw [hl] at h; simp at h
  | [_, _] => rw [hl] at h; simp at h
  | [f0, f1, f2] =>
    rw [hl] at h
    simp only [List.map_cons, List.map_nil, List.cons.injEq, Prod.mk.injEq, and_true] at h
    obtain ⟨⟨a1, a2, a3⟩, ⟨b1, b2, b3⟩, c1, c2, c3⟩ := h
    exact ⟨f0, f1, f2, rfl, a1, a2, a3, b1, b2, b3, c1, c2, c3⟩
  | _ :: _ :: _ :: _ :: _ => rw [hl] at h; simp at h
theorem sizeTerm : ∃ i, Try.prog.info? 46 = some i ∧ i.size ≠ 0 := by
  have h6 : (Try.prog.info? 46).map (fun i => i.size) = some 6 := by kernel_rfl
  cases h : Try.prog.info? 46 with
  | none => rw [h] at h6; cases h6
  | some i =>
    rw [h] at h6
    simp only [Option.map_some, Option.some.injEq] at h6
    exact ⟨i, rfl, by omega⟩
theorem run_keyEq {w : World} {g g2 : Nat} (hb : Blk w g) (hb2 : Blk w g2) (ar li ar2 li2 : Int) :
    (Op.equal 66 (kv g ar li) (kv g2 ar2 li2)).run Try.prog w = .ok (decide (g = g2 ∧ ar = ar2 ∧ li = li2)) w := by
  obtain ⟨f0, f1, f2, hl, a1, a2, a3, b1, b2, b3, c1, c2, c3⟩ := fieldsP'
  obtain ⟨i, hi, hs⟩ := sizeTerm
  obtain ⟨cs, T, h1⟩ := hb
  obtain ⟨cs2, T2, h2⟩ := hb2
  unfold Op.equal Op.maxDepth kv
  rw [run_equalIn_struct w 9999 _ _ _ underP heldP, hl]
  have p0 : ∀ (xs : Array Value) (v : Value), xs[0]? = some v → (part 24 xs 0).run Try.prog w = .ok v w := fun xs v h => by
    simp [part, isAgg, run_underlying Try.underlying24, h]
  have p1 : ∀ (xs : Array Value) (v : Value), xs[1]? = some v → (part 3 xs 1).run Try.prog w = .ok v w := fun xs v h => by
    simp [part, isAgg, run_underlying Try.underlying3, h]
  have p2 : ∀ (xs : Array Value) (v : Value), xs[2]? = some v → (part 3 xs 2).run Try.prog w = .ok v w := fun xs v h => by
    simp [part, isAgg, run_underlying Try.underlying3, h]
  have q0' : ∀ d, (Op.equalIn (d + 1) 24 (.pointer (some ⟨g, 0, none⟩)) (.pointer (some ⟨g2, 0, none⟩))).run Try.prog w = .ok (decide (g = g2)) w := by
    intro d
    by_cases hg : g = g2
    · subst hg
      simp [Op.equalIn, run_underlying Try.underlying24, sizeOf, typeInfo, hi, run_sameAddr_same]
    · have := run_sameAddr_other (P := Try.prog) w (a := ⟨g, 0, none⟩) (b := ⟨g2, 0, none⟩) (fun e => hg (by injection e)) h1 h2
      simp [Op.equalIn, run_underlying Try.underlying24, sizeOf, typeInfo, hi, hs, this, hg]
  have q0 := q0' 9998
  have q1 : ∀ a b : Int, (Op.equalIn 9999 3 (.int .i64 a) (.int .i64 b)).run Try.prog w = .ok (a == b) w := fun a b => run_equalIn_int w 9998 _ _ _ a b Try.underlying3
  simp only [Op.eqFields, a1, a2, a3, b1, b2, b3, c1, c2, c3]
  simp [p0, p1, p2, q0, q1, Sem.run_bind]
  by_cases e1 : g = g2 <;> by_cases e2 : ar = ar2 <;> by_cases e3 : li = li2 <;> simp [e1, e2, e3]
open Classical in
/-- Where a key stands. -/
noncomputable def findP (g : Nat) (ar li : Int) : List MapEntry → Nat → Option (Nat × Value)
  | [], _ => none
  | e :: es, i => if e.key = kv g ar li then some (i, e.val) else findP g ar li es (i + 1)
/-- Every key is a place of a node. -/
def Keys (w : World) (es : List MapEntry) : Prop := ∀ e ∈ es, ∃ g ar li, e.key = kv g ar li ∧ Blk w g
theorem run_findAsking {w : World} {g : Nat} (hb : Blk w g) (ar li : Int) : ∀ (es : List MapEntry) (i : Nat), Keys w es →
    (Instr.findAsking 66 (kv g ar li) es i).run Try.prog w = .ok (findP g ar li es i) w
  | [], i, _ => by simp [Instr.findAsking, findP]
  | e :: es, i, h => by
    obtain ⟨g2, ar2, li2, hk, hb2⟩ := h e (by simp)
    have ih := run_findAsking hb ar li es (i + 1) (fun x hx => h x (by simp [hx]))
    have hinj : (e.key = kv g ar li) ↔ (g = g2 ∧ ar = ar2 ∧ li = li2) := by
      rw [hk]; unfold kv
      simp only [Value.agg.injEq, Array.mk.injEq, List.cons.injEq, Value.pointer.injEq, Option.some.injEq, Addr.mk.injEq, Value.int.injEq, true_and, and_true]
      constructor
      · rintro ⟨h1, h2, h3⟩; exact ⟨h1.symm, h2.symm, h3.symm⟩
      · rintro ⟨h1, h2, h3⟩; exact ⟨h1.symm, h2.symm, h3.symm⟩
    simp only [Instr.findAsking, findP, Sem.run_bind]
    rw [hk, run_keyEq hb hb2]
    rw [← hk]
    simp only [Result.andThen_ok]
    by_cases hh : e.key = kv g ar li
    · rw [if_pos hh, decide_eq_true (hinj.1 hh)]
      simp
    · rw [if_neg hh, decide_eq_false (fun k => hh (hinj.2 k))]
      simpa using ih
theorem run_findKeyP {w : World} {g : Nat} (hb : Blk w g) (ar li : Int) (es : List MapEntry) (h : Keys w es) :
    (Instr.findKey 66 (kv g ar li) es).run Try.prog w = .ok (findP g ar li es 0) w := by
  rw [run_findKey_eq w (by rw [underP])]
  exact run_findAsking hb ar li es 0 h
theorem run_checkP (em : Bool) (g : Nat) (ar li : Int) (w : World) : (Instr.checkKey em 10000 66 (kv g ar li)).run Try.prog w = .ok () w := by
  obtain ⟨f0, f1, f2, hl, a1, a2, a3, b1, b2, b3, c1, c2, c3⟩ := fieldsP'
  have p0 : ∀ (xs : Array Value) (v : Value), xs[0]? = some v → (part 24 xs 0).run Try.prog w = .ok v w := fun xs v h => by
    simp [part, isAgg, run_underlying Try.underlying24, h]
  have p1 : ∀ (xs : Array Value) (v : Value), xs[1]? = some v → (part 3 xs 1).run Try.prog w = .ok v w := fun xs v h => by
    simp [part, isAgg, run_underlying Try.underlying3, h]
  have p2 : ∀ (xs : Array Value) (v : Value), xs[2]? = some v → (part 3 xs 2).run Try.prog w = .ok v w := fun xs v h => by
    simp [part, isAgg, run_underlying Try.underlying3, h]
  have q0 : ∀ d p, (Instr.checkKey em (d + 1) 24 (.pointer p)).run Try.prog w = .ok () w := fun d p => by
    simp [Instr.checkKey, run_underlying Try.underlying24]
  have q1 : ∀ d n, (Instr.checkKey em (d + 1) 3 (.int .i64 n)).run Try.prog w = .ok () w := fun d n => by
    simp [Instr.checkKey, run_underlying Try.underlying3]
  have main : ∀ d, (Instr.checkKey em (d + 2) 66 (kv g ar li)).run Try.prog w = .ok () w := fun d => by
    unfold kv
    rw [Instr.checkKey]
    simp only [Sem.run_bind, run_underlying underP, Result.andThen_ok]
    rw [← Array.forIn_toList, hl]
    simp [a1, a2, a3, b1, b2, b3, c1, c2, c3, p0, p1, p2, q0, q1]
  exact main 9998
theorem zeroPtr (w : World) : (zeroValue 24).run Try.prog w = .ok (.pointer none) w := by kernel_rfl
/-- 'm[k]'. -/
theorem run_lookP {w : World} {M g : Nat} {es : Array MapEntry} {clk : Nat} (hM : w.heap[M]? = some (.map es clk)) (hb : Blk w g) (hk : Keys w es.toList) (ar li : Int) :
    (Instr.lookup 61 (.map (some M)) (kv g ar li) false).run Try.prog w = .ok (((findP g ar li es.toList 0).map (·.2)).getD (.pointer none)) w := by
  simp only [Instr.lookup, Sem.run_bind, run_underlying Try.underlying61, Result.andThen_ok, MapKept.run_getObj_map hM, Sem.run_pure, run_checkP, run_findKeyP hb ar li es.toList hk]
  cases findP g ar li es.toList 0 with
  | none => simp
  | some x => simp
theorem run_look0 {w : World} (g : Nat) (ar li : Int) :
    (Instr.lookup 61 (.map none) (kv g ar li) false).run Try.prog w = .ok (.pointer none) w := by
  have hf : (Instr.findKey 66 (kv g ar li) []).run Try.prog w = .ok none w := by
    rw [run_findKey_eq w (by rw [underP])]; simp [Instr.findAsking]
  simp [Instr.lookup, run_underlying Try.underlying61, run_checkP, hf]
theorem findP_mem (g : Nat) (ar li : Int) : ∀ (es : List MapEntry) (i : Nat) {j : Nat} {v : Value}, findP g ar li es i = some (j, v) → ∃ e ∈ es, e.key = kv g ar li ∧ e.val = v ∧ i ≤ j ∧ es[j - i]? = some e
  | [], _, _, _, h => by simp [findP] at h
  | e :: es, i, j, v, h => by
    rw [findP] at h
    split at h
    · rename_i hk
      simp only [Option.some.injEq, Prod.mk.injEq] at h
      exact ⟨e, by simp, hk, h.2, by omega, by rw [← h.1]; simp⟩
    · obtain ⟨e', h1, h2, h3, h4, h5⟩ := findP_mem g ar li es (i + 1) h
      exact ⟨e', by simp [h1], h2, h3, by omega, by rw [show j - i = (j - (i + 1)) + 1 by omega]; simpa using h5⟩
/-- 'm[k] = v'. -/
theorem run_putP {w : World} {M g : Nat} {es : Array MapEntry} {clk : Nat} (hM : w.heap[M]? = some (.map es clk)) (hb : Blk w g) (hk : Keys w es.toList) (ar li : Int) (v : Value) :
    ∃ es2 clk2, (∀ n, (Instr.mapUpdate 61 (.map (some M)) (kv g ar li) v).run Try.prog (w.drewN n) = .ok () ((setBlock w M (.map es2 clk2)).drewN n)) ∧
      ∀ e ∈ es2.toList, e ∈ es.toList ∨ (e.key = kv g ar li ∧ e.val = v) := by
  have hf : ∀ n, (Instr.findKey 66 (kv g ar li) es.toList).run Try.prog (w.drewN n) = .ok (findP g ar li es.toList 0) (w.drewN n) := fun n => run_findKeyP (w := w.drewN n) hb ar li es.toList hk
  have hg : ∀ n, (getObj M).run Try.prog (w.drewN n) = .ok (.map es clk) (w.drewN n) := fun n => MapKept.run_getObj_map hM
  have hs : ∀ n o, (setObj M o).run Try.prog (w.drewN n) = .ok () ((setBlock w M o).drewN n) := fun n o => MapKept.run_setObj_map o (w := w.drewN n) hM
  cases hr : findP g ar li es.toList 0 with
  | none =>
    refine ⟨es.push ⟨kv g ar li, v, clk⟩, clk + 1, fun n => ?_, fun e he => ?_⟩
    · simp only [Instr.mapUpdate, Sem.run_bind, run_underlying Try.underlying61, Result.andThen_ok, hg, run_checkP, hf, hr, hs]
    · simp only [Array.toList_push, List.mem_append, List.mem_singleton] at he
      rcases he with he | rfl
      · exact .inl he
      · exact .inr ⟨rfl, rfl⟩
  | some x =>
    obtain ⟨j, v0⟩ := x
    obtain ⟨e0, he0, hk0, _, _, hj⟩ := findP_mem _ _ _ _ _ hr
    rw [Nat.sub_zero] at hj
    have hst : ∀ n, (Instr.keyThatStays (((es[j]?).map (·.key)).getD (kv g ar li)) (kv g ar li)).run Try.prog (w.drewN n) = .ok (kv g ar li) (w.drewN n) := fun n => by
      have : es[j]? = some e0 := by simpa using hj
      rw [this]
      simp only [Option.map_some, Option.getD_some, hk0]
      have hsb : Instr.sameBits 10000 (kv g ar li) (kv g ar li) = true := by
        have : ∀ d, Instr.sameBits (d + 1) (kv g ar li) (kv g ar li) = true := fun d => by
          simp [kv, Instr.sameBits]
        exact this 9999
      simp [Instr.keyThatStays, hsb]
    refine ⟨es.modify j fun e => { e with key := kv g ar li, val := v }, clk, fun n => ?_, fun e he => ?_⟩
    · simp only [Instr.mapUpdate, Sem.run_bind, run_underlying Try.underlying61, Result.andThen_ok, hg, run_checkP, hf, hr, hst, hs]
    · obtain ⟨i, hi, rfl⟩ := List.getElem_of_mem he
      simp only [Array.length_toList, Array.size_modify] at hi
      rw [Array.getElem_toList, Array.getElem_modify]
      split
      · exact .inr ⟨rfl, rfl⟩
      · exact .inl (by simp)
end Go.Proofs.Ytphdfopdephanaa
