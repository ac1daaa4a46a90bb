/- A map keyed by pointers to terms: what its look-ups and stores run to. -/
import Derived.Test.YtcfhhabjiofehaaSpR
import Derived.LaidEql
import Derived.Laws.StructEq
import Derived.Maps.OwnOps
import Derived.Deep.Cut
namespace Go.Proofs.Ytcfhhabjiofehaa
open Go.RowKit Go.ChangeMaps

/-- A node as a key. -/
def kv (g : Nat) : Value := .pointer (some ⟨g, 0, none⟩)
/-- A block of plain cells. -/
def Blk (w : World) (g : Nat) : Prop := ∃ cs T, w.heap[g]? = some (.cells cs T (0, 0))
theorem NdAt.blk {w : World} {g : Nat} {k n : Int} {s : ByteArray} {pa pb pc : Option Addr} (h : NdAt w g k n s pa pb pc) : Blk w g := ⟨_, _, h⟩
theorem sizeTerm : ∃ i, Try.prog.info? 40 = some i ∧ i.size ≠ 0 := by
  have h6 : (Try.prog.info? 40).map (fun i => i.size) = some 6 := by kernel_rfl
  cases h : Try.prog.info? 40 with
  | none => rw [h] at h6; cases h6
  | some i =>
    rw [h] at h6
    simp only [Option.map_some, Option.some.injEq] at h6
    exact ⟨i, rfl, by omega⟩
theorem run_keyEq {w : World} {g g2 : Nat} (hb : Blk w g) (hb2 : Blk w g2) :
    (Op.equal 24 (kv g) (kv g2)).run Try.prog w = .ok (decide (g = g2)) w := by
  obtain ⟨i, hi, hs⟩ := sizeTerm
  obtain ⟨cs, T, h1⟩ := hb
  obtain ⟨cs2, T2, h2⟩ := hb2
  unfold Op.equal Op.maxDepth kv
  have q0' : ∀ d, (Op.equalIn (d + 1) 24 (.pointer (some ⟨g, 0, none⟩)) (.pointer (some ⟨g2, 0, none⟩))).run Try.prog w = .ok (decide (g = g2)) w := by
    intro d
    by_cases hg : g = g2
    · subst hg
      simp [Op.equalIn, run_underlying Try.underlying24, sizeOf, typeInfo, hi, run_sameAddr_same]
    · have := run_sameAddr_other (P := Try.prog) w (a := ⟨g, 0, none⟩) (b := ⟨g2, 0, none⟩) (fun e => hg (by injection e)) h1 h2
      simp [Op.equalIn, run_underlying Try.underlying24, sizeOf, typeInfo, hi, hs, this, hg]
  exact q0' 9999
open Classical in
/-- Where a key stands. -/
noncomputable def findP (g : Nat) : List MapEntry → Nat → Option (Nat × Value)
  | [], _ => none
  | e :: es, i => if e.key = kv g then some (i, e.val) else findP g es (i + 1)
/-- Every key is a node. -/
def Keys (w : World) (es : List MapEntry) : Prop := ∀ e ∈ es, ∃ g, e.key = kv g ∧ Blk w g
theorem run_findAsking {w : World} {g : Nat} (hb : Blk w g) : ∀ (es : List MapEntry) (i : Nat), Keys w es →
    (Instr.findAsking 24 (kv g) es i).run Try.prog w = .ok (findP g es i) w
  | [], i, _ => by simp [Instr.findAsking, findP]
  | e :: es, i, h => by
    obtain ⟨g2, hk, hb2⟩ := h e (by simp)
    have ih := run_findAsking hb es (i + 1) (fun x hx => h x (by simp [hx]))
    have hinj : (e.key = kv g) ↔ (g = g2) := by
      rw [hk]; unfold kv
      simp only [Value.pointer.injEq, Option.some.injEq, Addr.mk.injEq, and_true]
      exact ⟨fun h => h.symm, fun h => h.symm⟩
    simp only [Instr.findAsking, findP, Sem.run_bind]
    rw [hk, run_keyEq hb hb2]
    rw [← hk]
    simp only [Result.andThen_ok]
    by_cases hh : e.key = kv g
    · rw [if_pos hh, decide_eq_true (hinj.1 hh)]
      simp
    · rw [if_neg hh, decide_eq_false (fun k => hh (hinj.2 k))]
      simpa using ih
theorem run_findKey_ptr (w : World) (x : Value) (es : List MapEntry) :
    (Instr.findKey 24 x es).run Try.prog w = (Instr.findAsking 24 x es).run Try.prog w := by
  cases es with
  | nil => simp [Instr.findKey, run_underlying Try.underlying24, Instr.findNow, Instr.findAsking]
  | cons e es => simp [Instr.findKey, run_underlying Try.underlying24, Instr.findNow, Instr.sameNow]
theorem run_findKeyP {w : World} {g : Nat} (hb : Blk w g) (es : List MapEntry) (h : Keys w es) :
    (Instr.findKey 24 (kv g) es).run Try.prog w = .ok (findP g es 0) w := by
  rw [run_findKey_ptr]
  exact run_findAsking hb es 0 h
theorem run_checkP (em : Bool) (g : Nat) (w : World) : (Instr.checkKey em 10000 24 (kv g)).run Try.prog w = .ok () w := by
  have q0 : ∀ d p, (Instr.checkKey em (d + 1) 24 (.pointer p)).run Try.prog w = .ok () w := fun d p => by
    simp [Instr.checkKey, run_underlying Try.underlying24]
  exact q0 9999 _
theorem zeroPtr (w : World) : (zeroValue 24).run Try.prog w = .ok (.pointer none) w := by kernel_rfl
/-- 'm[k]'. -/
theorem run_lookP {w : World} {M g : Nat} {es : Array MapEntry} {clk : Nat} (hM : w.heap[M]? = some (.map es clk)) (hb : Blk w g) (hk : Keys w es.toList) :
    (Instr.lookup 49 (.map (some M)) (kv g) false).run Try.prog w = .ok (((findP g es.toList 0).map (·.2)).getD (.pointer none)) w := by
  simp only [Instr.lookup, Sem.run_bind, run_underlying Try.underlying49, Result.andThen_ok, MapKept.run_getObj_map hM, Sem.run_pure, run_checkP, run_findKeyP hb es.toList hk]
  cases findP g es.toList 0 with
  | none => simp
  | some x => simp
theorem run_look0 {w : World} (g : Nat) :
    (Instr.lookup 49 (.map none) (kv g) false).run Try.prog w = .ok (.pointer none) w := by
  have hf : (Instr.findKey 24 (kv g) []).run Try.prog w = .ok none w := by
    rw [run_findKey_ptr]; simp [Instr.findAsking]
  simp [Instr.lookup, run_underlying Try.underlying49, run_checkP, hf]
theorem findP_mem (g : Nat) : ∀ (es : List MapEntry) (i : Nat) {j : Nat} {v : Value}, findP g es i = some (j, v) → ∃ e ∈ es, e.key = kv g ∧ e.val = v ∧ i ≤ j ∧ es[j - i]? = some e
  | [], _, _, _, h => by simp [findP] at h
  | e :: es, i, j, v, h => by
    rw [findP] at h
    split at h
    · rename_i hk
      simp only [Option.some.injEq, Prod.mk.injEq] at h
      exact ⟨e, by simp, hk, h.2, by omega, by rw [← h.1]; simp⟩
    · obtain ⟨e', h1, h2, h3, h4, h5⟩ := findP_mem g es (i + 1) h
      exact ⟨e', by simp [h1], h2, h3, by omega, by rw [show j - i = (j - (i + 1)) + 1 by omega]; simpa using h5⟩
/-- 'm[k] = v'. -/
theorem run_putP {w : World} {M g : Nat} {es : Array MapEntry} {clk : Nat} (hM : w.heap[M]? = some (.map es clk)) (hb : Blk w g) (hk : Keys w es.toList) (v : Value) :
    ∃ es2 clk2, (∀ n, (Instr.mapUpdate 49 (.map (some M)) (kv g) v).run Try.prog (w.drewN n) = .ok () ((setBlock w M (.map es2 clk2)).drewN n)) ∧
      ∀ e ∈ es2.toList, e ∈ es.toList ∨ (e.key = kv g ∧ e.val = v) := by
  have hf : ∀ n, (Instr.findKey 24 (kv g) es.toList).run Try.prog (w.drewN n) = .ok (findP g es.toList 0) (w.drewN n) := fun n => run_findKeyP (w := w.drewN n) hb es.toList hk
  have hg : ∀ n, (getObj M).run Try.prog (w.drewN n) = .ok (.map es clk) (w.drewN n) := fun n => MapKept.run_getObj_map hM
  have hs : ∀ n o, (setObj M o).run Try.prog (w.drewN n) = .ok () ((setBlock w M o).drewN n) := fun n o => MapKept.run_setObj_map o (w := w.drewN n) hM
  cases hr : findP g es.toList 0 with
  | none =>
    refine ⟨es.push ⟨kv g, v, clk⟩, clk + 1, fun n => ?_, fun e he => ?_⟩
    · simp only [Instr.mapUpdate, Sem.run_bind, run_underlying Try.underlying49, Result.andThen_ok, hg, run_checkP, hf, hr, hs]
    · simp only [Array.toList_push, List.mem_append, List.mem_singleton] at he
      rcases he with he | rfl
      · exact .inl he
      · exact .inr ⟨rfl, rfl⟩
  | some x =>
    obtain ⟨j, v0⟩ := x
    obtain ⟨e0, he0, hk0, _, _, hj⟩ := findP_mem _ _ _ hr
    rw [Nat.sub_zero] at hj
    have hst : ∀ n, (Instr.keyThatStays (((es[j]?).map (·.key)).getD (kv g)) (kv g)).run Try.prog (w.drewN n) = .ok (kv g) (w.drewN n) := fun n => by
      have : es[j]? = some e0 := by simpa using hj
      rw [this]
      simp only [Option.map_some, Option.getD_some, hk0]
      have hsb : Instr.sameBits 10000 (kv g) (kv g) = true := by
        have : ∀ d, Instr.sameBits (d + 1) (kv g) (kv g) = true := fun d => by
          simp [kv, Instr.sameBits]
        exact this 9999
      simp [Instr.keyThatStays, hsb]
    refine ⟨es.modify j fun e => { e with key := kv g, val := v }, clk, fun n => ?_, fun e he => ?_⟩
    · simp only [Instr.mapUpdate, Sem.run_bind, run_underlying Try.underlying49, Result.andThen_ok, hg, run_checkP, hf, hr, hst, hs]
    · obtain ⟨i, hi, rfl⟩ := List.getElem_of_mem he
      simp only [Array.length_toList, Array.size_modify] at hi
      rw [Array.getElem_toList, Array.getElem_modify]
      split
      · exact .inr ⟨rfl, rfl⟩
      · exact .inl (by simp)
end Go.Proofs.Ytcfhhabjiofehaa
