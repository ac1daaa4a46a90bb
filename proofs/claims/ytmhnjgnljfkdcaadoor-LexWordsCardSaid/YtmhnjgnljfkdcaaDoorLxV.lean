/- The law LexWords. -/
import Derived.Test.YtmhnjgnljfkdcaaDoorLxP
namespace Go.Proofs.YtmhnjgnljfkdcaaDoor
open Go.RowKit

def sep3 (i : Nat) : List UInt8 := if i % 3 = 0 then [32] else if i % 3 = 1 then [10] else [9, 32]
def sep1 (_ : Nat) : List UInt8 := [32]
theorem sep3_ok : SepOk sep3 := fun i => by
  unfold sep3
  split
  · decide
  · split <;> decide
theorem sep1_ok : SepOk sep1 := fun _ => by unfold sep1; decide
theorem res_join {sep : Nat → List UInt8} (hs : SepOk sep) (vs : List (List UInt8)) (i : Nat) (h : ∀ v ∈ vs, WordOk v) : res (joinL sep i vs) = some (vs.map mkB) := by
  unfold res
  rw [wordsL_join hs vs i h]
  rfl
theorem joinL_drop (sep : Nat → List UInt8) (i : Nat) (vs : List (List UInt8)) (h : i < vs.length) : joinL sep i (vs.drop i) = vs[i] ++ (sep i ++ joinL sep (i + 1) (vs.drop (i + 1))) := by
  rw [List.drop_eq_getElem_cons h, joinL]
theorem joinL_end (sep : Nat → List UInt8) (i : Nat) (vs : List (List UInt8)) (h : vs.length ≤ i) : joinL sep i (vs.drop i) = [] := by
  rw [List.drop_eq_nil_of_le h, joinL]
theorem joinL_snoc (v : List UInt8) : ∀ (us : List (List UInt8)) (i : Nat), joinL sep1 i (us ++ [v]) = joinL sep1 i us ++ (v ++ [32])
  | [], i => by simp [joinL, sep1]
  | u :: us, i => by
    show u ++ (sep1 i ++ joinL sep1 (i + 1) (us ++ [v])) = (u ++ (sep1 i ++ joinL sep1 (i + 1) us)) ++ (v ++ [32])
    rw [joinL_snoc v us (i + 1)]
    simp
theorem app_list (a b : ByteArray) : (a ++ b).data.toList = a.data.toList ++ b.data.toList := by
  rw [ByteArray.data_append]
  simp
/-- What the first loop has put together. -/
structure JMid (vs : List (List UInt8)) (k : Nat) (t : ByteArray) : Prop where
  eq : t.data.toList ++ joinL sep3 k (vs.drop k) = joinL sep3 0 vs
theorem JMid.le {vs : List (List UInt8)} {k : Nat} {t : ByteArray} (h : JMid vs k t) : t.size ≤ (joinL sep3 0 vs).length := by
  rw [Lib.size_eq, ← h.eq, List.length_append]
  omega
theorem JMid.step {vs : List (List UInt8)} {k : Nat} {t x p : ByteArray} (h : JMid vs k t) (hk : k < vs.length) (hx : x = mkB vs[k]) (hp : p = mkB (sep3 k)) : JMid vs (k + 1) ((t ++ x) ++ p) := by
  refine ⟨?_⟩
  rw [← h.eq, joinL_drop sep3 k vs hk, app_list, app_list, hx, hp, mkB_list, mkB_list]
  simp
theorem JMid.all {vs : List (List UInt8)} {k : Nat} {t : ByteArray} (h : JMid vs k t) (hk : vs.length ≤ k) : t.data.toList = joinL sep3 0 vs := by
  rw [← h.eq, joinL_end sep3 k vs hk, List.append_nil]
def somL : List ByteArray := [⟨#[97]⟩, ⟨#[120, 46, 121]⟩, ⟨#[58, 61]⟩, ⟨#[61, 62]⟩, ⟨#[45, 62]⟩, ⟨#[40]⟩, ⟨#[41]⟩, ⟨#[46]⟩, ⟨#[110, 97, 116, 46, 114, 101, 99, 64, 48]⟩, ⟨#[95, 49]⟩, ⟨#[58]⟩, ⟨#[49, 50]⟩]
def wordB (w : List UInt8) : Bool := match w with
  | [] => false
  | x :: r => !blankB x && sizeL (x :: r) == (x :: r).length && decide ((x :: r).length ≤ 9)
theorem wordB_ok {w : List UInt8} (h : wordB w = true) : WordOk w ∧ w.length ≤ 9 := by
  match w, h with
  | [], h => cases h
  | x :: r, h =>
    simp only [wordB, Bool.and_eq_true, Bool.not_eq_true', beq_iff_eq, decide_eq_true_eq] at h
    exact ⟨⟨x, r, rfl, h.1.1, h.1.2⟩, h.2⟩
theorem somL_ok : ∀ j : Fin 12, wordB (somL.getD j.val ⟨#[]⟩).data.toList = true := by decide +kernel
theorem somL_at (j : Nat) (hj : j < 12) : WordOk (somL.getD j ⟨#[]⟩).data.toList ∧ (somL.getD j ⟨#[]⟩).data.toList.length ≤ 9 := wordB_ok (somL_ok ⟨j, hj⟩)
/-- What the second loop has put together. -/
structure UMid (k : Nat) (t : ByteArray) (l : List ByteArray) : Prop where
  len : l.length = k
  ok : ∀ v ∈ l, WordOk v.data.toList ∧ v.data.toList.length ≤ 9
  eq : t.data.toList = joinL sep1 0 (l.map fun v => v.data.toList)
theorem sum_le9 : ∀ l : List ByteArray, (∀ v ∈ l, WordOk v.data.toList ∧ v.data.toList.length ≤ 9) → ((l.map fun v => v.data.toList).map List.length).sum ≤ 9 * l.length
  | [], _ => Nat.le_refl _
  | v :: l, h => by
    have h1 := (h v (List.mem_cons_self ..)).2
    have h2 := sum_le9 l (fun x hx => h x (List.mem_cons_of_mem _ hx))
    simp only [List.map_cons, List.sum_cons, List.length_cons]
    omega
theorem UMid.le {k : Nat} {t : ByteArray} {l : List ByteArray} (h : UMid k t l) : t.size ≤ 11 * k := by
  have h1 := joinL_len sep1_ok (l.map fun v => v.data.toList) 0
  have h2 := sum_le9 l h.ok
  rw [Lib.size_eq, h.eq]
  rw [List.length_map, h.len] at h1
  rw [h.len] at h2
  omega
theorem UMid.step {k : Nat} {t x : ByteArray} {l : List ByteArray} (h : UMid k t l) (hx : WordOk x.data.toList ∧ x.data.toList.length ≤ 9) : UMid (k + 1) ((t ++ x) ++ ⟨#[32]⟩) (l ++ [x]) := by
  refine ⟨by rw [List.length_append, h.len]; rfl, fun v hv => ?_, ?_⟩
  · rcases List.mem_append.1 hv with hv | hv
    · exact h.ok v hv
    · rw [List.mem_singleton.1 hv]; exact hx
  · rw [app_list, app_list, h.eq, List.map_append, List.map_cons, List.map_nil, joinL_snoc, List.append_assoc]
theorem UMid.res {k : Nat} {t : ByteArray} {l : List ByteArray} (h : UMid k t l) : res t.data.toList = some l := by
  rw [h.eq, res_join sep1_ok _ 0 (fun v hv => by obtain ⟨x, hx, rfl⟩ := List.mem_map.1 hv; exact (h.ok x hx).1), List.map_map]
  congr 1
  exact List.map_id' l
/-- What Words has answered to the first text. -/
structure Firsts (s : ByteArray) (ws : List ByteArray) (vs : List (List UInt8)) : Prop where
  map : ws = vs.map mkB
  ok : ∀ v ∈ vs, WordOk v
  len : (joinL sep3 0 vs).length ≤ 3 * s.size
  le : vs.length ≤ s.size
  small : ∀ v ∈ vs, v.length ≤ s.size
theorem mem_le_sum {v : List UInt8} : ∀ ws : List (List UInt8), v ∈ ws → v.length ≤ (ws.map List.length).sum
  | w :: ws, h => by
    simp only [List.map_cons, List.sum_cons]
    rcases List.mem_cons.1 h with rfl | h
    · omega
    · have := mem_le_sum ws h
      omega
theorem firsts {s : ByteArray} {ws : List ByteArray} (h : out s = (0, ws)) : ∃ vs, Firsts s ws vs := by
  unfold out at h
  split at h
  · cases h
  · split at h
    · cases h
    · rename_i ws' h2
      obtain ⟨_, rfl⟩ := Prod.mk.injEq .. ▸ h
      unfold res at h2
      cases hw : wordsL s.data.toList with
      | none => rw [hw] at h2; cases h2
      | some vs =>
        rw [hw] at h2
        obtain rfl := Option.some.inj h2
        obtain ⟨h1, h3⟩ := wordsL_ok _ _ (Nat.le_refl _) vs hw
        have h4 := length_le_sum vs h1
        have h5 := joinL_len sep3_ok vs 0
        rw [← Lib.size_eq] at h3
        exact ⟨vs, rfl, h1, by omega, by omega, fun v hv => by have := mem_le_sum vs hv; omega⟩
end Go.Proofs.YtmhnjgnljfkdcaaDoor
