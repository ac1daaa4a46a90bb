/- Regions that draw their order: a load for which the store waits by way of others may be taken first too. -/
import Derived.Test.YtpocnldljglbgaaOrd
namespace Go.Proofs.Ytpocnldljglbgaa
open Go

section
variable {P : Program} {ops : Array Oper} {Q : Exit → Act → World → Prop} {md : Region.Mode} {S : World → Prop} {m : Nat}

/-- What has come up has come up behind all that it waits for. -/
def Closed (md : Region.Mode) (ops : Array Oper) (l : Array Bool) : Prop :=
  ∀ j o, ops[j]? = some o → l.getD j false = true → ∀ e ∈ o.after, Region.binds md e = true → l.getD e.on false = true
def closedB (md : Region.Mode) (ops : Array Oper) (l : Array Bool) : Bool :=
  (List.range ops.size).all fun j => !(l.getD j false) || ((ops[j]?).map (·.after.all fun e => !Region.binds md e || l.getD e.on false)).getD true
theorem closed_of {l : Array Bool} (h : closedB md ops l = true) : Closed md ops l := by
  intro j o ho hl e he hb
  have hlt : j < ops.size := (Array.getElem?_eq_some_iff.1 ho).1
  have h1 := List.all_eq_true.1 h j (List.mem_range.2 hlt)
  rw [hl, ho] at h1
  simp only [Bool.not_true, Bool.false_or, Option.map_some, Option.getD_some] at h1
  have h2 := Array.all_eq_true_iff_forall_mem.1 h1 e he
  rw [hb] at h2
  simpa using h2
theorem Closed.set {l : Array Bool} (h : Closed md ops l) {j : Nat} (hj : j ∈ Region.ready md ops l) : Closed md ops (l.setIfInBounds j true) := by
  obtain ⟨_, oj, hoj, hall⟩ := mem_ready.1 hj
  intro k o ho hk e he hb
  refine getD_set_true ?_
  by_cases hjk : j = k
  · subst hjk
    obtain rfl := Option.some.inj (hoj.symm.trans ho)
    exact hall e he hb
  · rw [getD_set_ne false hjk] at hk
    exact h k o ho hk e he hb
/-- A way from one number to another, by what each waits for. -/
def path (md : Region.Mode) (ops : Array Oper) : Nat → List Nat → Bool
  | _, [] => true
  | a, b :: r => waitsB md ops a b && path md ops b r
theorem path_listed {l : Array Bool} (h : Closed md ops l) : ∀ (r : List Nat) (a : Nat), path md ops a r = true → l.getD a false = true → ∀ b ∈ r.getLast?, l.getD b false = true
  | [], _, _, _, b, hb => by simp at hb
  | c :: r, a, hp, ha, b, hb => by
    simp only [path, Bool.and_eq_true] at hp
    have hlt : ∃ o, ops[a]? = some o := by
      have := hp.1
      unfold waitsB at this
      cases ho : ops[a]? with
      | none => rw [ho] at this; cases this
      | some o => exact ⟨o, rfl⟩
    obtain ⟨o, ho⟩ := hlt
    obtain ⟨e, he, hbd, hon⟩ := waitsB_spec hp.1 o ho
    have hc : l.getD c false = true := by rw [← hon]; exact h a o ho ha e he hbd
    cases r with
    | nil => simp at hb; subst hb; exact hc
    | cons d r => exact path_listed h (d :: r) c hp.2 hc b (by simpa using hb)
theorem not_m {l : Array Bool} (h : Closed md ops l) {i c : Nat} {r : List Nat} (hp : path md ops m (c :: r) = true) (hl : (c :: r).getLast? = some i) (hi : l.getD i true = false) : m ∉ Region.ready md ops l := by
  intro hm
  obtain ⟨_, om, hom, hall⟩ := mem_ready.1 hm
  simp only [path, Bool.and_eq_true] at hp
  obtain ⟨e, he, hbd, hon⟩ := waitsB_spec hp.1 om hom
  have hc : l.getD c false = true := by rw [← hon]; exact hall e he hbd
  have hi2 : l.getD i false = true := by
    cases r with
    | nil => simp at hl; subst hl; exact hc
    | cons d r => exact path_listed h (d :: r) c hp.2 hc i (by simpa using hl)
  rcases Nat.lt_or_ge i l.size with h2 | h2
  · simp [h2] at hi hi2; rw [hi] at hi2; cases hi2
  · simp [Array.getElem?_eq_none h2] at hi
theorem wpAnyM_firstC {i c : Nat} {r : List Nat} {oi : Oper} {v : Value} (hi : ops[i]? = some oi) (hsel : ∀ (j : Nat) (o : Oper) cs b, ops[j]? = some o → o.op ≠ .select cs b)
    (hQ : ∀ c a w, Q (.panic c) (a.put oi.dst v) w → Q (.panic c) a w) (him : i ≠ m) (hp : path md ops m (c :: r) = true) (hl : (c :: r).getLast? = some i) :
    ∀ (fuel : Nat) (listed : Array Bool) (a : Act) (w : World), Closed md ops listed →
      (∀ j oj, ops[j]? = some oj → j ≠ i → listed.getD j true = false → (∀ e ∈ oj.after, Region.binds md e = true → e.on ≠ i) → oi.apart ops oj = true) →
      i ∈ Region.ready md ops listed → YieldsIf P ops S oi v a → listed.getD m true = false → S w →
      wpAnyM P md ops Q S m fuel (listed.setIfInBounds i true) (a.put oi.dst v) w → wpAnyM P md ops Q S m (fuel + 1) listed a w := by
  intro fuel
  induction fuel with
  | zero =>
    intro listed a w _ _ hr hy hm0 hS H
    refine ⟨fun h => (by rw [h] at hr; cases hr), fun j hj => ?_⟩
    by_cases hji : j = i
    · subst hji; exact hy.wpOp hi hS ⟨fun _ => hS, H⟩
    · have := ready_mono hj hji
      rw [H.1] at this
      cases this
  | succ fuel ih =>
    intro listed a w hcl hfree hr hy hm0 hS H
    refine ⟨fun h => (by rw [h] at hr; cases hr), fun j hj => ?_⟩
    by_cases hji : j = i
    · subst hji; exact hy.wpOp hi hS ⟨fun _ => hS, H⟩
    · have h1 := H.2 j (ready_mono hj hji)
      obtain ⟨hjun, oj, hoj, hall⟩ := mem_ready.1 hj
      have hnot : ∀ e ∈ oj.after, Region.binds md e = true → e.on ≠ i := fun e he hb heq => by
        have h1 := hall e he hb
        have h0 := (mem_ready.1 hr).1
        rw [heq] at h1
        rcases Nat.lt_or_ge i listed.size with h2 | h2
        · simp [h2] at h0 h1; rw [h0] at h1; cases h1
        · simp [Array.getElem?_eq_none h2] at h1
      have h2 := wpOp_putIf hoj (hfree j oj hoj hji hjun hnot) (fun cs b => hsel i oi cs b hi) (fun cs b => hsel j oj cs b hoj) hQ hy h1
      have hfree2 : ∀ k ok, ops[k]? = some ok → k ≠ i → (listed.setIfInBounds j true).getD k true = false →
          (∀ e ∈ ok.after, Region.binds md e = true → e.on ≠ i) → oi.apart ops ok = true := fun k ok hk hki hun hno => by
        refine hfree k ok hk hki ?_ hno
        by_cases hjk : j = k
        · subst hjk; exact hjun
        · rw [getD_set_ne true hjk] at hun; exact hun
      have hjm : j ≠ m := fun e => by
        subst e
        exact not_m hcl hp hl (mem_ready.1 hr).1 hj
      have hm2 : (listed.setIfInBounds j true).getD m true = false := by rw [getD_set_ne true hjm]; exact hm0
      have hs2 : ∀ w2, (((listed.setIfInBounds i true).setIfInBounds j true).getD m true = false → S w2) → S w2 := fun w2 q => q (by rw [Array.setIfInBounds_comm _ _ (Ne.symm hji), getD_set_ne true him]; exact hm2)
      refine wpOp_mono (fun a2 w2 h3 => ⟨fun _ => hs2 w2 h3.2.1, ih (listed.setIfInBounds j true) a2 w2 (hcl.set hj) hfree2 (ready_mono hr (Ne.symm hji)) h3.1 hm2 (hs2 w2 h3.2.1) ?_⟩) h2
      rw [Array.setIfInBounds_comm _ _ hji]
      exact h3.2.2
theorem wpAnyM_takeC {i c : Nat} {r : List Nat} {oi : Oper} {v : Value} {fuel : Nat} {listed : Array Bool} {a : Act} {w : World} (hi : ops[i]? = some oi)
    (hs : Region.noSelect ops = true) (hf : Region.free md ops listed i = true) (hr : (Region.ready md ops listed).contains i = true)
    (hQ : ∀ c a w, Q (.panic c) (a.put oi.dst v) w → Q (.panic c) a w) (him : i ≠ m) (hp : path md ops m (c :: r) = true) (hl : (c :: r).getLast? = some i) (hcl : closedB md ops listed = true) (hm0 : listed.getD m true = false) (hy : YieldsIf P ops S oi v a) (hS : S w)
    (h : wpAnyM P md ops Q S m fuel (listed.setIfInBounds i true) (a.put oi.dst v) w) : wpAnyM P md ops Q S m (fuel + 1) listed a w :=
  wpAnyM_firstC hi (Region.noSelect_spec hs) hQ him hp hl fuel listed a w (closed_of hcl) (Region.free_spec hi hf) (by simpa using hr) hy hm0 hS h
end
end Go.Proofs.Ytpocnldljglbgaa
