/- Words of a text: what they are, what is behind them, how they are put together again: plain. -/
import Derived.Test.YtmhnjgnljfkdcaaDoorMem
namespace Go.Proofs.YtmhnjgnljfkdcaaDoor

def plainI (c : Int) : Bool := decide (97 ≤ c) && decide (c ≤ 122) || decide (65 ≤ c) && decide (c ≤ 90) || decide (48 ≤ c) && decide (c ≤ 57) || c == 95 || c == 64
def plainB (b : UInt8) : Bool := plainI (b.toNat : Int)
def blanks : List UInt8 := [32, 9, 10, 13]
def blankB (b : UInt8) : Bool := blanks.contains b
def headP : List UInt8 → Bool
  | [] => false
  | b :: _ => plainB b
def joinB (b : UInt8) (r : List UInt8) : Bool := b == 46 && headP r
def runN : List UInt8 → Nat
  | [] => 0
  | b :: r => if (plainB b || joinB b r) = true then runN r + 1 else 0
def pairB : List UInt8 → Bool
  | a :: b :: _ => a == 58 && b == 61 || a == 61 && b == 62 || a == 45 && b == 62
  | _ => false
def marks : List UInt8 := [40, 41, 123, 125, 58, 44, 59, 46]
def markB (b : UInt8) : Bool := marks.contains b
def sizeL : List UInt8 → Nat
  | [] => 0
  | b :: r => if plainB b = true then runN r + 1 else if pairB (b :: r) = true then 2 else if markB b = true then 1 else 0
def wd : Nat → List UInt8 → Option (List (List UInt8))
  | _, [] => some []
  | 0, _ :: _ => none
  | n + 1, b :: r => if blankB b = true then wd n r else if sizeL (b :: r) = 0 then none else (wd n ((b :: r).drop (sizeL (b :: r)))).map ((b :: r).take (sizeL (b :: r)) :: ·)
/-- A text's words; none where there is another byte. -/
def wordsL (l : List UInt8) : Option (List (List UInt8)) := wd l.length l

theorem wd_nil (n : Nat) : wd n [] = some [] := by cases n <;> rfl
theorem wd_succ (n : Nat) (b : UInt8) (r : List UInt8) : wd (n + 1) (b :: r) = if blankB b = true then wd n r else if sizeL (b :: r) = 0 then none else (wd n ((b :: r).drop (sizeL (b :: r)))).map ((b :: r).take (sizeL (b :: r)) :: ·) := rfl
theorem wd_enough : ∀ (n m : Nat) (l : List UInt8), l.length ≤ n → l.length ≤ m → wd n l = wd m l
  | n, m, [], _, _ => by rw [wd_nil, wd_nil]
  | 0, _, _ :: _, h, _ => by simp at h
  | _, 0, _ :: _, _, h => by simp at h
  | n + 1, m + 1, b :: r, h, h2 => by
    rw [wd_succ, wd_succ]
    simp only [List.length_cons] at h h2
    rw [wd_enough n m r (by omega) (by omega)]
    by_cases hz : sizeL (b :: r) = 0
    · rw [if_pos hz, if_pos hz]
    · rw [if_neg hz, if_neg hz]
      have hl : ((b :: r).drop (sizeL (b :: r))).length ≤ r.length := by simp only [List.length_drop, List.length_cons]; omega
      rw [wd_enough n m _ (by omega) (by omega)]
theorem wordsL_nil : wordsL [] = some [] := rfl
theorem wordsL_blank {b : UInt8} (h : blankB b = true) (r : List UInt8) : wordsL (b :: r) = wordsL r := by
  unfold wordsL
  rw [List.length_cons, wd_succ, if_pos h]
theorem wordsL_none {b : UInt8} (h : blankB b = false) {r : List UInt8} (hz : sizeL (b :: r) = 0) : wordsL (b :: r) = none := by
  unfold wordsL
  rw [List.length_cons, wd_succ, if_neg (by simp [h]), if_pos hz]
theorem wordsL_word {b : UInt8} (h : blankB b = false) {r : List UInt8} (hz : sizeL (b :: r) ≠ 0) : wordsL (b :: r) = (wordsL ((b :: r).drop (sizeL (b :: r)))).map ((b :: r).take (sizeL (b :: r)) :: ·) := by
  unfold wordsL
  rw [List.length_cons, wd_succ, if_neg (by simp [h]), if_neg hz]
  have hl : ((b :: r).drop (sizeL (b :: r))).length ≤ r.length := by simp only [List.length_drop, List.length_cons]; omega
  rw [wd_enough r.length _ _ hl (Nat.le_refl _)]
theorem wordsL_trim : ∀ l : List UInt8, wordsL (l.dropWhile (blanks.contains ·)) = wordsL l
  | [] => rfl
  | b :: r => by
    rw [List.dropWhile_cons]
    by_cases h : blanks.contains b = true
    · rw [if_pos h, wordsL_trim r, wordsL_blank h]
    · rw [if_neg h]
theorem trim_head {l r : List UInt8} {b : UInt8} (h : l.dropWhile (blanks.contains ·) = b :: r) : blankB b = false := by
  induction l with
  | nil => simp at h
  | cons x l ih =>
    rw [List.dropWhile_cons] at h
    by_cases hx : blanks.contains x = true
    · rw [if_pos hx] at h; exact ih h
    · rw [if_neg hx] at h
      obtain ⟨rfl, _⟩ := List.cons.inj h
      simpa [blankB] using hx
theorem runN_le : ∀ r : List UInt8, runN r ≤ r.length
  | [] => Nat.le_refl _
  | b :: r => by
    have := runN_le r
    rw [runN]
    split <;> simp only [List.length_cons] <;> omega
theorem sizeL_le (l : List UInt8) : sizeL l ≤ l.length := by
  match l with
  | [] => exact Nat.le_refl _
  | b :: r =>
    have := runN_le r
    rw [sizeL]
    simp only [List.length_cons]
    split
    · omega
    · split
      · rename_i h
        match r, h with
        | [], h => simp [pairB] at h
        | _ :: _, _ => simp only [List.length_cons]; omega
      · split <;> omega
theorem blank_is {b : UInt8} (h : blankB b = true) : b = 32 ∨ b = 9 ∨ b = 10 ∨ b = 13 := by
  simpa [blankB, blanks] using h
theorem blank_plain {b : UInt8} (h : blankB b = true) : plainB b = false ∧ (b == 46) = false ∧ (b == 61) = false ∧ (b == 62) = false := by
  rcases blank_is h with rfl | rfl | rfl | rfl <;> decide
theorem plain_blank {b : UInt8} (h : plainB b = true) : blankB b = false := by
  cases hb : blankB b with
  | false => rfl
  | true => rw [(blank_plain hb).1] at h; cases h
theorem headP_blank {b : UInt8} (h : blankB b = true) (t : List UInt8) : ∀ r : List UInt8, headP (r ++ b :: t) = headP r
  | [] => (blank_plain h).1
  | _ :: _ => rfl
theorem runN_blank {b : UInt8} (h : blankB b = true) (t : List UInt8) : ∀ r : List UInt8, runN (r ++ b :: t) = runN r
  | [] => by
    show runN (b :: t) = 0
    rw [runN, if_neg]
    simp [joinB, (blank_plain h).1, (blank_plain h).2.1]
  | x :: r => by
    show runN (x :: (r ++ b :: t)) = runN (x :: r)
    rw [runN, runN, runN_blank h t r, joinB, joinB, headP_blank h t r]
theorem pairB_blank {b : UInt8} (h : blankB b = true) (t : List UInt8) (x : UInt8) : ∀ r : List UInt8, pairB (x :: (r ++ b :: t)) = pairB (x :: r)
  | [] => by
    show pairB (x :: b :: t) = false
    simp [pairB, (blank_plain h).2.2.1, (blank_plain h).2.2.2]
  | _ :: _ => rfl
theorem sizeL_blank {b : UInt8} (h : blankB b = true) (t : List UInt8) (x : UInt8) (r : List UInt8) : sizeL (x :: (r ++ b :: t)) = sizeL (x :: r) := by
  rw [sizeL, sizeL, runN_blank h, pairB_blank h]
theorem runN_take : ∀ r : List UInt8, runN (r.take (runN r)) = runN r
  | [] => rfl
  | b :: r => by
    by_cases hc : (plainB b || joinB b r) = true
    · have e : runN (b :: r) = runN r + 1 := by rw [runN, if_pos hc]
      rw [e, List.take_succ_cons, runN, runN_take r, if_pos]
      cases hp : plainB b with
      | true => rfl
      | false =>
        rw [hp, Bool.false_or] at hc
        rw [Bool.false_or]
        match r, hc with
        | [], hc => simp [joinB, headP] at hc
        | x :: r, hc =>
          simp only [joinB, headP, Bool.and_eq_true] at hc
          have e2 : runN (x :: r) = runN r + 1 := by rw [runN, if_pos (by simp [hc.2])]
          rw [e2, List.take_succ_cons]
          simp [joinB, headP, hc.1, hc.2]
    · have e : runN (b :: r) = 0 := by rw [runN, if_neg hc]
      rw [e]; rfl
theorem sizeL_take (b : UInt8) (r : List UInt8) : sizeL ((b :: r).take (sizeL (b :: r))) = sizeL (b :: r) := by
  by_cases hp : plainB b = true
  · have e : sizeL (b :: r) = runN r + 1 := by rw [sizeL, if_pos hp]
    rw [e, List.take_succ_cons, sizeL, if_pos hp, runN_take]
  · by_cases h2 : pairB (b :: r) = true
    · have e : sizeL (b :: r) = 2 := by rw [sizeL, if_neg hp, if_pos h2]
      match r, h2 with
      | [], h2 => simp [pairB] at h2
      | x :: r, h2 =>
        rw [e]
        show sizeL [b, x] = 2
        rw [sizeL, if_neg hp, if_pos (show pairB [b, x] = true from h2)]
    · by_cases h3 : markB b = true
      · have e : sizeL (b :: r) = 1 := by rw [sizeL, if_neg hp, if_neg h2, if_pos h3]
        rw [e]
        show sizeL [b] = 1
        rw [sizeL, if_neg hp, if_neg (by simp [pairB]), if_pos h3]
      · have e : sizeL (b :: r) = 0 := by rw [sizeL, if_neg hp, if_neg h2, if_neg h3]
        rw [e]; rfl
/-- A word alone. -/
def WordOk (w : List UInt8) : Prop := ∃ x r, w = x :: r ∧ blankB x = false ∧ sizeL w = w.length
theorem wordOk_take {b : UInt8} (h : blankB b = false) {r : List UInt8} (hz : sizeL (b :: r) ≠ 0) : WordOk ((b :: r).take (sizeL (b :: r))) := by
  obtain ⟨k, hk⟩ : ∃ k, sizeL (b :: r) = k + 1 := ⟨sizeL (b :: r) - 1, by omega⟩
  have hl := sizeL_le (b :: r)
  refine ⟨b, r.take k, by rw [hk, List.take_succ_cons], h, ?_⟩
  rw [sizeL_take, List.length_take]
  omega
theorem wordsL_ok : ∀ (n : Nat) (l : List UInt8), l.length ≤ n → ∀ ws, wordsL l = some ws → (∀ w ∈ ws, WordOk w) ∧ (ws.map List.length).sum ≤ l.length
  | n, [], _, ws, h => by
    rw [wordsL_nil] at h
    obtain rfl := Option.some.inj h
    exact ⟨fun w hw => (by cases hw), Nat.le_refl _⟩
  | 0, b :: r, h, _, _ => by simp at h
  | n + 1, b :: r, h, ws, hw => by
    simp only [List.length_cons] at h
    by_cases hb : blankB b = true
    · rw [wordsL_blank hb] at hw
      obtain ⟨h1, h2⟩ := wordsL_ok n r (by omega) ws hw
      exact ⟨h1, by simp only [List.length_cons]; omega⟩
    · have hb : blankB b = false := by simpa using hb
      by_cases hz : sizeL (b :: r) = 0
      · rw [wordsL_none hb hz] at hw; cases hw
      · rw [wordsL_word hb hz] at hw
        have hl : ((b :: r).drop (sizeL (b :: r))).length ≤ n := by simp only [List.length_drop, List.length_cons]; omega
        cases hc : wordsL ((b :: r).drop (sizeL (b :: r))) with
        | none => rw [hc] at hw; cases hw
        | some vs =>
          rw [hc] at hw
          obtain rfl := Option.some.inj hw
          obtain ⟨h1, h2⟩ := wordsL_ok n _ hl vs hc
          refine ⟨fun w hm => ?_, ?_⟩
          · rcases List.mem_cons.1 hm with rfl | hm
            · exact wordOk_take hb hz
            · exact h1 w hm
          · have := sizeL_le (b :: r)
            simp only [List.map_cons, List.sum_cons, List.length_take, List.length_drop, List.length_cons] at h2 this ⊢
            omega
theorem wordOk_pos {w : List UInt8} (h : WordOk w) : 1 ≤ w.length := by
  obtain ⟨x, r, rfl, _⟩ := h
  simp
theorem length_le_sum : ∀ ws : List (List UInt8), (∀ w ∈ ws, WordOk w) → ws.length ≤ (ws.map List.length).sum
  | [], _ => Nat.le_refl _
  | w :: ws, h => by
    have := length_le_sum ws (fun x hx => h x (List.mem_cons_of_mem _ hx))
    have := wordOk_pos (h w (List.mem_cons_self ..))
    simp only [List.map_cons, List.sum_cons, List.length_cons]
    omega
theorem wordsL_cons {w : List UInt8} (h : WordOk w) {b : UInt8} (hb : blankB b = true) (t : List UInt8) : wordsL (w ++ b :: t) = (wordsL t).map (w :: ·) := by
  obtain ⟨x, r, rfl, hx, hs⟩ := h
  have e : sizeL (x :: (r ++ b :: t)) = (x :: r).length := by rw [sizeL_blank hb, hs]
  have e2 : (x :: r) ++ b :: t = x :: (r ++ b :: t) := rfl
  rw [e2, wordsL_word hx (by rw [e]; simp), e, ← e2]
  rw [List.drop_left, List.take_left, wordsL_blank hb]
/-- Words put together, each with its blanks behind it. -/
def joinL (sep : Nat → List UInt8) : Nat → List (List UInt8) → List UInt8
  | _, [] => []
  | i, w :: ws => w ++ (sep i ++ joinL sep (i + 1) ws)
theorem wordsL_skip : ∀ (s t : List UInt8), (∀ b ∈ s, blankB b = true) → wordsL (s ++ t) = wordsL t
  | [], _, _ => rfl
  | b :: s, t, h => by
    show wordsL (b :: (s ++ t)) = _
    rw [wordsL_blank (h b (List.mem_cons_self ..)), wordsL_skip s t (fun x hx => h x (List.mem_cons_of_mem _ hx))]
def SepOk (sep : Nat → List UInt8) : Prop := ∀ i, (∀ b ∈ sep i, blankB b = true) ∧ 1 ≤ (sep i).length ∧ (sep i).length ≤ 2
theorem wordsL_join {sep : Nat → List UInt8} (hs : SepOk sep) : ∀ (ws : List (List UInt8)) (i : Nat), (∀ w ∈ ws, WordOk w) → wordsL (joinL sep i ws) = some ws
  | [], _, _ => rfl
  | w :: ws, i, h => by
    obtain ⟨h1, h2, _⟩ := hs i
    match hsep : sep i, h2 with
    | b :: t, _ =>
      rw [hsep] at h1
      show wordsL (w ++ (sep i ++ joinL sep (i + 1) ws)) = _
      rw [hsep]
      show wordsL (w ++ b :: (t ++ joinL sep (i + 1) ws)) = _
      rw [wordsL_cons (h w (List.mem_cons_self ..)) (h1 b (List.mem_cons_self ..)), wordsL_skip t _ (fun x hx => h1 x (List.mem_cons_of_mem _ hx)), wordsL_join hs ws (i + 1) (fun x hx => h x (List.mem_cons_of_mem _ hx))]
      rfl
theorem joinL_len {sep : Nat → List UInt8} (hs : SepOk sep) : ∀ (ws : List (List UInt8)) (i : Nat), (joinL sep i ws).length ≤ (ws.map List.length).sum + 2 * ws.length
  | [], _ => Nat.le_refl _
  | w :: ws, i => by
    have h1 := (hs i).2.2
    have h2 := joinL_len hs ws (i + 1)
    show (w ++ (sep i ++ joinL sep (i + 1) ws)).length ≤ _
    simp only [List.length_append, List.map_cons, List.sum_cons, List.length_cons]
    omega
/-- How far the reference's run goes, told by what is ahead of its place and behind it. -/
def runAt (l : List UInt8) : Nat := match l with
  | [] => 0
  | b :: r => if plainB b = true then runN r + 1 else 0
end Go.Proofs.YtmhnjgnljfkdcaaDoor
