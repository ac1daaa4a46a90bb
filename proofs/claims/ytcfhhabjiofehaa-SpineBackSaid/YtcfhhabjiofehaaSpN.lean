/- Contracts of the reference's calls on names: that they answer; what a leaf is. -/
import Derived.Test.YtcfhhabjiofehaaSpC
import Derived.Deep.Cut
namespace Go.Proofs.Ytcfhhabjiofehaa
open Go.RowKit

/-- Some bool, and nothing has changed. -/
def AnyBool (w : World) (e : Ending) (w2 : World) : Prop := ∃ b, e = .returned (.bool b) ∧ w2 = w
set_option maxRecDepth 20000 in
theorem letter_any (c : Int) (w : World) : Calls Try.prog 51 #[.int .u8 c] w (AnyBool w) := by
  by_cases h1 : 97 ≤ c <;> by_cases h2 : c ≤ 122 <;> by_cases h3 : 65 ≤ c <;> by_cases h4 : c ≤ 90
  all_goals
    first | have d1 : decide (97 ≤ c) = true := decide_eq_true h1 | have d1 : decide (97 ≤ c) = false := decide_eq_false h1
    first | have d2 : decide (c ≤ 122) = true := decide_eq_true h2 | have d2 : decide (c ≤ 122) = false := decide_eq_false h2
    first | have d3 : decide (65 ≤ c) = true := decide_eq_true h3 | have d3 : decide (65 ≤ c) = false := decide_eq_false h3
    first | have d4 : decide (c ≤ 90) = true := decide_eq_true h4 | have d4 : decide (c ≤ 90) = false := decide_eq_false h4
    clear h1 h2 h3 h4
    go_enter Try.func51, Try.ntmps51
    go_wp2
    go_ret
    exact ⟨_, rfl, rfl⟩
set_option maxRecDepth 20000 in
theorem plain_any (c : Int) (w : World) : Calls Try.prog 52 #[.int .u8 c] w (AnyBool w) := by
  by_cases h1 : 48 ≤ c <;> by_cases h2 : c ≤ 57
  all_goals
    first | have d1 : decide (48 ≤ c) = true := decide_eq_true h1 | have d1 : decide (48 ≤ c) = false := decide_eq_false h1
    first | have d2 : decide (c ≤ 57) = true := decide_eq_true h2 | have d2 : decide (c ≤ 57) = false := decide_eq_false h2
    clear h1 h2
    go_enter Try.func52, Try.ntmps52
    go_wp2_with (go_at_call 51; refine Calls.mono (letter_any _ _) ?_; rintro e w2 ⟨b, rfl, rfl⟩; cases b)
    all_goals
      go_ret
      exact ⟨_, rfl, rfl⟩
set_option maxRecDepth 20000 in
set_option maxHeartbeats 1600000 in
theorem isName_any (s : ByteArray) (hs : s.size ≤ 1000000000000000) (w : World) : Calls Try.prog 49 #[.string s] w (AnyBool w) := by
  by_cases h1 : (s.size : Int) < 1
  · have d1 : decide ((s.size : Int) < 1) = true := decide_eq_true h1
    go_enter Try.func49, Try.ntmps49
    go_wp2_with fail
    go_ret
    exact ⟨_, rfl, rfl⟩
  have d1 : decide ((s.size : Int) < 1) = false := decide_eq_false h1
  by_cases h2 : (24 : Int) < s.size
  · have d2 : decide ((24 : Int) < s.size) = true := decide_eq_true h2
    go_enter Try.func49, Try.ntmps49
    go_wp2_with fail
    go_ret
    exact ⟨_, rfl, rfl⟩
  have d2 : decide ((24 : Int) < s.size) = false := decide_eq_false h2
  have h0 : s.size - 1 < s.size := by omega
  cases d3 : ((s[s.size - 1].toNat : Int) == 46) with
  | true =>
    go_enter Try.func49, Try.ntmps49
    go_wp2_with fail
    go_ret
    exact ⟨_, rfl, rfl⟩
  | false =>
    go_enter Try.func49, Try.ntmps49
    go_wp2_with fail
    clear d3 h0 d1 d2
    go_loopw [3] (fun i wr => ∃ k : Nat, k ≤ s.size ∧ i = .int .i64 (k : Int) ∧ wr = w) (fun i _ => s.size - (intOf i).toNat)
    case atStart => exact ⟨0, Nat.zero_le _, rfl, rfl⟩
    case round =>
      obtain ⟨k, hk, rfl, hw⟩ := hrel
      have hw := hw.symm
      subst hw
      by_cases hlt : k < s.size
      · have l1 : decide ((k : Int) < (s.size : Int)) = true := by simpa using hlt
        have Hlt := Lib.hid hlt
        by_cases hz : k = 0
        · subst hz
          go_wp2_with (first
            | (go_at_call 51; refine Calls.mono (letter_any _ _) ?_; rintro e w2 ⟨b, rfl, rfl⟩; cases b)
            | (go_at_call 52; refine Calls.mono (plain_any _ _) ?_; rintro e w2 ⟨b, rfl, rfl⟩; cases b))
          all_goals first
            | (go_ret; exact ⟨_, rfl, rfl⟩)
            | (go_roundw
               case rel => exact ⟨1, Hlt.out, by simp⟩
               case measure => have := Hlt.out; simp [intOf]; omega)
        · have z0 : ((k : Int) == 0) = false := by simp; omega
          have hk1 : k - 1 < s.size := by omega
          go_wp2_with (first
            | (go_at_call 51; refine Calls.mono (letter_any _ _) ?_; rintro e w2 ⟨b, rfl, rfl⟩; cases b)
            | (go_at_call 52; refine Calls.mono (plain_any _ _) ?_; rintro e w2 ⟨b, rfl, rfl⟩; cases b))
          all_goals first
            | (go_ret; exact ⟨_, rfl, rfl⟩)
            | (go_roundw
               case rel => exact ⟨k + 1, Hlt.out, by go_num, by simp⟩
               case measure => have := Hlt.out; simp [intOf]; omega)
      · have l1 : decide ((k : Int) < (s.size : Int)) = false := by simpa using hlt
        go_wp2_with fail
        go_ret
        exact ⟨_, rfl, rfl⟩
set_option maxRecDepth 20000 in
set_option maxHeartbeats 3200000 in
theorem keyword_any (s : ByteArray) (w : World) : Calls Try.prog 50 #[.string s] w (AnyBool w) := by
  by_cases h5 : s.size = 5
  · have e5 : ((s.size : Int) == 5) = true := by simp; omega
    have h4 : 4 < s.size := by omega
    have h4' : 4 ≤ s.size := by omega
    go_enter Try.func50, Try.ntmps50
    go_wp2_with fail
    all_goals
      go_ret
      exact ⟨_, rfl, rfl⟩
  · have e5 : ((s.size : Int) == 5) = false := by simp; omega
    go_enter Try.func50, Try.ntmps50
    go_wp2_with fail
    all_goals
      go_ret
      exact ⟨_, rfl, rfl⟩
/-- Some text, some bool. -/
def AnyRec (w : World) (e : Ending) (w2 : World) : Prop := ∃ t b, e = .returned (.tuple #[.string t, .bool b]) ∧ w2 = w
set_option maxRecDepth 20000 in
set_option maxHeartbeats 3200000 in
theorem rec_any (s : ByteArray) (hs : s.size ≤ 1000000000000000) (w : World) : Calls Try.prog 48 #[.string s] w (AnyRec w) := by
  have HN : Hid (∀ (x : ByteArray) W, x.size ≤ s.size → Calls Try.prog 49 #[.string x] W (AnyBool W)) := fun x W hx => isName_any x (by omega) W
  by_cases h1 : (s.size : Int) - 4 < 1
  · have d1 : decide ((s.size : Int) - 4 < 1) = true := decide_eq_true h1
    go_enter Try.func48, Try.ntmps48
    go_wp2_with fail
    exact bodyPost_ret (v := .tuple #[_, _]) (by simp [results, Try.results48, go_sem]; exact ⟨rfl, rfl⟩) rfl ⟨_, _, rfl, rfl⟩
  · obtain ⟨k, hk⟩ : ∃ k : Nat, k + 4 = s.size := ⟨s.size - 4, by omega⟩
    have e1 : (s.size : Int) - 4 = (k : Int) := by omega
    have e2 : IntKind.i64.wrap ((s.size : Int) - 4) = (k : Int) := by rw [IntKind.wrap_i64]; omega
    have d1 : decide ((k : Int) < 1) = false := by simp; omega
    have hk2 : k ≤ s.size := by omega
    go_enter Try.func48, Try.ntmps48
    go_wp2_with (go_at_call 49; refine Calls.mono (HN.out _ _ (by rw [ByteArray.size_extract]; omega)) ?_; rintro e w2 ⟨b, rfl, rfl⟩; cases b)
    all_goals
      exact bodyPost_ret (v := .tuple #[_, _]) (by simp [results, Try.results48, go_sem]; exact ⟨rfl, rfl⟩) rfl ⟨_, _, rfl, rfl⟩
/-- What a leaf may be. -/
def LeafOk (k n : Int) (s : ByteArray) : Prop := (k = 1 ∧ s = noS) ∨ (k = 2 ∧ s = noS ∧ 0 ≤ n ∧ n ≤ 100000) ∨ k = 3 ∨ ((k = 4 ∨ k = 5 ∨ k = 6 ∨ k = 7) ∧ n = 0 ∧ s = noS)
def LeafPost (k n : Int) (s : ByteArray) (w : World) (e : Ending) (w2 : World) : Prop := ∃ b, e = .returned (.bool b) ∧ w2 = w ∧ (b = true → LeafOk k n s)
set_option maxRecDepth 20000 in
set_option maxHeartbeats 6400000 in
theorem leaf_any {w : World} {g : Nat} {k n : Int} {s : ByteArray} {pa pb pc : Option Addr} (N : NdAt w g k n s pa pb pc) (hs : s.size ≤ 1000000000000000) :
    Calls Try.prog 45 #[.pointer (some ⟨g, 0, none⟩)] w (LeafPost k n s w) := by
  obtain ⟨x0, x1, x2, _, _, _⟩ := N.cells
  have HN := Lib.hid (isName_any s hs)
  have HK := Lib.hid (keyword_any s)
  have HR := Lib.hid (rec_any s hs)
  clear N
  by_cases h3 : k = 3
  · subst h3
    have P : Hid (∀ b : Bool, b = true → LeafOk 3 n s) := fun _ _ => .inr (.inr (.inl rfl))
    go_enter Try.func45, Try.ntmps45
    go_wp2_with (first
      | (go_at_call 48; refine Calls.mono (HR.out _) ?_; rintro e w2 ⟨t, b, rfl, rfl⟩; cases b)
      | (go_at_call 49; refine Calls.mono (HN.out _) ?_; rintro e w2 ⟨b, rfl, rfl⟩; cases b)
      | (go_at_call 50; refine Calls.mono (HK.out _) ?_; rintro e w2 ⟨b, rfl, rfl⟩; cases b))
    all_goals
      go_ret
      exact ⟨_, rfl, rfl, P.out _⟩
  have b3 : (k == 3) = false := by simpa using h3
  cases he : s.toList.isEmpty with
  | false =>
    have P : Hid (false = true → LeafOk k n s) := fun h => by cases h
    by_cases h1 : k = 1
    · subst h1
      go_enter Try.func45, Try.ntmps45
      go_wp2_with (go_at_call 48; refine Calls.mono (HR.out _) ?_; rintro e w2 ⟨t, b, rfl, rfl⟩)
      go_ret
      exact ⟨_, rfl, rfl, P.out⟩
    have b1 : (k == 1) = false := by simpa using h1
    by_cases h2 : k = 2
    · subst h2
      go_enter Try.func45, Try.ntmps45
      go_wp2_with (go_at_call 48; refine Calls.mono (HR.out _) ?_; rintro e w2 ⟨t, b, rfl, rfl⟩)
      go_ret
      exact ⟨_, rfl, rfl, P.out⟩
    have b2 : (k == 2) = false := by simpa using h2
    go_enter Try.func45, Try.ntmps45
    go_wp2_with (go_at_call 48; refine Calls.mono (HR.out _) ?_; rintro e w2 ⟨t, b, rfl, rfl⟩)
    go_ret
    exact ⟨_, rfl, rfl, P.out⟩
  | true =>
    have hS : s = noS := by
      have h := eq_toList s noS
      have h9 : s.toList = [] := List.isEmpty_iff.1 he
      have h8 : noS.toList = [] := by rw [ByteArray.toList_eq]; rfl
      rw [h9, h8] at h
      exact of_decide_eq_true h.symm
    have HS := Lib.hid hS
    clear hS
    by_cases h1 : k = 1
    · subst h1
      by_cases n0 : 0 ≤ n
      · have d0 : decide (0 ≤ n) = true := decide_eq_true n0
        go_enter Try.func45, Try.ntmps45
        go_wp2_with (go_at_call 48; refine Calls.mono (HR.out _) ?_; rintro e w2 ⟨t, b, rfl, rfl⟩)
        go_ret
        exact ⟨_, rfl, rfl, fun _ => .inl ⟨rfl, HS.out⟩⟩
      · have d0 : decide (0 ≤ n) = false := decide_eq_false n0
        go_enter Try.func45, Try.ntmps45
        go_wp2_with (go_at_call 48; refine Calls.mono (HR.out _) ?_; rintro e w2 ⟨t, b, rfl, rfl⟩)
        go_ret
        exact ⟨_, rfl, rfl, fun _ => .inl ⟨rfl, HS.out⟩⟩
    have b1 : (k == 1) = false := by simpa using h1
    by_cases h2 : k = 2
    · subst h2
      by_cases n0 : 0 ≤ n
      · have d0 : decide (0 ≤ n) = true := decide_eq_true n0
        have HN0 := Lib.hid n0
        go_enter Try.func45, Try.ntmps45
        go_wp2_with (go_at_call 48; refine Calls.mono (HR.out _) ?_; rintro e w2 ⟨t, b, rfl, rfl⟩)
        go_ret
        exact ⟨_, rfl, rfl, fun h => .inr (.inl ⟨rfl, HS.out, HN0.out, of_decide_eq_true h⟩)⟩
      · have d0 : decide (0 ≤ n) = false := decide_eq_false n0
        go_enter Try.func45, Try.ntmps45
        go_wp2_with (go_at_call 48; refine Calls.mono (HR.out _) ?_; rintro e w2 ⟨t, b, rfl, rfl⟩)
        go_ret
        exact ⟨_, rfl, rfl, fun h => by cases h⟩
    have b2 : (k == 2) = false := by simpa using h2
    by_cases n0 : n = 0
    · have d0 : (n == 0) = true := by simpa using n0
      have HN0 := Lib.hid n0
      clear n0
      by_cases k4 : 4 ≤ k
      · have d4 : decide (4 ≤ k) = true := decide_eq_true k4
        have HK4 := Lib.hid k4
        go_enter Try.func45, Try.ntmps45
        go_wp2_with (go_at_call 48; refine Calls.mono (HR.out _) ?_; rintro e w2 ⟨t, b, rfl, rfl⟩)
        go_ret
        exact ⟨_, rfl, rfl, fun h => .inr (.inr (.inr ⟨by have h7 := of_decide_eq_true h; have := HK4.out; omega, HN0.out, HS.out⟩))⟩
      · have d4 : decide (4 ≤ k) = false := decide_eq_false k4
        go_enter Try.func45, Try.ntmps45
        go_wp2_with (go_at_call 48; refine Calls.mono (HR.out _) ?_; rintro e w2 ⟨t, b, rfl, rfl⟩)
        go_ret
        exact ⟨_, rfl, rfl, fun h => by cases h⟩
    · have d0 : (n == 0) = false := by simpa using n0
      go_enter Try.func45, Try.ntmps45
      go_wp2_with (go_at_call 48; refine Calls.mono (HR.out _) ?_; rintro e w2 ⟨t, b, rfl, rfl⟩)
      go_ret
      exact ⟨_, rfl, rfl, fun h => by cases h⟩
end Go.Proofs.Ytcfhhabjiofehaa
