/- Contracts of the calls on bytes: what a byte of a run is, of the program's and of the reference's. -/
import Derived.Test.YtmhnjgnljfkdcaaDoorLxA
import Derived.Test.YtmhnjgnljfkdcaaDoorProg
import Derived.WalkKit
import Derived.Lib.IndexBytes
import Derived.RowKitTokens
import Derived.Lib.Hide
namespace Go.Proofs.YtmhnjgnljfkdcaaDoor
open Go.RowKit

/-- A call that answers this bool, and changes nothing. -/
def IsB (b : Bool) (w : World) (e : Ending) (w2 : World) : Prop := e = .returned (.bool b) ∧ w2 = w
theorem three (x y c : Int) : (decide (x ≤ c) = true ∧ decide (c ≤ y) = true) ∨ (decide (x ≤ c) = true ∧ decide (c ≤ y) = false) ∨ decide (x ≤ c) = false := by
  by_cases h1 : x ≤ c <;> by_cases h2 : c ≤ y <;> simp [h1, h2]
def letterI (c : Int) : Bool := decide (97 ≤ c) && decide (c ≤ 122) || decide (65 ≤ c) && decide (c ≤ 90)
def plain6I (c : Int) : Bool := letterI c || decide (48 ≤ c) && decide (c ≤ 57) || c == 95
theorem plainI_split (c : Int) : plainI c = (plain6I c || c == 64) := rfl

set_option maxRecDepth 20000 in
theorem isPlain_is (c : Int) (w : World) : Calls Tryd.prog 24 #[.int .u8 c] w (IsB (plainI c) w) := by
  rcases three 97 122 c with ⟨a0, b0⟩ | ⟨a0, b0⟩ | a0
  ·
    have hv : Hid (plainI c = true) := Lib.hid (by simp [plainI, a0, b0])
    go_enter Tryd.func24, Tryd.ntmps24
    go_wp2
    go_ret
    rw [hv.out]
    exact ⟨rfl, rfl⟩
  ·
    rcases three 65 90 c with ⟨a2, b2⟩ | ⟨a2, b2⟩ | a2
    ·
      have hv : Hid (plainI c = true) := Lib.hid (by simp [plainI, a0, b0, a2, b2])
      go_enter Tryd.func24, Tryd.ntmps24
      go_wp2
      go_ret
      rw [hv.out]
      exact ⟨rfl, rfl⟩
    ·
      rcases three 48 57 c with ⟨a4, b4⟩ | ⟨a4, b4⟩ | a4
      ·
        have hv : Hid (plainI c = true) := Lib.hid (by simp [plainI, a0, b0, a2, b2, a4, b4])
        go_enter Tryd.func24, Tryd.ntmps24
        go_wp2
        go_ret
        rw [hv.out]
        exact ⟨rfl, rfl⟩
      ·
        cases a6 : (c == 95) with
        | true =>
          have hv : Hid (plainI c = true) := Lib.hid (by simp [plainI, a0, b0, a2, b2, a4, b4, a6])
          go_enter Tryd.func24, Tryd.ntmps24
          go_wp2
          go_ret
          rw [hv.out]
          exact ⟨rfl, rfl⟩
        | false =>
          cases a7 : (c == 64) with
          | true =>
            have hv : Hid (plainI c = true) := Lib.hid (by simp [plainI, a0, b0, a2, b2, a4, b4, a6, a7])
            go_enter Tryd.func24, Tryd.ntmps24
            go_wp2
            go_ret
            rw [hv.out]
            exact ⟨rfl, rfl⟩
          | false =>
            have hv : Hid (plainI c = false) := Lib.hid (by simp [plainI, a0, b0, a2, b2, a4, b4, a6, a7])
            go_enter Tryd.func24, Tryd.ntmps24
            go_wp2
            go_ret
            rw [hv.out]
            exact ⟨rfl, rfl⟩
      ·
        cases a5 : (c == 95) with
        | true =>
          have hv : Hid (plainI c = true) := Lib.hid (by simp [plainI, a0, b0, a2, b2, a4, a5])
          go_enter Tryd.func24, Tryd.ntmps24
          go_wp2
          go_ret
          rw [hv.out]
          exact ⟨rfl, rfl⟩
        | false =>
          cases a6 : (c == 64) with
          | true =>
            have hv : Hid (plainI c = true) := Lib.hid (by simp [plainI, a0, b0, a2, b2, a4, a5, a6])
            go_enter Tryd.func24, Tryd.ntmps24
            go_wp2
            go_ret
            rw [hv.out]
            exact ⟨rfl, rfl⟩
          | false =>
            have hv : Hid (plainI c = false) := Lib.hid (by simp [plainI, a0, b0, a2, b2, a4, a5, a6])
            go_enter Tryd.func24, Tryd.ntmps24
            go_wp2
            go_ret
            rw [hv.out]
            exact ⟨rfl, rfl⟩
    ·
      rcases three 48 57 c with ⟨a3, b3⟩ | ⟨a3, b3⟩ | a3
      ·
        have hv : Hid (plainI c = true) := Lib.hid (by simp [plainI, a0, b0, a2, a3, b3])
        go_enter Tryd.func24, Tryd.ntmps24
        go_wp2
        go_ret
        rw [hv.out]
        exact ⟨rfl, rfl⟩
      ·
        cases a5 : (c == 95) with
        | true =>
          have hv : Hid (plainI c = true) := Lib.hid (by simp [plainI, a0, b0, a2, a3, b3, a5])
          go_enter Tryd.func24, Tryd.ntmps24
          go_wp2
          go_ret
          rw [hv.out]
          exact ⟨rfl, rfl⟩
        | false =>
          cases a6 : (c == 64) with
          | true =>
            have hv : Hid (plainI c = true) := Lib.hid (by simp [plainI, a0, b0, a2, a3, b3, a5, a6])
            go_enter Tryd.func24, Tryd.ntmps24
            go_wp2
            go_ret
            rw [hv.out]
            exact ⟨rfl, rfl⟩
          | false =>
            have hv : Hid (plainI c = false) := Lib.hid (by simp [plainI, a0, b0, a2, a3, b3, a5, a6])
            go_enter Tryd.func24, Tryd.ntmps24
            go_wp2
            go_ret
            rw [hv.out]
            exact ⟨rfl, rfl⟩
      ·
        cases a4 : (c == 95) with
        | true =>
          have hv : Hid (plainI c = true) := Lib.hid (by simp [plainI, a0, b0, a2, a3, a4])
          go_enter Tryd.func24, Tryd.ntmps24
          go_wp2
          go_ret
          rw [hv.out]
          exact ⟨rfl, rfl⟩
        | false =>
          cases a5 : (c == 64) with
          | true =>
            have hv : Hid (plainI c = true) := Lib.hid (by simp [plainI, a0, b0, a2, a3, a4, a5])
            go_enter Tryd.func24, Tryd.ntmps24
            go_wp2
            go_ret
            rw [hv.out]
            exact ⟨rfl, rfl⟩
          | false =>
            have hv : Hid (plainI c = false) := Lib.hid (by simp [plainI, a0, b0, a2, a3, a4, a5])
            go_enter Tryd.func24, Tryd.ntmps24
            go_wp2
            go_ret
            rw [hv.out]
            exact ⟨rfl, rfl⟩
  ·
    rcases three 65 90 c with ⟨a1, b1⟩ | ⟨a1, b1⟩ | a1
    ·
      have hv : Hid (plainI c = true) := Lib.hid (by simp [plainI, a0, a1, b1])
      go_enter Tryd.func24, Tryd.ntmps24
      go_wp2
      go_ret
      rw [hv.out]
      exact ⟨rfl, rfl⟩
    ·
      rcases three 48 57 c with ⟨a3, b3⟩ | ⟨a3, b3⟩ | a3
      ·
        have hv : Hid (plainI c = true) := Lib.hid (by simp [plainI, a0, a1, b1, a3, b3])
        go_enter Tryd.func24, Tryd.ntmps24
        go_wp2
        go_ret
        rw [hv.out]
        exact ⟨rfl, rfl⟩
      ·
        cases a5 : (c == 95) with
        | true =>
          have hv : Hid (plainI c = true) := Lib.hid (by simp [plainI, a0, a1, b1, a3, b3, a5])
          go_enter Tryd.func24, Tryd.ntmps24
          go_wp2
          go_ret
          rw [hv.out]
          exact ⟨rfl, rfl⟩
        | false =>
          cases a6 : (c == 64) with
          | true =>
            have hv : Hid (plainI c = true) := Lib.hid (by simp [plainI, a0, a1, b1, a3, b3, a5, a6])
            go_enter Tryd.func24, Tryd.ntmps24
            go_wp2
            go_ret
            rw [hv.out]
            exact ⟨rfl, rfl⟩
          | false =>
            have hv : Hid (plainI c = false) := Lib.hid (by simp [plainI, a0, a1, b1, a3, b3, a5, a6])
            go_enter Tryd.func24, Tryd.ntmps24
            go_wp2
            go_ret
            rw [hv.out]
            exact ⟨rfl, rfl⟩
      ·
        cases a4 : (c == 95) with
        | true =>
          have hv : Hid (plainI c = true) := Lib.hid (by simp [plainI, a0, a1, b1, a3, a4])
          go_enter Tryd.func24, Tryd.ntmps24
          go_wp2
          go_ret
          rw [hv.out]
          exact ⟨rfl, rfl⟩
        | false =>
          cases a5 : (c == 64) with
          | true =>
            have hv : Hid (plainI c = true) := Lib.hid (by simp [plainI, a0, a1, b1, a3, a4, a5])
            go_enter Tryd.func24, Tryd.ntmps24
            go_wp2
            go_ret
            rw [hv.out]
            exact ⟨rfl, rfl⟩
          | false =>
            have hv : Hid (plainI c = false) := Lib.hid (by simp [plainI, a0, a1, b1, a3, a4, a5])
            go_enter Tryd.func24, Tryd.ntmps24
            go_wp2
            go_ret
            rw [hv.out]
            exact ⟨rfl, rfl⟩
    ·
      rcases three 48 57 c with ⟨a2, b2⟩ | ⟨a2, b2⟩ | a2
      ·
        have hv : Hid (plainI c = true) := Lib.hid (by simp [plainI, a0, a1, a2, b2])
        go_enter Tryd.func24, Tryd.ntmps24
        go_wp2
        go_ret
        rw [hv.out]
        exact ⟨rfl, rfl⟩
      ·
        cases a4 : (c == 95) with
        | true =>
          have hv : Hid (plainI c = true) := Lib.hid (by simp [plainI, a0, a1, a2, b2, a4])
          go_enter Tryd.func24, Tryd.ntmps24
          go_wp2
          go_ret
          rw [hv.out]
          exact ⟨rfl, rfl⟩
        | false =>
          cases a5 : (c == 64) with
          | true =>
            have hv : Hid (plainI c = true) := Lib.hid (by simp [plainI, a0, a1, a2, b2, a4, a5])
            go_enter Tryd.func24, Tryd.ntmps24
            go_wp2
            go_ret
            rw [hv.out]
            exact ⟨rfl, rfl⟩
          | false =>
            have hv : Hid (plainI c = false) := Lib.hid (by simp [plainI, a0, a1, a2, b2, a4, a5])
            go_enter Tryd.func24, Tryd.ntmps24
            go_wp2
            go_ret
            rw [hv.out]
            exact ⟨rfl, rfl⟩
      ·
        cases a3 : (c == 95) with
        | true =>
          have hv : Hid (plainI c = true) := Lib.hid (by simp [plainI, a0, a1, a2, a3])
          go_enter Tryd.func24, Tryd.ntmps24
          go_wp2
          go_ret
          rw [hv.out]
          exact ⟨rfl, rfl⟩
        | false =>
          cases a4 : (c == 64) with
          | true =>
            have hv : Hid (plainI c = true) := Lib.hid (by simp [plainI, a0, a1, a2, a3, a4])
            go_enter Tryd.func24, Tryd.ntmps24
            go_wp2
            go_ret
            rw [hv.out]
            exact ⟨rfl, rfl⟩
          | false =>
            have hv : Hid (plainI c = false) := Lib.hid (by simp [plainI, a0, a1, a2, a3, a4])
            go_enter Tryd.func24, Tryd.ntmps24
            go_wp2
            go_ret
            rw [hv.out]
            exact ⟨rfl, rfl⟩
set_option maxRecDepth 20000 in
theorem letter_is (c : Int) (w : World) : Calls Tryd.prog 39 #[.int .u8 c] w (IsB (letterI c) w) := by
  rcases three 97 122 c with ⟨a0, b0⟩ | ⟨a0, b0⟩ | a0
  ·
    have hv : Hid (letterI c = true) := Lib.hid (by simp [letterI, a0, b0])
    go_enter Tryd.func39, Tryd.ntmps39
    go_wp2
    go_ret
    rw [hv.out]
    exact ⟨rfl, rfl⟩
  ·
    rcases three 65 90 c with ⟨a2, b2⟩ | ⟨a2, b2⟩ | a2
    ·
      have hv : Hid (letterI c = true) := Lib.hid (by simp [letterI, a0, b0, a2, b2])
      go_enter Tryd.func39, Tryd.ntmps39
      go_wp2
      go_ret
      rw [hv.out]
      exact ⟨rfl, rfl⟩
    ·
      have hv : Hid (letterI c = false) := Lib.hid (by simp [letterI, a0, b0, a2, b2])
      go_enter Tryd.func39, Tryd.ntmps39
      go_wp2
      go_ret
      rw [hv.out]
      exact ⟨rfl, rfl⟩
    ·
      have hv : Hid (letterI c = false) := Lib.hid (by simp [letterI, a0, b0, a2])
      go_enter Tryd.func39, Tryd.ntmps39
      go_wp2
      go_ret
      rw [hv.out]
      exact ⟨rfl, rfl⟩
  ·
    rcases three 65 90 c with ⟨a1, b1⟩ | ⟨a1, b1⟩ | a1
    ·
      have hv : Hid (letterI c = true) := Lib.hid (by simp [letterI, a0, a1, b1])
      go_enter Tryd.func39, Tryd.ntmps39
      go_wp2
      go_ret
      rw [hv.out]
      exact ⟨rfl, rfl⟩
    ·
      have hv : Hid (letterI c = false) := Lib.hid (by simp [letterI, a0, a1, b1])
      go_enter Tryd.func39, Tryd.ntmps39
      go_wp2
      go_ret
      rw [hv.out]
      exact ⟨rfl, rfl⟩
    ·
      have hv : Hid (letterI c = false) := Lib.hid (by simp [letterI, a0, a1])
      go_enter Tryd.func39, Tryd.ntmps39
      go_wp2
      go_ret
      rw [hv.out]
      exact ⟨rfl, rfl⟩
set_option maxRecDepth 20000 in
theorem plain6_is (c : Int) (w : World) : Calls Tryd.prog 28 #[.int .u8 c] w (IsB (plain6I c) w) := by
  cases a0 : letterI c with
  | true =>
    have hv : Hid (plain6I c = true) := Lib.hid (by simp [plain6I, a0])
    go_enter Tryd.func28, Tryd.ntmps28
    go_wp2_with (go_at_call 39; refine Calls.mono (letter_is _ _) ?_; rintro e w2 ⟨rfl, rfl⟩; rw [a0])
    go_ret
    rw [hv.out]
    exact ⟨rfl, rfl⟩
  | false =>
    rcases three 48 57 c with ⟨a1, b1⟩ | ⟨a1, b1⟩ | a1
    ·
      have hv : Hid (plain6I c = true) := Lib.hid (by simp [plain6I, a0, a1, b1])
      go_enter Tryd.func28, Tryd.ntmps28
      go_wp2_with (go_at_call 39; refine Calls.mono (letter_is _ _) ?_; rintro e w2 ⟨rfl, rfl⟩; rw [a0])
      go_ret
      rw [hv.out]
      exact ⟨rfl, rfl⟩
    ·
      cases a3 : (c == 95) with
      | true =>
        have hv : Hid (plain6I c = true) := Lib.hid (by simp [plain6I, a0, a1, b1, a3])
        go_enter Tryd.func28, Tryd.ntmps28
        go_wp2_with (go_at_call 39; refine Calls.mono (letter_is _ _) ?_; rintro e w2 ⟨rfl, rfl⟩; rw [a0])
        go_ret
        rw [hv.out]
        exact ⟨rfl, rfl⟩
      | false =>
        have hv : Hid (plain6I c = false) := Lib.hid (by simp [plain6I, a0, a1, b1, a3])
        go_enter Tryd.func28, Tryd.ntmps28
        go_wp2_with (go_at_call 39; refine Calls.mono (letter_is _ _) ?_; rintro e w2 ⟨rfl, rfl⟩; rw [a0])
        go_ret
        rw [hv.out]
        exact ⟨rfl, rfl⟩
    ·
      cases a2 : (c == 95) with
      | true =>
        have hv : Hid (plain6I c = true) := Lib.hid (by simp [plain6I, a0, a1, a2])
        go_enter Tryd.func28, Tryd.ntmps28
        go_wp2_with (go_at_call 39; refine Calls.mono (letter_is _ _) ?_; rintro e w2 ⟨rfl, rfl⟩; rw [a0])
        go_ret
        rw [hv.out]
        exact ⟨rfl, rfl⟩
      | false =>
        have hv : Hid (plain6I c = false) := Lib.hid (by simp [plain6I, a0, a1, a2])
        go_enter Tryd.func28, Tryd.ntmps28
        go_wp2_with (go_at_call 39; refine Calls.mono (letter_is _ _) ?_; rintro e w2 ⟨rfl, rfl⟩; rw [a0])
        go_ret
        rw [hv.out]
        exact ⟨rfl, rfl⟩
set_option maxRecDepth 20000 in
theorem rrun_is (c : Int) (w : World) : Calls Tryd.prog 15 #[.int .u8 c] w (IsB (plainI c) w) := by
  cases a0 : plain6I c with
  | true =>
    have hv : Hid (plainI c = true) := Lib.hid (by simp [plainI_split, a0])
    go_enter Tryd.func15, Tryd.ntmps15
    go_wp2_with (go_at_call 28; refine Calls.mono (plain6_is _ _) ?_; rintro e w2 ⟨rfl, rfl⟩; rw [a0])
    go_ret
    rw [hv.out]
    exact ⟨rfl, rfl⟩
  | false =>
    cases a1 : (c == 64) with
    | true =>
      have hv : Hid (plainI c = true) := Lib.hid (by simp [plainI_split, a0, a1])
      go_enter Tryd.func15, Tryd.ntmps15
      go_wp2_with (go_at_call 28; refine Calls.mono (plain6_is _ _) ?_; rintro e w2 ⟨rfl, rfl⟩; rw [a0])
      go_ret
      rw [hv.out]
      exact ⟨rfl, rfl⟩
    | false =>
      have hv : Hid (plainI c = false) := Lib.hid (by simp [plainI_split, a0, a1])
      go_enter Tryd.func15, Tryd.ntmps15
      go_wp2_with (go_at_call 28; refine Calls.mono (plain6_is _ _) ?_; rintro e w2 ⟨rfl, rfl⟩; rw [a0])
      go_ret
      rw [hv.out]
      exact ⟨rfl, rfl⟩
theorem bytes_at (s : ByteArray) (i : Nat) (h : i < s.size) : s.data.toList.drop i = s[i] :: s.data.toList.drop (i + 1) := by
  rw [List.drop_eq_getElem_cons (by rw [← Lib.size_eq]; exact h)]
  rfl
theorem bytes_end (s : ByteArray) (i : Nat) (h : s.size ≤ i) : s.data.toList.drop i = [] := List.drop_eq_nil_of_le (by rw [← Lib.size_eq]; exact h)
end Go.Proofs.YtmhnjgnljfkdcaaDoor
