/- Contracts of package lex: a pair, a mark, the first word's size, Words. -/
import Derived.Test.YtmhnjgnljfkdcaaDoorLxC
import Derived.Test.YtmhnjgnljfkdcaaDoorRowsAt
import Derived.Test.YtmhnjgnljfkdcaaDoorShelf
import Derived.Shelf.Strings.SlTrimAscii
import Derived.Laws.AppendOwn
import Derived.OwnWalk
namespace Go.Proofs.YtmhnjgnljfkdcaaDoor
open Go.RowKit

theorem prefix_two (a b : UInt8) : ∀ l : List UInt8, Lib.hasPrefix l [a, b] = match l with
    | x :: y :: _ => x == a && y == b
    | _ => false
  | [] => rfl
  | [x] => by simp [Lib.hasPrefix, List.isPrefixOf]
  | x :: y :: r => by
    have h1 : (a == x) = (x == a) := BEq.comm
    have h2 : (b == y) = (y == b) := BEq.comm
    simp [Lib.hasPrefix, List.isPrefixOf, h1, h2]
theorem pairB_prefix (l : List UInt8) : pairB l = (Lib.hasPrefix l [58, 61] || Lib.hasPrefix l [61, 62] || Lib.hasPrefix l [45, 62]) := by
  rw [prefix_two, prefix_two, prefix_two]
  match l with
  | [] => rfl
  | [_] => rfl
  | _ :: _ :: _ => rfl
theorem hasPrefix_is (s p : ByteArray) (w : World) : Calls Tryd.prog 37 #[.string s, .string p] w (IsB (Lib.hasPrefix s.data.toList p.data.toList) w) := Any.strings_HasPrefix Tryd.lays99 s p w
set_option maxRecDepth 20000 in
theorem isPair_is (s : ByteArray) (w : World) : Calls Tryd.prog 26 #[.string s] w (IsB (pairB s.data.toList) w) := by
  rw [pairB_prefix]
  have HC := Lib.hid (hasPrefix_is s)
  cases b1 : Lib.hasPrefix s.data.toList [58, 61] with
  | true =>
    go_enter Tryd.func26, Tryd.ntmps26
    go_wp2_with (go_at_call 37; refine Calls.mono (HC.out _ _) ?_; rintro e w2 ⟨rfl, rfl⟩; rw [show Lib.hasPrefix s.data.toList (⟨#[58, 61]⟩ : ByteArray).data.toList = true from b1])
    go_ret
    exact ⟨rfl, rfl⟩
  | false =>
    cases b2 : Lib.hasPrefix s.data.toList [61, 62] with
    | true =>
      go_enter Tryd.func26, Tryd.ntmps26
      go_wp2_with (go_at_call 37; refine Calls.mono (HC.out _ _) ?_; rintro e w2 ⟨rfl, rfl⟩; first | rw [show Lib.hasPrefix s.data.toList (⟨#[58, 61]⟩ : ByteArray).data.toList = false from b1] | rw [show Lib.hasPrefix s.data.toList (⟨#[61, 62]⟩ : ByteArray).data.toList = true from b2])
      go_ret
      exact ⟨rfl, rfl⟩
    | false =>
      cases b3 : Lib.hasPrefix s.data.toList [45, 62] with
      | true =>
        go_enter Tryd.func26, Tryd.ntmps26
        go_wp2_with (go_at_call 37; refine Calls.mono (HC.out _ _) ?_; rintro e w2 ⟨rfl, rfl⟩; first | rw [show Lib.hasPrefix s.data.toList (⟨#[58, 61]⟩ : ByteArray).data.toList = false from b1] | rw [show Lib.hasPrefix s.data.toList (⟨#[61, 62]⟩ : ByteArray).data.toList = false from b2] | rw [show Lib.hasPrefix s.data.toList (⟨#[45, 62]⟩ : ByteArray).data.toList = true from b3])
        go_ret
        exact ⟨rfl, rfl⟩
      | false =>
        go_enter Tryd.func26, Tryd.ntmps26
        go_wp2_with (go_at_call 37; refine Calls.mono (HC.out _ _) ?_; rintro e w2 ⟨rfl, rfl⟩; first | rw [show Lib.hasPrefix s.data.toList (⟨#[58, 61]⟩ : ByteArray).data.toList = false from b1] | rw [show Lib.hasPrefix s.data.toList (⟨#[61, 62]⟩ : ByteArray).data.toList = false from b2] | rw [show Lib.hasPrefix s.data.toList (⟨#[45, 62]⟩ : ByteArray).data.toList = false from b3])
        go_ret
        exact ⟨rfl, rfl⟩
theorem indexByte_has : ∀ (l : List UInt8) (b : UInt8), decide (0 ≤ Lib.indexByte l b) = l.contains b ∧ -1 ≤ Lib.indexByte l b
  | [], b => by simp [Lib.indexByte]
  | x :: l, b => by
    obtain ⟨h1, h2⟩ := indexByte_has l b
    rw [Lib.indexByte, List.contains_cons]
    by_cases hx : x = b
    · subst hx; simp
    · have e1 : (x == b) = false := by simpa using hx
      have e2 : (b == x) = false := by simp; exact fun h => hx h.symm
      rw [e1, e2, Bool.false_or, ← h1]
      simp only [Bool.false_eq_true, if_false]
      by_cases hm : Lib.indexByte l b = -1
      · rw [hm]; simp
      · have e3 : (Lib.indexByte l b == -1) = false := by simpa using hm
        rw [e3]
        simp only [Bool.false_eq_true, if_false]
        refine ⟨?_, by omega⟩
        rw [decide_eq_decide]
        omega
set_option maxRecDepth 20000 in
theorem isMark_is (b : UInt8) (w : World) : Calls Tryd.prog 27 #[.int .u8 (b.toNat : Int)] w (IsB (markB b) w) := by
  have hc : Calls Tryd.prog 38 #[.string ⟨#[40, 41, 123, 125, 58, 44, 59, 46]⟩, .int .u8 (b.toNat : Int)] w fun e w' => e = .returned (.int .i64 (Lib.indexByte marks b)) ∧ w' = w := by
    have h := Any.strings_IndexByte Tryd.lays137 ⟨#[40, 41, 123, 125, 58, 44, 59, 46]⟩ (b.toNat : Int) w
    have e : ((b.toNat : Int)).toNat.toUInt8 = b := by simp
    rw [e] at h
    exact h
  have HC := Lib.hid hc
  have hm := (indexByte_has marks b).1
  rw [show marks.contains b = markB b from rfl] at hm
  clear hc
  rw [← hm]
  clear hm
  go_enter Tryd.func27, Tryd.ntmps27
  go_wp2_with (go_at_call 38; refine Calls.mono HC.out ?_; rintro e w2 ⟨rfl, rfl⟩)
  go_ret
  exact ⟨rfl, rfl⟩
theorem sizeL_at (s : ByteArray) (h : 0 < s.size) : sizeL s.data.toList = if plainI ((s[0]'h).toNat : Int) = true then runN (s.data.toList.drop 1) + 1 else if pairB s.data.toList = true then 2 else if markB (s[0]'h) = true then 1 else 0 := by
  have e0 := bytes_at s 0 h
  simp only [List.drop_zero, Nat.zero_add] at e0
  rw [e0, sizeL, ← e0]
  rfl
set_option maxRecDepth 20000 in
set_option maxHeartbeats 1600000 in
theorem first_is (s : ByteArray) (h0 : 0 < s.size) (hs : s.size ≤ 1000000000000000) (w : World) :
    Calls Tryd.prog 14 #[.string s] w fun e w2 => e = .returned (.int .i64 ((sizeL s.data.toList : Nat) : Int)) ∧ w2 = w := by
  rw [sizeL_at s h0]
  have h1 : 1 ≤ s.size := h0
  have HR := Lib.hid (run_is s h1 hs)
  have HP := Lib.hid (isPair_is s)
  have HM := Lib.hid (isMark_is (s[0]'h0))
  have HI := Lib.hid (isPlain_is ((s[0]'h0).toNat : Int))
  obtain ⟨n, hn⟩ : ∃ n, n = runN (s.data.toList.drop 1) + 1 := ⟨_, rfl⟩
  rw [← hn] at HR ⊢
  clear hn h1
  cases b1 : plainI ((s[0]'h0).toNat : Int) <;> rw [b1] at HI
  · cases b2 : pairB s.data.toList <;> rw [b2] at HP
    · cases b3 : markB (s[0]'h0) <;> rw [b3] at HM
      · go_enter Tryd.func14, Tryd.ntmps14
        go_wp2_with (first
          | (go_at_call 24; refine Calls.mono (HI.out _) ?_; rintro e w2 ⟨rfl, rfl⟩)
          | (go_at_call 26; refine Calls.mono (HP.out _) ?_; rintro e w2 ⟨rfl, rfl⟩)
          | (go_at_call 27; refine Calls.mono (HM.out _) ?_; rintro e w2 ⟨rfl, rfl⟩))
        go_ret
        exact ⟨rfl, rfl⟩
      · go_enter Tryd.func14, Tryd.ntmps14
        go_wp2_with (first
          | (go_at_call 24; refine Calls.mono (HI.out _) ?_; rintro e w2 ⟨rfl, rfl⟩)
          | (go_at_call 26; refine Calls.mono (HP.out _) ?_; rintro e w2 ⟨rfl, rfl⟩)
          | (go_at_call 27; refine Calls.mono (HM.out _) ?_; rintro e w2 ⟨rfl, rfl⟩))
        go_ret
        exact ⟨rfl, rfl⟩
    · go_enter Tryd.func14, Tryd.ntmps14
      go_wp2_with (first
        | (go_at_call 24; refine Calls.mono (HI.out _) ?_; rintro e w2 ⟨rfl, rfl⟩)
        | (go_at_call 26; refine Calls.mono (HP.out _) ?_; rintro e w2 ⟨rfl, rfl⟩)
        | (go_at_call 27; refine Calls.mono (HM.out _) ?_; rintro e w2 ⟨rfl, rfl⟩))
      go_ret
      exact ⟨rfl, rfl⟩
  · go_enter Tryd.func14, Tryd.ntmps14
    go_wp2_with (first
      | (go_at_call 24; refine Calls.mono (HI.out _) ?_; rintro e w2 ⟨rfl, rfl⟩)
      | (go_at_call 25; refine Calls.mono (HR.out _) ?_; rintro e w2 ⟨rfl, rfl⟩))
    go_ret
    exact ⟨rfl, rfl⟩
end Go.Proofs.YtmhnjgnljfkdcaaDoor
