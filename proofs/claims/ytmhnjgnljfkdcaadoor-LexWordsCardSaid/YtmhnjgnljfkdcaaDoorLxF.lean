/- Contract of the reference's symbol. -/
import Derived.Test.YtmhnjgnljfkdcaaDoorLxE
namespace Go.Proofs.YtmhnjgnljfkdcaaDoor
open Go.RowKit

def markI (c : Int) : Bool := c == 40 || c == 41 || c == 123 || c == 125 || c == 58 || c == 44 || c == 59 || c == 46
theorem markB_I (b : UInt8) : markB b = markI (b.toNat : Int) := by
  have h := byte_eq b
  unfold markB marks markI
  rw [show ((b.toNat : Int) == 40) = (b == 40) from h 40, show ((b.toNat : Int) == 41) = (b == 41) from h 41, show ((b.toNat : Int) == 123) = (b == 123) from h 123, show ((b.toNat : Int) == 125) = (b == 125) from h 125,
    show ((b.toNat : Int) == 58) = (b == 58) from h 58, show ((b.toNat : Int) == 44) = (b == 44) from h 44, show ((b.toNat : Int) == 59) = (b == 59) from h 59, show ((b.toNat : Int) == 46) = (b == 46) from h 46]
  simp only [List.contains_cons, List.contains_nil, Bool.or_false, Bool.or_assoc]
theorem pair_two (s : ByteArray) (h : 2 ≤ s.size) : pairB s.data.toList = ((s.extract 0 2).toList == [58, 61] || (s.extract 0 2).toList == [61, 62] || (s.extract 0 2).toList == [45, 62]) := by
  have e0 := bytes_at s 0 (by omega)
  have e1 := bytes_at s 1 (by omega)
  simp only [List.drop_zero, Nat.zero_add] at e0
  rw [Lib.toList_data, Lib.extract_data, List.drop_zero, e0, e1]
  simp [pairB]
theorem pair_one (s : ByteArray) (h0 : 0 < s.size) (h : ¬ 2 ≤ s.size) : pairB s.data.toList = false := by
  have e0 := bytes_at s 0 h0
  have e1 := bytes_end s 1 (by omega)
  simp only [List.drop_zero, Nat.zero_add] at e0
  rw [e0, e1]; rfl
def symN (l : List UInt8) (b : UInt8) : Nat := if pairB l = true then 2 else if markB b = true then 1 else 0

set_option maxRecDepth 20000 in
set_option maxHeartbeats 1600000 in
theorem symbol_is (s : ByteArray) (h0 : 0 < s.size) (w : World) :
    Calls Tryd.prog 16 #[.string s] w fun e w2 => e = .returned (.int .i64 ((symN s.data.toList (s[0]'h0) : Nat) : Int)) ∧ w2 = w := by
  unfold symN
  rw [markB_I]
  by_cases h2 : 2 ≤ s.size
  · have d2 : decide ((2 : Int) ≤ (s.size : Int)) = true := by simp; omega
    rw [pair_two s h2]
    cases b0 : ((s.extract 0 2).toList == [58, 61]) with
    | true =>
      go_enter Tryd.func16, Tryd.ntmps16
      go_wp2_with fail
      go_ret
      exact ⟨rfl, rfl⟩
    | false =>
      cases b1 : ((s.extract 0 2).toList == [61, 62]) with
      | true =>
        go_enter Tryd.func16, Tryd.ntmps16
        go_wp2_with fail
        go_ret
        exact ⟨rfl, rfl⟩
      | false =>
        cases b2 : ((s.extract 0 2).toList == [45, 62]) with
        | true =>
          go_enter Tryd.func16, Tryd.ntmps16
          go_wp2_with fail
          go_ret
          exact ⟨rfl, rfl⟩
        | false =>
          cases a0 : (((s[0]'h0).toNat : Int) == 40) with
          | true =>
            rw [show markI ((s[0]'h0).toNat : Int) = true by simp only [markI, a0]; rfl]
            go_enter Tryd.func16, Tryd.ntmps16
            go_wp2_with fail
            go_ret
            exact ⟨rfl, rfl⟩
          | false =>
            cases a1 : (((s[0]'h0).toNat : Int) == 41) with
            | true =>
              rw [show markI ((s[0]'h0).toNat : Int) = true by simp only [markI, a0, a1]; rfl]
              go_enter Tryd.func16, Tryd.ntmps16
              go_wp2_with fail
              go_ret
              exact ⟨rfl, rfl⟩
            | false =>
              cases a2 : (((s[0]'h0).toNat : Int) == 123) with
              | true =>
                rw [show markI ((s[0]'h0).toNat : Int) = true by simp only [markI, a0, a1, a2]; rfl]
                go_enter Tryd.func16, Tryd.ntmps16
                go_wp2_with fail
                go_ret
                exact ⟨rfl, rfl⟩
              | false =>
                cases a3 : (((s[0]'h0).toNat : Int) == 125) with
                | true =>
                  rw [show markI ((s[0]'h0).toNat : Int) = true by simp only [markI, a0, a1, a2, a3]; rfl]
                  go_enter Tryd.func16, Tryd.ntmps16
                  go_wp2_with fail
                  go_ret
                  exact ⟨rfl, rfl⟩
                | false =>
                  cases a4 : (((s[0]'h0).toNat : Int) == 58) with
                  | true =>
                    rw [show markI ((s[0]'h0).toNat : Int) = true by simp only [markI, a0, a1, a2, a3, a4]; rfl]
                    go_enter Tryd.func16, Tryd.ntmps16
                    go_wp2_with fail
                    go_ret
                    exact ⟨rfl, rfl⟩
                  | false =>
                    cases a5 : (((s[0]'h0).toNat : Int) == 44) with
                    | true =>
                      rw [show markI ((s[0]'h0).toNat : Int) = true by simp only [markI, a0, a1, a2, a3, a4, a5]; rfl]
                      go_enter Tryd.func16, Tryd.ntmps16
                      go_wp2_with fail
                      go_ret
                      exact ⟨rfl, rfl⟩
                    | false =>
                      cases a6 : (((s[0]'h0).toNat : Int) == 59) with
                      | true =>
                        rw [show markI ((s[0]'h0).toNat : Int) = true by simp only [markI, a0, a1, a2, a3, a4, a5, a6]; rfl]
                        go_enter Tryd.func16, Tryd.ntmps16
                        go_wp2_with fail
                        go_ret
                        exact ⟨rfl, rfl⟩
                      | false =>
                        cases a7 : (((s[0]'h0).toNat : Int) == 46) with
                        | true =>
                          rw [show markI ((s[0]'h0).toNat : Int) = true by simp only [markI, a0, a1, a2, a3, a4, a5, a6, a7]; rfl]
                          go_enter Tryd.func16, Tryd.ntmps16
                          go_wp2_with fail
                          go_ret
                          exact ⟨rfl, rfl⟩
                        | false =>
                          rw [show markI ((s[0]'h0).toNat : Int) = false by simp only [markI, a0, a1, a2, a3, a4, a5, a6, a7]; rfl]
                          go_enter Tryd.func16, Tryd.ntmps16
                          go_wp2_with fail
                          go_ret
                          exact ⟨rfl, rfl⟩
  · have d2 : decide ((2 : Int) ≤ (s.size : Int)) = false := by simp; omega
    rw [pair_one s h0 h2]
    cases a0 : (((s[0]'h0).toNat : Int) == 40) with
    | true =>
      rw [show markI ((s[0]'h0).toNat : Int) = true by simp only [markI, a0]; rfl]
      go_enter Tryd.func16, Tryd.ntmps16
      go_wp2_with fail
      go_ret
      exact ⟨rfl, rfl⟩
    | false =>
      cases a1 : (((s[0]'h0).toNat : Int) == 41) with
      | true =>
        rw [show markI ((s[0]'h0).toNat : Int) = true by simp only [markI, a0, a1]; rfl]
        go_enter Tryd.func16, Tryd.ntmps16
        go_wp2_with fail
        go_ret
        exact ⟨rfl, rfl⟩
      | false =>
        cases a2 : (((s[0]'h0).toNat : Int) == 123) with
        | true =>
          rw [show markI ((s[0]'h0).toNat : Int) = true by simp only [markI, a0, a1, a2]; rfl]
          go_enter Tryd.func16, Tryd.ntmps16
          go_wp2_with fail
          go_ret
          exact ⟨rfl, rfl⟩
        | false =>
          cases a3 : (((s[0]'h0).toNat : Int) == 125) with
          | true =>
            rw [show markI ((s[0]'h0).toNat : Int) = true by simp only [markI, a0, a1, a2, a3]; rfl]
            go_enter Tryd.func16, Tryd.ntmps16
            go_wp2_with fail
            go_ret
            exact ⟨rfl, rfl⟩
          | false =>
            cases a4 : (((s[0]'h0).toNat : Int) == 58) with
            | true =>
              rw [show markI ((s[0]'h0).toNat : Int) = true by simp only [markI, a0, a1, a2, a3, a4]; rfl]
              go_enter Tryd.func16, Tryd.ntmps16
              go_wp2_with fail
              go_ret
              exact ⟨rfl, rfl⟩
            | false =>
              cases a5 : (((s[0]'h0).toNat : Int) == 44) with
              | true =>
                rw [show markI ((s[0]'h0).toNat : Int) = true by simp only [markI, a0, a1, a2, a3, a4, a5]; rfl]
                go_enter Tryd.func16, Tryd.ntmps16
                go_wp2_with fail
                go_ret
                exact ⟨rfl, rfl⟩
              | false =>
                cases a6 : (((s[0]'h0).toNat : Int) == 59) with
                | true =>
                  rw [show markI ((s[0]'h0).toNat : Int) = true by simp only [markI, a0, a1, a2, a3, a4, a5, a6]; rfl]
                  go_enter Tryd.func16, Tryd.ntmps16
                  go_wp2_with fail
                  go_ret
                  exact ⟨rfl, rfl⟩
                | false =>
                  cases a7 : (((s[0]'h0).toNat : Int) == 46) with
                  | true =>
                    rw [show markI ((s[0]'h0).toNat : Int) = true by simp only [markI, a0, a1, a2, a3, a4, a5, a6, a7]; rfl]
                    go_enter Tryd.func16, Tryd.ntmps16
                    go_wp2_with fail
                    go_ret
                    exact ⟨rfl, rfl⟩
                  | false =>
                    rw [show markI ((s[0]'h0).toNat : Int) = false by simp only [markI, a0, a1, a2, a3, a4, a5, a6, a7]; rfl]
                    go_enter Tryd.func16, Tryd.ntmps16
                    go_wp2_with fail
                    go_ret
                    exact ⟨rfl, rfl⟩
end Go.Proofs.YtmhnjgnljfkdcaaDoor
