/- Contracts of package pack at bytes that were put, whole and cut off. -/
import Derived.Test.YtgnkdcaboljapaaDoorPkK
import Derived.Lib.Strings
namespace Go.Proofs.YtgnkdcaboljapaaDoor
open Go.RowKit

theorem ba_ext {a b : ByteArray} (h : a.data.toList = b.data.toList) : a = b := by
  cases a; cases b
  simp only [ByteArray.mk.injEq]
  exact Array.toList_inj.1 h
theorem ba_extract (s : ByteArray) (a b : Nat) : (s.extract a b).data.toList = (s.data.toList.drop a).take (b - a) := by
  rw [← ByteArray.toList_eq, ← ByteArray.toList_eq]
  rw [Lib.extract_toList, ByteArray.toList_eq]
theorem ba_append (a b : ByteArray) : (a ++ b).data.toList = a.data.toList ++ b.data.toList := by
  rw [ByteArray.data_append, Array.toList_append]
theorem ba_len (a : ByteArray) : a.data.toList.length = a.size := by rw [Array.length_toList]; rfl
theorem ba_behind (a b : ByteArray) : (a ++ b).extract a.size (a ++ b).size = b := by
  refine ba_ext ?_
  rw [ba_extract, ba_append, ← ba_len a, List.drop_left, List.take_of_length_le]
  rw [ba_len, ByteArray.size_append, ba_len]
  omega
theorem ba_front (a b : ByteArray) (k : Nat) (h : k = a.size) : (a ++ b).extract 0 k = a := by
  refine ba_ext ?_
  rw [ba_extract, ba_append, List.drop_zero, h, Nat.sub_zero, ← ba_len a, List.take_left]
theorem ba_back (a b : ByteArray) (k : Nat) (h : k = a.size) : (a ++ b).extract k (a ++ b).size = b := by rw [h]; exact ba_behind a b
theorem numS_take (k : Nat) (hk : k < 128 ^ 8) (r : ByteArray) : takeS (numS k ++ r) = (0, k, (numS k).size) := by
  unfold takeS
  rw [ba_append, numS_toList, take_num k k 0 0 _ (Nat.le_refl _) (by omega) hk (.inl rfl), numS_size]
  simp
theorem numS_cut (k : Nat) (hk : k < 128 ^ 8) (c : Nat) (hc : c < (numS k).size) : takeS ((numS k).extract 0 c) = (11, 0, c) := by
  unfold takeS
  rw [ba_extract, numS_toList, List.drop_zero, Nat.sub_zero, take_cut k k 0 0 c (Nat.le_refl _) (by omega) hk (.inl rfl) (by rw [← numS_size]; exact hc)]
  simp
theorem numS_le (k : Nat) (hk : k < 128 ^ 8) : (numS k).size ≤ 8 := by rw [numS_size]; exact numL_len 7 k hk
theorem numS_pos (k : Nat) : 1 ≤ (numS k).size := by rw [numS_size]; exact numL_pos k

theorem t_num (k : Nat) (hk : k < 128 ^ 8) (more : ByteArray) (hm : more.size ≤ 100000) (w : World) :
    Calls Tryd.prog 9 #[.string (numS k ++ more)] w fun e w2 => e = .returned (.tuple #[.int .i64 (k : Int), .string more, .nilIface]) ∧ Kp [] w w2 := by
  have h := take_yes (numS k ++ more) (by rw [ByteArray.size_append]; have := numS_le k hk; omega) k _ (numS_take k hk more) w
  rw [ba_behind] at h
  exact h
theorem t_numcut (k : Nat) (hk : k < 128 ^ 8) (c : Nat) (hc : c < (numS k).size) (w : World) :
    Calls Tryd.prog 9 #[.string ((numS k).extract 0 c)] w fun e w2 => e = .returned (.tuple #[.int .i64 0, .string ((numS k).extract 0 c), .iface 43 (.agg #[.string sNumber, .int .i64 (c : Int), .int .i64 11])]) ∧ Kp [] w w2 :=
  take_no ((numS k).extract 0 c) (by rw [ByteArray.size_extract]; have := numS_le k hk; omega) 11 0 c (numS_cut k hk c hc) (.inr rfl) w
theorem t_text (s more : ByteArray) (hs : s.size ≤ 300) (hm : more.size ≤ 100000) (most : Int) (h1 : (s.size : Int) ≤ most) (w : World) :
    Calls Tryd.prog 10 #[.string (numS s.size ++ s ++ more), .int .i64 most] w fun e w2 => e = .returned (.tuple #[.string s, .string more, .nilIface]) ∧ Kp [] w w2 := by
  have h8 : s.size < 128 ^ 8 := by omega
  have h := numS_take s.size h8 (s ++ more)
  have ha : numS s.size ++ s ++ more = numS s.size ++ (s ++ more) := ByteArray.append_assoc
  rw [ha]
  have h2 := ttext_yes (numS s.size ++ (s ++ more)) (by rw [ByteArray.size_append, ByteArray.size_append]; have := numS_le s.size h8; omega) most s.size _ h h1 (by rw [ba_behind, ByteArray.size_append]; omega) w
  rw [ba_behind, ba_front _ _ _ rfl, ba_back _ _ _ rfl] at h2
  exact h2
/-- What TakeText tells of a text that is cut off. -/
def CutPost (t : ByteArray) (w : World) (e : Ending) (w2 : World) : Prop := ∃ u : Int, e = .returned (.tuple #[.string ⟨#[]⟩, .string t, .iface 43 (.agg #[.string sText, .int .i64 u, .int .i64 11])]) ∧ Kp [] w w2
theorem t_textcut (s : ByteArray) (hs : s.size ≤ 300) (c : Nat) (hc : c < (numS s.size ++ s).size) (w : World) (hE : EHas w) :
    Calls Tryd.prog 10 #[.string ((numS s.size ++ s).extract 0 c), .int .i64 300] w (CutPost ((numS s.size ++ s).extract 0 c) w) := by
  have h8 : s.size < 128 ^ 8 := by omega
  have hl := numS_le s.size h8
  rw [ByteArray.size_append] at hc
  rcases Nat.lt_or_ge c (numS s.size).size with h | h
  · have he : (numS s.size ++ s).extract 0 c = (numS s.size).extract 0 c := by
      refine ba_ext ?_
      rw [ba_extract, ba_extract, ba_append, List.drop_zero, List.drop_zero, Nat.sub_zero, List.take_append_of_le_length (by rw [ba_len]; omega)]
    rw [he]
    refine Calls.mono (ttext_no ((numS s.size).extract 0 c) (by rw [ByteArray.size_extract]; omega) 300 11 0 c (numS_cut s.size h8 c h) (.inr rfl) w hE) ?_
    rintro e w2 ⟨rfl, hk⟩
    exact ⟨c, rfl, hk⟩
  · obtain ⟨d, rfl⟩ : ∃ d, c = (numS s.size).size + d := ⟨c - (numS s.size).size, by omega⟩
    have he : (numS s.size ++ s).extract 0 ((numS s.size).size + d) = numS s.size ++ s.extract 0 d := by
      refine ba_ext ?_
      rw [ba_extract, ba_append, ba_append, ba_extract, List.drop_zero, List.drop_zero, Nat.sub_zero, Nat.sub_zero, ← ba_len (numS s.size), List.take_length_add_append]
    rw [he]
    have hd : (s.extract 0 d).size = d := by rw [ByteArray.size_extract]; omega
    refine Calls.mono (ttext_short (numS s.size ++ s.extract 0 d) (by rw [ByteArray.size_append, hd]; omega) 300 s.size _ (numS_take s.size h8 _) (by omega) (by rw [ba_behind, hd]; omega) w) ?_
    rintro e w2 ⟨rfl, hk⟩
    exact ⟨_, rfl, hk⟩
end Go.Proofs.YtgnkdcaboljapaaDoor
