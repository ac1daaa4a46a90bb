/- A frame of which four bytes beside one another are turned, or that is cut off: plain mathematics (no program). -/
import Derived.Test.YtmeidihbglljiaaDoorFrS
import Derived.Test.YtmeidihbglljiaaDoorFSuS
namespace Go.Proofs.YtmeidihbglljiaaDoor
open Go.RowKit

theorem u8_inj {a b : Nat} (ha : a < 256) (hb : b < 256) (h : UInt8.ofNat a = UInt8.ofNat b) : a = b := by
  have := congrArg UInt8.toNat h
  rw [ofNat_small ha, ofNat_small hb] at this
  exact this
theorem sumB_inj {a b : Nat} (ha : a < 4294967296) (hb : b < 4294967296) (h : sumB a = sumB b) : a = b := by
  unfold sumB at h
  simp only [ByteArray.mk.injEq] at h
  have h1 := congrArg Array.toList h
  simp only [List.cons.injEq, and_true] at h1
  obtain ⟨h0, h1, h2, h3⟩ := h1
  have e0 := u8_inj (by omega) (by omega) h0
  have e1 := u8_inj (by omega) (by omega) h1
  have e2 := u8_inj (by omega) (by omega) h2
  have e3 := u8_inj (by omega) (by omega) h3
  omega
theorem mk_toList (s : ByteArray) : (⟨s.data.toList.toArray⟩ : ByteArray) = s := by
  apply ba_ext; simp
theorem un_of_text (t sb : ByteArray) (ht : t.size ≤ 2020) (h4 : sb.size = 4) (hne : sb ≠ sumB (sumL (textS t).data.toList)) : unS (textS t ++ sb) = (12, ⟨#[]⟩, ⟨#[]⟩) := by
  have h5 : (textS t ++ sb).size = (textS t).size + sb.size := ByteArray.size_append
  unfold unS
  rw [ttS_text t sb ht]
  simp only
  rw [if_neg (by omega), show (textS t ++ sb).size - sb.size = (textS t).size by omega, ext_append_left]
  have h7 : sb.extract 0 4 = sb := by
    have := ext_append_left sb ByteArray.empty
    rw [h4, ByteArray.append_empty] at this
    exact this
  rw [h7, if_neg hne]
theorem op_of_un {s t r : ByteArray} {c : Nat} (seq : Int) (h : unS s = (c + 1, t, r)) : opS s seq = (c + 1, ⟨#[]⟩, s) := by
  unfold opS; rw [h]
/-- The bytes of a frame's Text turned behind its length: another sum. -/
theorem op_turned (t : ByteArray) (ht : t.size ≤ 2020) (L' : List UInt8) (hlen : L'.length = (textS t).size) (hpre : L'.take (numS t.size).size = numL t.size) (hne : sumL L' ≠ sumL (textS t).data.toList) (seq : Int) :
    (opS ⟨(L' ++ (sumB (sumL (textS t).data.toList)).data.toList).toArray⟩ seq).1 = 12 := by
  obtain ⟨t', ht'⟩ : ∃ t' : ByteArray, t' = ⟨(L'.drop (numS t.size).size).toArray⟩ := ⟨_, rfl⟩
  have h5 : (textS t).size = (numS t.size).size + t.size := ByteArray.size_append
  have hsz : t'.size = t.size := by
    rw [ht']
    show (L'.drop (numS t.size).size).toArray.size = _
    rw [List.size_toArray, List.length_drop]; omega
  have hL : (textS t').data.toList = L' := by
    have h1 : (textS t').data.toList = numL t'.size ++ t'.data.toList := by simp [textS, numS_toList]
    rw [h1, hsz, ht', ← hpre]
    simp only
    exact List.take_append_drop _ _
  have hB : (⟨(L' ++ (sumB (sumL (textS t).data.toList)).data.toList).toArray⟩ : ByteArray) = textS t' ++ sumB (sumL (textS t).data.toList) := by
    apply ba_ext
    simp only [ByteArray.data_append, Array.toList_append, hL]
  rw [hB, op_of_un seq (un_of_text t' _ (by omega) rfl (fun e => hne ?_))]
  rw [← hL]
  exact (sumB_inj (sumL_lt _) (sumL_lt _) e).symm
theorem ext_append_more (a b : ByteArray) (c : Nat) (h : a.size ≤ c) : (a ++ b).extract 0 c = a ++ b.extract 0 (c - a.size) := by
  apply ba_ext
  have h3 : a.size = a.data.toList.length := by rw [Array.length_toList]; rfl
  rw [extract_list]
  simp only [ByteArray.data_append, Array.toList_append, List.drop_zero, extract_list]
  rw [List.take_append, List.take_of_length_le (by omega), h3]
theorem ext_append_less (a b : ByteArray) (c : Nat) (h : c ≤ a.size) : (a ++ b).extract 0 c = a.extract 0 c := by
  apply ba_ext
  have h3 : a.size = a.data.toList.length := by rw [Array.length_toList]; rfl
  rw [extract_list, extract_list]
  simp only [ByteArray.data_append, Array.toList_append, List.drop_zero]
  rw [List.take_append_of_le_length (by omega)]
/-- A frame cut off. -/
theorem op_cut (t sb : ByteArray) (ht : t.size ≤ 2020) (h4 : sb.size = 4) (c : Nat) (hc : c < (textS t ++ sb).size) (seq : Int) : (opS ((textS t ++ sb).extract 0 c) seq).1 = 11 := by
  have h5 : (textS t ++ sb).size = (textS t).size + sb.size := ByteArray.size_append
  have h6 : (textS t).size = (numS t.size).size + t.size := ByteArray.size_append
  have hk : t.size < 128 ^ 8 := by show _ < 72057594037927936; omega
  rcases Nat.lt_or_ge c (numS t.size).size with h1 | h1
  · have e1 : ((textS t ++ sb).extract 0 c).data.toList = (numL t.size).take c := by
      unfold textS
      rw [ByteArray.append_assoc, ext_append_less _ _ _ (by omega), extract_list, List.drop_zero, numS_toList]
    have h2 := take_cut t.size t.size 0 0 c (Nat.le_refl _) (by omega) hk (.inl rfl) (by rw [← numS_size]; exact h1)
    have h3 : ttS ((textS t ++ sb).extract 0 c) 2020 = (11, ⟨#[]⟩, (textS t ++ sb).extract 0 c) := by
      unfold ttS; rw [e1, h2]
    have h7 : unS ((textS t ++ sb).extract 0 c) = (11, ⟨#[]⟩, ⟨#[]⟩) := by unfold unS; rw [h3]
    rw [op_of_un seq h7]
  · rcases Nat.lt_or_ge c (textS t).size with h2 | h2
    · have e1 : (textS t ++ sb).extract 0 c = numS t.size ++ t.extract 0 (c - (numS t.size).size) := by
        rw [ext_append_less _ _ _ (by omega)]
        unfold textS
        exact ext_append_more _ _ _ h1
      obtain ⟨r, hr⟩ : ∃ r, r = t.extract 0 (c - (numS t.size).size) := ⟨_, rfl⟩
      have hrs : r.size < t.size := by rw [hr, ByteArray.size_extract]; omega
      have h3 : ttS (numS t.size ++ r) 2020 = (11, ⟨#[]⟩, numS t.size ++ r) := by
        unfold ttS
        rw [take_numS _ hk]
        simp only
        rw [ext_append_right, if_neg (by omega), if_pos hrs]
      have h7 : unS (numS t.size ++ r) = (11, ⟨#[]⟩, ⟨#[]⟩) := by unfold unS; rw [h3]
      rw [e1, ← hr, op_of_un seq h7]
    · have e1 : (textS t ++ sb).extract 0 c = textS t ++ sb.extract 0 (c - (textS t).size) := ext_append_more _ _ _ h2
      obtain ⟨r, hr⟩ : ∃ r, r = sb.extract 0 (c - (textS t).size) := ⟨_, rfl⟩
      have hrs : r.size < 4 := by rw [hr, ByteArray.size_extract]; omega
      have h7 : unS (textS t ++ r) = (11, ⟨#[]⟩, ⟨#[]⟩) := by
        unfold unS
        rw [ttS_text t r ht]
        simp only
        rw [if_pos hrs]
      rw [e1, ← hr, op_of_un seq h7]
theorem split4 (L : List UInt8) (k : Nat) (h : k + 3 < L.length) : ∃ p a b c d q, p.length = k ∧ L = p ++ ([a, b, c, d] ++ q) := by
  refine ⟨L.take k, L[k], L[k + 1], L[k + 2], L[k + 3], L.drop (k + 4), by rw [List.length_take]; omega, ?_⟩
  have h1 : L.drop k = L[k] :: L[k + 1] :: L[k + 2] :: L[k + 3] :: L.drop (k + 4) := by
    rw [List.drop_eq_getElem_cons (show k < L.length by omega), List.drop_eq_getElem_cons (show k + 1 < L.length by omega), List.drop_eq_getElem_cons (show k + 1 + 1 < L.length by omega), List.drop_eq_getElem_cons (show k + 1 + 1 + 1 < L.length by omega)]
  rw [List.cons_append, List.cons_append, List.cons_append, List.cons_append, List.nil_append, ← h1, List.take_append_drop]
theorem set4 (p q : List UInt8) (a b c d w x y z : UInt8) : ((((p ++ ([a, b, c, d] ++ q)).set p.length w).set (p.length + 1) x).set (p.length + 2) y).set (p.length + 3) z = p ++ ([w, x, y, z] ++ q) := by
  rw [List.set_append_right _ _ (Nat.le_refl _), Nat.sub_self, List.set_append_right _ _ (by omega), Nat.add_sub_cancel_left, List.set_append_right _ _ (by omega), Nat.add_sub_cancel_left, List.set_append_right _ _ (by omega), Nat.add_sub_cancel_left]
  rfl
theorem get4 (p q : List UInt8) (a b c d : UInt8) : (p ++ ([a, b, c, d] ++ q)).getD p.length 0 = a ∧ (p ++ ([a, b, c, d] ++ q)).getD (p.length + 1) 0 = b ∧ (p ++ ([a, b, c, d] ++ q)).getD (p.length + 2) 0 = c ∧ (p ++ ([a, b, c, d] ++ q)).getD (p.length + 3) 0 = d := by
  refine ⟨?_, ?_, ?_, ?_⟩ <;> simp [List.getD, List.getElem?_append_right]
/-- Four bytes turned. -/
def turned4 (F : List UInt8) (k m0 m1 m2 m3 : Nat) : List UInt8 :=
  (((F.set k (UInt8.ofNat ((F.getD k 0).toNat ^^^ m0))).set (k + 1) (UInt8.ofNat ((F.getD (k + 1) 0).toNat ^^^ m1))).set (k + 2) (UInt8.ofNat ((F.getD (k + 2) 0).toNat ^^^ m2))).set (k + 3) (UInt8.ofNat ((F.getD (k + 3) 0).toNat ^^^ m3))
theorem xor_back {x : UInt8} {m : Nat} (hm : m < 256) (h : x = UInt8.ofNat (x.toNat ^^^ m)) : m = 0 := by
  by_cases h0 : m = 0
  · exact h0
  · exfalso
    have := xor_ne (x := x) (y := UInt8.ofNat m) (by rw [ofNat_lt_small hm]; exact h0)
    rw [ofNat_lt_small hm] at this
    exact this h.symm
theorem op_turned4 (t : ByteArray) (ht : t.size ≤ 2020) (k m0 m1 m2 m3 : Nat) (hk : (numS t.size).size ≤ k) (hk3 : k + 3 < (textS t).size) (h0 : m0 < 256) (h1 : m1 < 256) (h2 : m2 < 256) (h3 : m3 < 256) (hm : ¬ (m0 = 0 ∧ m1 = 0 ∧ m2 = 0 ∧ m3 = 0)) (seq : Int) :
    (opS ⟨(turned4 (textS t ++ sumB (sumL (textS t).data.toList)).data.toList k m0 m1 m2 m3).toArray⟩ seq).1 = 12 := by
  have hsz : (textS t).data.toList.length = (textS t).size := by rw [Array.length_toList]; rfl
  obtain ⟨p, a, b, c, d, q, hp, hT⟩ := split4 (textS t).data.toList k (by omega)
  have hpre : (textS t).data.toList.take (numS t.size).size = numL t.size := by
    have e1 : (textS t).data.toList = numL t.size ++ t.data.toList := by simp [textS, numS_toList]
    rw [e1, numS_size, List.take_left]
  obtain ⟨sb, hsb⟩ : ∃ sb, sb = sumB (sumL (textS t).data.toList) := ⟨_, rfl⟩
  have hF : (textS t ++ sb).data.toList = p ++ ([a, b, c, d] ++ (q ++ sb.data.toList)) := by
    simp only [ByteArray.data_append, Array.toList_append, hT, List.append_assoc]
  subst hp
  obtain ⟨g0, g1, g2, g3⟩ := get4 p (q ++ sb.data.toList) a b c d
  have hX : turned4 (textS t ++ sb).data.toList p.length m0 m1 m2 m3 = (p ++ ([UInt8.ofNat (a.toNat ^^^ m0), UInt8.ofNat (b.toNat ^^^ m1), UInt8.ofNat (c.toNat ^^^ m2), UInt8.ofNat (d.toNat ^^^ m3)] ++ q)) ++ sb.data.toList := by
    rw [hF]
    unfold turned4
    rw [g0, g1, g2, g3, set4]
    simp only [List.append_assoc]
  rw [← hsb, hX, hsb]
  refine op_turned t ht _ ?_ ?_ ?_ seq
  · rw [← hsz, hT]; simp
  · rw [← hpre, hT, List.take_append_of_le_length hk, List.take_append_of_le_length hk]
  · rw [hT]
    intro e
    obtain ⟨e0, e1, e2, e3⟩ := sum_four p q _ _ _ _ _ _ _ _ e.symm
    exact hm ⟨xor_back h0 e0, xor_back h1 e1, xor_back h2 e2, xor_back h3 e3⟩
end Go.Proofs.YtmeidihbglljiaaDoor
