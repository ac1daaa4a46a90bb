/- What opening a frame comes to: plain mathematics of layer 3 (no program). -/
import Derived.Test.YtkkjbljhehnmjaaGreatDoorPkS
import Derived.Test.YtkkjbljhehnmjaaGreatDoorCrcS
namespace Go.Proofs.YtkkjbljhehnmjaaGreatDoor
open Go.RowKit

/-- A sum's four bytes, the lowest first. -/
def sumB (n : Nat) : ByteArray := ⟨#[UInt8.ofNat (n % 256), UInt8.ofNat (n / 256 % 256), UInt8.ofNat (n / 65536 % 256), UInt8.ofNat (n / 16777216 % 256)]⟩
theorem sumB_size (n : Nat) : (sumB n).size = 4 := rfl
/-- A text with its length ahead; a frame. -/
def textS (s : ByteArray) : ByteArray := numS s.size ++ s
def wrapS (k : Nat) (s : ByteArray) : ByteArray := textS (numS k ++ s) ++ sumB (sumL (textS (numS k ++ s)).data.toList)
/-- TakeText: the error's number or 0, the text, what is behind. -/
def ttS (s : ByteArray) (most : Int) : Nat × ByteArray × ByteArray :=
  match takeL 0 0 s.data.toList with
  | (0, k, u) => if most < (k : Int) then (13, ⟨#[]⟩, s) else if (s.extract u s.size).size < k then (11, ⟨#[]⟩, s) else (0, (s.extract u s.size).extract 0 k, (s.extract u s.size).extract k (s.extract u s.size).size)
  | (c + 1, _, _) => (c + 1, ⟨#[]⟩, s)
/-- The text with a right sum behind it, and what is behind both. -/
def unS (s : ByteArray) : Nat × ByteArray × ByteArray :=
  match ttS s 2020 with
  | (0, t, r) => if r.size < 4 then (11, ⟨#[]⟩, ⟨#[]⟩) else if r.extract 0 4 = sumB (sumL (s.extract 0 (s.size - r.size)).data.toList) then (0, t, r.extract 4 r.size) else (12, ⟨#[]⟩, ⟨#[]⟩)
  | (c + 1, _, _) => (c + 1, ⟨#[]⟩, ⟨#[]⟩)
/-- Open. -/
def opS (s : ByteArray) (seq : Int) : Nat × ByteArray × ByteArray :=
  match unS s with
  | (0, t, r) => match takeL 0 0 t.data.toList with
    | (0, k, u) => if (k : Int) = seq then (0, t.extract u t.size, r) else (10, ⟨#[]⟩, s)
    | (c + 1, _, _) => (c + 1, ⟨#[]⟩, s)
  | (c + 1, _, _) => (c + 1, ⟨#[]⟩, s)

theorem extract_list (s : ByteArray) (i j : Nat) : (s.extract i j).data.toList = (s.data.toList.take j).drop i := by
  rw [ByteArray.data_extract, Array.toList_extract]
  simp [List.extract, List.drop_take]
theorem ba_ext {a b : ByteArray} (h : a.data.toList = b.data.toList) : a = b := by
  cases a; cases b
  simp only [ByteArray.mk.injEq]
  exact Array.toList_inj.1 h
theorem ext_append_right (a b : ByteArray) : (a ++ b).extract a.size (a ++ b).size = b := by
  apply ba_ext
  rw [extract_list]
  have h1 : (a ++ b).data.toList = a.data.toList ++ b.data.toList := by simp
  have h2 : (a ++ b).size = (a.data.toList ++ b.data.toList).length := by rw [← h1, Array.length_toList]; rfl
  have h3 : a.size = a.data.toList.length := by rw [Array.length_toList]; rfl
  rw [h1, h2, List.take_length, h3, List.drop_left]
theorem ext_append_left (a b : ByteArray) : (a ++ b).extract 0 a.size = a := by
  apply ba_ext
  rw [extract_list]
  have h1 : (a ++ b).data.toList = a.data.toList ++ b.data.toList := by simp
  have h3 : a.size = a.data.toList.length := by rw [Array.length_toList]; rfl
  rw [h1, h3, List.take_left, List.drop_zero]
theorem take_numS (k : Nat) (hk : k < 128 ^ 8) (r : ByteArray) : takeL 0 0 (numS k ++ r).data.toList = (0, k, (numS k).size) := by
  have h1 : (numS k ++ r).data.toList = numL k ++ r.data.toList := by simp [numS_toList]
  have h := take_num k k 0 0 r.data.toList (Nat.le_refl _) (by omega) hk (.inl rfl)
  rw [h1, h, numS_size]
  simp
theorem ttS_text (t r : ByteArray) (ht : t.size ≤ 2020) : ttS (textS t ++ r) 2020 = (0, t, r) := by
  unfold ttS textS
  rw [ByteArray.append_assoc, take_numS _ (by show _ < 72057594037927936; omega)]
  simp only
  rw [ext_append_right]
  have hsz : (t ++ r).size = t.size + r.size := ByteArray.size_append
  rw [if_neg (by omega), if_neg (by omega), ext_append_left, ext_append_right]
/-- A frame is opened. -/
theorem opS_wrap (k : Nat) (hk : k < 128 ^ 8) (s r : ByteArray) (hs : (numS k ++ s).size ≤ 2020) (seq : Int) : opS (wrapS k s ++ r) seq = if (k : Int) = seq then (0, s, r) else (10, ⟨#[]⟩, wrapS k s ++ r) := by
  have h1 : unS (wrapS k s ++ r) = (0, numS k ++ s, r) := by
    obtain ⟨t, ht⟩ : ∃ t, t = numS k ++ s := ⟨_, rfl⟩
    unfold unS wrapS
    rw [← ht] at hs ⊢
    obtain ⟨sb, hsb⟩ : ∃ sb, sb = sumB (sumL (textS t).data.toList) := ⟨_, rfl⟩
    have h4 : sb.size = 4 := by rw [hsb]; rfl
    rw [← hsb, ByteArray.append_assoc, ttS_text t (sb ++ r) hs]
    have h5 : (textS t ++ (sb ++ r)).size = (textS t).size + (sb ++ r).size := ByteArray.size_append
    have h6 : (sb ++ r).size = sb.size + r.size := ByteArray.size_append
    simp only
    rw [if_neg (by omega), show (textS t ++ (sb ++ r)).size - (sb ++ r).size = (textS t).size by omega, ext_append_left, ← hsb]
    have h7 : (sb ++ r).extract 0 4 = sb := by rw [← h4]; exact ext_append_left sb r
    have h8 : (sb ++ r).extract 4 (sb ++ r).size = r := by
      have := ext_append_right sb r
      rw [h4] at this
      exact this
    rw [h7, h8, if_pos rfl]
  unfold opS
  rw [h1]
  simp only
  rw [take_numS k hk s]
  simp only
  rw [ext_append_right]
end Go.Proofs.YtkkjbljhehnmjaaGreatDoor
