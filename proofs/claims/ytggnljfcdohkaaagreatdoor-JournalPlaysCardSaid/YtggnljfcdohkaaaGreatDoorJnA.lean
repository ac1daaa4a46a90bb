/- Contracts of package journal: where halves lie, bytes 0, errors of the disk, what hold makes. -/
import Derived.Test.YtggnljfcdohkaaaGreatDoorDkF
import Derived.Test.YtggnljfcdohkaaaGreatDoorBld
import Derived.Test.YtggnljfcdohkaaaGreatDoorFrO
import Derived.Lib.TrimByte
import Derived.Deep.RegionHeld3
import Derived.Deep.RegionWith
namespace Go.Proofs.YtggnljfcdohkaaaGreatDoor
open Go.RowKit

/-- How many sectors each half has; where one begins. -/
def hl (n : Nat) : Nat := (n - 2) / 2
def hat (n h : Nat) : Nat := 2 + h * hl n
theorem w64n {k : Nat} (h : k ≤ 1000000000000) : wrap64 (k : Int) = k := by unfold wrap64; omega
theorem halfLen_any {w : World} {b : Nat} {S : Dk} {f : List Nat} (D : DkF w f b S) (h4 : 2 ≤ S.n) :
    Calls Tryz.prog 83 #[.pointer (some ⟨b, 0, none⟩)] w fun e w2 => e = .returned (.int .i64 (hl S.n : Int)) ∧ w = w2 := by
  have hn := D.n2
  have e1 : ((S.n : Int) - 2).tdiv 2 = (hl S.n : Int) := by
    rw [Int.tdiv_eq_ediv_of_nonneg (by omega)]; unfold hl; omega
  have hle : hl S.n ≤ 1000000000000 := by unfold hl; omega
  have HD := Lib.hid D
  clear D
  go_enter Tryz.func83, Tryz.ntmps83
  go_wp2_with (go_at_call 59; refine (f_len HD.out).mono ?_; rintro e w' ⟨rfl, rfl⟩)
  go_ret
  exact ⟨rfl, rfl⟩
theorem halfAt_any {w : World} {b : Nat} {S : Dk} {f : List Nat} (D : DkF w f b S) (h4 : 2 ≤ S.n) (h : Nat) (hh : h ≤ 1) :
    Calls Tryz.prog 73 #[.pointer (some ⟨b, 0, none⟩), .int .i64 (h : Int)] w fun e w2 => e = .returned (.int .i64 (hat S.n h : Int)) ∧ w = w2 := by
  have hn := D.n2
  have hle : hl S.n ≤ 1000 := by unfold hl; omega
  have HA := Lib.hid (halfLen_any D h4)
  have e2 : wrap64 (2 + wrap64 ((h : Int) * (hl S.n : Int))) = (hat S.n h : Int) := by
    have h1 : ((h : Int) * (hl S.n : Int)) = ((h * hl S.n : Nat) : Int) := by push_cast; rfl
    have h2 : h * hl S.n ≤ 1 * 1000 := Nat.mul_le_mul hh hle
    have h3 : (2 : Int) + ((h * hl S.n : Nat) : Int) = ((2 + h * hl S.n : Nat) : Int) := by omega
    rw [h1, w64n (by omega), h3, w64n (by omega)]
    rfl
  clear D
  go_enter Tryz.func73, Tryz.ntmps73
  go_wp2_with (go_at_call 83; refine HA.out.mono ?_; rintro e w' ⟨rfl, rfl⟩)
  rw [e2]
  go_ret
  exact ⟨rfl, rfl⟩
theorem room_any {w : World} {b : Nat} {S : Dk} {f : List Nat} (D : DkF w f b S) (h4 : 2 ≤ S.n) :
    Calls Tryz.prog 71 #[.pointer (some ⟨b, 0, none⟩)] w fun e w2 => e = .returned (.int .i64 ((hl S.n * 64 : Nat) : Int)) ∧ w = w2 := by
  have hn := D.n2
  have hle : hl S.n ≤ 1000 := by unfold hl; omega
  have HA := Lib.hid (halfLen_any D h4)
  have e2 : wrap64 ((hl S.n : Int) * 64) = ((hl S.n * 64 : Nat) : Int) := by
    have h1 : ((hl S.n : Int) * 64) = ((hl S.n * 64 : Nat) : Int) := by push_cast; rfl
    rw [h1, w64n (by omega)]
  clear D
  go_enter Tryz.func71, Tryz.ntmps71
  go_wp2_with (go_at_call 83; refine HA.out.mono ?_; rintro e w' ⟨rfl, rfl⟩)
  clear e2
  have e3 : ((hl S.n * 64 : Nat) : Int) = (hl S.n : Int) * 64 := by push_cast; rfl
  rw [e3]
  go_ret
  exact ⟨rfl, rfl⟩

theorem dropWhile_nil (l : List UInt8) : l.dropWhile (· == 0) = [] ↔ l.all (· == 0) = true := by
  induction l with
  | nil => simp
  | cons a r ih =>
    by_cases h : a = 0
    · subst h; simp only [List.dropWhile_cons, List.all_cons]; simpa using ih
    · simp [h]
theorem trim_nil (l : List UInt8) : Lib.trimB l 0 = [] ↔ l.all (· == 0) = true := by
  unfold Lib.trimB Lib.trimLeftB Lib.trimRightB
  rw [dropWhile_nil]
  constructor
  · intro h
    have h2 : (l.reverse.dropWhile (· == 0)) = [] := by
      cases hq : l.reverse.dropWhile (· == 0) with
      | nil => rfl
      | cons a r =>
        exfalso
        have h3 : (l.reverse.dropWhile (· == 0)).head (by rw [hq]; simp) = a := by simp [hq]
        have h4 := List.head_dropWhile_not (p := (· == 0)) (l := l.reverse) (by rw [hq]; simp)
        rw [h3] at h4
        rw [hq] at h
        simp only [List.reverse_cons, List.all_append, List.all_cons, List.all_nil, Bool.and_true, Bool.and_eq_true] at h
        rw [h.2] at h4
        cases h4
    have := (dropWhile_nil l.reverse).1 h2
    simpa using this
  · intro h
    have h2 := (dropWhile_nil l.reverse).2 (by simpa using h)
    rw [h2]; rfl
theorem isZero_any (s : ByteArray) (hs : s.size ≤ 9223372036854775807) (w : World) :
    Calls Tryz.prog 86 #[.string s] w fun e w2 => e = .returned (.bool (isZ s)) ∧ Kp [] w w2 := by
  have H := Lib.hid (Tryz.strings_Trim_one s 0 (by decide) w hs)
  go_enter Tryz.func86, Tryz.ntmps86
  go_wp2_with fail
  refine Calls.mono H.out ?_
  rintro e w2 ⟨rfl, hw⟩
  have K : Kp [] w w2 := by
    rcases hw with rfl | rfl
    · exact Kp.refl _ _
    · exact (Kp.refl [] w).drew
  have HK := Lib.hid K
  clear K hw
  obtain ⟨t, ht⟩ : ∃ t, t = (⟨(Lib.trimB s.data.toList 0).toArray⟩ : ByteArray) := ⟨_, rfl⟩
  rw [← ht]
  have hz : isZ s = decide (t.size = 0) := by
    rw [ht]
    unfold isZ
    have := trim_nil s.data.toList
    cases hq : s.data.toList.all (· == 0)
    · rw [hq] at this
      simp only [Bool.false_eq_true, iff_false] at this
      simp [ByteArray.size, this]
    · rw [hq] at this
      simp only [iff_true] at this
      simp [ByteArray.size, this]
  clear ht
  go_wp2_with fail
  go_ret
  refine ⟨?_, HK.out⟩
  rw [hz]
  have ht3 : t.size = t.data.toList.length := by rw [Array.length_toList]; rfl
  have ht2 : t.toList.isEmpty = decide (t.size = 0) := by
    rw [ByteArray.toList_eq, ht3]
    cases t.data.toList <;> simp
  show Ending.returned (Value.bool t.toList.isEmpty) = _
  rw [ht2]

def dkRef (t : ByteArray) (c : Int) : Value := .iface 134 (.agg #[.string t, .int .i64 c])
def dErr (t : ByteArray) (c : Int) : Value := .iface 124 (.agg #[dkRef t c])
def jErr (call : ByteArray) (v : Value) : Value := .iface 72 (.agg #[.string call, v])
/-- An error of the disk, marked as such, of number c; or none. -/
def DAns (c : Int) (v : Value) : Prop := (v = .nilIface ∧ c = 0) ∨ ((∃ t, v = dErr t c) ∧ c ≠ 0)
theorem ofDisk_nil (w : World) : Calls Tryz.prog 47 #[.nilIface] w fun e w2 => e = .returned .nilIface ∧ w = w2 := by
  go_enter Tryz.func47, Tryz.ntmps47
  go_wp2_with fail
  go_ret
  exact ⟨rfl, rfl⟩
theorem ofDisk_ref (t : ByteArray) (c : Int) (w : World) : Calls Tryz.prog 47 #[dkRef t c] w fun e w2 => e = .returned (dErr t c) ∧ w = w2 := by
  unfold dErr dkRef
  go_enter Tryz.func47, Tryz.ntmps47
  go_wp2_with fail
  go_ret
  exact ⟨rfl, rfl⟩
theorem ofDisk_any {c : Int} {v : Value} (h : Answers c v) (w : World) : Calls Tryz.prog 47 #[v] w fun e w2 => (∃ v2, e = .returned v2 ∧ DAns c v2) ∧ w = w2 := by
  rcases h with ⟨rfl, rfl⟩ | ⟨⟨t, rfl⟩, h0⟩
  · refine (ofDisk_nil w).mono ?_
    rintro e w2 ⟨rfl, rfl⟩
    exact ⟨⟨_, rfl, .inl ⟨rfl, rfl⟩⟩, rfl⟩
  · refine (ofDisk_ref t c w).mono ?_
    rintro e w2 ⟨rfl, rfl⟩
    exact ⟨⟨_, rfl, .inr ⟨⟨t, rfl⟩, h0⟩⟩, rfl⟩

/-- What of a row lies on a sector that it doesn't fill. -/
def tailS (s : ByteArray) : ByteArray := s.extract (s.size - s.size % 64) s.size
theorem tailS_size (s : ByteArray) : (tailS s).size = s.size % 64 := by
  unfold tailS; rw [ByteArray.size_extract]; omega
theorem clone_any (s : ByteArray) (hs : s.size ≤ 1000000000000) (w : World) : Calls Tryz.prog 93 #[.string s] w fun e w2 => e = .returned (.string s) ∧ Kp [] w w2 := by
  have H := Lib.hid (Tryz.stringslite_Clone s w (by omega))
  go_enter Tryz.func93, Tryz.ntmps93
  go_wp2_with fail
  refine Calls.mono H.out ?_
  rintro e w2 ⟨rfl, hB⟩
  go_wp2_with fail
  go_ret
  exact ⟨rfl, Kp.of_below hB []⟩
theorem tailOf_any (s : ByteArray) (hs : s.size ≤ 1000000000000) (w : World) :
    Calls Tryz.prog 74 #[.string s] w fun e w2 => e = .returned (.string (tailS s)) ∧ Kp [] w w2 := by
  have hsz := tailS_size s
  have hsl : (tailS s).size ≤ 1000000000000 := by omega
  have HC := Lib.hid (clone_any (tailS s) hsl)
  go_enter Tryz.func74, Tryz.ntmps74
  go_wp2_with fail
  refine Calls.mono (HC.out _) ?_
  rintro e w2 ⟨rfl, K⟩
  go_wp2_with fail
  go_ret
  exact ⟨rfl, K⟩
end Go.Proofs.YtggnljfcdohkaaaGreatDoor
