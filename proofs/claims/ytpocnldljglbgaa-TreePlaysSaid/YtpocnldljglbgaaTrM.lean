/- The law's flat(); keys of one byte, plainly; what rises is apart. -/
import Derived.Test.YtpocnldljglbgaaTrL
namespace Go.Proofs.Ytpocnldljglbgaa
open Go.RowKit Tr

theorem least_mono {j k : Nat} (h : j ≤ k) : least j ≤ least k := by
  induction h with
  | refl => exact Nat.le_refl _
  | step _ ih => exact Nat.le_trans ih (least_mono1 _)
set_option maxHeartbeats 1600000 in
theorem flat_nil (w : World) : Calls Try.prog 12 #[.int .i64 0, .int .i64 0] w fun e w2 => e = .returned (.bool true) ∧ w2 = w := by
  go_enter Try.func12, Try.ntmps12
  go_wp2
  refine wp_loop_rounds 1 ?_
  rw [rounds_succ]
  go_wp2_with fail
  go_ret
  exact ⟨rfl, rfl⟩
set_option maxHeartbeats 1600000 in
theorem flat_pos {d n : Nat} (h : Flat d n) (hd : 0 < d) (hn : n ≤ 1000000) (w : World) :
    Calls Try.prog 12 #[.int .i64 (d : Int), .int .i64 (n : Int)] w fun e w2 => e = .returned (.bool true) ∧ w2 = w := by
  obtain ⟨h1, h2, _⟩ := h
  have H1 := Lib.hid h1
  have l1 : decide ((d : Int) ≤ (n : Int)) = true := by simpa using h2
  have l2 : ((d : Int) == 0) = false := by rw [beq_eq_false_iff_ne]; omega
  have l3 : decide ((0 : Int) < (d : Int)) = true := by simpa using hd
  have l1' : decide (d ≤ n) = true := by simpa using h2
  have hdn : d ≤ 1000000 := by omega
  have l3' : decide (0 < d) = true := by simpa using hd
  clear h1 h2
  go_enter Try.func12, Try.ntmps12
  go_wp2_with fail
  go_loopw [5, 6, 7] (fun a b i wr => ∃ k x y : Nat, 1 ≤ k ∧ k ≤ d ∧ i = .int .i64 (k : Int) ∧ a = .int .i64 (x : Int) ∧ b = .int .i64 (y : Int) ∧ Hid (x = least (k - 1) ∧ y = least k) ∧ wr = w) (fun _ _ i _ => d - (intOf i).toNat)
  case atStart => exact ⟨1, 0, 1, Nat.le_refl _, hd, rfl, rfl, rfl, ⟨rfl, rfl⟩, rfl⟩
  case round =>
    obtain ⟨k, x, y, hk1, hk, rfl, rfl, rfl, HX, hw⟩ := hrel
    have hw := hw.symm
    subst hw
    by_cases hlt : k < d
    · have g1 : decide ((k : Int) < (d : Int)) = true := by simpa using hlt
      have g1' : decide (k < d) = true := by simpa using hlt
      have hy : x + y + 1 ≤ n := by
        have h1 := H1.out
        have h2 := least_mono (show k + 1 ≤ d from hlt)
        have h3 : least (k + 1) = least (k - 1) + least k + 1 := by
          obtain ⟨q, rfl⟩ : ∃ q, k = q + 1 := ⟨k - 1, by omega⟩
          rfl
        rw [HX.out.1, HX.out.2]
        omega
      have hz : Hid (x + y + 1 = least (k + 1)) := by
        rw [HX.out.1, HX.out.2]
        obtain ⟨q, rfl⟩ : ∃ q, k = q + 1 := ⟨k - 1, by omega⟩
        rfl
      have HY : Hid (y = least k) := HX.out.2
      have w1 : IntKind.i64.wrap ((x : Int) + (y : Int)) = ((x + y : Nat) : Int) := by rw [IntKind.wrap_i64]; omega
      have w1' : IntKind.i64.wrap ((x : Int) + (y : Int)) = (x : Int) + (y : Int) := by rw [IntKind.wrap_i64]; omega
      have w2 : IntKind.i64.wrap ((x : Int) + (y : Int) + 1) = (x : Int) + (y : Int) + 1 := by rw [IntKind.wrap_i64]; omega
      have Hlt := Lib.hid hlt
      clear HX hy w1
      go_wp2_with fail
      go_roundw
      case rel => exact ⟨k + 1, y, x + y + 1, by omega, Hlt.out, by go_num, rfl, by simp, ⟨HY.out, hz.out⟩, by simp⟩
      case measure => have := Hlt.out; simp [intOf]; omega
    · have g1 : decide ((k : Int) < (d : Int)) = false := by simpa using hlt
      have g1' : decide (k < d) = false := by simpa using hlt
      obtain rfl : k = d := by omega
      have hy : y ≤ n := by rw [HX.out.2]; exact H1.out
      have l4 : decide ((y : Int) ≤ (n : Int)) = true := by simpa using hy
      have l4' : decide (y ≤ n) = true := by simpa using hy
      clear HX hy hlt
      go_wp2_with fail
      go_ret
      exact ⟨rfl, rfl⟩
theorem flat_any {d n : Nat} (h : Flat d n) (hn : n ≤ 1000000) (w : World) :
    Calls Try.prog 12 #[.int .i64 (d : Int), .int .i64 (n : Int)] w fun e w2 => e = .returned (.bool true) ∧ w2 = w := by
  rcases Nat.eq_zero_or_pos d with rfl | hd
  · obtain rfl : n = 0 := by have := h.2.2; simp at this; exact this
    exact flat_nil w
  · exact flat_pos h hd hn w

/-- A text of one byte. -/
def kS (j : Nat) : ByteArray := ⟨#[UInt8.ofNat j]⟩
theorem kS_inj {i j : Nat} (hi : i < 256) (hj : j < 256) (h : kS i = kS j) : i = j := by
  have h1 : UInt8.ofNat i = UInt8.ofNat j := by injection h with h; injection h with h; injection h
  have h2 := congrArg UInt8.toNat h1
  rw [UInt8.toNat_ofNat', UInt8.toNat_ofNat'] at h2
  omega
theorem mul_odd : ∀ s < 64, ∀ d < 256, d ≠ 0 → (d * (2 * s + 1)) % 256 ≠ 0 := by decide +kernel
theorem mul_inj {s i j : Nat} (hs : s < 64) (hij : i < j) (hj : j < 256) : (i * (2 * s + 1)) % 256 ≠ (j * (2 * s + 1)) % 256 := by
  intro h
  refine mul_odd s hs (j - i) (by omega) (by omega) ?_
  have h1 : j * (2 * s + 1) = (j - i) * (2 * s + 1) + i * (2 * s + 1) := by rw [← Nat.add_mul, Nat.sub_add_cancel (by omega)]
  omega
/-- The keys of the law, one by one. -/
def jf (s : Nat) (down : Bool) (i : Nat) : Nat := if down then 255 - (i * (2 * s + 1)) % 256 else (i * (2 * s + 1)) % 256
theorem jf_lt (s : Nat) (down : Bool) (i : Nat) : jf s down i < 256 := by unfold jf; split <;> omega
theorem jf_inj {s i j : Nat} {down : Bool} (hs : s < 64) (hij : i < j) (hj : j < 256) : jf s down i ≠ jf s down j := by
  have := mul_inj hs hij hj
  unfold jf
  split <;> omega
theorem mem_put {k : ByteArray} {n : Int} {L : List En} {x : En} (h : x ∈ put k n L) : x = (k, n) ∨ x ∈ L := by
  unfold put at h
  rcases List.mem_append.1 h with h | h
  · exact .inr (List.mem_filter.1 h).1
  · rcases List.mem_cons.1 h with h | h
    · exact .inl h
    · exact .inr (List.mem_filter.1 h).1
theorem keyAt_get {L : List En} {i : Nat} (h : i < L.length) : keyAt L i = (L[i]).1 := by
  unfold keyAt
  rw [List.getD_eq_getElem?_getD, List.getElem?_map, List.getElem?_eq_getElem h]
  rfl
theorem rise_lt {L : List En} (h : Rise L) {i j : Nat} (hij : i < j) (hj : j < L.length) : klt (keyAt L i) (keyAt L j) := by
  rw [keyAt_get (by omega), keyAt_get hj]
  exact List.pairwise_iff_getElem.1 h i j (by omega) hj hij
theorem lk_at {L : List En} {i : Nat} (hi : i < L.length) : ∃ n, (keyAt L i, n) ∈ L ∧ lk (keyAt L i) L = some n := by
  refine lk_some (lk_mem (n := (L[i]).2) ?_)
  rw [keyAt_get hi]
  exact List.getElem_mem hi
theorem mem_rem {k : ByteArray} {L : List En} {x : En} (h : x ∈ L) (hk : x.1 ≠ k) : x ∈ rem k L := List.mem_filter.2 ⟨h, by simpa using hk⟩
end Go.Proofs.Ytpocnldljglbgaa
