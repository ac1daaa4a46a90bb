/- The walk of the law FrameSums. -/
import Derived.Test.YtmeidihbglljiaaDoorFrK
import Derived.Test.YtmeidihbglljiaaDoorFSuS
import Derived.OpenShut
import Derived.Lib.ConvBytes
namespace Go.Proofs.YtmeidihbglljiaaDoor
open Go.RowKit

/-- A row of bytes of its own that a call made. -/
structure BytesNew (w w2 : World) (b : Nat) (l : List UInt8) : Prop where
  kp : Kp [] w w2
  at_ : b = w.heap.size
  size : w2.heap.size = w.heap.size + 1
  cell : ∀ j, j < l.length → w2.cell? ⟨b, j, none⟩ = some (.int .u8 ((l.getD j 0).toNat : Int))
  free : ∀ j, j < l.length → w2.frozen? ⟨b, j, none⟩ = false
theorem conv_bytes (s : ByteArray) (w : World) : ∃ cap w2, (convert 9 35 (.string s)).run Tryd.prog w = .ok (.slice (some ⟨w.heap.size, 0, none⟩) s.size cap) w2 ∧ BytesNew w w2 w.heap.size s.data.toList := by
  refine ⟨_, _, Lib.run_convert_string_bytes w 9 35 5 s Tryd.underlying9 Tryd.underlying35 Tryd.underlying5, ⟨⟨?_, ?_, ?_, ?_, ?_⟩, rfl, ?_, ?_, ?_⟩⟩
  · simp [Lib.bytesWorld, World.freeze, World.alloc, World.drew, -World.alloc_eq, -World.drew_eq]
  · simp [Lib.bytesWorld, World.freeze, World.alloc, World.drew, -World.alloc_eq, -World.drew_eq]
  · simp [Lib.bytesWorld, World.freeze, World.alloc, World.drew, -World.alloc_eq, -World.drew_eq]
  · rw [Lib.bytesWorld_size]; omega
  · intro k hk _; exact Lib.bytesWorld_at_old w _ s k hk
  · exact Lib.bytesWorld_size w _ s
  · intro j hj; exact Lib.bytesWorld_cell w _ s j (by rw [Array.length_toList] at hj; exact hj)
  · intro j hj
    have h1 : j < (Lib.bytesCells w 5 s).size := by
      rw [Array.length_toList] at hj
      simp only [Lib.bytesCells, Array.size_append, Array.size_map]
      exact Nat.lt_of_lt_of_le hj (Nat.le_add_right _ _)
    simp [World.frozen?, Lib.bytesWorld_at_new]
    omega
/-- The bytes that lie in a row. -/
def BytesAt (w : World) (b : Nat) (l : List UInt8) : Prop := ∀ j, j < l.length → w.cell? ⟨b, j, none⟩ = some (.int .u8 ((l.getD j 0).toNat : Int))
theorem BytesAt.drewN {w : World} {b : Nat} {l : List UInt8} (h : BytesAt w b l) (n : Nat) : BytesAt (w.drewN n) b l := h
theorem BytesAt.kp {w w2 : World} {b : Nat} {l : List UInt8} (h : BytesAt w b l) (k : Kp [] w w2) (hb : b < w.heap.size) : BytesAt w2 b l := fun j hj => by rw [k.cell0 hb]; exact h j hj
theorem BytesAt.far {w : World} {b g o : Nat} {l : List UInt8} (h : BytesAt w b l) (hne : b ≠ g) (v : Value) : BytesAt (w.setCell ⟨g, o, none⟩ v) b l := fun j hj => by
  rw [show w.setCell ⟨g, o, none⟩ v = w.setCells g o [v] from rfl, cell_setCells_far _ _ _ _ _ _ hne]; exact h j hj
theorem BytesAt.set {w : World} {b k : Nat} {l : List UInt8} (h : BytesAt w b l) (hk : k < l.length) (v : Nat) (hv : v < 256) : BytesAt (w.setCell ⟨b, k, none⟩ (.int .u8 (v : Int))) b (l.set k (UInt8.ofNat v)) := fun j hj => by
  rw [List.length_set] at hj
  have hc := h k hk
  by_cases e : j = k
  · subst e
    rw [World.cell?_setCell_same _ _ _ hc]
    simp [List.getD, hk]
    omega
  · rw [World.cell?_setCell_other _ _ _ _ (by simp; try omega)]
    rw [h j hj]
    simp [List.getD, Ne.symm e]
theorem BytesAt.conv {w : World} {b : Nat} {l : List UInt8} (h : BytesAt w b l) (n : Nat) (hn : l.length = n) (cap : Nat) :
    (convert 35 9 (.slice (some ⟨b, 0, none⟩) n cap)).run Tryd.prog w = .ok (.string ⟨l.toArray⟩) w := by
  subst hn
  refine run_convert_bytes_back (P := Tryd.prog) w 35 9 5 ⟨b, 0, none⟩ cap l Tryd.underlying35 Tryd.underlying5 Tryd.underlying9 (fun j hj => ?_)
  rw [Addr.add_mid, Nat.zero_add, h j hj]
  simp [List.getD, hj]
theorem sum_quiet (s : ByteArray) (hs : s.size ≤ 9223372036854775) (x : Nat) (hx : x = sumL s.data.toList) (w : World) :
    Calls Tryd.prog 10 #[.string s] w fun e w2 => e = .returned (.int .u32 (x : Int)) ∧ w2 = w := by
  rw [hx]
  exact (sum_any s hs w).mono fun _ _ ⟨h1, h2⟩ => ⟨h1, h2.symm⟩
set_option maxHeartbeats 6400000 in
set_option maxRecDepth 100000 in
theorem fsums_any (s : ByteArray) (at_ by_ : Nat) (ha : at_ < 256) (hb : by_ < 256) (w : World) (hE : EHas w) :
    Calls Tryd.prog 6 #[.string s, .int .u8 (at_ : Int), .int .u8 (by_ : Int)] w fun e w2 => e = .returned (.bool true) ∧ Kp [] w w2 := by
  have H0 : Hid (Kp [] w w) := Kp.refl [] w
  have HE := Lib.hid hE
  clear hE
  by_cases h1 : s.size < 2
  · have d1 : decide ((s.size : Int) < 2) = true := by simp; omega
    go_enter Tryd.func6, Tryd.ntmps6
    go_wp2_with fail
    refine Calls.mono (known_any _ HE.out) ?_
    rintro e x1 ⟨rfl, K⟩
    have H1 := Kp.step H0 K
    clear K H0
    go_wp2_with fail
    go_ret
    exact ⟨rfl, H1⟩
  have d1 : decide ((s.size : Int) < 2) = false := by simp; omega
  by_cases h2 : 200 < s.size
  · have d2 : decide ((200 : Int) < (s.size : Int)) = true := by simp; omega
    go_enter Tryd.func6, Tryd.ntmps6
    go_wp2_with fail
    refine Calls.mono (known_any _ HE.out) ?_
    rintro e x1 ⟨rfl, K⟩
    have H1 := Kp.step H0 K
    clear K H0
    go_wp2_with fail
    go_ret
    exact ⟨rfl, H1⟩
  have d2 : decide ((200 : Int) < (s.size : Int)) = false := by simp; omega
  go_enter Tryd.func6, Tryd.ntmps6
  go_wp2_with fail
  refine Calls.mono (known_any _ HE.out) ?_
  rintro e x1 ⟨rfl, K⟩
  have H1 := Kp.step H0 K
  clear K H0
  obtain ⟨cap1, x2, hr1, N1⟩ := conv_bytes s x1
  obtain ⟨cap2, x3, hr2, N2⟩ := conv_bytes s x2
  obtain ⟨b1, hb1⟩ : ∃ b1, b1 = x1.heap.size := ⟨_, rfl⟩
  obtain ⟨b2, hb2⟩ : ∃ b2, b2 = x2.heap.size := ⟨_, rfl⟩
  rw [← hb1] at hr1 N1
  rw [← hb2] at hr2 N2
  have hlt : b1 < b2 := by rw [hb2, N1.size, hb1]; omega
  have hne : b1 ≠ b2 := by omega
  have hlen : s.data.toList.length = s.size := Array.length_toList
  obtain ⟨k, hk⟩ : ∃ k : Nat, (at_ : Int) % ((s.size : Int) - 1) = (k : Int) := ⟨at_ % (s.size - 1), by rw [show ((s.size : Int) - 1) = ((s.size - 1 : Nat) : Int) by omega]; simp⟩
  have hk1 : k + 1 < s.size := by
    have := Int.emod_lt_of_pos (at_ : Int) (show (0 : Int) < (s.size : Int) - 1 by omega)
    omega
  obtain ⟨x, hx⟩ : ∃ x : Nat, x = (s.data.toList.getD k 0).toNat := ⟨_, rfl⟩
  obtain ⟨y, hy⟩ : ∃ y : Nat, y = (s.data.toList.getD (k + 1) 0).toNat := ⟨_, rfl⟩
  have hk0 : k < s.size := by omega
  have g1 : (s[k]'hk0).toNat = x := by
    rw [hx]; simp [List.getD, hk0]; rfl
  have g2 : (s[k + 1]'hk1).toNat = y := by
    rw [hy]; simp [List.getD, hk1]; rfl
  have hx8 : x < 256 := by rw [hx]; exact UInt8.toNat_lt _
  have hy8 : y < 256 := by rw [hy]; exact UInt8.toNat_lt _
  have c1 : x3.cell? ⟨b1, k, none⟩ = some (.int .u8 (x : Int)) := by rw [N2.kp.cell0 (by rw [N1.size]; omega), N1.cell k (by omega), hx]
  have f1 : x3.frozen? ⟨b1, k, none⟩ = false := by rw [N2.kp.frozen0 (by rw [N1.size]; omega), N1.free k (by omega)]
  have c2 : x3.cell? ⟨b2, k, none⟩ = some (.int .u8 (x : Int)) := by rw [N2.cell k (by omega), hx]
  have c3 : x3.cell? ⟨b2, k + 1, none⟩ = some (.int .u8 (y : Int)) := by rw [N2.cell (k + 1) (by omega), hy]
  have f2 : x3.frozen? ⟨b2, k, none⟩ = false := N2.free k (by omega)
  have f3 : x3.frozen? ⟨b2, k + 1, none⟩ = false := N2.free (k + 1) (by omega)
  obtain ⟨z, hz⟩ : ∃ z : Nat, z = x ^^^ by_ := ⟨_, rfl⟩
  have hxo : bits .xor .u8 (x : Int) (by_ : Int) = (z : Int) := by rw [hz]; exact u8_xor_nat x by_ hx8 hb
  have HN1 := Lib.hid N1
  have HN2 := Lib.hid N2
  have Hx := Lib.hid hx
  have Hy := Lib.hid hy
  have Hz := Lib.hid hz
  have Hb1 := Lib.hid hb1
  have Hb2 := Lib.hid hb2
  have Hlen := Lib.hid hlen
  clear N1 N2 hx hy hz hb1 hb2 hlen
  have hz1 : (((s.size : Int) - 1) == 0) = false := by rw [beq_eq_false_iff_ne]; omega
  go_wp2_with fail
  go_region
  generalize hW : World.drew _ = X5
  have A0 : BytesAt x3 b2 s.data.toList := fun j hj => HN2.out.cell j hj
  have A1 : BytesAt x3 b1 s.data.toList := BytesAt.kp (w := x2) (fun j hj => HN1.out.cell j hj) HN2.out.kp (by have := HN1.out.size; have := Hb1.out; omega)
  have hl2 := Hlen.out
  have hz8 : z < 256 := by rw [Hz.out]; exact Nat.xor_lt_two_pow (n := 8) (by omega) (by omega)
  have A1' : BytesAt X5 b1 (s.data.toList.set k (UInt8.ofNat z)) := by
    rw [← hW]
    exact (((A1.set (by omega) z hz8).far hne _).far hne _)
  have A2' : BytesAt X5 b2 ((s.data.toList.set k (UInt8.ofNat y)).set (k + 1) (UInt8.ofNat x)) := by
    rw [← hW]
    exact (((A0.far (Ne.symm hne) _).set (by omega) y hy8).set (by rw [List.length_set]; omega) x hx8)
  have K5 : Hid (Kp [] w X5) := by
    show Kp [] w X5
    rw [← hW]
    have hsz := H1.out.size
    have e1 := Hb1.out
    exact (((((H1.out.trans HN1.out.kp).trans HN2.out.kp).setCell (.inr (by show w.heap.size ≤ b1; omega)) _).setCell (.inr (by show w.heap.size ≤ b2; omega)) _).setCell (.inr (by show w.heap.size ≤ b2; omega)) _).drew
  have e1 : s.data.toList.set k (UInt8.ofNat z) = s.data.toList.set k (UInt8.ofNat ((s.data.toList.getD k 0).toNat ^^^ by_)) := by rw [Hz.out, Hx.out]
  have e2 : (s.data.toList.set k (UInt8.ofNat y)).set (k + 1) (UInt8.ofNat x) = (s.data.toList.set k (s.data.toList.getD (k + 1) 0)).set (k + 1) (s.data.toList.getD k 0) := by rw [Hx.out, Hy.out, UInt8.ofNat_toNat, UInt8.ofNat_toNat]
  have t1 := sum_set s.data.toList k (by omega) by_ hb
  have t2 := sum_swap s.data.toList k (by omega)
  rw [← e1] at t1
  rw [← e2, ← Hx.out, ← Hy.out] at t2
  clear e1 e2 hW A0 A1
  obtain ⟨l1, hl1⟩ : ∃ l1, l1 = s.data.toList.set k (UInt8.ofNat z) := ⟨_, rfl⟩
  obtain ⟨l2, hl2'⟩ : ∃ l2, l2 = (s.data.toList.set k (UInt8.ofNat y)).set (k + 1) (UInt8.ofNat x) := ⟨_, rfl⟩
  rw [← hl1] at A1' t1
  rw [← hl2'] at A2' t2
  have n1 : l1.length = s.size := by rw [hl1, List.length_set]; exact hl2
  have n2 : l2.length = s.size := by rw [hl2', List.length_set, List.length_set]; exact hl2
  obtain ⟨s1, hs1⟩ : ∃ s1 : ByteArray, s1 = ⟨l1.toArray⟩ := ⟨_, rfl⟩
  obtain ⟨s2, hs2⟩ : ∃ s2 : ByteArray, s2 = ⟨l2.toArray⟩ := ⟨_, rfl⟩
  have v1 : ∀ n, (convert 35 9 (.slice (some ⟨b1, 0, none⟩) s.size cap1)).run Tryd.prog (X5.drewN n) = .ok (.string s1) (X5.drewN n) := fun n => by rw [hs1]; exact (A1'.drewN n).conv s.size n1 cap1
  have v2 : ∀ n, (convert 35 9 (.slice (some ⟨b2, 0, none⟩) s.size cap2)).run Tryd.prog (X5.drewN n) = .ok (.string s2) (X5.drewN n) := fun n => by rw [hs2]; exact (A2'.drewN n).conv s.size n2 cap2
  obtain ⟨S0, hS0⟩ : ∃ S, S = sumL s.data.toList := ⟨_, rfl⟩
  obtain ⟨S1, hS1⟩ : ∃ S, S = sumL l1 := ⟨_, rfl⟩
  obtain ⟨S2, hS2⟩ : ∃ S, S = sumL l2 := ⟨_, rfl⟩
  have q0 : Hid (∀ w, Calls Tryd.prog 10 #[.string s] w fun e w2 => e = .returned (.int .u32 (S0 : Int)) ∧ w2 = w) := fun w => sum_quiet s (by omega) S0 hS0 w
  have q1 : Hid (∀ w, Calls Tryd.prog 10 #[.string s1] w fun e w2 => e = .returned (.int .u32 (S1 : Int)) ∧ w2 = w) := fun w => sum_quiet s1 (by rw [hs1]; show l1.toArray.size ≤ _; rw [List.size_toArray]; omega) S1 (by rw [hS1, hs1]) w
  have q2 : Hid (∀ w, Calls Tryd.prog 10 #[.string s2] w fun e w2 => e = .returned (.int .u32 (S2 : Int)) ∧ w2 = w) := fun w => sum_quiet s2 (by rw [hs2]; show l2.toArray.size ≤ _; rw [List.size_toArray]; omega) S2 (by rw [hS2, hs2]) w
  rw [← hS0, ← hS1] at t1
  rw [← hS0, ← hS2] at t2
  clear hl1 hl2' A1' A2' n1 n2 hs1 hs2 hS0 hS1 hS2 hl2
  by_cases hby : by_ = 0 <;> by_cases hxy : x = y
  all_goals
    first | have b1 : ((S1 : Int) == (S0 : Int)) = true := (by have := t1.2 hby; simp; omega) | have b1 : ((S1 : Int) == (S0 : Int)) = false := (by rw [beq_eq_false_iff_ne]; intro h; exact hby (t1.1 (by omega)))
    first | have b2 : ((by_ : Int) == 0) = true := (by simp; omega) | have b2 : ((by_ : Int) == 0) = false := (by simp; omega)
    first | have b3 : ((S2 : Int) == (S0 : Int)) = true := (by have := t2.2 hxy; simp; omega) | have b3 : ((S2 : Int) == (S0 : Int)) = false := (by rw [beq_eq_false_iff_ne]; intro h; exact hxy (t2.1 (by omega)))
    first | have b4 : ((x : Int) == (y : Int)) = true := (by simp; omega) | have b4 : ((x : Int) == (y : Int)) = false := (by simp; omega)
    have i1 : IntKind.i64.wrap ((k : Int) + 1) = (k : Int) + 1 := by rw [IntKind.wrap_i64]; omega
    have i2 : 0 ≤ (k : Int) + 1 := by omega
    have i3 : ((k : Int) + 1).toNat = k + 1 := by omega
    have i4 : (k : Int) + 1 < (s.size : Int) := by omega
    clear t1 t2 hby hxy
    go_wp2_with fail
    refine wp_region_quiet_lit (by kernel_rfl) (by kernel_rfl) ?_
    quiet_step (fail)
    quiet_step (fail)
    quiet_step ((go_at_call 10; exact Calls.quiet_of_same (q1.out _)))
    quiet_step (fail)
    quiet_step ((go_at_call 10; exact Calls.quiet_of_same (q0.out _)))
    quiet_step (fail)
    quiet_step (fail)
    quiet_step (fail)
    quiet_step (fail)
    quiet_step (fail)
    quiet_step (fail)
    quiet_step (fail)
    quiet_step ((go_at_call 10; exact Calls.quiet_of_same (q2.out _)))
    quiet_step (fail)
    quiet_step ((go_at_call 10; exact Calls.quiet_of_same (q0.out _)))
    quiet_step (fail)
    quiet_step (fail)
    quiet_step (fail)
    quiet_step (fail)
    quiet_step (fail)
    quiet_step (fail)
    quiet_step (fail)
    quiet_step (fail)
    quiet_step (fail)
    quiet_step (fail)
    quiet_step (fail)
    quiet_step (fail)
    refine wpQuiet_nil ?_
    intro _ hw'
    obtain ⟨nq, hw''⟩ := hw'
    subst hw''
    go_wp2_with fail
    go_ret
    exact ⟨rfl, K5.out.drewN _⟩
end Go.Proofs.YtmeidihbglljiaaDoor
