/- Contracts of package frame as callers use them; the law's 'known'. -/
import Derived.Test.YtmeidihbglljiaaDoorFrO
namespace Go.Proofs.YtmeidihbglljiaaDoor
open Go.RowKit

theorem is_ferr (c : Int) (v : Value) (h : FErr c v) (w : World) :
    Calls Tryd.prog 15 #[v, .iface 38 (.int .i64 c)] w fun e w' => e = .returned (.bool true) ∧ Kp [] w w' := by
  rcases h with ⟨s, rfl⟩ | ⟨s, of, u, rfl⟩
  · exact is_fr1_yes s c w
  · exact is_fr2_yes s of u c w
/-- An error with the number c, an answer of Open. -/
def OpNo (c : Int) (s : ByteArray) (w : World) (e : Ending) (w2 : World) : Prop := ∃ v, FErr c (.iface 58 v) ∧ e = .returned (.tuple #[.string ⟨#[]⟩, .string s, .iface 58 v]) ∧ Kp [] w w2
theorem open_yes (s : ByteArray) (hs : s.size ≤ 9223372036854775) (seq : Int) (t r : ByteArray) (h : opS s seq = (0, t, r)) (w : World) (hE : EHas w) :
    Calls Tryd.prog 8 #[.string s, .int .i64 seq] w fun e w2 => e = .returned (.tuple #[.string t, .string r, .nilIface]) ∧ Kp [] w w2 := by
  refine (open_any s hs seq w hE).mono ?_
  rintro e w2 ⟨K, ⟨t', r', h', rfl⟩ | ⟨c, v, hc, h', hv, rfl⟩⟩
  · rw [h] at h'
    simp only [Prod.mk.injEq, true_and] at h'
    obtain ⟨rfl, rfl⟩ := h'
    exact ⟨rfl, K⟩
  · rw [h] at h'
    simp only [Prod.mk.injEq] at h'
    omega
theorem open_no (s : ByteArray) (hs : s.size ≤ 9223372036854775) (seq : Int) (c : Nat) (hc : 0 < c) (h : (opS s seq).1 = c) (w : World) (hE : EHas w) :
    Calls Tryd.prog 8 #[.string s, .int .i64 seq] w (OpNo (c : Int) s w) := by
  refine (open_any s hs seq w hE).mono ?_
  rintro e w2 ⟨K, ⟨t', r', h', rfl⟩ | ⟨c', v, hc', h', hv, rfl⟩⟩
  · rw [h'] at h
    simp only at h
    omega
  · rw [h'] at h
    simp only at h
    subst h
    obtain ⟨x, rfl⟩ := hv.iface
    exact ⟨x, hv, rfl, K⟩
theorem numS_le9 (k : Nat) (hk : k < 128 ^ 8) : (numS k).size ≤ 8 := by
  rw [numS_size]; exact numL_len 7 k hk
theorem wrapS_size (k : Nat) (hk : k < 128 ^ 8) (s : ByteArray) (hs : s.size ≤ 2000) : (wrapS k s).size ≤ s.size + 30 ∧ s.size + 6 ≤ (wrapS k s).size := by
  have h1 := numS_le9 k hk
  have h2 : (numS k ++ s).size = (numS k).size + s.size := ByteArray.size_append
  have h3 := textS_le (numS k ++ s) (by omega)
  have h4 : (wrapS k s).size = (textS (numS k ++ s)).size + 4 := by
    unfold wrapS
    exact ByteArray.size_append
  have h5 : (textS (numS k ++ s)).size = (numS (numS k ++ s).size).size + (numS k ++ s).size := ByteArray.size_append
  have h6 : 1 ≤ (numS k).size := by rw [numS_size]; exact numL_pos k
  have h7 : 1 ≤ (numS (numS k ++ s).size).size := by rw [numS_size]; exact numL_pos _
  omega
theorem opS_wrap_yes (k : Nat) (hk : k < 128 ^ 8) (s r : ByteArray) (hs : s.size ≤ 2000) : opS (wrapS k s ++ r) (k : Int) = (0, s, r) := by
  have h1 := numS_le9 k hk
  rw [opS_wrap k hk s r (by rw [ByteArray.size_append]; omega), if_pos rfl]
theorem opS_wrap_no (k : Nat) (hk : k < 128 ^ 8) (s r : ByteArray) (hs : s.size ≤ 2000) (seq : Int) (hne : (k : Int) ≠ seq) : (opS (wrapS k s ++ r) seq).1 = 10 := by
  have h1 := numS_le9 k hk
  rw [opS_wrap k hk s r (by rw [ByteArray.size_append]; omega), if_neg hne]
theorem open_wrap (k : Nat) (hk : k < 128 ^ 8) (s r : ByteArray) (hs : s.size ≤ 2000) (hr : r.size ≤ 1000000) (w : World) (hE : EHas w) :
    Calls Tryd.prog 8 #[.string (wrapS k s ++ r), .int .i64 (k : Int)] w fun e w2 => e = .returned (.tuple #[.string s, .string r, .nilIface]) ∧ Kp [] w w2 := by
  have h1 := (wrapS_size k hk s hs).1
  exact open_yes (wrapS k s ++ r) (by rw [ByteArray.size_append]; omega) k s r (opS_wrap_yes k hk s r hs) w hE
theorem open_wrap_no (k : Nat) (hk : k < 128 ^ 8) (s r : ByteArray) (hs : s.size ≤ 2000) (hr : r.size ≤ 1000000) (seq : Int) (hne : (k : Int) ≠ seq) (w : World) (hE : EHas w) :
    Calls Tryd.prog 8 #[.string (wrapS k s ++ r), .int .i64 seq] w (OpNo 10 (wrapS k s ++ r) w) := by
  have h1 := (wrapS_size k hk s hs).1
  exact open_no (wrapS k s ++ r) (by rw [ByteArray.size_append]; omega) seq 10 (by decide) (opS_wrap_no k hk s r hs seq hne) w hE

def sAbc : ByteArray := ⟨#[97, 98, 99]⟩
/-- The frame that 'known' asks. -/
def wAbc : ByteArray := wrapS 7 ⟨#[97, 98, 99]⟩
theorem wAbc_size : wAbc.size ≤ 33 := (wrapS_size 7 (by decide) sAbc (by decide)).1
theorem k_wrap (w : World) : Calls Tryd.prog 12 #[.int .i64 7, .string ⟨#[97, 98, 99]⟩] w fun e w2 => e = .returned (.string wAbc) ∧ Kp [] w w2 :=
  wrap_any 7 (by decide) (by decide) ⟨#[97, 98, 99]⟩ (by decide) w
theorem k_open1 (w : World) (hE : EHas w) : Calls Tryd.prog 8 #[.string (wAbc ++ ⟨#[120]⟩), .int .i64 7] w fun e w2 => e = .returned (.tuple #[.string ⟨#[97, 98, 99]⟩, .string ⟨#[120]⟩, .nilIface]) ∧ Kp [] w w2 :=
  open_wrap 7 (by decide) ⟨#[97, 98, 99]⟩ ⟨#[120]⟩ (by decide) (by decide) w hE
theorem k_open2 (w : World) (hE : EHas w) : Calls Tryd.prog 8 #[.string wAbc, .int .i64 8] w (OpNo 10 wAbc w) := by
  have h := open_wrap_no 7 (by decide) ⟨#[97, 98, 99]⟩ ByteArray.empty (by decide) (by decide) 8 (by decide) w hE
  rw [ByteArray.append_empty] at h
  exact h
theorem k_open0 (w : World) (hE : EHas w) : Calls Tryd.prog 8 #[.string ⟨#[]⟩, .int .i64 0] w (OpNo 11 ⟨#[]⟩ w) :=
  open_no ⟨#[]⟩ (by decide) 0 11 (by decide) (by decide +kernel) w hE
theorem k_sum9 (w : World) : Calls Tryd.prog 10 #[.string ⟨#[49, 50, 51, 52, 53, 54, 55, 56, 57]⟩] w fun e w2 => e = .returned (.int .u32 3421780262) ∧ w = w2 := by
  have h := sum_any ⟨#[49, 50, 51, 52, 53, 54, 55, 56, 57]⟩ (by decide) w
  rw [show sumL (ByteArray.mk #[49, 50, 51, 52, 53, 54, 55, 56, 57]).data.toList = 3421780262 by decide +kernel] at h
  exact h
theorem k_sum0 (w : World) : Calls Tryd.prog 10 #[.string ⟨#[]⟩] w fun e w2 => e = .returned (.int .u32 0) ∧ w = w2 := by
  have h := sum_any ⟨#[]⟩ (by decide) w
  rw [show sumL (ByteArray.mk #[]).data.toList = 0 by decide +kernel] at h
  exact h
/-- One call more. -/
theorem Kp.step {a b c : World} (h : Hid (Kp [] a b)) (k : Kp [] b c) : Hid (Kp [] a c) := Kp.trans h k
set_option maxHeartbeats 1600000 in
set_option maxRecDepth 20000 in
theorem known_any (w : World) (hE : EHas w) :
    Calls Tryd.prog 7 #[] w fun e w2 => e = .returned (.bool true) ∧ Kp [] w w2 := by
  have H0 : Hid (Kp [] w w) := Kp.refl [] w
  have HE := Lib.hid hE
  clear hE
  have hws := wAbc_size
  go_enter Tryd.func7, Tryd.ntmps7
  go_wp2_with fail
  refine (k_wrap _).mono ?_
  rintro e x1 ⟨rfl, K⟩
  have H1 := Kp.step H0 K
  clear K H0
  go_wp2_with fail
  refine Calls.mono (k_open1 _ (HE.out.kept H1)) ?_
  rintro e x2 ⟨rfl, K⟩
  have H2 := Kp.step H1 K
  clear K H1
  go_wp2_with fail
  refine (k_wrap _).mono ?_
  rintro e x3 ⟨rfl, K⟩
  have H3 := Kp.step H2 K
  clear K H2
  go_wp2_with fail
  refine Calls.mono (k_open2 _ (HE.out.kept H3)) ?_
  rintro e x4 ⟨v, hv, rfl, K⟩
  have HV := Lib.hid hv
  have H4 := Kp.step H3 K
  clear K H3 hv
  go_wp2_with fail
  refine Calls.mono (k_open0 _ (HE.out.kept H4)) ?_
  rintro e x5 ⟨v2, hv, rfl, K⟩
  have HV2 := Lib.hid hv
  have H5 := Kp.step H4 K
  clear K H4 hv
  go_wp2_with fail
  refine Calls.mono (k_sum9 _) ?_
  rintro e x6 ⟨rfl, rfl⟩
  go_wp2_with fail
  refine Calls.mono (k_sum0 _) ?_
  rintro e x6 ⟨rfl, rfl⟩
  go_wp2_with fail
  refine Calls.mono (is_ferr 10 _ HV.out _) ?_
  rintro e x7 ⟨rfl, K⟩
  have H6 := Kp.step H5 K
  clear K H5
  go_wp2_with fail
  refine Calls.mono (is_ferr 11 _ HV2.out _) ?_
  rintro e x8 ⟨rfl, K⟩
  have H7 := Kp.step H6 K
  clear K H6
  go_wp2_with fail
  go_ret
  exact ⟨rfl, H7⟩
end Go.Proofs.YtmeidihbglljiaaDoor
