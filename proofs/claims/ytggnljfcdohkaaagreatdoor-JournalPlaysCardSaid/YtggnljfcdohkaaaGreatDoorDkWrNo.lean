/- Contract of (*disk.Disk).Write where it is refused; both contracts as one. -/
import Derived.Test.YtggnljfcdohkaaaGreatDoorDkWrite
import Derived.Test.YtggnljfcdohkaaaGreatDoorErr
namespace Go.Proofs.YtggnljfcdohkaaaGreatDoor
open Go.RowKit

theorem write_ref (w : World) (b bf bc : Nat) (lv : Value) (S : Dk) (h : DkAt w b bf bc lv S) (p : Int) (s : ByteArray) (why : Int)
    (hm : Calls Tryz.prog 82 #[.pointer (some ⟨b, 0, none⟩), .int .i64 p, .int .i64 (s.size : Int)] w (Refused why w)) :
    Calls Tryz.prog 60 #[.pointer (some ⟨b, 0, none⟩), .int .i64 p, .string s] w fun e w2 => (∃ v, e = .returned v ∧ IsRef why v) ∧ DkThen b bf bc lv { S with dead := decide (why = 25) } w w2 := by
  have Hm := Lib.hid hm
  have H := Lib.hid h
  clear hm h
  go_enter Tryz.func60, Tryz.ntmps60
  go_wp2_with (first
    | (go_at_call 82; refine Hm.out.mono ?_; rintro e w1 ⟨v, rfl, ⟨t, rfl⟩, k1⟩)
    | (go_at_call 27; refine (DkE.is_any _ why 25 (.inr ⟨t, rfl⟩) (by decide) _).mono ?_; rintro e w2 ⟨rfl, k2⟩; have D2 := Lib.hid ((H.out.new k1).new k2); have g4 := D2.out.c4; have f4 := D2.out.fr 4))
  go_ret
  refine ⟨⟨_, rfl, ⟨t, rfl⟩⟩, lv, D2.out.set4 _, ?_, fun g hg => .inl hg⟩
  exact ((k1.trans k2).mono (by simp)).setCell (.inl (by simp [foot])) _

/-- The number of the error that Write answers; 0: none. -/
def Dk.werr (S : Dk) (p : Int) (z : Nat) : Int :=
  if S.dead then 25 else if p < 0 ∨ (S.n : Int) ≤ p then 14 else if 64 < z then 13 else if S.cut = true ∧ S.left = 0 then 25 else 0
/-- What Write answers: nil, or an error of that number. -/
def Answers (why : Int) (v : Value) : Prop := (v = .nilIface ∧ why = 0) ∨ (IsRef why v ∧ why ≠ 0)
/-- The disk behind a call of Write. -/
def Dk.wrote (S : Dk) (p : Int) (s : ByteArray) : Dk :=
  if S.werr p s.size = 0 then S.write p.toNat (fillUp s) else { S with dead := decide (S.werr p s.size = 25) }

theorem write_any (w : World) (b bf bc : Nat) (lv : Value) (S : Dk) (h : DkAt w b bf bc lv S) (p : Int) (s : ByteArray) (h0 : -9223372036854775808 ≤ p) (h1 : p ≤ 9223372036854775807) (ht : Tab w)
    (hW : S.writes < 4611686018427387904) (hLf : S.left ≤ 9223372036854775807) (hL : S.L.length < 4294967296) :
    Calls Tryz.prog 60 #[.pointer (some ⟨b, 0, none⟩), .int .i64 p, .string s] w fun e w2 => (∃ v, e = .returned v ∧ Answers (S.werr p s.size) v) ∧ DkThen b bf bc lv (S.wrote p s) w w2 := by
  have ref (why : Int) (hw : S.werr p s.size = why) (hn : why ≠ 0) (hm : Calls Tryz.prog 82 #[.pointer (some ⟨b, 0, none⟩), .int .i64 p, .int .i64 (s.size : Int)] w (Refused why w)) :
      Calls Tryz.prog 60 #[.pointer (some ⟨b, 0, none⟩), .int .i64 p, .string s] w fun e w2 => (∃ v, e = .returned v ∧ Answers (S.werr p s.size) v) ∧ DkThen b bf bc lv (S.wrote p s) w w2 := by
    refine (write_ref w b bf bc lv S h p s why hm).mono ?_
    rintro e w2 ⟨⟨v, he, hv⟩, hd⟩
    unfold Dk.wrote
    rw [hw, if_neg hn]
    exact ⟨⟨v, he, .inr ⟨hv, hn⟩⟩, hd⟩
  by_cases hd : S.dead = true
  · refine ref 25 (by simp [Dk.werr, hd]) (by decide) ?_
    have h4 := h.c4
    rw [hd] at h4
    exact may_dead b p _ w h4 ht h0 h1
  have hd : S.dead = false := by simpa using hd
  have h4 := h.c4
  rw [hd] at h4
  by_cases hr : p < 0 ∨ (S.n : Int) ≤ p
  · refine ref 14 (by simp [Dk.werr, hd, hr]) (by decide) ?_
    exact may_full b S.n S.n p _ _ w h4 h.c1 hr ht h0 h1
  by_cases hz : 64 < s.size
  · refine ref 13 (by simp [Dk.werr, hd, hr, hz]) (by decide) ?_
    exact may_large b S.n S.n p _ _ w h4 h.c1 (by omega) (by omega) (by omega) ht h0 h1
  by_cases hc : S.cut = true ∧ S.left = 0
  · refine ref 25 (by simp [Dk.werr, hd, hr, hz, hc]) (by decide) ?_
    have h5 := h.c5
    have h6 := h.c6
    rw [hc.1] at h5
    rw [hc.2] at h6
    exact may_cut b S.n S.n p _ _ w h4 h.c1 (by omega) (by omega) (by omega) ht h5 h6 h0 h1
  have hw : S.werr p s.size = 0 := by simp [Dk.werr, hd, hr, hz, hc]
  obtain ⟨k, rfl⟩ := Int.eq_ofNat_of_zero_le (show 0 ≤ p by omega)
  have hcut : S.cut = false ∨ 0 < S.left := by
    cases hcc : S.cut with
    | false => exact .inl rfl
    | true => right; rcases Nat.eq_zero_or_pos S.left with h0 | h0
              · exact absurd ⟨hcc, h0⟩ hc
              · exact h0
  refine (write_ok w b bf bc lv S h k (by omega) s (by omega) hd hcut hW hLf hL).mono ?_
  rintro e w2 ⟨rfl, hd2⟩
  refine ⟨⟨_, rfl, .inl ⟨rfl, hw⟩⟩, ?_⟩
  unfold Dk.wrote
  rw [if_pos hw]
  exact hd2
end Go.Proofs.YtggnljfcdohkaaaGreatDoor
