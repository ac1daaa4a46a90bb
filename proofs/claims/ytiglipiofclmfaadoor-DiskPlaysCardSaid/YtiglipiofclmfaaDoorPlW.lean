/- The walk of the law DiskPlays. -/
import Derived.Test.YtiglipiofclmfaaDoorBoth
import Derived.Test.YtiglipiofclmfaaDoorPlS
import Derived.Deep.RegionWith
import Derived.Deep.RegionHeld3
import Derived.Deep.CutBlock
import Derived.Deep.CutRange
namespace Go.Proofs.YtiglipiofclmfaaDoor
open Go.RowKit

/-- A step, as it is handed over. -/
structure StepV where
  what : Int
  at_ : Int
  b : ByteArray
  ka : Option Addr
  kc : Nat
  ks : List Bool
def StepV.cells (x : StepV) : Array Value := #[.int .i64 x.what, .int .i64 x.at_, .string x.b, .slice x.ka x.ks.length x.kc]
/-- A row of steps that is handed over, in blocks of P. -/
def StepsAt (P : Nat → Prop) (w : World) (a : Option Addr) (n : Nat) (st : Nat → StepV) : Prop :=
  ∀ i, i < n → ∃ g o, a = some ⟨g, o, none⟩ ∧ P g ∧ (w.cell? ⟨g, o + i * 4, none⟩ = some (.int .i64 (st i).what) ∧ w.cell? ⟨g, o + i * 4 + 1, none⟩ = some (.int .i64 (st i).at_) ∧ w.cell? ⟨g, o + i * 4 + 2, none⟩ = some (.string (st i).b) ∧ w.cell? ⟨g, o + i * 4 + 3, none⟩ = some (.slice (st i).ka (st i).ks.length (st i).kc))
    ∧ KeepP P w (st i).ka (st i).ks ∧ -9223372036854775808 ≤ (st i).what ∧ (st i).what ≤ 9223372036854775807 ∧ -9223372036854775808 ≤ (st i).at_ ∧ (st i).at_ ≤ 9223372036854775807 ∧ (st i).ks.length ≤ 9223372036854775807
theorem StepsAt.up {P : Nat → Prop} {w w2 : World} {a : Option Addr} {n : Nat} {st : Nat → StepV} (h : StepsAt P w a n st) (u : PUp P w w2) : StepsAt P w2 a n st := fun i hi => by
  obtain ⟨g, o, h1, h2, ⟨c0, c1, c2, c3⟩, hk, hb⟩ := h i hi
  exact ⟨g, o, h1, h2, ⟨(u.cell h2).trans c0, (u.cell h2).trans c1, (u.cell h2).trans c2, (u.cell h2).trans c3⟩, hk.up u, hb⟩
/-- Between two rounds. -/
structure Mid (P : Nat → Prop) (w0 w : World) (b r : Nat) (S : Dk) (m : Nat) : Prop where
  two : Both P w b r S S
  ok : S.Ok m
  up : PUp P w0 w
theorem Mid.kp0 {w wr : World} {b r : Nat} {S : Dk} {m : Nat} (h : Mid (fun x => x < w.heap.size) w wr b r S m) : Kp [] w wr := ⟨h.up.os, h.up.tape, h.up.output, h.up.size, fun k hk _ => h.up.block k hk⟩
/-- The box of a step. -/
structure BoxAt (w : World) (X : Nat) (v p : Int) (s : ByteArray) (ka : Option Addr) (kn kc : Nat) : Prop where
  c0 : w.cell? ⟨X, 0, none⟩ = some (.int .i64 v)
  c1 : w.cell? ⟨X, 1, none⟩ = some (.int .i64 p)
  c2 : w.cell? ⟨X, 2, none⟩ = some (.string s)
  c3 : w.cell? ⟨X, 3, none⟩ = some (.slice ka kn kc)
theorem BoxAt.new (w : World) (v p : Int) (s : ByteArray) (ka : Option Addr) (kn kc : Nat) : BoxAt (w.alloc (.cells #[.int .i64 v, .int .i64 p, .string s, .slice ka kn kc] 30)) w.heap.size v p s ka kn kc :=
  ⟨by simp, by simp, by simp, by simp⟩
theorem BoxAt.up {P : Nat → Prop} {w w2 : World} {X : Nat} {v p : Int} {s : ByteArray} {ka : Option Addr} {kn kc : Nat} (h : BoxAt w X v p s ka kn kc) (u : PUp P w w2) (hX : P X) : BoxAt w2 X v p s ka kn kc :=
  ⟨(u.cell hX).trans h.c0, (u.cell hX).trans h.c1, (u.cell hX).trans h.c2, (u.cell hX).trans h.c3⟩
theorem both_new {w w1 w2 : World} {r m : Nat} {P : Nat → Prop} {e : Ending} (hP : ∀ x, P x → x < w.heap.size) (h1 : Made m w e w1) (b' : Nat) (he : e = .returned (.pointer (some ⟨b', 0, none⟩)))
    (sv : Value) (h2 : RfAt w2 r sv (.slice none 0 0) (.slice none 0 0) (Dk.new m)) (k2 : Kp [] w1 w2) (hr : ∀ x ∈ rfoot r sv (.slice none 0 0) (.slice none 0 0), w1.heap.size ≤ x) (hm : 1 ≤ m) : Mid P w w2 b' r (Dk.new m) 0 := by
  obtain ⟨b1, bf, bc, e1, D, K, l1, l2, l3, l4, l5, l6⟩ := h1
  rw [he] at e1
  obtain rfl : b' = b1 := by simpa using e1
  have hf : ∀ x ∈ foot b' bf bc (.slice none 0 0), w.heap.size ≤ x ∧ x < w1.heap.size := fun x hx => by
    simp only [foot, Value.ownBlock, Option.toList_none, List.mem_cons, List.not_mem_nil, or_false] at hx
    rcases hx with rfl | rfl | rfl <;> omega
  refine ⟨⟨⟨bf, bc, _, sv, _, _, D.new k2, h2, fun x hx hm => ?_, fun x hx hp => ?_, fun x hx hp => ?_⟩, fun x hx => ?_⟩, Dk.Ok.new m hm, (K.trans k2).pup hP (fun x hx => by cases hx)⟩
  · have := hf x hx; have := hr x hm; omega
  · have := hf x hx; have := hP x hp; omega
  · have := hr x hx; have := hP x hp; have := K.size; omega
  · exact Nat.lt_of_lt_of_le (hP x hx) (K.trans k2).size
set_option maxHeartbeats 64000000 in
set_option maxRecDepth 100000 in
theorem plays_any (n : Int) (la : Option Addr) (ln lc : Nat) (st : Nat → StepV) (h0 : -9223372036854775808 ≤ n) (h9 : n ≤ 9223372036854775807) (w : World) (hg : 4 ≤ w.heap.size) (ht : Tab w) (hE : EHas w) (hst : StepsAt (fun x => x < w.heap.size) w la ln st) :
    Calls Tryd.prog 3 #[.int .i64 n, .slice la ln lc] w fun e w2 => e = .returned (.bool true) ∧ Kp [] w w2 := by
  have H0 : Hid (Kp [] w w) := Kp.refl [] w
  have HT := Lib.hid ht
  have HE := Lib.hid hE
  have HG := Lib.hid hg
  have HST := Lib.hid hst
  clear ht hE hg hst
  by_cases h1 : 60 < ln
  · have d1 : decide ((60 : Int) < (ln : Int)) = true := by simp; omega
    go_enter Tryd.func3, Tryd.ntmps3
    go_wp2_with fail
    refine Calls.mono (known_any _ HG.out HT.out) ?_
    rintro e x1 ⟨rfl, K⟩
    have H1 := Lib.hid (H0.out.trans K)
    clear K H0
    go_wp2_with fail
    go_ret
    exact ⟨rfl, H1.out⟩
  have d1 : decide ((60 : Int) < (ln : Int)) = false := by simp; omega
  by_cases h2 : 40 < n ∧ n < 1960
  · have d2 : decide ((40 : Int) < n) = true := by simp; omega
    have d3 : decide (n < 1960) = true := by simp; omega
    clear h2
    go_enter Tryd.func3, Tryd.ntmps3
    go_wp2_with fail
    refine Calls.mono (known_any _ HG.out HT.out) ?_
    rintro e x1 ⟨rfl, K⟩
    have H1 := Lib.hid (H0.out.trans K)
    clear K H0
    go_wp2_with fail
    go_ret
    exact ⟨rfl, H1.out⟩
  obtain ⟨z, hz⟩ : ∃ z, z = clampN n := ⟨_, rfl⟩
  have hz1 : 1 ≤ z ∧ z ≤ 2000 := by rw [hz]; exact clampN_le n
  have HZ := Lib.hid hz
  clear hz
  go_enter Tryd.func3, Tryd.ntmps3
  go_wp2_with fail
  refine Calls.mono (known_any _ HG.out HT.out) ?_
  rintro e x0 ⟨rfl, K⟩
  have H1 := Lib.hid (H0.out.trans K)
  clear K H0
  go_upto_region 3 with fail
  go_cut [26] from 16 (fun s26 wx => s26 = .bool false ∧ x0 = wx)
  case first =>
    by_cases h40 : 40 < n
    · have d2 : decide ((40 : Int) < n) = true := by simp; omega
      have d3 : decide (n < 1960) = false := by simp; omega
      go_wp2_with fail
      go_meet
      case rel => exact ⟨rfl, rfl⟩
    · have d2 : decide ((40 : Int) < n) = false := by simp; omega
      go_wp2_with fail
      go_meet
      case rel => exact ⟨rfl, rfl⟩
  case rest =>
    obtain ⟨rfl, rfl⟩ := hcut
    clear h2
    go_wp2_with fail
    refine Calls.mono (new_any n _ (Nat.le_trans HG.out H1.out.size)) ?_
    rintro e x1 hmade
    obtain ⟨b, hb⟩ : ∃ b, e = .returned (.pointer (some ⟨b, 0, none⟩)) := by obtain ⟨b, _, _, h, _⟩ := hmade; exact ⟨b, h⟩
    subst hb
    rw [← HZ.out] at hmade
    have HM := Lib.hid hmade
    have hx1 : x0.heap.size ≤ x1.heap.size := by obtain ⟨_, _, _, _, _, K, _⟩ := hmade; exact K.size
    have HX1 := Lib.hid hx1
    clear hmade hx1
    go_wp2_with fail
    refine Calls.mono (newref_any n _ (Nat.le_trans HG.out (Nat.le_trans H1.out.size HX1.out))) ?_
    rintro e x2 ⟨r, sv, rfl, hr, hk2, hrf⟩
    rw [← HZ.out] at hr
    have M0 : Hid (Mid (fun x => x < w.heap.size) w x2 b r (Dk.new z) 0) := by
      have M := both_new (P := fun x => x < w.heap.size) (fun x hx => Nat.lt_of_lt_of_le hx H1.out.size) HM.out b rfl sv hr hk2 hrf hz1.1
      exact ⟨M.two, M.ok, (H1.out.pup (P := fun x => x < w.heap.size) (fun x hx => hx) (fun x hx => by cases hx)).trans M.up⟩
    clear hr hk2 hrf HM HX1 H1
    go_wp2_with fail
    go_loopw [7] (fun i wr => ∃ (m : Nat) (S : Dk), m ≤ ln ∧ i = .int .i64 (m : Int) ∧ Hid (Mid (fun x => x < w.heap.size) w wr b r S m)) (fun i _ => ln - (intOf i).toNat)
    case atStart => exact ⟨0, _, Nat.zero_le _, rfl, M0⟩
    case round =>
      clear M0 HZ hz1
      obtain ⟨m, S, hm, rfl, HM⟩ := hrel
      by_cases hlt : m < ln
      · have l1 : decide (m < ln) = true := by simpa using hlt
        obtain ⟨g, o, hla, hgP, ⟨cc0, cc1, cc2, cc3⟩, hks, hb1, hb2, hb3, hb4, hb5⟩ := (HST.out.up HM.out.up) m hlt
        obtain ⟨v, hv⟩ : ∃ v, v = (st m).what := ⟨_, rfl⟩
        obtain ⟨p, hp⟩ : ∃ p, p = (st m).at_ := ⟨_, rfl⟩
        obtain ⟨s, hs⟩ : ∃ s, s = (st m).b := ⟨_, rfl⟩
        obtain ⟨ka, hka⟩ : ∃ ka, ka = (st m).ka := ⟨_, rfl⟩
        obtain ⟨kc, hkc⟩ : ∃ kc, kc = (st m).kc := ⟨_, rfl⟩
        obtain ⟨ks, hkk⟩ : ∃ ks, ks = (st m).ks := ⟨_, rfl⟩
        rw [← hv] at cc0 hb1 hb2
        rw [← hp] at cc1 hb3 hb4
        rw [← hs] at cc2
        rw [← hka, ← hkk, ← hkc] at cc3
        rw [← hka, ← hkk] at hks
        rw [← hkk] at hb5
        have HKS := Lib.hid hks
        obtain rfl := hla
        have HgP := Lib.hid hgP
        clear hks hgP hv hp hs hka hkc hkk
        by_cases h200 : 200 < s.size
        · have e1 : decide ((200 : Int) < (s.size : Int)) = true := by simp; omega
          go_wp2_with fail
          go_ret
          exact ⟨rfl, HM.out.kp0.alloc _⟩
        have e1 : decide ((200 : Int) < (s.size : Int)) = false := by simp; omega
        by_cases h80 : 80 < ks.length
        · have e2 : decide ((80 : Int) < (ks.length : Int)) = true := by simp; omega
          go_wp2_with fail
          go_ret
          exact ⟨rfl, HM.out.kp0.alloc _⟩
        have e2 : decide ((80 : Int) < (ks.length : Int)) = false := by simp; omega
        obtain ⟨X, hX⟩ : ∃ X, X = wr.heap.size := ⟨_, rfl⟩
        have M1 := Lib.hid (HM.out.two.more (.cells #[.int .i64 v, .int .i64 p, .string s, .slice ka ks.length kc] 30))
        have U1 : Hid (PUp (fun x => x < w.heap.size) w (wr.alloc (.cells #[.int .i64 v, .int .i64 p, .string s, .slice ka ks.length kc] 30))) := HM.out.up.trans (((Kp.refl [] wr).alloc _).pup HM.out.two.lt (fun x hx => by cases hx))
        have OK := Lib.hid HM.out.ok
        have KS1 : Hid (KeepP (fun x => x < w.heap.size) (wr.alloc (.cells #[.int .i64 v, .int .i64 p, .string s, .slice ka ks.length kc] 30)) ka ks) := HKS.out.up (((Kp.refl [] wr).alloc _).pup HM.out.two.lt (fun x hx => by cases hx))
        have cX : Hid (BoxAt (wr.alloc (.cells #[.int .i64 v, .int .i64 p, .string s, .slice ka ks.length kc] 30)) X v p s ka ks.length kc) := by rw [hX]; exact BoxAt.new wr _ _ _ _ _ _
        rw [← hX] at M1
        go_upto_block 2 with fail
        rw [← hX]
        generalize hW : World.alloc _ _ = wX at *
        have hPl : ∀ x, x < 4 → (x < w.heap.size ∨ x = X) := fun x hx => .inl (Nat.lt_of_lt_of_le hx HG.out)
        have TX := Lib.hid (U1.out.tab (fun x hx => Nat.lt_of_lt_of_le hx HG.out) HT.out)
        have EX := Lib.hid (U1.out.has (fun x hx => Nat.lt_of_lt_of_le hx HG.out) HE.out)
        have HPl := Lib.hid hPl
        have hSm := Lib.hid (OK.out.small (by omega))
        clear hPl hW hX
        go_cut [] from 31 to 161 (fun wx => ∃ S2 : Dk, Hid (S2.Ok (m + 1)) ∧ Hid (Both (fun x => x < w.heap.size ∨ x = X) wx b r S2 S2) ∧ Hid (PUp (fun x => x < w.heap.size) w wx))
        case first =>
          rcases (show v ≤ 5 ∨ (5 < v ∧ v ≤ 7 ∧ S.dead = true) ∨ (5 < v ∧ v ≤ 7 ∧ S.dead = false) ∨ v = 8 ∨ (7 < v ∧ v ≠ 8) by cases S.dead <;> simp <;> omega) with h5 | ⟨h5, h7, hd⟩ | ⟨h5, h7, hd⟩ | h8 | ⟨h7, h8⟩
          · have e3 : decide (v ≤ 5) = true := by simpa using h5
            clear h5
            try (have HD := Lib.hid hd; clear hd)
            have y0 := cX.out.c0
            have y1 := cX.out.c1
            have y2 := cX.out.c2
            have y3 := cX.out.c3
            go_wp2_with fail
            clear y0 y1 y2 y3
            have BD := Lib.hid (M1.out.keep ((Kp.refl [] wX).drew)).1
            have q1 : wX.drew.cell? ⟨X, 1, none⟩ = some (.int .i64 p) := cX.out.c1
            have q2 : wX.drew.cell? ⟨X, 2, none⟩ = some (.string s) := cX.out.c2
            focus
              go_region_held3 (fun w' => w'.cell? ⟨X, 1, none⟩ = some (.int .i64 p) ∧ w'.cell? ⟨X, 2, none⟩ = some (.string s)) (first | exact ⟨q1, q2⟩ | exact ⟨q3, q4⟩ | exact ⟨q5, q6⟩ | exact ⟨q7, q8⟩) (first | (go_at_call 8; refine Calls.mono (two_write BD.out p s hb3 hb4 (TX.out) hSm.out) ?_; rintro e x3 ⟨⟨v1, rfl, ha⟩, B2, U2⟩; have q3 : x3.cell? ⟨X, 1, none⟩ = some (.int .i64 p) := (U2.cell (.inr rfl)).trans q1; have q4 : x3.cell? ⟨X, 2, none⟩ = some (.string s) := (U2.cell (.inr rfl)).trans q2; have HB2 := Lib.hid B2; have HU2 := Lib.hid U2; have Ha := Lib.hid ha; clear B2 U2 ha) | (go_at_call 7; refine Calls.mono (two_code _ v1 Ha.out _ (HU2.out.has HPl.out EX.out)) ?_; rintro e x4 ⟨rfl, K⟩; have HB3 := Lib.hid (HB2.out.keep K).1; have HU3 := Lib.hid (HU2.out.trans (HB2.out.keep K).2); have q5 : x4.cell? ⟨X, 1, none⟩ = some (.int .i64 p) := ((HB2.out.keep K).2.cell (.inr rfl)).trans q3; have q6 : x4.cell? ⟨X, 2, none⟩ = some (.string s) := ((HB2.out.keep K).2.cell (.inr rfl)).trans q4; clear K) | (go_at_call 9; refine Calls.mono (two_rwrite HB3.out p s hSm.out) ?_; rintro e x5 ⟨rfl, B4, U4⟩; have q7 : x5.cell? ⟨X, 1, none⟩ = some (.int .i64 p) := (U4.cell (.inr rfl)).trans q5; have q8 : x5.cell? ⟨X, 2, none⟩ = some (.string s) := (U4.cell (.inr rfl)).trans q6; have HB4 := Lib.hid B4; have HU4 := Lib.hid (HU3.out.trans U4); clear B4 U4))
            go_wp2_with fail
            have HBE := HB4
            have HUE : Hid (PUp (fun x => x < w.heap.size) w x5) := U1.out.trans (((M1.out.keep ((Kp.refl [] wX).drew)).2.trans HU4.out).mono (fun x hx => .inl hx))
            obtain ⟨S2, hS2⟩ : ∃ S2, S2 = S.wrote p s := ⟨_, rfl⟩
            have OKE : Hid (S2.Ok (m + 1)) := by rw [hS2]; exact OK.out.wrote p s
            rw [← hS2] at HBE
            clear q1 q2 q3 q4 q5 q6 q7 q8 HB2 HU2 HU3 HB3 HB4 HU4 Ha BD hS2
            go_meet
            case rel => exact ⟨S2, OKE, HBE, HUE⟩
          · have e3 : decide (v ≤ 5) = false := by simp; omega
            have e4 : decide (v ≤ 7) = true := by simpa using h7
            clear h5 h7
            try (have HD := Lib.hid hd; clear hd)
            have y0 := cX.out.c0
            have y1 := cX.out.c1
            have y2 := cX.out.c2
            have y3 := cX.out.c3
            go_wp2_with fail
            clear y0 y1 y2 y3
            refine Calls.mono (two_flush_dead M1.out HD.out) ?_
            rintro e x3 ⟨⟨v1, rfl, ha⟩, B2, U2⟩
            have HB2 := Lib.hid B2
            have HU2 := Lib.hid U2
            have Ha := Lib.hid ha
            obtain ⟨y, rfl⟩ := isref_iface ha
            clear B2 U2 ha
            go_wp2_with fail
            refine Calls.mono (two_code 25 _ (.inr ⟨Ha.out, by decide⟩) _ (HU2.out.has HPl.out EX.out)) ?_
            rintro e x5 ⟨rfl, K⟩
            have HB3 := Lib.hid (HB2.out.keep K).1
            have HU3 := Lib.hid (HU2.out.trans (HB2.out.keep K).2)
            clear K
            go_wp2_with fail
            refine Calls.mono (two_rflush_dead HB3.out HD.out) ?_
            rintro e x6 ⟨rfl, rfl⟩
            go_wp2_with fail
            have HBE := HB3
            have HUE : Hid (PUp (fun x => x < w.heap.size) w x5) := U1.out.trans (HU3.out.mono (fun x hx => .inl hx))
            obtain ⟨S2, hS2⟩ : ∃ S2, S2 = S := ⟨_, rfl⟩
            have OKE : Hid (S2.Ok (m + 1)) := by rw [hS2]; exact OK.out.more
            rw [← hS2] at HBE
            clear HB2 HU2 HU3 HB3 Ha hS2
            go_meet
            case rel => exact ⟨S2, OKE, HBE, HUE⟩
          · have e3 : decide (v ≤ 5) = false := by simp; omega
            have e4 : decide (v ≤ 7) = true := by simpa using h7
            clear h5 h7
            try (have HD := Lib.hid hd; clear hd)
            have y0 := cX.out.c0
            have y1 := cX.out.c1
            have y2 := cX.out.c2
            have y3 := cX.out.c3
            go_wp2_with fail
            clear y0 y1 y2 y3
            refine Calls.mono (two_flush M1.out HD.out hSm.out) ?_
            rintro e x3 ⟨rfl, B2, U2⟩
            have HB2 := Lib.hid B2
            have HU2 := Lib.hid U2
            clear B2 U2
            go_wp2_with fail
            refine Calls.mono (code_nil _) ?_
            rintro e x4 ⟨rfl, K⟩
            have HB3 := Lib.hid (HB2.out.keep K).1
            have HU3 := Lib.hid (HU2.out.trans (HB2.out.keep K).2)
            clear K
            go_wp2_with fail
            refine Calls.mono (two_rflush HB3.out HD.out hSm.out OK.out.n1) ?_
            rintro e x5 ⟨rfl, B4, U4⟩
            have HBE := Lib.hid B4
            have HUE : Hid (PUp (fun x => x < w.heap.size) w x5) := U1.out.trans ((HU3.out.trans U4).mono (fun x hx => .inl hx))
            clear B4 U4
            go_wp2_with fail
            obtain ⟨S2, hS2⟩ : ∃ S2 : Dk, S2 = { S with F := lay S.F S.L, L := [] } := ⟨_, rfl⟩
            have OKE : Hid (S2.Ok (m + 1)) := by rw [hS2]; exact OK.out.flush
            rw [← hS2] at HBE
            clear HB2 HU2 HU3 HB3 hS2
            go_meet
            case rel => exact ⟨S2, OKE, HBE, HUE⟩
          · have e3 : decide (v ≤ 5) = false := by simp; omega
            have e4 : decide (v ≤ 7) = false := by simp; omega
            have e5 : (v == 8) = true := by simpa using h8
            clear h8
            try (have HD := Lib.hid hd; clear hd)
            have y0 := cX.out.c0
            have y1 := cX.out.c1
            have y2 := cX.out.c2
            have y3 := cX.out.c3
            go_wp2_with fail
            clear y0 y1 y2 y3
            refine Calls.mono (two_cut M1.out p) ?_
            rintro e x3 ⟨rfl, B2, U2⟩
            have HB2 := Lib.hid B2
            have HU2 := Lib.hid U2
            have q1 : x3.cell? ⟨X, 1, none⟩ = some (.int .i64 p) := (U2.cell (.inr rfl)).trans cX.out.c1
            clear B2 U2
            go_wp2_with fail
            refine Calls.mono (two_rcut HB2.out p) ?_
            rintro e x5 ⟨rfl, B4, U4⟩
            have HBE := Lib.hid B4
            have HUE : Hid (PUp (fun x => x < w.heap.size) w x5) := U1.out.trans ((HU2.out.trans U4).mono (fun x hx => .inl hx))
            clear B4 U4
            go_wp2_with fail
            obtain ⟨S2, hS2⟩ : ∃ S2, S2 = S.cutAt p := ⟨_, rfl⟩
            have OKE : Hid (S2.Ok (m + 1)) := by rw [hS2]; exact OK.out.cutAt p hb4
            rw [← hS2] at HBE
            clear HB2 HU2 hS2 q1
            go_meet
            case rel => exact ⟨S2, OKE, HBE, HUE⟩
          · have e3 : decide (v ≤ 5) = false := by simp; omega
            have e4 : decide (v ≤ 7) = false := by simp; omega
            have e5 : (v == 8) = false := by simpa using h8
            clear h7 h8
            try (have HD := Lib.hid hd; clear hd)
            have y0 := cX.out.c0
            have y1 := cX.out.c1
            have y2 := cX.out.c2
            have y3 := cX.out.c3
            go_wp2_with fail
            clear y0 y1 y2 y3
            have KP : Hid (KeepP (fun x => x < w.heap.size ∨ x = X) wX ka ks) := fun i hi => by
              obtain ⟨kb, ko, a1, a2, a3⟩ := KS1.out i hi
              exact ⟨kb, ko, a1, .inl a2, a3⟩
            refine Calls.mono (two_crash M1.out hSm.out ka kc ks KP.out p) ?_
            rintro e x3 ⟨rfl, B2, U2⟩
            have HB2 := Lib.hid B2
            have HU2 := Lib.hid U2
            have q1 : x3.cell? ⟨X, 1, none⟩ = some (.int .i64 p) := (U2.cell (.inr rfl)).trans cX.out.c1
            have q3 : x3.cell? ⟨X, 3, none⟩ = some (.slice ka ks.length kc) := (U2.cell (.inr rfl)).trans cX.out.c3
            clear B2 U2
            go_wp2_with fail
            refine Calls.mono (two_rcrash HB2.out hSm.out OK.out.n1 ka kc ks (KP.out.up HU2.out) p) ?_
            rintro e x5 ⟨rfl, B4, U4⟩
            have HBE := Lib.hid B4
            have HUE : Hid (PUp (fun x => x < w.heap.size) w x5) := U1.out.trans ((HU2.out.trans U4).mono (fun x hx => .inl hx))
            clear B4 U4
            go_wp2_with fail
            obtain ⟨S2, hS2⟩ : ∃ S2, S2 = S.crash ks p := ⟨_, rfl⟩
            have OKE : Hid (S2.Ok (m + 1)) := by rw [hS2]; exact OK.out.crash ks p
            rw [← hS2] at HBE
            clear HB2 HU2 hS2 q1 q3 KP
            go_meet
            case rel => exact ⟨S2, OKE, HBE, HUE⟩
        case rest =>
          obtain ⟨S2, OKE, HBE, HUE⟩ := hcut
          clear M1 U1 OK KS1 cX TX EX hSm HKS
          have HN := Lib.hid OKE.out.n1
          obtain ⟨⟨bf, bc, lv, sv, av, bv, D, R, z1, z2, z3⟩, z4⟩ := HBE.out
          obtain ⟨⟨sa, sc, rfl⟩, ⟨aa, ac, rfl⟩, ⟨ba, bc2, rfl⟩⟩ := R.form
          have r0 := R.c0
          have r1 := R.c1
          have r3 := R.c3
          have r5 := R.c5
          have len_q : Hid (∀ nq, Calls Tryd.prog 16 #[.pointer (some ⟨b, 0, none⟩)] (wc.drewN nq) fun e w' => e = .returned (.int .i64 (S2.n : Int)) ∧ w' = wc.drewN nq) := fun nq => (len_any b S2.n S2.n _ (wc.drewN nq) (D.new ((Kp.refl [] wc).drewN nq)).c1).mono fun _ _ ⟨h1, h2⟩ => ⟨h1, h2.symm⟩
          have wr_q : Hid (∀ nq, Calls Tryd.prog 17 #[.pointer (some ⟨b, 0, none⟩)] (wc.drewN nq) fun e w' => e = .returned (.int .i64 (S2.writes : Int)) ∧ w' = wc.drewN nq) := fun nq => (writes_any b S2.writes (wc.drewN nq) (D.new ((Kp.refl [] wc).drewN nq)).c3).mono fun _ _ ⟨h1, h2⟩ => ⟨h1, h2.symm⟩
          have lo_q : Hid (∀ nq, Calls Tryd.prog 18 #[.pointer (some ⟨b, 0, none⟩)] (wc.drewN nq) fun e w' => e = .returned (.int .i64 (S2.L.length : Int)) ∧ w' = wc.drewN nq) := fun nq => by
            obtain ⟨a0, cap0, e0⟩ := D.form
            exact (loose_any b S2.L.length cap0 a0 (wc.drewN nq) (by rw [← e0]; exact (D.new ((Kp.refl [] wc).drewN nq)).c2)).mono fun _ _ ⟨h1, h2⟩ => ⟨h1, h2.symm⟩
          clear D R z1 z2 z3 z4
          cases hdd : S2.dead
          all_goals
            rw [hdd] at r5
            have HDD := Lib.hid hdd
            clear hdd
            go_wp2_with fail
            refine wp_region_quiet_lit (by kernel_rfl) (by kernel_rfl) ?_
            first | quiet_step (fail) | go_big_quiet_step (fail)
            first | quiet_step ((go_at_call 16; exact Calls.quiet_of_same (len_q.out _))) | go_big_quiet_step (fail)
            first | quiet_step (fail) | go_big_quiet_step (fail)
            first | quiet_step (fail) | go_big_quiet_step (fail)
            first | quiet_step (fail) | go_big_quiet_step (fail)
            first | quiet_step (fail) | go_big_quiet_step (fail)
            first | quiet_step (fail) | go_big_quiet_step (fail)
            first | quiet_step (fail) | go_big_quiet_step (fail)
            first | quiet_step (fail) | go_big_quiet_step (fail)
            first | quiet_step (fail) | go_big_quiet_step (fail)
            first | quiet_step ((go_at_call 17; exact Calls.quiet_of_same (wr_q.out _))) | go_big_quiet_step (fail)
            first | quiet_step (fail) | go_big_quiet_step (fail)
            first | quiet_step (fail) | go_big_quiet_step (fail)
            first | quiet_step (fail) | go_big_quiet_step (fail)
            first | quiet_step (fail) | go_big_quiet_step (fail)
            first | quiet_step (fail) | go_big_quiet_step (fail)
            first | quiet_step (fail) | go_big_quiet_step (fail)
            first | quiet_step (fail) | go_big_quiet_step (fail)
            first | quiet_step (fail) | go_big_quiet_step (fail)
            first | quiet_step (fail) | go_big_quiet_step (fail)
            first | quiet_step (fail) | go_big_quiet_step (fail)
            first | quiet_step (fail) | go_big_quiet_step (fail)
            first | quiet_step (fail) | go_big_quiet_step (fail)
            first | quiet_step (fail) | go_big_quiet_step (fail)
            first | go_big_quiet_skip | quiet_step (fail) | go_big_quiet_step (fail)
            first | go_big_quiet_skip | quiet_step ((go_at_call 18; exact Calls.quiet_of_same (lo_q.out _))) | go_big_quiet_step (fail)
            first | go_big_quiet_skip | quiet_step (fail) | go_big_quiet_step (fail)
            first | go_big_quiet_skip | quiet_step (fail) | go_big_quiet_step (fail)
            first | go_big_quiet_skip | quiet_step (fail) | go_big_quiet_step (fail)
            first | go_big_quiet_skip | quiet_step (fail) | go_big_quiet_step (fail)
            first | go_big_quiet_skip | quiet_step (fail) | go_big_quiet_step (fail)
            first | go_big_quiet_skip | quiet_step (fail) | go_big_quiet_step (fail)
            first | go_big_quiet_skip | quiet_step (fail) | go_big_quiet_step (fail)
            first | go_big_quiet_skip | quiet_step (fail) | go_big_quiet_step (fail)
            refine wpQuiet_nil ?_
            intro _ hw'
            obtain ⟨nq, hw''⟩ := hw'
            subst hw''
            have BF := Lib.hid (HBE.out.keep ((Kp.refl [] wc).drewN nq)).1
            have UF : Hid (PUp (fun x => x < w.heap.size) w (wc.drewN nq)) := HUE.out.trans ((HBE.out.keep ((Kp.refl [] wc).drewN nq)).2.mono (fun x hx => .inl hx))
            clear len_q wr_q lo_q r0 r1 r3 r5 HBE HUE
            go_wp2_with fail
            go_loopw [9] (fun i w3 => ∃ (q : Int), -1 ≤ q ∧ q ≤ 41 ∧ i = .int .i64 q ∧ Hid (Both (fun x => x < w.heap.size ∨ x = X) w3 b r S2 S2) ∧ Hid (PUp (fun x => x < w.heap.size) w w3)) (fun i _ => (41 - intOf i).toNat)
            case atStart => exact ⟨-1, by omega, by omega, rfl, BF, UF⟩
            case round =>
              clear BF UF
              obtain ⟨q, hq1, hq2, rfl, HB, HU⟩ := hrel
              by_cases hq : q ≤ 40
              · have j1 : decide (q ≤ 40) = true := by simpa using hq
                have t1 := two_read HB.out q (by omega) (by omega) (HU.out.tab (fun x hx => Nat.lt_of_lt_of_le hx HG.out) HT.out)
                obtain ⟨t, ht⟩ : ∃ t, t = S2.lbytes q := ⟨_, rfl⟩
                obtain ⟨c, hc⟩ : ∃ c, c = S2.rerr q := ⟨_, rfl⟩
                rw [OKE.out.same q, ← ht, ← hc] at t1
                have T1 := Lib.hid t1
                have HTC := Lib.hid (And.intro ht hc)
                clear t1 ht hc
                go_wp2_with fail
                refine Calls.mono T1.out ?_
                rintro e x7 ⟨⟨v1, rfl, ha⟩, B2, U2⟩
                have HB2 := Lib.hid B2
                have HU2 : Hid (PUp (fun x => x < w.heap.size) w x7) := HU.out.trans (U2.mono (fun x hx => .inl hx))
                have Ha := Lib.hid ha
                clear T1 B2 U2 ha HB HU
                go_wp2_with fail
                have t2 := two_rread HB2.out q (OKE.out.small (by omega))
                rw [← HTC.out.1, ← HTC.out.2] at t2
                refine Calls.mono t2 ?_
                rintro e x8 ⟨rfl, rfl⟩
                clear t2
                go_wp2_with fail
                refine Calls.mono (two_code c v1 Ha.out _ (HU2.out.has (fun x hx => Nat.lt_of_lt_of_le hx HG.out) HE.out)) ?_
                rintro e x9 ⟨rfl, K⟩
                have HB3 := Lib.hid (HB2.out.keep K).1
                have HU3 : Hid (PUp (fun x => x < w.heap.size) w x9) := HU2.out.trans ((HB2.out.keep K).2.mono (fun x hx => .inl hx))
                clear K HB2 HU2
                go_wp2_with fail
                go_roundw
                case rel => exact ⟨q + 1, by omega, by omega, rfl, HB3, HU3⟩
                case measure => simp [intOf]; omega
              · have j1 : decide (q ≤ 40) = false := by simpa using hq
                go_wp2_with fail
                go_roundw
                case rel => exact ⟨m + 1, S2, by omega, by go_num, ⟨HB.out.less (fun x hx => .inl hx), OKE.out, HU.out⟩⟩
                case measure => simp [intOf]; omega
      · have l1 : decide (m < ln) = false := by simpa using hlt
        go_wp2_with fail
        go_ret
        exact ⟨rfl, HM.out.kp0⟩
end Go.Proofs.YtiglipiofclmfaaDoor
