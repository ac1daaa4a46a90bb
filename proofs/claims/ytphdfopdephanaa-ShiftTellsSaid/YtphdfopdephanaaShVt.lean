/- The law ShiftTells: its walk. -/
import Derived.Test.YtphdfopdephanaaShZ
namespace Go.Proofs.Ytphdfopdephanaa
open Go.RowKit Go.ChangeMaps

theorem StrsAt.up {w : World} {B B2 : Nat} {a : Option Addr} {n : Nat} {sx : Nat → ByteArray} (h : StrsAt w B a n sx) (hB : B ≤ B2) : StrsAt w B2 a n sx := fun i hi => by
  obtain ⟨g, o, h1, h2, h3⟩ := h i hi
  exact ⟨g, o, h1, Nat.lt_of_lt_of_le h2 hB, h3⟩
set_option maxHeartbeats 6400000 in
theorem tells_any (s u : ByteArray) (i0 j0 k0 : Nat) (hi0 : i0 < 256) (hj0 : j0 < 256) (hk0 : k0 < 256) (nm : ByteArray) (a0 : Option Addr) (n0 c0 : Nat) (sx : Nat → ByteArray) (Hs : s.size ≤ 1000000000000000) (Hu : u.size ≤ 1000000000000000) (hsx : ∀ i, i < n0 → (sx i).size ≤ 1000000000000000) (w : World) (hS : StrsAt w w.heap.size a0 n0 sx) :
    Calls Try.prog 3 #[.string s, .string u, .int .u8 (i0 : Int), .int .u8 (j0 : Int), .int .u8 (k0 : Int), .string nm, .slice a0 n0 c0] w (YesPost w) := by
  have HX := Lib.hid hsx
  have HS := Lib.hid hS
  clear hsx hS
  have K : Hid (Kp [] w w) := Kp.refl [] w
  go_enter Try.func3, Try.ntmps3
  go_wp2_with fail
  refine Calls.mono (known_any _) ?_
  rintro e w1 ⟨rfl, kk⟩
  replace K := Lib.hid (K.out.trans kk)
  clear kk
  go_wp2_with fail
  refine Calls.mono (hterm_any s Hs _) ?_
  rintro e w2 ⟨qt, rfl, kk, tt⟩
  replace K := Lib.hid (K.out.trans kk)
  have Rt : Hid (RT w2 qt) := tt
  clear kk tt
  go_wp2_with fail
  refine Calls.mono (hterm_any u Hu _) ?_
  rintro e w3 ⟨qx, rfl, kk, tt⟩
  replace K := Lib.hid (K.out.trans kk)
  replace Rt := Lib.hid (Rt.out.kp kk)
  have Rx : Hid (RT w3 qx) := tt
  clear kk tt
  rcases Rt.out with h | ⟨t, ht⟩
  · subst h
    clear Rt Rx
    go_wp2_with fail
    go_ret
    exact ⟨rfl, K.out⟩
  obtain ⟨gt, rfl⟩ := ht.some
  have Tt := Lib.hid ht.tok
  clear Rt ht
  rcases Rx.out with h | ⟨x, hx⟩
  · subst h
    clear Rx
    go_wp2_with fail
    go_ret
    exact ⟨rfl, K.out⟩
  obtain ⟨gx, rfl⟩ := hx.some
  have Tx := Lib.hid hx.tok
  clear Rx hx
  by_cases hnm : 40 < nm.size
  · have d1 : decide ((40 : Int) < (nm.size : Int)) = true := by simp; omega
    have d1' : decide (40 < nm.size) = true := by simpa using hnm
    go_wp2_with fail
    go_ret
    exact ⟨rfl, K.out⟩
  have d1 : decide ((40 : Int) < (nm.size : Int)) = false := by simp; omega
  have d1' : decide (40 < nm.size) = false := by simpa using hnm
  by_cases hln : 6 < n0
  · have d2 : decide ((6 : Int) < (n0 : Int)) = true := by simp; omega
    have d2' : decide (6 < n0) = true := by simpa using hln
    go_wp2_with fail
    go_ret
    exact ⟨rfl, K.out⟩
  have d2 : decide ((6 : Int) < (n0 : Int)) = false := by simp; omega
  have d2' : decide (6 < n0) = false := by simpa using hln
  have HLn : Hid (n0 ≤ 6) := by show n0 ≤ 6; omega
  clear hnm hln
  go_wp2_with fail
  refine Calls.mono (light_any Tt.out.at' Tx.out.at' Tx.out.at') ?_
  rintro e w4 ⟨b, rfl, rfl⟩
  cases b
  · go_wp2_with fail
    go_ret
    exact ⟨rfl, K.out⟩
  go_wp2_with fail
  clear d1 d1' d2 d2'
  refine Calls.mono (terms_any a0 n0 c0 HLn.out sx HX.out _ ((HS.out.kp K.out (Nat.le_refl _)).up K.out.size)) ?_
  rintro e w5 ⟨va, m, vc, ps, l, rfl, kk, hm, tt⟩
  replace K := Lib.hid (K.out.trans kk)
  replace Tt := Lib.hid (Tt.out.kp kk)
  replace Tx := Lib.hid (Tx.out.kp kk)
  have TV : Hid (∃ B, TRow w5 B (.slice va m vc) ps l) := ⟨_, tt⟩
  have HM : Hid (m ≤ 6) := Nat.le_trans hm HLn.out
  have HAll := Lib.hid tt.all
  clear kk tt hm
  go_wp2_with fail
  go_loopw [18] (fun i wr => ∃ k : Nat, k ≤ m ∧ i = .int .i64 (k : Int) ∧ Hid (Kp [] w5 wr)) (fun i _ => m - (intOf i).toNat)
  case atStart => exact ⟨0, Nat.zero_le _, rfl, Kp.refl [] w5⟩
  case round =>
    obtain ⟨k, hk, rfl, HKr⟩ := hrel
    by_cases hlt : k < m
    · have l1 : decide ((k : Int) < (m : Int)) = true := by simpa using hlt
      have Hlt := Lib.hid hlt
      have hk9 : k ≤ 6 := by have := HM.out; omega
      obtain ⟨BB, hrow⟩ := TV.out
      have hrow := hrow.kp HKr.out
      have hterms := hrow.terms
      have hkl : k < ps.length := by rw [hterms.len]; exact hlt
      have hkm : k < l.length := by rw [hterms.lenm]; exact hlt
      obtain ⟨g, o, hva, _, hcell⟩ := hterms.row k ps[k] (List.getElem?_eq_getElem hkl)
      have htm := hterms.trm k ps[k] l[k] (List.getElem?_eq_getElem hkl) (List.getElem?_eq_getElem hkm)
      subst hva
      have LI : Hid (∀ W, Kp [] wr W → Calls Try.prog 10 #[.pointer (some ⟨gt, 0, none⟩), .pointer ps[k], .pointer ps[k]] W (AnyBool W)) := fun W KW => light_any (TmAt.kp (HKr.out.trans KW) Tt.out.at') (TmAt.kp KW htm) (TmAt.kp KW htm)
      have CE : Hid (∀ W, Kp [] wr W → W.cell? ⟨g, o + k, none⟩ = some (.pointer ps[k])) := fun W KW => (KW.cell0 (World.block_lt_of_cell? wr _ hcell)).trans hcell
      have Kd : Hid (Kp [] wr wr.drew) := (Kp.refl [] wr).drew
      generalize ps[k] = qk at *
      clear hrow hterms hkl hkm htm
      go_wp2_with fail
      go_region_held3 (fun w' => w'.cell? ⟨g, o + k, none⟩ = some (.pointer qk)) (exact CE.out _ Kd.out) ((go_at_call 10; refine Calls.mono (LI.out _ Kd.out) ?_; rintro e w9 ⟨b, rfl, rfl⟩))
      all_goals
        cases b
        · go_wp2_with fail
          go_ret
          exact ⟨rfl, (K.out.trans HKr.out).drew⟩
        · go_wp2_with fail
          go_roundw
          case rel => exact ⟨k + 1, Hlt.out, by go_num, HKr.out.drew⟩
          case measure => have := Hlt.out; simp [intOf]; omega
    · have l1 : decide ((k : Int) < (m : Int)) = false := by simpa using hlt
      have l1' : decide (k < m) = false := by simpa using hlt
      have kk := HKr.out
      clear hlt hk
      have TVr : Hid (TermsAt w5 va m ps l) := by obtain ⟨B, h⟩ := TV.out; exact h.terms
      replace K := Lib.hid (K.out.trans kk)
      replace Tt := Lib.hid (Tt.out.kp kk)
      replace Tx := Lib.hid (Tx.out.kp kk)
      replace TVr := Lib.hid (TVr.out.kp kk)
      clear kk TV HKr
      obtain ⟨kI, hkI⟩ : ∃ k : Int, k = (i0 : Int) % 20 := ⟨_, rfl⟩
      have ek : (i0 : Int) % 20 = kI := hkI.symm
      obtain ⟨mI, hmI⟩ : ∃ k : Int, k = (j0 : Int) % 20 := ⟨_, rfl⟩
      have em : (j0 : Int) % 20 = mI := hmI.symm
      obtain ⟨nI, hnI⟩ : ∃ k : Int, k = (k0 : Int) % 20 := ⟨_, rfl⟩
      have en : (k0 : Int) % 20 = nI := hnI.symm
      have HB : Hid ((0 ≤ kI ∧ kI ≤ 19) ∧ (0 ≤ mI ∧ mI ≤ 19) ∧ (0 ≤ nI ∧ nI ≤ 19)) := by refine ⟨⟨?_, ?_⟩, ⟨?_, ?_⟩, ?_, ?_⟩ <;> omega
      clear hkI hmI hnI
      go_wp2_with fail
      refine Calls.mono (lift_ok Tt.out kI mI (by decide) (by decide) (by decide) (by have := HB.out; omega) (by have := HB.out; omega) (by have := HB.out; omega) (by have := HB.out; omega)) ?_
      rintro e w6 ⟨qA, rfl, kk, tt⟩
      replace K := Lib.hid (K.out.trans kk)
      replace Tt := Lib.hid (Tt.out.kp kk)
      replace Tx := Lib.hid (Tx.out.kp kk)
      replace TVr := Lib.hid (TVr.out.kp kk)
      have TA := Lib.hid tt
      clear kk tt
      go_wp2_with fail
      refine Calls.mono (rlift_any kI (by have := HB.out; omega) (by have := HB.out; omega) (by decide) Tt.out.ok _ mI _ (by have := HB.out; omega) (by have := HB.out; have := Tt.out.ht; omega) Tt.out.at') ?_
      rintro e w7 ⟨qB, rfl, kk, tt⟩
      replace K := Lib.hid (K.out.trans kk)
      replace Tt := Lib.hid (Tt.out.kp kk)
      replace Tx := Lib.hid (Tx.out.kp kk)
      replace TVr := Lib.hid (TVr.out.kp kk)
      replace TA := Lib.hid (TA.out.kp kk)
      have TB := Lib.hid tt
      clear kk tt
      go_wp2_with fail
      refine Calls.mono (same_yes rfl TA.out.at' TB.out) ?_
      rintro e w8 ⟨rfl, kk⟩
      replace K := Lib.hid (K.out.trans kk)
      replace Tt := Lib.hid (Tt.out.kp kk)
      replace Tx := Lib.hid (Tx.out.kp kk)
      replace TVr := Lib.hid (TVr.out.kp kk)
      replace TA := Lib.hid (TA.out.kp kk)
      replace TB := Lib.hid (TB.out.kp kk)
      clear kk
      go_wp2_with fail
      clear TA
      clear TB
      refine Calls.mono (put_ok Tt.out Tx.out nI (by decide) (by decide) (by decide) (by decide) (by decide) (by decide) (by have := HB.out; omega) (by have := HB.out; omega)) ?_
      rintro e w9 ⟨qC, rfl, kk, tt⟩
      replace K := Lib.hid (K.out.trans kk)
      replace Tt := Lib.hid (Tt.out.kp kk)
      replace Tx := Lib.hid (Tx.out.kp kk)
      replace TVr := Lib.hid (TVr.out.kp kk)
      have TC := Lib.hid tt
      clear kk tt
      go_wp2_with fail
      refine Calls.mono (putIn_any Tt.out Tx.out nI (by decide) (by decide) (by decide) (by decide) (by have := HB.out; omega) (by have := HB.out; omega)) ?_
      rintro e w10 ⟨qD, rfl, kk, tt⟩
      replace K := Lib.hid (K.out.trans kk)
      replace Tt := Lib.hid (Tt.out.kp kk)
      replace Tx := Lib.hid (Tx.out.kp kk)
      replace TVr := Lib.hid (TVr.out.kp kk)
      replace TC := Lib.hid (TC.out.kp kk)
      have TD := Lib.hid tt
      clear kk tt
      go_wp2_with fail
      refine Calls.mono (same_yes rfl TC.out.at' TD.out) ?_
      rintro e w11 ⟨rfl, kk⟩
      replace K := Lib.hid (K.out.trans kk)
      replace Tt := Lib.hid (Tt.out.kp kk)
      replace Tx := Lib.hid (Tx.out.kp kk)
      replace TVr := Lib.hid (TVr.out.kp kk)
      replace TC := Lib.hid (TC.out.kp kk)
      replace TD := Lib.hid (TD.out.kp kk)
      clear kk
      go_wp2_with fail
      clear TC
      clear TD
      refine Calls.mono (bind_ok Tt.out nm (by decide) (by decide) (by decide)) ?_
      rintro e w12 ⟨qE, rfl, kk, tt⟩
      replace K := Lib.hid (K.out.trans kk)
      replace Tt := Lib.hid (Tt.out.kp kk)
      replace Tx := Lib.hid (Tx.out.kp kk)
      replace TVr := Lib.hid (TVr.out.kp kk)
      have TE := Lib.hid tt
      clear kk tt
      go_wp2_with fail
      refine Calls.mono (bindR_any Tt.out nm (by decide) (by decide)) ?_
      rintro e w13 ⟨qF, rfl, kk, tt⟩
      replace K := Lib.hid (K.out.trans kk)
      replace Tt := Lib.hid (Tt.out.kp kk)
      replace Tx := Lib.hid (Tx.out.kp kk)
      replace TVr := Lib.hid (TVr.out.kp kk)
      replace TE := Lib.hid (TE.out.kp kk)
      have TF := Lib.hid tt
      clear kk tt
      go_wp2_with fail
      refine Calls.mono (same_yes rfl TE.out.at' TF.out) ?_
      rintro e w14 ⟨rfl, kk⟩
      replace K := Lib.hid (K.out.trans kk)
      replace Tt := Lib.hid (Tt.out.kp kk)
      replace Tx := Lib.hid (Tx.out.kp kk)
      replace TVr := Lib.hid (TVr.out.kp kk)
      replace TE := Lib.hid (TE.out.kp kk)
      replace TF := Lib.hid (TF.out.kp kk)
      clear kk
      go_wp2_with fail
      clear TE
      clear TF
      refine Calls.mono (sall_any (N2 := 100000) (by decide) (by decide) Tt.out.ok (fun u hu => ⟨(HAll.out u hu).1, by have := (HAll.out u hu).2; omega⟩) (by have := TVr.out.lenm; have := HM.out; omega) (by have := Tt.out.ht; omega) Tt.out.at' TVr.out) ?_
      rintro e w15 ⟨qG, rfl, kk, tt⟩
      replace K := Lib.hid (K.out.trans kk)
      replace Tt := Lib.hid (Tt.out.kp kk)
      replace Tx := Lib.hid (Tx.out.kp kk)
      replace TVr := Lib.hid (TVr.out.kp kk)
      have TG := Lib.hid tt
      clear kk tt
      go_wp2_with fail
      refine Calls.mono (allR_any (N2 := 100000) Tt.out (fun u hu => ⟨(HAll.out u hu).1, by have := (HAll.out u hu).2; omega⟩) TVr.out (by have := HM.out; omega) (by decide) (by decide) (by decide)) ?_
      rintro e w16 ⟨qH, rfl, kk, tt⟩
      replace K := Lib.hid (K.out.trans kk)
      replace Tt := Lib.hid (Tt.out.kp kk)
      replace Tx := Lib.hid (Tx.out.kp kk)
      replace TVr := Lib.hid (TVr.out.kp kk)
      replace TG := Lib.hid (TG.out.kp kk)
      have TH := Lib.hid tt
      clear kk tt
      go_wp2_with fail
      refine Calls.mono (same_yes rfl TG.out TH.out) ?_
      rintro e w17 ⟨rfl, kk⟩
      replace K := Lib.hid (K.out.trans kk)
      replace Tt := Lib.hid (Tt.out.kp kk)
      replace Tx := Lib.hid (Tx.out.kp kk)
      replace TVr := Lib.hid (TVr.out.kp kk)
      replace TG := Lib.hid (TG.out.kp kk)
      replace TH := Lib.hid (TH.out.kp kk)
      clear kk
      go_wp2_with fail
      go_ret
      exact ⟨rfl, K.out⟩
end Go.Proofs.Ytphdfopdephanaa
