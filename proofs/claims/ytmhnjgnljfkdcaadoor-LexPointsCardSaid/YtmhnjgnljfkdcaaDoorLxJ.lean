/- What both answer, in one word; SameTexts; the law's known(); the law LexTells. -/
import Derived.Test.YtmhnjgnljfkdcaaDoorLxI
import Derived.Deep.QuietTactic
import Derived.Deep.RegionWith
import Derived.Deep.RegionHeld3
import Derived.BigQuiet
namespace Go.Proofs.YtmhnjgnljfkdcaaDoor
open Go.RowKit

def out (s : ByteArray) : Nat × List ByteArray := if 2000 < s.size then (13, []) else match res s.data.toList with
  | none => (10, [])
  | some ws => (0, ws)
theorem out_large {s : ByteArray} (h : 2000 < s.size) : out s = (13, []) := by unfold out; rw [if_pos h]
theorem out_none {s : ByteArray} (h : s.size ≤ 2000) (h2 : res s.data.toList = none) : out s = (10, []) := by unfold out; rw [if_neg (by omega), h2]
theorem out_some {s : ByteArray} {ws : List ByteArray} (h : s.size ≤ 2000) (h2 : res s.data.toList = some ws) : out s = (0, ws) := by unfold out; rw [if_neg (by omega), h2]
theorem res_len {l : List UInt8} {ws : List ByteArray} (h : res l = some ws) : ws.length ≤ l.length := by
  unfold res at h
  cases hw : wordsL l with
  | none => rw [hw] at h; cases h
  | some vs =>
    rw [hw] at h
    obtain rfl := Option.some.inj h
    obtain ⟨h1, h2⟩ := wordsL_ok l.length l (Nat.le_refl _) vs hw
    have := length_le_sum vs h1
    rw [List.length_map]
    omega
theorem out_len (s : ByteArray) : (out s).2.length ≤ 2000 := by
  unfold out
  split
  · exact Nat.zero_le _
  · rename_i h
    split
    · exact Nat.zero_le _
    · rename_i ws h2
      have := res_len h2
      rw [← Lib.size_eq] at this
      show ws.length ≤ 2000
      omega
/-- An error with this number, or none. -/
def ErrOf (c : Nat) (ev : Value) : Prop := (c = 0 ∧ ev = .nilIface) ∨ FErr (c : Int) ev
def OutPost (c : Nat) (ws : List ByteArray) (w : World) (e : Ending) (w2 : World) : Prop :=
  ∃ a cp ev, e = .returned (.tuple #[.slice a ws.length cp, ev]) ∧ Kp [] w w2 ∧ StrsAt w2 w2.heap.size a ws.length (fun i => ws.getD i ⟨#[]⟩) ∧ ErrOf c ev
def ROutPost (c : Nat) (ws : List ByteArray) (w : World) (e : Ending) (w2 : World) : Prop :=
  ∃ a cp, e = .returned (.tuple #[.slice a ws.length cp, .int .i64 (c : Int)]) ∧ Kp [] w w2 ∧ StrsAt w2 w2.heap.size a ws.length (fun i => ws.getD i ⟨#[]⟩)
theorem words_all (s : ByteArray) (w : World) : Calls Tryd.prog 8 #[.string s] w (OutPost (out s).1 (out s).2 w) := by
  refine (words_any s w).mono ?_
  rintro e w2 ⟨K, ⟨h, v, hv, rfl⟩ | ⟨h, h2, v, hv, rfl⟩ | ⟨h, v, ws, h2, rfl, hO⟩⟩
  · rw [out_large h]
    exact ⟨none, 0, v, rfl, K, fun i hi => absurd hi (Nat.not_lt_zero _), .inr hv⟩
  · rw [out_none h h2]
    exact ⟨none, 0, v, rfl, K, fun i hi => absurd hi (Nat.not_lt_zero _), .inr hv⟩
  · rw [out_some h h2]
    obtain ⟨a, c, rfl, hS, _⟩ := hO.form
    exact ⟨a, c, _, rfl, K, hS, .inl ⟨rfl, rfl⟩⟩
theorem rwords_all (s : ByteArray) (w : World) : Calls Tryd.prog 9 #[.string s] w (ROutPost (out s).1 (out s).2 w) := by
  refine (rwords_any s w).mono ?_
  rintro e w2 ⟨K, ⟨h, rfl⟩ | ⟨h, h2, rfl⟩ | ⟨h, v, ws, h2, rfl, hO⟩⟩
  · rw [out_large h]
    exact ⟨none, 0, rfl, K, fun i hi => absurd hi (Nat.not_lt_zero _)⟩
  · rw [out_none h h2]
    exact ⟨none, 0, rfl, K, fun i hi => absurd hi (Nat.not_lt_zero _)⟩
  · rw [out_some h h2]
    obtain ⟨a, c, rfl, hS, _⟩ := hO.form
    exact ⟨a, c, rfl, K, hS⟩
theorem StrsAt.kept {w w2 : World} {a : Option Addr} {n : Nat} {sx : Nat → ByteArray} (h : StrsAt w w.heap.size a n sx) (K : Kp [] w w2) : StrsAt w2 w2.heap.size a n sx := fun i hi => by
  obtain ⟨g, o, h1, h2, h3⟩ := h i hi
  exact ⟨g, o, h1, K.lt h2, by rw [K.cell0 h2]; exact h3⟩
set_option maxHeartbeats 3200000 in
set_option maxRecDepth 20000 in
theorem same_texts (a a2 : Option Addr) (n c c2 : Nat) (hn : n ≤ 100000) (sx sy : Nat → ByteArray) (w : World) (hR : StrsAt w w.heap.size a n sx) (hR2 : StrsAt w w.heap.size a2 n sy) (hs : ∀ i, i < n → sx i = sy i) :
    Calls Tryd.prog 10 #[.slice a n c, .slice a2 n c2] w fun e w2 => e = .returned (.bool true) ∧ Kp [] w w2 := by
  have HR := Lib.hid hR
  have HR2 := Lib.hid hR2
  have HS := Lib.hid hs
  clear hR hR2 hs
  go_enter Tryd.func10, Tryd.ntmps10
  go_wp2_with fail
  go_loopw [5] (fun i wr => ∃ (k : Nat), k ≤ n ∧ i = .int .i64 (k : Int) ∧ Hid (Kp [] w wr)) (fun i _ => n - (intOf i).toNat)
  case atStart => exact ⟨0, Nat.zero_le _, rfl, Kp.refl _ _⟩
  case round =>
    obtain ⟨k, hk, rfl, HK⟩ := hrel
    by_cases hlt : k < n
    · have l1 : decide ((k : Int) < (n : Int)) = true := by simpa using hlt
      have l1' : decide (k < n) = true := by simpa using hlt
      obtain ⟨g, o, rfl, hg, hc⟩ := HR.out k hlt
      obtain ⟨g2, o2, rfl, hg2, hc2⟩ := HR2.out k hlt
      rw [← HS.out k hlt] at hc2
      obtain ⟨s, hs⟩ : ∃ s, s = sx k := ⟨_, rfl⟩
      rw [← hs] at hc hc2
      clear hs
      have Kd : Kp [] w wr.drew := HK.out.drew
      have d1 : wr.drew.cell? ⟨g, o + k, none⟩ = some (.string s) := (Kd.cell0 hg).trans hc
      have d2 : wr.drew.cell? ⟨g2, o2 + k, none⟩ = some (.string s) := (Kd.cell0 hg2).trans hc2
      have HKd := Lib.hid Kd
      clear Kd hc hc2 HK
      go_wp2_with fail
      go_region_held3 (fun w' => w'.cell? ⟨g, o + k, none⟩ = some (.string s) ∧ w'.cell? ⟨g2, o2 + k, none⟩ = some (.string s)) (exact ⟨d1, d2⟩) (fail)
      all_goals
        go_wp2_with fail
        go_roundw
        case rel => exact ⟨k + 1, by omega, by go_num, HKd⟩
        case measure => simp [intOf]; omega
    · have l1 : decide ((k : Int) < (n : Int)) = false := by simpa using hlt
      have l1' : decide (k < n) = false := by simpa using hlt
      obtain rfl : k = n := by omega
      clear hlt
      go_wp2_with fail
      go_ret
      exact ⟨rfl, HK.out⟩
/-- A new row of texts, written down. -/
theorem strs_new (w : World) (l : List ByteArray) : StrsAt (w.alloc (.cells (l.map Value.string).toArray 9)) (w.alloc (.cells (l.map Value.string).toArray 9)).heap.size (some ⟨w.heap.size, 0, none⟩) l.length (fun i => l.getD i ⟨#[]⟩) := by
  intro i hi
  refine ⟨w.heap.size, 0, rfl, by simp, ?_⟩
  rw [World.cell?_alloc_new]
  simp [List.getElem?_eq_getElem hi, List.getD]
def knS : ByteArray := ⟨#[97, 46, 98, 58, 61, 99, 45, 62, 40, 100, 41, 46, 32, 101, 46]⟩
def knL : List ByteArray := [⟨#[97, 46, 98]⟩, ⟨#[58, 61]⟩, ⟨#[99]⟩, ⟨#[45, 62]⟩, ⟨#[40]⟩, ⟨#[100]⟩, ⟨#[41]⟩, ⟨#[46]⟩, ⟨#[101]⟩, ⟨#[46]⟩]
theorem kn1 : out knS = (0, knL) := by kernel_rfl
theorem kn2 : out ⟨#[97, 61, 98]⟩ = (10, []) := by kernel_rfl
theorem words_kn1 (w : World) : Calls Tryd.prog 8 #[.string knS] w (OutPost 0 knL w) := by
  have h := words_all knS w
  rw [kn1] at h
  exact h
theorem words_kn2 (w : World) : Calls Tryd.prog 8 #[.string ⟨#[97, 61, 98]⟩] w (OutPost 10 [] w) := by
  have h := words_all ⟨#[97, 61, 98]⟩ w
  rw [kn2] at h
  exact h
theorem ErrOf.zero {ev : Value} (h : ErrOf 0 ev) : ev = .nilIface ∨ FErr 0 ev := h.imp (·.2) id
/-- What Words answers where all is well; where it isn't. -/
theorem words_yes {s : ByteArray} {ws : List ByteArray} (h : s.size ≤ 2000) (h2 : res s.data.toList = some ws) (w : World) :
    Calls Tryd.prog 8 #[.string s] w fun e w2 => ∃ a c, e = .returned (.tuple #[.slice a ws.length c, .nilIface]) ∧ Kp [] w w2 ∧ StrsAt w2 w2.heap.size a ws.length (fun i => ws.getD i ⟨#[]⟩) := by
  refine (words_any s w).mono ?_
  rintro e w2 ⟨K, ⟨h', _⟩ | ⟨_, h3, _⟩ | ⟨_, v, ws', h3, rfl, hO⟩⟩
  · omega
  · rw [h2] at h3; cases h3
  · rw [h2] at h3
    obtain rfl := Option.some.inj h3
    obtain ⟨a, c, rfl, hS, _⟩ := hO.form
    exact ⟨a, c, rfl, K, hS⟩
theorem words_no {s : ByteArray} {c : Nat} (h : out s = (c, [])) (hc : c ≠ 0) (w : World) :
    Calls Tryd.prog 8 #[.string s] w fun e w2 => ∃ a k u, e = .returned (.tuple #[.slice a 0 k, .iface 42 (.agg #[.int .i64 u, .int .i64 (c : Int)])]) ∧ Kp [] w w2 := by
  have hw := words_all s w
  rw [h] at hw
  refine hw.mono ?_
  rintro e w2 ⟨a, k, ev, rfl, K, _, ⟨h0, _⟩ | ⟨u, rfl⟩⟩
  · exact absurd h0 hc
  · exact ⟨a, k, u, rfl, K⟩
theorem kn1r : res knS.data.toList = some knL := by kernel_rfl
set_option maxHeartbeats 3200000 in
set_option maxRecDepth 20000 in
theorem known_any (w : World) : Calls Tryd.prog 7 #[] w fun e w2 => e = .returned (.bool true) ∧ Kp [] w w2 := by
  go_enter Tryd.func7, Tryd.ntmps7
  go_wp2_with fail
  refine Calls.mono (words_yes (s := knS) (by decide) kn1r _) ?_
  rintro e w1 ⟨a1, c1, rfl, k1, s1⟩
  have KA := Lib.hid k1
  have SA := Lib.hid s1
  clear k1 s1
  go_wp2_with fail
  refine Calls.mono (words_no kn2 (by decide) _) ?_
  rintro e w2 ⟨a2, c2, u2, rfl, k2⟩
  have KB := Lib.hid (KA.out.trans k2)
  have SB := Lib.hid (SA.out.kept k2)
  clear k2 KA SA
  rw [show knL.length = 10 from rfl] at SB ⊢
  go_wp2_with fail
  refine Calls.mono (same_texts a1 _ 10 c1 10 (by decide) (fun i => knL.getD i ⟨#[]⟩) (fun i => knL.getD i ⟨#[]⟩) _ (SB.out.kept ((Kp.refl [] w2).alloc _)) (strs_new w2 knL) (fun i _ => rfl)) ?_
  rintro e w3 ⟨rfl, k3⟩
  have KC := Lib.hid (KB.out.trans (((Kp.refl [] w2).alloc _).trans k3))
  clear k3 KB SB
  go_wp2_with fail
  refine Calls.mono (is_ref_yes u2 10 _) ?_
  rintro e w4 ⟨rfl, k4⟩
  have KD := Lib.hid (KC.out.trans k4)
  clear k4 KC
  go_wp2_with fail
  go_ret
  exact ⟨rfl, KD.out⟩
theorem tells_code (c : Nat) (ev : Value) (hv : ErrOf c ev) (w : World) (hE : EHas w) :
    Calls Tryd.prog 11 #[ev] w fun e w2 => e = .returned (.int .i64 (c : Int)) ∧ Kp [] w w2 := by
  rcases hv with ⟨rfl, rfl⟩ | hv
  · exact code_nil w
  · exact code_ferr ev (c : Int) hv w hE
set_option maxHeartbeats 3200000 in
set_option maxRecDepth 20000 in
theorem ltells_any (s : ByteArray) (w : World) (hE : EHas w) :
    Calls Tryd.prog 3 #[.string s] w fun e w2 => e = .returned (.bool true) ∧ Kp [] w w2 := by
  have HE := Lib.hid hE
  have c1 := words_all s
  have c2 := rwords_all s
  have hl := out_len s
  obtain ⟨⟨c, ws⟩, ho⟩ : ∃ o, o = out s := ⟨_, rfl⟩
  rw [← ho] at c1 c2 hl
  have C1 := Lib.hid c1
  have C2 := Lib.hid c2
  have hl9 : ws.length ≤ 100000 := Nat.le_trans hl (by decide)
  clear hE hl c1 c2 ho
  go_enter Tryd.func3, Tryd.ntmps3
  go_wp2_with fail
  refine Calls.mono (known_any _) ?_
  rintro e w1 ⟨rfl, k1⟩
  have KA := Lib.hid k1
  clear k1
  go_wp2_with fail
  refine Calls.mono (C1.out _) ?_
  rintro e w2 ⟨a, ca, ev, rfl, k2, s2, hv⟩
  have KB := Lib.hid (KA.out.trans k2)
  have SB := Lib.hid s2
  have HV := Lib.hid hv
  clear k2 s2 hv KA
  go_wp2_with fail
  refine Calls.mono (C2.out _) ?_
  rintro e w3 ⟨a3, c3, rfl, k3, s3⟩
  have KC := Lib.hid (KB.out.trans k3)
  have SC := Lib.hid (SB.out.kept k3)
  have SD := Lib.hid s3
  clear k3 s3 KB SB
  go_wp2_with fail
  refine Calls.mono (same_texts a a3 ws.length ca c3 hl9 (fun i => ws.getD i ⟨#[]⟩) (fun i => ws.getD i ⟨#[]⟩) _ SC.out SD.out (fun i _ => rfl)) ?_
  rintro e w4 ⟨rfl, k4⟩
  have KD := Lib.hid (KC.out.trans k4)
  clear k4 KC SC SD
  go_wp2_with fail
  refine Calls.mono (tells_code c ev HV.out _ (HE.out.kept KD.out)) ?_
  rintro e w5 ⟨rfl, k5⟩
  have KF := Lib.hid (KD.out.trans k5)
  clear k5 KD
  go_wp2_with fail
  go_ret
  exact ⟨rfl, KF.out⟩
end Go.Proofs.YtmhnjgnljfkdcaaDoor
