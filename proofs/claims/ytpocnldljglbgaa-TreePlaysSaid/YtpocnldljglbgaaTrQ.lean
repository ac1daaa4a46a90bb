/- Contracts of the law's has and alike. -/
import Derived.Test.YtpocnldljglbgaaTrO
namespace Go.Proofs.Ytpocnldljglbgaa
open Go.RowKit Tr

def HasPost (n : Nat) (sx : Nat → ByteArray) (s : ByteArray) (w : World) (e : Ending) (w2 : World) : Prop := ∃ r, e = .returned (.bool r) ∧ w2 = w ∧ (r = true ↔ ∃ i, i < n ∧ sx i = s)
set_option maxHeartbeats 3200000 in
theorem has_any (a : Option Addr) (n c : Nat) (hn : n ≤ 100000) (sx : Nat → ByteArray) (s : ByteArray) (w : World) (hR : StrsAt w w.heap.size a n sx) :
    Calls Try.prog 15 #[.slice a n c, .string s] w (HasPost n sx s w) := by
  have HR := Lib.hid hR
  clear hR
  go_enter Try.func15, Try.ntmps15
  go_wp2_with fail
  go_loopw [5] (fun i wr => ∃ (k : Nat), k ≤ n ∧ i = .int .i64 (k : Int) ∧ Hid (∀ i, i < k → sx i ≠ s) ∧ wr = w) (fun i _ => n - (intOf i).toNat)
  case atStart => exact ⟨0, Nat.zero_le _, rfl, fun i hi => absurd hi (Nat.not_lt_zero _), rfl⟩
  case round =>
    obtain ⟨k, hk, rfl, HN, hw⟩ := hrel
    have hw := hw.symm
    subst hw
    by_cases hlt : k < n
    · have l1 : decide ((k : Int) < (n : Int)) = true := by simpa using hlt
      have l1' : decide (k < n) = true := by simpa using hlt
      obtain ⟨g, o, rfl, hg, hc⟩ := HR.out k hlt
      obtain ⟨x, hx⟩ : ∃ x, x = sx k := ⟨_, rfl⟩
      rw [← hx] at hc
      have he := eq_toList x s
      have HX := Lib.hid hx
      have Hlt := Lib.hid hlt
      clear hx hg
      by_cases hxs : x = s
      · rw [decide_eq_true hxs] at he
        have HS := Lib.hid hxs
        clear hxs
        go_wp2_with fail
        go_ret
        exact ⟨true, rfl, rfl, ⟨fun _ => ⟨k, Hlt.out, HX.out.symm.trans HS.out⟩, fun _ => rfl⟩⟩
      · rw [decide_eq_false hxs] at he
        have HS := Lib.hid hxs
        clear hxs
        go_wp2_with fail
        go_roundw
        case rel => exact ⟨k + 1, Hlt.out, by go_num, fun i hi => by
          rcases Nat.lt_succ_iff_lt_or_eq.1 hi with h | h
          · exact HN.out i h
          · subst h; rw [← HX.out]; exact HS.out, by simp⟩
        case measure => have := Hlt.out; simp [intOf]; omega
    · have l1 : decide ((k : Int) < (n : Int)) = false := by simpa using hlt
      have l1' : decide (k < n) = false := by simpa using hlt
      obtain rfl : k = n := by omega
      clear hlt
      go_wp2_with fail
      go_ret
      exact ⟨false, rfl, rfl, ⟨fun h => absurd h (by decide), fun ⟨i, hi, h⟩ => absurd h (HN.out i hi)⟩⟩
theorem lk_num {L : List En} (h : Rise L) {i : Nat} (hi : i < L.length) : lk (keyAt L i) L = some (numAt L i) := by
  obtain ⟨n, hm, hl⟩ := lk_at (L := L) hi
  rw [hl, numAt_get hi]
  obtain ⟨j, hj, he⟩ := List.getElem_of_mem hm
  have hji : j = i := by
    rcases Nat.lt_trichotomy j i with h1 | h1 | h1
    · have := rise_lt h h1 hi
      rw [keyAt_get hj, he] at this
      exact absurd this (klt_irrefl _)
    · exact h1
    · have := rise_lt h h1 hj
      rw [keyAt_get hj, he] at this
      exact absurd this (klt_irrefl _)
  subst hji
  rw [he]
set_option maxHeartbeats 6400000 in
set_option maxRecDepth 20000 in
theorem alike_any {w : World} {a : Option Addr} {kv nv : Value} {L : List En} (hM : MapAt w a L) (hD : ModAt w kv nv L) (hL : L.length ≤ 1000) :
    Calls Try.prog 11 #[.pointer a, .agg #[kv, nv]] w fun e w2 => e = .returned (.bool true) ∧ Kp [] w w2 := by
  obtain ⟨b, d, c1, c2, rfl, rfl, hS, hN, _⟩ := hD.ex
  obtain ⟨ga, rfl⟩ := hM.some
  have HR := Lib.hid hM.rise
  obtain ⟨z, hz⟩ : ∃ z, z = L.length := ⟨_, rfl⟩
  have HZ := Lib.hid hz
  have HM := Lib.hid (fun W (K : Kp [] w W) => hM.kp K)
  have HS := Lib.hid (fun W (K : Kp [] w W) => hS.kept K)
  have HN := Lib.hid (fun W (K : Kp [] w W) => hN.kept K)
  have HLen := Lib.hid (fun W (K : Kp [] w W) => len_any (hM.kp K))
  have HKeys := Lib.hid (fun W (K : Kp [] w W) => keys_any (hM.kp K) (by omega))
  rw [← hz] at HS HN HLen HKeys hL ⊢
  clear hM hD hS hN hz
  have K0 : Hid (Kp [] w (w.alloc (.cells #[.slice b z c1, .slice d z c2] 30)).drew) := ((Kp.refl [] w).alloc _).drew
  have C0 : Hid ((w.alloc (.cells #[.slice b z c1, .slice d z c2] 30)).drew.cell? ⟨w.heap.size, 0, none⟩ = some (.slice b z c1) ∧ (w.alloc (.cells #[.slice b z c1, .slice d z c2] 30)).drew.cell? ⟨w.heap.size, 1, none⟩ = some (.slice d z c2)) := by
    constructor
    all_goals (show (w.alloc _).cell? _ = _; rw [World.cell?_alloc_new]; rfl)
  have LT : Hid (w.heap.size < (w.alloc (.cells #[.slice b z c1, .slice d z c2] 30)).drew.heap.size) := by show _ < (w.alloc _).heap.size; simp
  go_enter Try.func11, Try.ntmps11
  go_wp2_with fail
  go_region_held3 (fun w' => w'.cell? ⟨w.heap.size, 0, none⟩ = some (.slice b z c1))
    (first | exact C0.out.1 | exact CK.out)
    (first
    | (go_at_call 17; refine Calls.mono (HLen.out _ K0.out) ?_; rintro e x1 ⟨rfl, rfl⟩)
    | (go_at_call 16; refine Calls.mono (HKeys.out _ K0.out) ?_; rintro e x2 ⟨kb, kc, rfl, kk, ks⟩; have K2 := Lib.hid (K0.out.trans kk); have CK := Lib.hid ((kk.cell0 LT.out).trans C0.out.1); have CK1 := Lib.hid ((kk.cell0 LT.out).trans C0.out.2); have LT2 := Lib.hid (kk.lt LT.out); have HK2 := Lib.hid ks; clear kk ks)
    | (go_at_call 18; refine Calls.mono (same_texts kb b z kc c1 (by omega) (keyAt L) (keyAt L) _ HK2.out (HS.out _ K2.out) (fun _ _ => rfl)) ?_; rintro e x3 ⟨rfl, kk3⟩; have K3 := Lib.hid (K2.out.trans kk3); have CK3 := Lib.hid ((kk3.cell0 LT2.out).trans CK.out); have CK13 := Lib.hid ((kk3.cell0 LT2.out).trans CK1.out); have LT3 := Lib.hid (kk3.lt LT2.out); clear CK kk3; have CK := CK3))
  all_goals
    have m0 := CK.out
    go_wp2_with fail
    clear m0
    go_loopw [5] (fun i wr => ∃ (k : Nat), k ≤ z ∧ i = .int .i64 (k : Int) ∧ wr = x3) (fun i _ => z - (intOf i).toNat)
    case atStart => exact ⟨0, Nat.zero_le _, rfl, rfl⟩
    case round =>
      obtain ⟨k, hk, rfl, hw⟩ := hrel
      subst hw
      have m0 := CK.out
      by_cases hlt : k < z
      · have l1 : decide ((k : Int) < (z : Int)) = true := by simpa using hlt
        have l1' : decide (k < z) = true := by simpa using hlt
        obtain ⟨g, o, hb, hg, hc⟩ := HS.out wr K3.out k hlt
        obtain ⟨g2, o2, hd, hg2, hc2⟩ := HN.out wr K3.out k hlt
        subst hb
        subst hd
        obtain ⟨x, hx⟩ : ∃ x, x = keyAt L k := ⟨_, rfl⟩
        obtain ⟨y, hy⟩ : ∃ y, y = numAt L k := ⟨_, rfl⟩
        have hg := lk_num HR.out (show k < L.length by rw [← HZ.out]; exact hlt)
        rw [← hx] at hc hg
        rw [← hy] at hc2 hg
        have HG := Lib.hid (get_yes (HM.out wr K3.out) hg)
        have m1 := CK13.out
        have Hlt := Lib.hid hlt
        clear hx hy hg hg2
        go_wp2_with fail
        refine Calls.mono HG.out ?_
        rintro e x4 ⟨rfl, hw⟩
        have hw := hw.symm
        subst hw
        go_wp2_with fail
        go_roundw
        case rel => exact ⟨k + 1, Hlt.out, by go_num, by simp⟩
        case measure => have := Hlt.out; simp [intOf]; omega
      · have l1 : decide ((k : Int) < (z : Int)) = false := by simpa using hlt
        have l1' : decide (k < z) = false := by simpa using hlt
        go_wp2_with fail
        go_ret
        exact ⟨rfl, K3.out⟩
end Go.Proofs.Ytpocnldljglbgaa
