/- Contract of Terms: the terms that texts tell, as a row. -/
import Derived.Test.YtcfhhabjiofehaaSpZ
namespace Go.Proofs.Ytcfhhabjiofehaa
open Go.RowKit Go.ChangeMaps

/-- Terms that were read. -/
def Reads (l : List Tm) : Prop := ∀ u ∈ l, Okn u ∧ u.sz ≤ 3000
def TermsPost (n : Nat) (w : World) (e : Ending) (w2 : World) : Prop := ∃ a m c ps l, e = .returned (.slice a m c) ∧ Kp [] w w2 ∧ m ≤ n ∧ ps.length = m ∧ Row w2 w.heap.size (.slice a m c) ps l ∧ Reads l
set_option maxHeartbeats 6400000 in
theorem terms_any (a0 : Option Addr) (n c0 : Nat) (hn : n ≤ 10000000000000) (sx : Nat → ByteArray) (hsx : ∀ i, i < n → (sx i).size ≤ 1000000000000000) (w : World) (hS : StrsAt w w.heap.size a0 n sx) :
    Calls Try.prog 8 #[.slice a0 n c0] w (TermsPost n w) := by
  obtain ⟨i0, hi0, hz0, hz1, hz2⟩ := info_parts ptrInfo
  have Hi := Lib.hid hi0
  have HS := Lib.hid hS
  have HX := Lib.hid hsx
  have M0 : Hid (Kp [] w w ∧ ∃ ps l, ps.length = 0 ∧ Row w w.heap.size (.slice none 0 0) ps l ∧ Reads l) := ⟨Kp.refl [] w, [], [], rfl, Row.nil _ _, fun u hu => by cases hu⟩
  clear hi0 hS hsx
  go_enter Try.func8, Try.ntmps8
  go_wp2_with fail
  go_loopw [3, 4] (fun v i wr => ∃ (k m : Nat) (a : Option Addr) (c : Nat), k ≤ n ∧ m ≤ k ∧ i = .int .i64 (k : Int) ∧ v = .slice a m c ∧ Hid (Kp [] w wr ∧ ∃ ps l, ps.length = m ∧ Row wr w.heap.size (.slice a m c) ps l ∧ Reads l)) (fun _ i _ => n - (intOf i).toNat)
  case atStart => exact ⟨0, 0, none, 0, Nat.zero_le _, Nat.le_refl _, rfl, rfl, M0⟩
  case round =>
    clear M0
    obtain ⟨k, m, a, c, hk, hm, rfl, rfl, HM⟩ := hrel
    by_cases hlt : k < n
    · have l1 : decide ((k : Int) < (n : Int)) = true := by simpa using hlt
      obtain ⟨g, o, hg, hgl, hc⟩ := (HS.out.kp HM.out.1 (Nat.le_refl _)) k hlt
      subst hg
      have HT := Lib.hid (hterm_any (sx k) (HX.out k hlt) wr)
      have Hk := Lib.hid (And.intro hlt hm)
      go_wp2_with fail
      refine Calls.mono HT.out ?_
      rintro e w2 ⟨q, rfl, kk, hq⟩
      have K2 : Hid (Kp [] w w2) := HM.out.1.trans kk
      have HR2 : Hid (∃ ps l, ps.length = m ∧ Row w2 w.heap.size (.slice a m c) ps l ∧ Reads l) := by
        obtain ⟨ps, l, h1, h2, h3⟩ := HM.out.2
        exact ⟨ps, l, h1, h2.kp0 kk, h3⟩
      clear HT kk HM hc hgl hlt
      rcases hq with rfl | ⟨t, ht⟩
      · go_wp2_with fail
        go_roundw
        case rel => exact ⟨k + 1, m, a, c, Hk.out.1, by have := Hk.out.2; omega, by go_num, rfl, K2.out, HR2.out⟩
        case measure => have := Hk.out.1; simp [intOf]; omega
      · obtain ⟨g3, rfl⟩ := ht.some
        have HRd := Lib.hid ht
        obtain ⟨ps, l, hl, hrow, hrd⟩ := HR2.out
        have hown : w2.ownsRow w.heap.size 24 1 (.slice a m c) m (ps.map Value.pointer) := by
          have := hrow.own
          rw [hl] at this
          exact this
        have HRow := Lib.hid (And.intro hl (And.intro hrow hrd))
        have hsz : w.heap.size ≤ w2.heap.size := K2.out.size
        have hm9 : m ≤ 10000000000000 := by omega
        have hmn9 : m + 1 ≤ 10000000000000 := by have := Hk.out.1; omega
        clear hrow ht hl hrd HR2
        go_wp2_with (at_builtin; refine wpList_append_own _ rfl _ _ 26 rfl w.heap.size 24 i0 (.pointer none) 1 8 Try.underlying26 Hi.out hz0 hz1 hz2 rfl (by decide) _ m (ps.map Value.pointer) rfl (hown.alloc _) ⟨w2.heap.size, 0, none⟩ 1 1 [.pointer (some ⟨g3, 0, none⟩)] rfl rfl ?c1 ?c2 ?c3 ?c4 ?c5 ?_)
        case c1 =>
          intro j u hj
          match j, hj with
          | 0, hj => simp at hj; subst hj; simp [Addr.add]
        case c2 => intro u hu; simp at hu; subst hu; rfl
        case c3 => unfold maxLen; omega
        case c4 => omega
        case c5 => simp; omega
        intro v' w3 hown' hgrow _
        obtain ⟨r1, r2, r3⟩ := HRow.out
        obtain ⟨a2, c2, rfl, b1, b2, b3⟩ := r2.grow r1 HRd.out.at' hown' hgrow
        have HN : Hid (Kp [] w w3 ∧ ∃ ps l, ps.length = m + 1 ∧ Row w3 w.heap.size (.slice a2 (m + 1) c2) ps l ∧ Reads l) := ⟨b3 w K2.out (Nat.le_refl _), _, _, b1, b2, fun u hu => by
          rcases List.mem_append.1 hu with h | h
          · exact r3 u h
          · rw [List.mem_singleton.1 h]; exact ⟨HRd.out.ok, HRd.out.sz⟩⟩
        clear hown' hgrow hown HRow K2 r1 r2 r3 b1 b2 b3
        go_wp2_with fail
        go_roundw
        case rel => exact ⟨k + 1, m + 1, a2, c2, Hk.out.1, by have := Hk.out.2; omega, by go_num, rfl, HN⟩
        case measure => have := Hk.out.1; simp [intOf]; omega
    · have l1 : decide ((k : Int) < (n : Int)) = false := by simpa using hlt
      have l1' : decide (k < n) = false := by simpa using hlt
      have Hm := Lib.hid hm
      have Hk := Lib.hid hk
      clear hlt
      go_wp2_with fail
      go_ret
      obtain ⟨K, ps, l, h1, h2, h3⟩ := HM.out
      exact ⟨a, m, c, ps, l, rfl, K, by have := Hm.out; have := Hk.out; omega, h1, h2, h3⟩
end Go.Proofs.Ytcfhhabjiofehaa
