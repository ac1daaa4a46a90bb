/- Contracts of the reference's disk: Write where it is refused, Read, Cut. -/
import Derived.Test.YtiglipiofclmfaaDoorRefW
namespace Go.Proofs.YtiglipiofclmfaaDoor
open Go.RowKit

theorem RfAt.form {w : World} {b : Nat} {sv av bv : Value} {S : Dk} (h : RfAt w b sv av bv S) : (∃ a c, sv = .slice a S.n c) ∧ (∃ a c, av = .slice a S.L.length c) ∧ ∃ a c, bv = .slice a S.L.length c :=
  ⟨owns_form h.ss, owns_form h.ats, owns_form h.bts⟩
theorem RfAt.sec {w : World} {b : Nat} {sa : Option Addr} {sc : Nat} {av bv : Value} {S : Dk} (h : RfAt w b (.slice sa S.n sc) av bv S) (k : Nat) (hk : k < S.n) : ∃ g, sa = some ⟨g, 0, none⟩ ∧ w.cell? ⟨g, k, none⟩ = some (strV (S.F k)) := by
  obtain ⟨g, h1, h2, _⟩ := owns_cell h.ss k hk
  refine ⟨g, h1, h2.trans ?_⟩
  simp [hk]
theorem RfAt.at_ {w : World} {b : Nat} {sv bv : Value} {aa : Option Addr} {ac : Nat} {S : Dk} (h : RfAt w b sv (.slice aa S.L.length ac) bv S) (i : Nat) (hi : i < S.L.length) : ∃ g, aa = some ⟨g, 0, none⟩ ∧ w.cell? ⟨g, i, none⟩ = some (.int .i64 (S.L[i].1 : Int)) := by
  obtain ⟨g, h1, h2, _⟩ := owns_cell h.ats i hi
  refine ⟨g, h1, h2.trans ?_⟩
  simp [hi]
theorem RfAt.bt_ {w : World} {b : Nat} {sv av : Value} {ba : Option Addr} {bc : Nat} {S : Dk} (h : RfAt w b sv av (.slice ba S.L.length bc) S) (i : Nat) (hi : i < S.L.length) : ∃ g, ba = some ⟨g, 0, none⟩ ∧ w.cell? ⟨g, i, none⟩ = some (strV S.L[i].2) := by
  obtain ⟨g, h1, h2, _⟩ := owns_cell h.bts i hi
  refine ⟨g, h1, h2.trans ?_⟩
  simp [hi]
/-- What a call leaves of the reference's disk. -/
def RfThen2 (b : Nat) (sv av bv : Value) (S2 : Dk) (w w2 : World) : Prop := ∃ sv2 av2 bv2, RfAt w2 b sv2 av2 bv2 S2 ∧ Kp (rfoot b sv av bv) w w2 ∧ ∀ x ∈ rfoot b sv2 av2 bv2, x ∈ rfoot b sv av bv ∨ w.heap.size ≤ x
theorem RfThen.then2 {b : Nat} {sv : Value} {S2 : Dk} {w w2 : World} (h : RfThen b sv S2 w w2) (av bv : Value) : RfThen2 b sv av bv S2 w w2 := by
  obtain ⟨av2, bv2, R, K, h1, h2⟩ := h
  refine ⟨sv, av2, bv2, R, K.mono (fun x hx => by rw [List.mem_singleton.1 hx]; simp [rfoot]), fun x hx => ?_⟩
  simp only [rfoot, List.mem_cons, List.mem_append, Option.mem_toList] at hx ⊢
  rcases hx with rfl | (hx | hx) | hx
  · exact .inl (.inl rfl)
  · exact .inl (.inr (.inl (.inl hx)))
  · exact .inr (h1 x hx)
  · exact .inr (h2 x hx)
theorem RfAt.same {w : World} {b : Nat} {sv av bv : Value} {S : Dk} (R : RfAt w b sv av bv S) : RfThen2 b sv av bv S w w := ⟨sv, av, bv, R, Kp.refl _ _, fun x hx => .inl hx⟩
theorem dead_false {S : Dk} (h : S.dead = false) (why : Int) (hn : why ≠ 25) : { S with dead := decide (why = 25) } = S := by
  have : decide (why = 25) = S.dead := by rw [h]; simpa using hn
  rw [this]
theorem dead_true {S : Dk} (h : S.dead = true) : { S with dead := decide ((25 : Int) = 25) } = S := by
  have : decide ((25 : Int) = 25) = S.dead := by rw [h]; rfl
  rw [this]
theorem RfAt.setDead {w : World} {b : Nat} {sv av bv : Value} {S : Dk} (h : RfAt w b sv av bv S) (d : Bool) : RfAt (w.setCell ⟨b, 5, none⟩ (.bool d)) b sv av bv { S with dead := d } := by
  have kp := Kp.set1 w b 5 (.bool d)
  obtain ⟨n1, n2, n3⟩ := h.nofoot_b
  exact { h with
    c0 := by rw [cell_ne _ _ _ _ _ (by decide)]; exact h.c0
    c1 := by rw [cell_ne _ _ _ _ _ (by decide)]; exact h.c1
    c2 := by rw [cell_ne _ _ _ _ _ (by decide)]; exact h.c2
    c3 := by rw [cell_ne _ _ _ _ _ (by decide)]; exact h.c3
    c4 := by rw [cell_ne _ _ _ _ _ (by decide)]; exact h.c4
    c5 := cell_eq _ _ _ _ _ h.c5
    fr := fun o => by rw [frozen_setCell]; exact h.fr o
    ss := kp.owns h.ss n1
    ats := kp.owns h.ats n2
    bts := kp.owns h.bts n3 }
set_option maxHeartbeats 1600000 in
/-- The reference's Write. -/
theorem rfwrite_any (w : World) (b : Nat) (sv av bv : Value) (S : Dk) (R : RfAt w b sv av bv S) (p : Int) (s : ByteArray) (hW : S.writes < 4611686018427387904) (hL : S.L.length < 4294967296) (hlf : S.left ≤ 9223372036854775807) :
    Calls Tryd.prog 9 #[.pointer (some ⟨b, 0, none⟩), .int .i64 p, .string s] w fun e w2 => e = .returned (.int .i64 (S.werr p s.size)) ∧ RfThen2 b sv av bv (S.wrote p s) w w2 := by
  have c5 := R.c5
  have c4 := R.c4
  have c0 := R.c0
  have f5 := R.fr 5
  obtain ⟨sa, sc, rfl⟩ := owns_form R.ss
  have HR := Lib.hid R
  by_cases hd : S.dead = true
  · have he : S.werr p s.size = 25 := by simp [Dk.werr, hd]
    have hs : S.wrote p s = S := by unfold Dk.wrote; rw [he, if_neg (by decide)]; exact dead_true hd
    rw [he, hs]
    rw [hd] at c5
    clear R he hs hd
    go_enter Tryd.func9, Tryd.ntmps9
    go_wp2
    go_ret
    exact ⟨rfl, HR.out.same⟩
  have hd : S.dead = false := by simpa using hd
  rw [hd] at c5
  by_cases hr : p < 0 ∨ (S.n : Int) ≤ p
  · have he : S.werr p s.size = 14 := by simp [Dk.werr, hd, hr]
    have hs : S.wrote p s = S := by unfold Dk.wrote; rw [he, if_neg (by decide)]; exact dead_false hd 14 (by decide)
    rw [he, hs]
    clear R he hs hd
    by_cases h0 : p < 0
    · have d1 : decide (p < 0) = true := by simpa using h0
      clear hr
      go_enter Tryd.func9, Tryd.ntmps9
      go_wp2
      go_ret
      exact ⟨rfl, HR.out.same⟩
    · have d1 : decide (p < 0) = false := by simpa using h0
      have h1 : (S.n : Int) ≤ p := by omega
      have d2 : decide ((S.n : Int) ≤ p) = true := by simpa using h1
      clear hr
      go_enter Tryd.func9, Tryd.ntmps9
      go_wp2
      go_ret
      exact ⟨rfl, HR.out.same⟩
  obtain ⟨k, rfl⟩ := Int.eq_ofNat_of_zero_le (show 0 ≤ p by omega)
  have hk : k < S.n := by omega
  have d1 : decide ((k : Int) < 0) = false := by simp
  have d2 : decide ((S.n : Int) ≤ (k : Int)) = false := by simp; omega
  have d3 : decide (S.n ≤ k) = false := by simp; omega
  by_cases hz : 64 < s.size
  · have he : S.werr (k : Int) s.size = 13 := by simp only [Dk.werr]; rw [if_neg (by rw [hd]; decide), if_neg hr, if_pos hz]
    have hs : S.wrote (k : Int) s = S := by unfold Dk.wrote; rw [he, if_neg (by decide)]; exact dead_false hd 13 (by decide)
    have d4 : decide ((64 : Int) < (s.size : Int)) = true := by simp; omega
    rw [he, hs]
    clear R he hs hd hr
    go_enter Tryd.func9, Tryd.ntmps9
    go_wp2
    go_ret
    exact ⟨rfl, HR.out.same⟩
  by_cases hcc : S.cut = true ∧ S.left = 0
  · have he : S.werr (k : Int) s.size = 25 := by simp only [Dk.werr]; rw [if_neg (by rw [hd]; decide), if_neg hr, if_neg hz, if_pos hcc]
    have hs : S.wrote (k : Int) s = { S with dead := true } := by unfold Dk.wrote; rw [he, if_neg (by decide)]; rfl
    have d4 : decide ((64 : Int) < (s.size : Int)) = false := by simp; omega
    rw [he, hs]
    rw [hcc.1, if_pos rfl, hcc.2] at c4
    clear R he hs hd hr hcc
    go_enter Tryd.func9, Tryd.ntmps9
    go_wp2
    go_ret
    refine ⟨rfl, _, _, _, HR.out.setDead true, (Kp.refl _ w).setCell (.inl (by simp [rfoot])) _, fun x hx => .inl hx⟩
  · have he : S.werr (k : Int) s.size = 0 := by simp only [Dk.werr]; rw [if_neg (by rw [hd]; decide), if_neg hr, if_neg hz, if_neg hcc]
    have hs : S.wrote (k : Int) s = S.write k (fillUp s) := by unfold Dk.wrote; rw [he, if_pos rfl]; simp
    rw [he, hs]
    cases hcut : S.cut
    · exact (rfwrite_nocut w b _ av bv S R k hk s (by omega) hd hcut hW hL).mono fun e w2 ⟨h1, h2⟩ => ⟨h1, h2.then2 av bv⟩
    · exact (rfwrite_cut w b _ av bv S R k hk s (by omega) hd hcut (by
        have : S.left ≠ 0 := fun h => hcc ⟨hcut, h⟩
        omega) hlf hW hL).mono fun e w2 ⟨h1, h2⟩ => ⟨h1, h2.then2 av bv⟩
theorem rread_ret {P : Ending → World → Prop} {w2 : World} {a : Act} {v0 v1 : Value} (h2 : a.tmps.getD 4 undef = v0) (h3 : a.tmps.getD 5 undef = v1) (hd : a.defers = []) (hP : P (.returned (.tuple #[v0, v1])) w2) :
    bodyPost Tryd.prog Tryd.f20 P .ret a w2 :=
  bodyPost_ret (v := .tuple #[v0, v1]) (by simp [results, Tryd.results20, go_sem]; simp at h2 h3; exact ⟨h2, h3⟩) hd hP
/-- What the reference reads. -/
def Dk.lbytes (S : Dk) (p : Int) : ByteArray := if S.rerr p = 0 then secS (lay S.F S.L p.toNat) else ⟨#[]⟩
theorem lay_step (F : Nat → List UInt8) (L : List (Nat × List UInt8)) (i k : Nat) (hi : i < L.length) : lay F (L.take (i + 1)) k = if L[i].1 = k then L[i].2 else lay F (L.take i) k := by
  rw [lay_take F L i hi]
  unfold upd
  by_cases h : k = L[i].1
  · rw [if_pos h, if_pos h.symm]
  · rw [if_neg h, if_neg (fun e => h e.symm)]
set_option maxHeartbeats 3200000 in
/-- The reference's Read. -/
theorem rfread_any (w : World) (b : Nat) (sv av bv : Value) (S : Dk) (R : RfAt w b sv av bv S) (p : Int) (hL : S.L.length < 4294967296) :
    Calls Tryd.prog 20 #[.pointer (some ⟨b, 0, none⟩), .int .i64 p] w fun e w2 => e = .returned (.tuple #[.string (S.lbytes p), .int .i64 (S.rerr p)]) ∧ w = w2 := by
  have c5 := R.c5
  have c0 := R.c0
  have c1 := R.c1
  have c2 := R.c2
  obtain ⟨⟨sa, sc, rfl⟩, ⟨aa, ac, rfl⟩, ⟨ba, bc, rfl⟩⟩ := R.form
  have HR := Lib.hid R
  by_cases hd : S.dead = true
  · have he : S.rerr p = 25 := by simp [Dk.rerr, hd]
    have hs : S.lbytes p = ⟨#[]⟩ := by unfold Dk.lbytes; rw [he, if_neg (by decide)]
    rw [he, hs]
    rw [hd] at c5
    clear R he hs hd
    go_enter Tryd.func20, Tryd.ntmps20
    go_wp2
    exact rread_ret rfl rfl rfl ⟨rfl, rfl⟩
  have hd : S.dead = false := by simpa using hd
  rw [hd] at c5
  by_cases hr : p < 0 ∨ (S.n : Int) ≤ p
  · have he : S.rerr p = 14 := by simp [Dk.rerr, hd, hr]
    have hs : S.lbytes p = ⟨#[]⟩ := by unfold Dk.lbytes; rw [he, if_neg (by decide)]
    rw [he, hs]
    clear R he hs hd
    by_cases h0 : p < 0
    · have d1 : decide (p < 0) = true := by simpa using h0
      clear hr
      go_enter Tryd.func20, Tryd.ntmps20
      go_wp2
      exact rread_ret rfl rfl rfl ⟨rfl, rfl⟩
    · have d1 : decide (p < 0) = false := by simpa using h0
      have h1 : (S.n : Int) ≤ p := by omega
      have d2 : decide ((S.n : Int) ≤ p) = true := by simpa using h1
      clear hr
      go_enter Tryd.func20, Tryd.ntmps20
      go_wp2
      exact rread_ret rfl rfl rfl ⟨rfl, rfl⟩
  obtain ⟨k, rfl⟩ := Int.eq_ofNat_of_zero_le (show 0 ≤ p by omega)
  have hk : k < S.n := by omega
  have hn2 := R.n2
  have he : S.rerr (k : Int) = 0 := by simp [Dk.rerr, hd]; omega
  have hs : S.lbytes (k : Int) = secS (lay S.F S.L k) := by unfold Dk.lbytes; rw [he, if_pos rfl]; simp
  rw [he, hs]
  have d1 : decide ((k : Int) < 0) = false := by simp
  have d2 : decide ((S.n : Int) ≤ (k : Int)) = false := by simp; omega
  have d3 : decide (S.n ≤ k) = false := by simp; omega
  obtain ⟨g, rfl, hc⟩ := R.sec k hk
  clear R he hs hd hr
  go_enter Tryd.func20, Tryd.ntmps20
  go_wp2
  go_loop [6, 7] (fun s i => ∃ (j : Nat) (l : List UInt8), j ≤ S.L.length ∧ i = .int .i64 (j : Int) ∧ s = strV l ∧ Hid (l = lay S.F (S.L.take j) k)) (fun _ i => S.L.length - (intOf i).toNat)
  case atStart => exact ⟨0, S.F k, Nat.zero_le _, rfl, rfl, rfl⟩
  case round =>
    obtain ⟨j, l, hj, rfl, rfl, HL⟩ := hrel
    by_cases hlt : j < S.L.length
    · have e1 : decide (j < S.L.length) = true := by simpa using hlt
      obtain ⟨ga, hga, hca⟩ := HR.out.at_ j hlt
      obtain ⟨gb, hgb, hcb⟩ := HR.out.bt_ j hlt
      obtain rfl := hga
      obtain rfl := hgb
      have hstep := lay_step S.F S.L j k hlt
      obtain ⟨q, hq⟩ : ∃ q, q = S.L[j].1 := ⟨_, rfl⟩
      obtain ⟨lq, hlq⟩ : ∃ lq, lq = S.L[j].2 := ⟨_, rfl⟩
      rw [← hq] at hca hstep
      rw [← hlq] at hcb hstep
      have HS := Lib.hid hstep
      clear hstep hq hlq
      by_cases hqk : q = k
      · have e2 : ((q : Int) == (k : Int)) = true := by rw [hqk]; simp
        have HQ := Lib.hid hqk
        clear hqk
        go_wp2
        go_round
        case rel => exact ⟨j + 1, lq, by omega, by go_num, rfl, by show _ = _; rw [HS.out, if_pos HQ.out]⟩
        case measure => simp [intOf]; omega
      · have e2 : ((q : Int) == (k : Int)) = false := by rw [beq_eq_false_iff_ne]; omega
        have HQ := Lib.hid hqk
        clear hqk
        go_wp2
        go_round
        case rel => exact ⟨j + 1, l, by omega, by go_num, rfl, by show _ = _; rw [HS.out, if_neg HQ.out]; exact HL.out⟩
        case measure => simp [intOf]; omega
    · have e1 : decide (j < S.L.length) = false := by simpa using hlt
      have hfin : l = lay S.F S.L k := by rw [HL.out, List.take_of_length_le (by omega)]
      have HF := Lib.hid hfin
      clear hfin HL
      go_wp2
      exact rread_ret rfl rfl rfl ⟨by rw [← HF.out]; rfl, rfl⟩
/-- The reference's Cut. -/
theorem rfcut_any (w : World) (b : Nat) (sv av bv : Value) (S : Dk) (R : RfAt w b sv av bv S) (p : Int) :
    Calls Tryd.prog 13 #[.pointer (some ⟨b, 0, none⟩), .int .i64 p] w fun e w2 => e = .returned (.tuple #[]) ∧ RfThen2 b sv av bv (S.cutAt p) w w2 := by
  have c4 := R.c4
  have f4 := R.fr 4
  have HR := Lib.hid R
  have kp (v : Value) := Kp.set1 w b 4 v
  have fin : RfAt (w.setCell ⟨b, 4, none⟩ (.int .i64 (max (-1) p))) b sv av bv (S.cutAt p) := by
    obtain ⟨n1, n2, n3⟩ := R.nofoot_b
    exact { R with
      c0 := by rw [cell_ne _ _ _ _ _ (by decide)]; exact R.c0
      c1 := by rw [cell_ne _ _ _ _ _ (by decide)]; exact R.c1
      c2 := by rw [cell_ne _ _ _ _ _ (by decide)]; exact R.c2
      c3 := by rw [cell_ne _ _ _ _ _ (by decide)]; exact R.c3
      c4 := by
        rw [cell_eq _ _ _ _ _ R.c4]
        show _ = some (Value.int .i64 (if decide (0 ≤ p) = true then (((max p 0).toNat : Nat) : Int) else -1))
        by_cases h : 0 ≤ p
        · rw [if_pos (by simpa using h)]; congr 2; omega
        · rw [if_neg (by simpa using h)]; congr 2; omega
      c5 := by rw [cell_ne _ _ _ _ _ (by decide)]; exact R.c5
      fr := fun o => by rw [frozen_setCell]; exact R.fr o
      ss := (kp _).owns R.ss n1
      ats := (kp _).owns R.ats n2
      bts := (kp _).owns R.bts n3 }
  have HF := Lib.hid fin
  clear fin R
  go_enter Tryd.func13, Tryd.ntmps13
  go_wp2
  go_end0
  exact ⟨rfl, _, _, _, HF.out, (Kp.refl _ w).setCell (.inl (by simp [rfoot])) _, fun x hx => .inl hx⟩
end Go.Proofs.YtiglipiofclmfaaDoor
