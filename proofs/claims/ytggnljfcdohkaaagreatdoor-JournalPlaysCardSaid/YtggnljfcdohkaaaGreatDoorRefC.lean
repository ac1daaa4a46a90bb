/- Contracts of the reference's disk: Write where it is refused, Read, Cut. -/
import Derived.Test.YtggnljfcdohkaaaGreatDoorRefW
namespace Go.Proofs.YtggnljfcdohkaaaGreatDoor
open Go.RowKit

theorem RfAt.form {w : World} {b : Nat} {sv av bv : Value} {S : Dk} (h : RfAt w b sv av bv S) : (∃ a c, sv = .slice a S.n c) ∧ (∃ a c, av = .slice a S.L.length c) ∧ ∃ a c, bv = .slice a S.L.length c :=
  ⟨owns_form h.ss, owns_form h.ats, owns_form h.bts⟩
theorem RfAt.sec {w : World} {b : Nat} {sa : Option Addr} {sc : Nat} {av bv : Value} {S : Dk} (h : RfAt w b (.slice sa S.n sc) av bv S) (k : Nat) (hk : k < S.n) : ∃ g, sa = some ⟨g, 0, none⟩ ∧ w.cell? ⟨g, k, none⟩ = some (strV (S.F k)) := by
  obtain ⟨g, h1, h2, _⟩ := owns_cell h.ss k hk
  refine ⟨g, h1, h2.trans ?_⟩
  simp [hk]
theorem RfAt.at_ {w : World} {b : Nat} {sv bv : Value} {aa : Option Addr} {ac : Nat} {S : Dk} (h : RfAt w b sv (.slice aa S.L.length ac) bv S) (i : Nat) (hi : i < S.L.length) : ∃ g, aa = some ⟨g, 0, none⟩ ∧ w.cell? ⟨g, i, none⟩ = some (.int .i64 (S.L[i].1 : Int)) := by
  obtain ⟨g, h1, h2, _⟩ := owns_cell h.ats i hi
  refine ⟨g, h1, h2.trans ?_⟩
  simp [hi]
theorem RfAt.bt_ {w : World} {b : Nat} {sv av : Value} {ba : Option Addr} {bc : Nat} {S : Dk} (h : RfAt w b sv av (.slice ba S.L.length bc) S) (i : Nat) (hi : i < S.L.length) : ∃ g, ba = some ⟨g, 0, none⟩ ∧ w.cell? ⟨g, i, none⟩ = some (strV S.L[i].2) := by
  obtain ⟨g, h1, h2, _⟩ := owns_cell h.bts i hi
  refine ⟨g, h1, h2.trans ?_⟩
  simp [hi]
/-- What a call leaves of the reference's disk. -/
def RfThen2 (b : Nat) (sv av bv : Value) (S2 : Dk) (w w2 : World) : Prop := ∃ sv2 av2 bv2, RfAt w2 b sv2 av2 bv2 S2 ∧ Kp (rfoot b sv av bv) w w2 ∧ ∀ x ∈ rfoot b sv2 av2 bv2, x ∈ rfoot b sv av bv ∨ w.heap.size ≤ x
theorem RfThen.then2 {b : Nat} {sv : Value} {S2 : Dk} {w w2 : World} (h : RfThen b sv S2 w w2) (av bv : Value) : RfThen2 b sv av bv S2 w w2 := by
  obtain ⟨av2, bv2, R, K, h1, h2⟩ := h
  refine ⟨sv, av2, bv2, R, K.mono (fun x hx => by rw [List.mem_singleton.1 hx]; simp [rfoot]), fun x hx => ?_⟩
  simp only [rfoot, List.mem_cons, List.mem_append, Option.mem_toList] at hx ⊢
  rcases hx with rfl | (hx | hx) | hx
  · exact .inl (.inl rfl)
  · exact .inl (.inr (.inl (.inl hx)))
  · exact .inr (h1 x hx)
  · exact .inr (h2 x hx)
theorem RfAt.same {w : World} {b : Nat} {sv av bv : Value} {S : Dk} (R : RfAt w b sv av bv S) : RfThen2 b sv av bv S w w := ⟨sv, av, bv, R, Kp.refl _ _, fun _x hx => .inl hx⟩
theorem dead_false {S : Dk} (h : S.dead = false) (why : Int) (hn : why ≠ 25) : { S with dead := decide (why = 25) } = S := by
  have : decide (why = 25) = S.dead := by rw [h]; simpa using hn
  rw [this]
theorem dead_true {S : Dk} (h : S.dead = true) : { S with dead := decide ((25 : Int) = 25) } = S := by
  have : decide ((25 : Int) = 25) = S.dead := by rw [h]; rfl
  rw [this]
theorem RfAt.setDead {w : World} {b : Nat} {sv av bv : Value} {S : Dk} (h : RfAt w b sv av bv S) (d : Bool) : RfAt (w.setCell ⟨b, 5, none⟩ (.bool d)) b sv av bv { S with dead := d } := by
  have kp := Kp.set1 w b 5 (.bool d)
  obtain ⟨n1, n2, n3⟩ := h.nofoot_b
  exact { h with
    c0 := by rw [cell_ne _ _ _ _ _ (by decide)]; exact h.c0
    c1 := by rw [cell_ne _ _ _ _ _ (by decide)]; exact h.c1
    c2 := by rw [cell_ne _ _ _ _ _ (by decide)]; exact h.c2
    c3 := by rw [cell_ne _ _ _ _ _ (by decide)]; exact h.c3
    c4 := by rw [cell_ne _ _ _ _ _ (by decide)]; exact h.c4
    c5 := cell_eq _ _ _ _ _ h.c5
    fr := fun o => by rw [frozen_setCell]; exact h.fr o
    ss := kp.owns h.ss n1
    ats := kp.owns h.ats n2
    bts := kp.owns h.bts n3 }
set_option maxHeartbeats 1600000 in
/-- The reference's Write. -/
theorem rfwrite_any (w : World) (b : Nat) (sv av bv : Value) (S : Dk) (R : RfAt w b sv av bv S) (p : Int) (s : ByteArray) (hW : S.writes < 4611686018427387904) (hL : S.L.length < 4294967296) (hlf : S.left ≤ 9223372036854775807) :
    Calls Tryz.prog 31 #[.pointer (some ⟨b, 0, none⟩), .int .i64 p, .string s] w fun e w2 => e = .returned (.int .i64 (S.werr p s.size)) ∧ RfThen2 b sv av bv (S.wrote p s) w w2 := by
  have c5 := R.c5
  have c4 := R.c4
  have c0 := R.c0
  have f5 := R.fr 5
  obtain ⟨sa, sc, rfl⟩ := owns_form R.ss
  have HR := Lib.hid R
  by_cases hd : S.dead = true
  · have he : S.werr p s.size = 25 := by simp [Dk.werr, hd]
    have hs : S.wrote p s = S := by unfold Dk.wrote; rw [he, if_neg (by decide)]; exact dead_true hd
    rw [he, hs]
    rw [hd] at c5
    clear R he hs hd
    go_enter Tryz.func31, Tryz.ntmps31
    go_wp2
    go_ret
    exact ⟨rfl, HR.out.same⟩
  have hd : S.dead = false := by simpa using hd
  rw [hd] at c5
  by_cases hr : p < 0 ∨ (S.n : Int) ≤ p
  · have he : S.werr p s.size = 14 := by simp [Dk.werr, hd, hr]
    have hs : S.wrote p s = S := by unfold Dk.wrote; rw [he, if_neg (by decide)]; exact dead_false hd 14 (by decide)
    rw [he, hs]
    clear R he hs hd
    by_cases h0 : p < 0
    · have d1 : decide (p < 0) = true := by simpa using h0
      clear hr
      go_enter Tryz.func31, Tryz.ntmps31
      go_wp2
      go_ret
      exact ⟨rfl, HR.out.same⟩
    · have d1 : decide (p < 0) = false := by simpa using h0
      have h1 : (S.n : Int) ≤ p := by omega
      have d2 : decide ((S.n : Int) ≤ p) = true := by simpa using h1
      clear hr
      go_enter Tryz.func31, Tryz.ntmps31
      go_wp2
      go_ret
      exact ⟨rfl, HR.out.same⟩
  obtain ⟨k, rfl⟩ := Int.eq_ofNat_of_zero_le (show 0 ≤ p by omega)
  have hk : k < S.n := by omega
  have d1 : decide ((k : Int) < 0) = false := by simp
  have d2 : decide ((S.n : Int) ≤ (k : Int)) = false := by simp; omega
  have d3 : decide (S.n ≤ k) = false := by simp; omega
  by_cases hz : 64 < s.size
  · have he : S.werr (k : Int) s.size = 13 := by simp only [Dk.werr]; rw [if_neg (by rw [hd]; decide), if_neg hr, if_pos hz]
    have hs : S.wrote (k : Int) s = S := by unfold Dk.wrote; rw [he, if_neg (by decide)]; exact dead_false hd 13 (by decide)
    have d4 : decide ((64 : Int) < (s.size : Int)) = true := by simp; omega
    rw [he, hs]
    clear R he hs hd hr
    go_enter Tryz.func31, Tryz.ntmps31
    go_wp2
    go_ret
    exact ⟨rfl, HR.out.same⟩
  by_cases hcc : S.cut = true ∧ S.left = 0
  · have he : S.werr (k : Int) s.size = 25 := by simp only [Dk.werr]; rw [if_neg (by rw [hd]; decide), if_neg hr, if_neg hz, if_pos hcc]
    have hs : S.wrote (k : Int) s = { S with dead := true } := by unfold Dk.wrote; rw [he, if_neg (by decide)]; rfl
    have d4 : decide ((64 : Int) < (s.size : Int)) = false := by simp; omega
    rw [he, hs]
    rw [hcc.1, if_pos rfl, hcc.2] at c4
    clear R he hs hd hr hcc
    go_enter Tryz.func31, Tryz.ntmps31
    go_wp2
    go_ret
    refine ⟨rfl, _, _, _, HR.out.setDead true, (Kp.refl _ w).setCell (.inl (by simp [rfoot])) _, fun x hx => .inl hx⟩
  · have he : S.werr (k : Int) s.size = 0 := by simp only [Dk.werr]; rw [if_neg (by rw [hd]; decide), if_neg hr, if_neg hz, if_neg hcc]
    have hs : S.wrote (k : Int) s = S.write k (fillUp s) := by unfold Dk.wrote; rw [he, if_pos rfl]; simp
    rw [he, hs]
    cases hcut : S.cut
    · exact (rfwrite_nocut w b _ av bv S R k hk s (by omega) hd hcut hW hL).mono fun e w2 ⟨h1, h2⟩ => ⟨h1, h2.then2 av bv⟩
    · exact (rfwrite_cut w b _ av bv S R k hk s (by omega) hd hcut (by
        have : S.left ≠ 0 := fun h => hcc ⟨hcut, h⟩
        omega) hlf hW hL).mono fun e w2 ⟨h1, h2⟩ => ⟨h1, h2.then2 av bv⟩
theorem rread_ret {P : Ending → World → Prop} {w2 : World} {a : Act} {v0 v1 : Value} (h2 : a.tmps.getD 4 undef = v0) (h3 : a.tmps.getD 5 undef = v1) (hd : a.defers = []) (hP : P (.returned (.tuple #[v0, v1])) w2) :
    bodyPost Tryz.prog Tryz.f26 P .ret a w2 :=
  bodyPost_ret (v := .tuple #[v0, v1]) (by simp [results, Tryz.results26, go_sem]; simp at h2 h3; exact ⟨h2, h3⟩) hd hP
/-- What the reference reads. -/
def Dk.lbytes (S : Dk) (p : Int) : ByteArray := if S.rerr p = 0 then secS (lay S.F S.L p.toNat) else ⟨#[]⟩
theorem lay_step (F : Nat → List UInt8) (L : List (Nat × List UInt8)) (i k : Nat) (hi : i < L.length) : lay F (L.take (i + 1)) k = if L[i].1 = k then L[i].2 else lay F (L.take i) k := by
  rw [lay_take F L i hi]
  unfold upd
  by_cases h : k = L[i].1
  · rw [if_pos h, if_pos h.symm]
  · rw [if_neg h, if_neg (fun e => h e.symm)]
set_option maxHeartbeats 3200000 in
/-- The reference's Read. -/
theorem rfread_any (w : World) (b : Nat) (sv av bv : Value) (S : Dk) (R : RfAt w b sv av bv S) (p : Int) (hL : S.L.length < 4294967296) :
    Calls Tryz.prog 26 #[.pointer (some ⟨b, 0, none⟩), .int .i64 p] w fun e w2 => e = .returned (.tuple #[.string (S.lbytes p), .int .i64 (S.rerr p)]) ∧ w = w2 := by
  have c5 := R.c5
  have c0 := R.c0
  have c1 := R.c1
  have c2 := R.c2
  obtain ⟨⟨sa, sc, rfl⟩, ⟨aa, ac, rfl⟩, ⟨ba, bc, rfl⟩⟩ := R.form
  have HR := Lib.hid R
  by_cases hd : S.dead = true
  · have he : S.rerr p = 25 := by simp [Dk.rerr, hd]
    have hs : S.lbytes p = ⟨#[]⟩ := by unfold Dk.lbytes; rw [he, if_neg (by decide)]
    rw [he, hs]
    rw [hd] at c5
    clear R he hs hd
    go_enter Tryz.func26, Tryz.ntmps26
    go_wp2
    exact rread_ret rfl rfl rfl ⟨rfl, rfl⟩
  have hd : S.dead = false := by simpa using hd
  rw [hd] at c5
  by_cases hr : p < 0 ∨ (S.n : Int) ≤ p
  · have he : S.rerr p = 14 := by simp [Dk.rerr, hd, hr]
    have hs : S.lbytes p = ⟨#[]⟩ := by unfold Dk.lbytes; rw [he, if_neg (by decide)]
    rw [he, hs]
    clear R he hs hd
    by_cases h0 : p < 0
    · have d1 : decide (p < 0) = true := by simpa using h0
      clear hr
      go_enter Tryz.func26, Tryz.ntmps26
      go_wp2
      exact rread_ret rfl rfl rfl ⟨rfl, rfl⟩
    · have d1 : decide (p < 0) = false := by simpa using h0
      have h1 : (S.n : Int) ≤ p := by omega
      have d2 : decide ((S.n : Int) ≤ p) = true := by simpa using h1
      clear hr
      go_enter Tryz.func26, Tryz.ntmps26
      go_wp2
      exact rread_ret rfl rfl rfl ⟨rfl, rfl⟩
  obtain ⟨k, rfl⟩ := Int.eq_ofNat_of_zero_le (show 0 ≤ p by omega)
  have hk : k < S.n := by omega
  have hn2 := R.n2
  have he : S.rerr (k : Int) = 0 := by simp [Dk.rerr, hd]; omega
  have hs : S.lbytes (k : Int) = secS (lay S.F S.L k) := by unfold Dk.lbytes; rw [he, if_pos rfl]; simp
  rw [he, hs]
  have d1 : decide ((k : Int) < 0) = false := by simp
  have d2 : decide ((S.n : Int) ≤ (k : Int)) = false := by simp; omega
  have d3 : decide (S.n ≤ k) = false := by simp; omega
  obtain ⟨g, rfl, hc⟩ := R.sec k hk
  clear R he hs hd hr
  go_enter Tryz.func26, Tryz.ntmps26
  go_wp2
  go_loop [6, 7] (fun s i => ∃ (j : Nat) (l : List UInt8), j ≤ S.L.length ∧ i = .int .i64 (j : Int) ∧ s = strV l ∧ Hid (l = lay S.F (S.L.take j) k)) (fun _ i => S.L.length - (intOf i).toNat)
  case atStart => exact ⟨0, S.F k, Nat.zero_le _, rfl, rfl, rfl⟩
  case round =>
    obtain ⟨j, l, hj, rfl, rfl, HL⟩ := hrel
    by_cases hlt : j < S.L.length
    · have e1 : decide (j < S.L.length) = true := by simpa using hlt
      obtain ⟨ga, hga, hca⟩ := HR.out.at_ j hlt
      obtain ⟨gb, hgb, hcb⟩ := HR.out.bt_ j hlt
      obtain rfl := hga
      obtain rfl := hgb
      have hstep := lay_step S.F S.L j k hlt
      obtain ⟨q, hq⟩ : ∃ q, q = S.L[j].1 := ⟨_, rfl⟩
      obtain ⟨lq, hlq⟩ : ∃ lq, lq = S.L[j].2 := ⟨_, rfl⟩
      rw [← hq] at hca hstep
      rw [← hlq] at hcb hstep
      have HS := Lib.hid hstep
      clear hstep hq hlq
      by_cases hqk : q = k
      · have e2 : ((q : Int) == (k : Int)) = true := by rw [hqk]; simp
        have HQ := Lib.hid hqk
        clear hqk
        go_wp2
        go_round
        case rel => exact ⟨j + 1, lq, by omega, by go_num, rfl, by show _ = _; rw [HS.out, if_pos HQ.out]⟩
        case measure => simp [intOf]; omega
      · have e2 : ((q : Int) == (k : Int)) = false := by rw [beq_eq_false_iff_ne]; omega
        have HQ := Lib.hid hqk
        clear hqk
        go_wp2
        go_round
        case rel => exact ⟨j + 1, l, by omega, by go_num, rfl, by show _ = _; rw [HS.out, if_neg HQ.out]; exact HL.out⟩
        case measure => simp [intOf]; omega
    · have e1 : decide (j < S.L.length) = false := by simpa using hlt
      have hfin : l = lay S.F S.L k := by rw [HL.out, List.take_of_length_le (by omega)]
      have HF := Lib.hid hfin
      clear hfin HL
      go_wp2
      exact rread_ret rfl rfl rfl ⟨by rw [← HF.out]; rfl, rfl⟩
/-- The reference's Cut. -/
theorem rfcut_any (w : World) (b : Nat) (sv av bv : Value) (S : Dk) (R : RfAt w b sv av bv S) (p : Int) :
    Calls Tryz.prog 22 #[.pointer (some ⟨b, 0, none⟩), .int .i64 p] w fun e w2 => e = .returned (.tuple #[]) ∧ RfThen2 b sv av bv (S.cutAt p) w w2 := by
  have c4 := R.c4
  have f4 := R.fr 4
  have HR := Lib.hid R
  have kp (v : Value) := Kp.set1 w b 4 v
  have fin : RfAt (w.setCell ⟨b, 4, none⟩ (.int .i64 (max (-1) p))) b sv av bv (S.cutAt p) := by
    obtain ⟨n1, n2, n3⟩ := R.nofoot_b
    exact { R with
      c0 := by rw [cell_ne _ _ _ _ _ (by decide)]; exact R.c0
      c1 := by rw [cell_ne _ _ _ _ _ (by decide)]; exact R.c1
      c2 := by rw [cell_ne _ _ _ _ _ (by decide)]; exact R.c2
      c3 := by rw [cell_ne _ _ _ _ _ (by decide)]; exact R.c3
      c4 := by
        rw [cell_eq _ _ _ _ _ R.c4]
        show _ = some (Value.int .i64 (if decide (0 ≤ p) = true then (((max p 0).toNat : Nat) : Int) else -1))
        by_cases h : 0 ≤ p
        · rw [if_pos (by simpa using h)]; congr 2; omega
        · rw [if_neg (by simpa using h)]; congr 2; omega
      c5 := by rw [cell_ne _ _ _ _ _ (by decide)]; exact R.c5
      fr := fun o => by rw [frozen_setCell]; exact R.fr o
      ss := (kp _).owns R.ss n1
      ats := (kp _).owns R.ats n2
      bts := (kp _).owns R.bts n3 }
  have HF := Lib.hid fin
  clear fin R
  go_enter Tryz.func22, Tryz.ntmps22
  go_wp2
  go_end0
  exact ⟨rfl, _, _, _, HF.out, (Kp.refl _ w).setCell (.inl (by simp [rfoot])) _, fun x hx => .inl hx⟩
end Go.Proofs.YtggnljfcdohkaaaGreatDoor
/- Contracts of the reference's disk: Flush. -/
namespace Go.Proofs.YtggnljfcdohkaaaGreatDoor
open Go.RowKit

theorem map_upd (F : Nat → List UInt8) (n k : Nat) (hk : k < n) (l : List UInt8) : ((List.range n).map fun j => strV (F j)).set k (strV l) = (List.range n).map fun j => strV (upd F k l j) := by
  apply List.ext_getElem?
  intro i
  rw [List.getElem?_set]
  by_cases h : k = i
  · subst h
    rw [if_pos rfl]
    simp [hk, upd]
  · rw [if_neg h]
    simp only [List.getElem?_map]
    by_cases hi : i < n
    · simp [hi, upd]
      rw [if_neg (fun e => h e.symm)]
    · simp [hi]
/-- A cell of a row is stored. -/
theorem owns_set {w : World} {base e n cap g : Nat} {xs : List Value} (h : w.ownsRow base e 1 (.slice (some ⟨g, 0, none⟩) n cap) n xs) (k : Nat) (v : Value) :
    (w.setCell ⟨g, k, none⟩ v).ownsRow base e 1 (.slice (some ⟨g, 0, none⟩) n cap) n (xs.set k v) := by
  obtain ⟨hx, h2⟩ := h
  refine ⟨by rw [List.length_set]; exact hx, ?_⟩
  rcases h2 with ⟨h3, _⟩ | ⟨g2, cap2, cur, hv, hb, hg, r1, r2, r3, r4⟩
  · cases h3
  · injection hv with e1 e2 e3
    injection e1 with e1
    injection e1 with e1
    subst e1 e3
    refine .inr ⟨g, cap, cur.setIfInBounds k v, rfl, hb, ?_, ?_, ?_, ?_, ?_⟩
    · simp only [World.setCell, Array.getElem?_modify, hg]
      simp
    · simpa using r1
    · simpa using r2
    · simpa using r3
    · rw [Array.toList_setIfInBounds, List.take_set, r4]
theorem owns_base {w : World} {base base2 e size n : Nat} {v : Value} {xs : List Value} (h : w.ownsRow base e size v n xs) (hb : base2 ≤ base) : w.ownsRow base2 e size v n xs := by
  obtain ⟨hx, h2⟩ := h
  refine ⟨hx, ?_⟩
  rcases h2 with h2 | ⟨g, cap, cur, hv, hb2, r⟩
  · exact .inl h2
  · exact .inr ⟨g, cap, cur, hv, by omega, r⟩
/-- The sectors' copy, with the loose Writes of a part laid over it. -/
def CopyAt (w1 wr : World) (gs cap n : Nat) (F : Nat → List UInt8) : Prop :=
  wr.ownsRow 7 9 1 (.slice (some ⟨gs, 0, none⟩) n cap) n ((List.range n).map fun j => strV (F j)) ∧ Kp [gs] w1 wr
theorem CopyAt.cell {w1 wr : World} {gs cap n : Nat} {F : Nat → List UInt8} (h : CopyAt w1 wr gs cap n F) (k : Nat) (hk : k < n) : wr.cell? ⟨gs, k, none⟩ = some (strV (F k)) ∧ wr.frozen? ⟨gs, k, none⟩ = false := by
  obtain ⟨g, h1, h2, h3⟩ := owns_cell h.1 k hk
  injection h1 with h1
  injection h1 with h1
  subst h1
  refine ⟨h2.trans ?_, h3⟩
  simp [hk]
theorem CopyAt.set {w1 wr : World} {gs cap n : Nat} {F : Nat → List UInt8} (h : CopyAt w1 wr gs cap n F) (k : Nat) (hk : k < n) (l : List UInt8) : CopyAt w1 (wr.setCell ⟨gs, k, none⟩ (strV l)) gs cap n (upd F k l) := by
  refine ⟨?_, h.2.setCell (.inl (by simp)) _⟩
  have := owns_set h.1 k (strV l)
  rw [map_upd F n k hk l] at this
  exact this
theorem CopyAt.drew {w1 wr : World} {gs cap n : Nat} {F : Nat → List UInt8} (h : CopyAt w1 wr gs cap n F) : CopyAt w1 wr.drew gs cap n F := ⟨h.1, h.2.drew⟩
/-- The rows are let go of, the sectors' row is another one. -/
theorem RfAt.flushed {w w1 wr : World} {b : Nat} {sv av bv : Value} {S : Dk} (R : RfAt w b sv av bv S) (K1 : Kp [] w w1) {gs cap : Nat} (hgs : w.heap.size ≤ gs) {F : Nat → List UInt8} (C : CopyAt w1 wr gs cap S.n F) (hf : ∀ k, k < S.n → (F k).length = 64) :
    RfThen2 b sv av bv { S with F := F, L := [] } w (((wr.setCell ⟨b, 0, none⟩ (.slice (some ⟨gs, 0, none⟩) S.n cap)).setCell ⟨b, 1, none⟩ (.slice none 0 0)).setCell ⟨b, 2, none⟩ (.slice none 0 0)) := by
  have lb := R.lb
  have hne : b ≠ gs := by omega
  have K : Kp [b] wr (((wr.setCell ⟨b, 0, none⟩ (.slice (some ⟨gs, 0, none⟩) S.n cap)).setCell ⟨b, 1, none⟩ (.slice none 0 0)).setCell ⟨b, 2, none⟩ (.slice none 0 0)) :=
    (((Kp.refl [b] wr).setCell (.inl (by simp)) _).setCell (.inl (by simp)) _).setCell (.inl (by simp)) _
  have cc (o : Nat) : wr.cell? ⟨b, o, none⟩ = w.cell? ⟨b, o, none⟩ := (C.2.cell (p := ⟨b, o, none⟩) (K1.lt lb) (by simpa using hne)).trans (K1.cell0 lb)
  have ff (o : Nat) : wr.frozen? ⟨b, o, none⟩ = w.frozen? ⟨b, o, none⟩ := (C.2.frozen (p := ⟨b, o, none⟩) (K1.lt lb) (by simpa using hne)).trans (K1.frozen0 lb)
  refine ⟨.slice (some ⟨gs, 0, none⟩) S.n cap, .slice none 0 0, .slice none 0 0, ?_, ?_, fun x hx => ?_⟩
  · exact { R with
      ns := fun h => hne (by simpa [Value.ownBlock] using h.symm)
      na := fun h => by cases h
      nb := fun h => by cases h
      c0 := by rw [cell_ne _ _ _ _ _ (by decide), cell_ne _ _ _ _ _ (by decide)]; exact cell_eq _ _ _ _ _ ((cc 0).trans R.c0)
      c1 := by rw [cell_ne _ _ _ _ _ (by decide)]; exact cell_eq _ _ _ _ _ (by rw [cell_ne _ _ _ _ _ (by decide)]; exact (cc 1).trans R.c1)
      c2 := by exact cell_eq _ _ _ _ _ (by rw [cell_ne _ _ _ _ _ (by decide), cell_ne _ _ _ _ _ (by decide)]; exact (cc 2).trans R.c2)
      c3 := by rw [cell_ne _ _ _ _ _ (by decide), cell_ne _ _ _ _ _ (by decide), cell_ne _ _ _ _ _ (by decide)]; exact (cc 3).trans R.c3
      c4 := by rw [cell_ne _ _ _ _ _ (by decide), cell_ne _ _ _ _ _ (by decide), cell_ne _ _ _ _ _ (by decide)]; exact (cc 4).trans R.c4
      c5 := by rw [cell_ne _ _ _ _ _ (by decide), cell_ne _ _ _ _ _ (by decide), cell_ne _ _ _ _ _ (by decide)]; exact (cc 5).trans R.c5
      fr := fun o => by rw [frozen_setCell, frozen_setCell, frozen_setCell]; exact (ff o).trans (R.fr o)
      ss := K.owns C.1 (fun g hg hm => hne (by
        have h1 : gs = g := by simpa [Value.ownBlock] using hg
        rw [h1]; exact (List.mem_singleton.1 hm).symm))
      ats := ⟨rfl, .inl ⟨rfl, rfl⟩⟩
      bts := ⟨rfl, .inl ⟨rfl, rfl⟩⟩
      fl := hf
      lok := fun x hx => by cases hx }
  · refine ((K1.mono (fun x hx => by cases hx)).trans2 (C.2) (fun x hx => .inr (by rw [List.mem_singleton.1 hx]; exact hgs))).trans (K.mono (fun x hx => by rw [List.mem_singleton.1 hx]; simp [rfoot]))
  · simp only [rfoot, Value.ownBlock, Option.toList_none, List.append_nil, List.mem_cons, Option.toList_some, List.not_mem_nil, or_false] at hx
    rcases hx with rfl | rfl
    · exact .inl (by simp [rfoot])
    · exact .inr hgs
theorem lay_len (F : Nat → List UInt8) (n : Nat) (hf : ∀ k, k < n → (F k).length = 64) : ∀ (L : List (Nat × List UInt8)), (∀ x ∈ L, x.2.length = 64) → ∀ k, k < n → (lay F L k).length = 64
  | L, hl => by
    induction L generalizing F with
    | nil => exact hf
    | cons x L ih =>
      intro k hk
      show (lay (upd F x.1 x.2) L k).length = 64
      refine ih (upd F x.1 x.2) (fun j hj => ?_) (fun y hy => hl y (List.mem_cons_of_mem _ hy)) k hk
      unfold upd
      split
      · exact hl x (List.mem_cons_self ..)
      · exact hf j hj
theorem copy_news {w : World} {base n cap g : Nat} {F : Nat → List UInt8} (h : w.ownsRow base 9 1 (.slice (some ⟨g, 0, none⟩) n cap) n ((List.range n).map fun k => strV (F k))) : ∀ j u, ((List.range n).map fun k => strV (F k))[j]? = some u → w.cell? ((⟨g, 0, none⟩ : Addr).add j) = some u := by
  intro j u hu
  have hj : j < n := by
    have := (List.getElem?_eq_some_iff.1 hu).1
    simpa using this
  obtain ⟨g2, e2, hc, _⟩ := owns_cell h j hj
  injection e2 with e2
  injection e2 with e2
  subst e2
  rw [Addr.add_mid, Nat.zero_add, hc]
  exact hu
theorem rstrs_one (n : Nat) (F : Nat → List UInt8) : ∀ u ∈ ((List.range n).map fun k => strV (F k)), u.oneCell' = true := by
  intro u hu
  obtain ⟨x, _, rfl⟩ := List.mem_map.1 hu
  rfl
theorem copy_start {w w1 : World} {n : Nat} {F : Nat → List UInt8} {v' : Value} (hn : 1 ≤ n) (hg : 7 ≤ w.heap.size) (h : w1.ownsRow w.heap.size 9 1 v' (0 + n) ([] ++ (List.range n).map fun k => strV (F k))) (hg2 : w.grownBy w1 (Value.slice none 0 0).ownBlock) :
    ∃ gs cap, w.heap.size ≤ gs ∧ v' = .slice (some ⟨gs, 0, none⟩) n cap ∧ CopyAt w1 w1 gs cap n F ∧ Kp [] w w1 := by
  rw [Nat.zero_add, List.nil_append] at h
  have K : Kp [] w w1 := (Kp.refl [] w).grown hg2 (fun k hk => by cases hk)
  obtain ⟨a, cap, rfl⟩ := owns_form h
  obtain ⟨g, rfl, _, _⟩ := owns_cell h 0 (by omega)
  exact ⟨g, cap, (owns_lt h g rfl).1, rfl, ⟨owns_base h hg, Kp.refl _ _⟩, K⟩
theorem CopyAt.old {w w1 wr : World} {gs cap n : Nat} {F : Nat → List UInt8} (h : CopyAt w1 wr gs cap n F) (K1 : Kp [] w w1) (hgs : w.heap.size ≤ gs) {g o : Nat} (hg : g < w.heap.size) : wr.cell? ⟨g, o, none⟩ = w.cell? ⟨g, o, none⟩ ∧ wr.frozen? ⟨g, o, none⟩ = w.frozen? ⟨g, o, none⟩ :=
  have hn : g ∉ [gs] := by simp; omega
  ⟨(h.2.cell (p := ⟨g, o, none⟩) (K1.lt hg) hn).trans (K1.cell0 hg), (h.2.frozen (p := ⟨g, o, none⟩) (K1.lt hg) hn).trans (K1.frozen0 hg)⟩
set_option maxHeartbeats 3200000 in
set_option maxRecDepth 20000 in
theorem rfflush_any (w : World) (b : Nat) (sv av bv : Value) (S : Dk) (R : RfAt w b sv av bv S) (hn1 : 1 ≤ S.n) (hL : S.L.length < 4294967296) (hd : S.dead = false) :
    Calls Tryz.prog 33 #[.pointer (some ⟨b, 0, none⟩)] w fun e w2 => e = .returned (.int .i64 0) ∧ RfThen2 b sv av bv { S with F := lay S.F S.L, L := [] } w w2 := by
  have c5 := R.c5
  have c0 := R.c0
  have c1 := R.c1
  have c2 := R.c2
  have f0 := R.fr 0
  have f1 := R.fr 1
  have f2 := R.fr 2
  have hlb := R.lb
  have hn2 := R.n2
  rw [hd] at c5
  obtain ⟨⟨sa, sc, rfl⟩, ⟨aa, ac, rfl⟩, ⟨ba, bc, rfl⟩⟩ := R.form
  obtain ⟨g0, rfl, _⟩ := R.sec 0 (by omega)
  have HR := Lib.hid R
  have HS := Lib.hid R.ss
  obtain ⟨i0, hi0, hz0, hz1, hz2⟩ := info_parts infoStr
  have Hi0 := Lib.hid hi0
  have hg4 : 7 ≤ w.heap.size := by have := R.hb; omega
  clear hi0 R hd
  go_enter Tryz.func33, Tryz.ntmps33
  go_wp2_with (first
    | (at_builtin; refine wpList_append_own _ rfl _ _ 34 rfl w.heap.size 9 i0 _ 1 16 Tryz.underlying34 Hi0.out hz0 hz1 hz2 rfl (by decide) (.slice none 0 0) 0 [] rfl ⟨rfl, .inl ⟨rfl, rfl⟩⟩ ⟨g0, 0, none⟩ S.n sc ((List.range S.n).map fun k => strV (S.F k)) rfl (by simp) (copy_news HS.out) (rstrs_one _ _) (by unfold maxLen; omega) (by omega) (Nat.le_refl _) ?_; intro v' w1 hown' hgrow' hnil'
       obtain ⟨gs, cap, hgs, rfl, C0, K1⟩ := copy_start hn1 hg4 hown' hgrow'
       clear hown' hgrow' hnil'))
  have HC0 := Lib.hid C0
  have HK1 := Lib.hid K1
  have Hgs := Lib.hid hgs
  clear C0 K1 hgs
  go_loopw [4] (fun i wr => ∃ (j : Nat), j ≤ S.L.length ∧ i = .int .i64 (j : Int) ∧ Hid (CopyAt w1 wr gs cap S.n (lay S.F (S.L.take j)))) (fun i _ => S.L.length - (intOf i).toNat)
  case atStart => exact ⟨0, Nat.zero_le _, rfl, HC0.out⟩
  case round =>
    clear HC0
    obtain ⟨j, hj, rfl, HC⟩ := hrel
    have x1 : wr.cell? ⟨b, 1, none⟩ = some (.slice aa S.L.length ac) := ((HC.out.old HK1.out Hgs.out hlb).1).trans c1
    have x2 : wr.cell? ⟨b, 2, none⟩ = some (.slice ba S.L.length bc) := ((HC.out.old HK1.out Hgs.out hlb).1).trans c2
    by_cases hlt : j < S.L.length
    · have e1 : decide (j < S.L.length) = true := by simpa using hlt
      obtain ⟨ga, hga, hca⟩ := HR.out.at_ j hlt
      obtain ⟨gb, hgb, hcb⟩ := HR.out.bt_ j hlt
      have hqn := (HR.out.lok _ (List.getElem_mem hlt)).1
      have hst := lay_take S.F S.L j hlt
      obtain ⟨q, hq⟩ : ∃ q, q = S.L[j].1 := ⟨_, rfl⟩
      obtain ⟨lq, hlq⟩ : ∃ lq, lq = S.L[j].2 := ⟨_, rfl⟩
      rw [← hq] at hca hst hqn
      rw [← hlq] at hcb hst
      obtain rfl := hga
      obtain rfl := hgb
      have y1 : wr.cell? ⟨ga, j, none⟩ = some (.int .i64 (q : Int)) := ((HC.out.old HK1.out Hgs.out (World.block_lt_of_cell? w _ hca)).1).trans hca
      have y2 : wr.cell? ⟨gb, j, none⟩ = some (strV lq) := ((HC.out.old HK1.out Hgs.out (World.block_lt_of_cell? w _ hcb)).1).trans hcb
      obtain ⟨z1, z2⟩ := HC.out.cell q hqn
      have HC2 : Hid (CopyAt w1 ((wr.setCell ⟨gs, q, none⟩ (strV lq)).drew) gs cap S.n (lay S.F (S.L.take (j + 1)))) := by
        show CopyAt _ _ _ _ _ _
        rw [hst]
        exact (HC.out.set q hqn lq).drew
      have Hst := Lib.hid hst
      clear hst hq hlq hca hcb
      go_wp2_with fail
      go_region
      all_goals
        go_wp2_with fail
        go_roundw
        case rel => exact ⟨j + 1, by omega, by go_num, HC2⟩
        case measure => simp [intOf]; omega
    · have e1 : decide (j < S.L.length) = false := by simpa using hlt
      obtain rfl : j = S.L.length := by omega
      have x0 : wr.cell? ⟨b, 0, none⟩ = some (.slice (some ⟨g0, 0, none⟩) S.n sc) := ((HC.out.old HK1.out Hgs.out hlb).1).trans c0
      have y0 : wr.frozen? ⟨b, 0, none⟩ = false := ((HC.out.old HK1.out Hgs.out hlb).2).trans f0
      have y1 : wr.frozen? ⟨b, 1, none⟩ = false := ((HC.out.old HK1.out Hgs.out hlb).2).trans f1
      have y2 : wr.frozen? ⟨b, 2, none⟩ = false := ((HC.out.old HK1.out Hgs.out hlb).2).trans f2
      have HF : Hid (CopyAt w1 wr gs cap S.n (lay S.F S.L)) := by
        have h9 := HC.out
        rw [List.take_of_length_le (Nat.le_refl _)] at h9
        exact h9
      clear HC
      go_wp2_with fail
      go_ret
      exact ⟨rfl, HR.out.flushed HK1.out Hgs.out HF.out (lay_len S.F S.n HR.out.fl S.L (fun x hx => (HR.out.lok x hx).2))⟩
/-- Where the power is gone. -/
theorem rfflush_dead (w : World) (b : Nat) (sv av bv : Value) (S : Dk) (R : RfAt w b sv av bv S) (hd : S.dead = true) :
    Calls Tryz.prog 33 #[.pointer (some ⟨b, 0, none⟩)] w fun e w2 => e = .returned (.int .i64 25) ∧ w = w2 := by
  have c5 := R.c5
  rw [hd] at c5
  clear R hd
  go_enter Tryz.func33, Tryz.ntmps33
  go_wp2
  go_ret
  exact ⟨rfl, rfl⟩
end Go.Proofs.YtggnljfcdohkaaaGreatDoor
/- Contracts of the reference's disk: Crash. -/
namespace Go.Proofs.YtggnljfcdohkaaaGreatDoor
open Go.RowKit

theorem secS_size (l : List UInt8) : (secS l).size = l.length := List.size_toArray
theorem RfThen2.step {b : Nat} {sv av bv : Value} {S2 S3 : Dk} {w w2 : World} (h : RfThen2 b sv av bv S2 w w2) (o : Nat) (v : Value)
    (hs : ∀ sv2 av2 bv2, RfAt w2 b sv2 av2 bv2 S2 → RfAt (w2.setCell ⟨b, o, none⟩ v) b sv2 av2 bv2 S3) : RfThen2 b sv av bv S3 w (w2.setCell ⟨b, o, none⟩ v) := by
  obtain ⟨sv2, av2, bv2, R, K, hx⟩ := h
  exact ⟨sv2, av2, bv2, hs _ _ _ R, K.setCell (.inl (by simp [rfoot])) _, hx⟩
theorem RfAt.setNoCut {w : World} {b : Nat} {sv av bv : Value} {S : Dk} (h : RfAt w b sv av bv S) (C : Nat → List UInt8) : RfAt (w.setCell ⟨b, 4, none⟩ (.int .i64 (-1))) b sv av bv { S with C := C, cut := false, left := 0 } := by
  have kp := Kp.set1 w b 4 (.int .i64 (-1))
  obtain ⟨n1, n2, n3⟩ := h.nofoot_b
  exact { h with
    c0 := by rw [cell_ne _ _ _ _ _ (by decide)]; exact h.c0
    c1 := by rw [cell_ne _ _ _ _ _ (by decide)]; exact h.c1
    c2 := by rw [cell_ne _ _ _ _ _ (by decide)]; exact h.c2
    c3 := by rw [cell_ne _ _ _ _ _ (by decide)]; exact h.c3
    c4 := cell_eq _ _ _ _ _ h.c4
    c5 := by rw [cell_ne _ _ _ _ _ (by decide)]; exact h.c5
    fr := fun o => by rw [frozen_setCell]; exact h.fr o
    ss := kp.owns h.ss n1
    ats := kp.owns h.ats n2
    bts := kp.owns h.bts n3 }
/-- A []bool that is handed over. -/
def KeepR (w : World) (a : Option Addr) (ks : List Bool) : Prop :=
  ∀ i, i < ks.length → ∃ kb ko, a = some ⟨kb, ko, none⟩ ∧ kb < w.heap.size ∧ w.cell? ⟨kb, ko + i, none⟩ = some (.bool (ks.getD i false))
theorem land1_len {ks : List Bool} {tn : Int} {F : Nat → List UInt8} {n : Nat} (hf : ∀ k, k < n → (F k).length = 64) {x : Nat × List UInt8} (hx : x.1 < n ∧ x.2.length = 64) (i : Nat) : ∀ k, k < n → (land1 ks tn F i x k).length = 64 := by
  intro k hk
  unfold land1
  split
  · unfold upd
    split
    · exact torn_length (hf _ hx.1) hx.2 _
    · exact hf k hk
  · exact hf k hk
theorem rlandN_len (ks : List Bool) (tn : Int) (F : Nat → List UInt8) (L : List (Nat × List UInt8)) (n : Nat) (hf : ∀ k, k < n → (F k).length = 64) (hl : ∀ x ∈ L, x.1 < n ∧ x.2.length = 64) : ∀ j, j ≤ L.length → ∀ k, k < n → (landN ks tn F L j k).length = 64
  | 0, _ => hf
  | j + 1, hj => by
    rw [landN_succ ks tn F L j hj]
    exact land1_len (rlandN_len ks tn F L n hf hl j (by omega)) (hl _ (List.getElem_mem _)) j
set_option maxHeartbeats 6400000 in
set_option maxRecDepth 20000 in
theorem rfcrash_any (w : World) (b : Nat) (sv av bv : Value) (S : Dk) (R : RfAt w b sv av bv S) (hn1 : 1 ≤ S.n) (hL : S.L.length < 4294967296) (ka : Option Addr) (kc : Nat) (ks : List Bool) (hks : KeepR w ka ks) (tn : Int) :
    Calls Tryz.prog 19 #[.pointer (some ⟨b, 0, none⟩), .slice ka ks.length kc, .int .i64 tn] w fun e w2 => e = .returned (.tuple #[]) ∧ RfThen2 b sv av bv (S.crash ks tn) w w2 := by
  have c0 := R.c0
  have c1 := R.c1
  have c2 := R.c2
  have c4 := R.c4
  have c5 := R.c5
  have f0 := R.fr 0
  have f1 := R.fr 1
  have f2 := R.fr 2
  have f4 := R.fr 4
  have f5 := R.fr 5
  have hlb := R.lb
  have hn2 := R.n2
  obtain ⟨⟨sa, sc, rfl⟩, ⟨aa, ac, rfl⟩, ⟨ba, bc, rfl⟩⟩ := R.form
  obtain ⟨g0, rfl, _⟩ := R.sec 0 (by omega)
  have HR := Lib.hid R
  have HS := Lib.hid R.ss
  have HKS := Lib.hid hks
  obtain ⟨i0, hi0, hz0, hz1, hz2⟩ := info_parts infoStr
  have Hi0 := Lib.hid hi0
  have hg4 : 7 ≤ w.heap.size := by have := R.hb; omega
  clear hi0 R hks
  go_enter Tryz.func19, Tryz.ntmps19
  go_wp2_with (first
    | (at_builtin; refine wpList_append_own _ rfl _ _ 34 rfl w.heap.size 9 i0 _ 1 16 Tryz.underlying34 Hi0.out hz0 hz1 hz2 rfl (by decide) (.slice none 0 0) 0 [] rfl ⟨rfl, .inl ⟨rfl, rfl⟩⟩ ⟨g0, 0, none⟩ S.n sc ((List.range S.n).map fun k => strV (S.F k)) rfl (by simp) (copy_news HS.out) (rstrs_one _ _) (by unfold maxLen; omega) (by omega) (Nat.le_refl _) ?_; intro v' w1 hown' hgrow' hnil'
       obtain ⟨gs, cap, hgs, rfl, C0, K1⟩ := copy_start hn1 hg4 hown' hgrow'
       clear hown' hgrow' hnil'))
  have HC0 := Lib.hid C0
  have HK1 := Lib.hid K1
  have Hgs := Lib.hid hgs
  clear C0 K1 hgs
  go_loopw [7] (fun i wr => ∃ (j : Nat), j ≤ S.L.length ∧ i = .int .i64 (j : Int) ∧ Hid (CopyAt w1 wr gs cap S.n (landN ks tn S.F S.L j))) (fun i _ => S.L.length - (intOf i).toNat)
  case atStart => exact ⟨0, Nat.zero_le _, rfl, HC0.out⟩
  case round =>
    clear HC0
    obtain ⟨j, hj, rfl, HC⟩ := hrel
    have x1 : wr.cell? ⟨b, 1, none⟩ = some (.slice aa S.L.length ac) := ((HC.out.old HK1.out Hgs.out hlb).1).trans c1
    have x2 : wr.cell? ⟨b, 2, none⟩ = some (.slice ba S.L.length bc) := ((HC.out.old HK1.out Hgs.out hlb).1).trans c2
    by_cases hlt : j < S.L.length
    · have e1 : decide (j < S.L.length) = true := by simpa using hlt
      have hst := landN_succ ks tn S.F S.L j hlt
      by_cases hkl : ks.length ≤ j
      · have e2 : decide (ks.length ≤ j) = true := by simpa using hkl
        have HC2 : Hid (CopyAt w1 wr gs cap S.n (landN ks tn S.F S.L (j + 1))) := by
          show CopyAt _ _ _ _ _ _
          rw [hst]
          unfold land1
          rw [if_neg (by rw [List.getD_eq_getElem?_getD, List.getElem?_eq_none hkl]; decide)]
          exact HC.out
        clear hst
        go_wp2_with fail
        go_roundw
        case rel => exact ⟨j + 1, by omega, by go_num, HC2⟩
        case measure => simp [intOf]; omega
      · have e2 : decide (ks.length ≤ j) = false := by simpa using hkl
        have hkj : j < ks.length := by omega
        obtain ⟨kb, ko, hka, hkb, hkc⟩ := HKS.out j hkj
        obtain rfl := hka
        have y0 : wr.cell? ⟨kb, ko + j, none⟩ = some (.bool (ks.getD j false)) := ((HC.out.old HK1.out Hgs.out hkb).1).trans hkc
        obtain ⟨kv, hkv⟩ : ∃ kv, kv = ks.getD j false := ⟨_, rfl⟩
        rw [← hkv] at y0
        cases kv
        · have HC2 : Hid (CopyAt w1 wr gs cap S.n (landN ks tn S.F S.L (j + 1))) := by
            show CopyAt _ _ _ _ _ _
            rw [hst]
            unfold land1
            rw [if_neg (by rw [← hkv]; decide)]
            exact HC.out
          clear hst hkv hkc
          go_wp2_with fail
          go_roundw
          case rel => exact ⟨j + 1, by omega, by go_num, HC2⟩
          case measure => simp [intOf]; omega
        · obtain ⟨ga, hga, hca⟩ := HR.out.at_ j hlt
          obtain ⟨gb, hgb, hcb⟩ := HR.out.bt_ j hlt
          have hqn := (HR.out.lok _ (List.getElem_mem hlt)).1
          have hql := (HR.out.lok _ (List.getElem_mem hlt)).2
          unfold land1 at hst
          rw [if_pos hkv.symm] at hst
          obtain ⟨q, hq⟩ : ∃ q, q = S.L[j].1 := ⟨_, rfl⟩
          obtain ⟨lq, hlq⟩ : ∃ lq, lq = S.L[j].2 := ⟨_, rfl⟩
          rw [← hq] at hca hst hqn
          rw [← hlq] at hcb hst hql
          obtain rfl := hga
          obtain rfl := hgb
          have y1 : wr.cell? ⟨ga, j, none⟩ = some (.int .i64 (q : Int)) := ((HC.out.old HK1.out Hgs.out (World.block_lt_of_cell? w _ hca)).1).trans hca
          have y2 : wr.cell? ⟨gb, j, none⟩ = some (strV lq) := ((HC.out.old HK1.out Hgs.out (World.block_lt_of_cell? w _ hcb)).1).trans hcb
          obtain ⟨z1, z2⟩ := HC.out.cell q hqn
          have hfl := rlandN_len ks tn S.F S.L S.n HR.out.fl HR.out.lok j hj q hqn
          obtain ⟨fq, hfq⟩ : ∃ fq, fq = landN ks tn S.F S.L j q := ⟨_, rfl⟩
          rw [← hfq] at z1 hst hfl
          by_cases htn : (j : Int) = tn
          · have e3 : ((j : Int) == tn) = true := by simpa using htn
            rw [decide_eq_true htn] at hst
            have s1 : (secS lq).size = 64 := by rw [secS_size]; exact hql
            have s2 : (secS fq).size = 64 := by rw [secS_size]; exact hfl
            have ht9 : (secS lq).extract 0 32 ++ (secS fq).extract 32 64 = secS (torn fq lq true) := (torn_bytes fq lq hfl).symm
            have HC2 : ∀ n, Hid (CopyAt w1 ((wr.drewN n).setCell ⟨gs, q, none⟩ (strV (torn fq lq true))) gs cap S.n (landN ks tn S.F S.L (j + 1))) := by
              intro n
              show CopyAt _ _ _ _ _ _
              rw [hst]
              exact CopyAt.set (wr := wr.drewN n) ⟨HC.out.1, HC.out.2.drewN n⟩ q hqn (torn fq lq true)
            have H2 := Lib.hid HC2
            clear hst hq hlq hca hcb hfq HC2 htn hkv hkc hql hfl
            go_wp2_with fail
            go_quiet (fail)
            go_wp2_with fail
            go_roundw
            case rel => exact ⟨j + 1, by omega, by go_num, H2.out _⟩
            case measure => simp [intOf]; omega
          · have e3 : ((j : Int) == tn) = false := by simpa using htn
            rw [decide_eq_false htn] at hst
            have HC2 : Hid (CopyAt w1 (wr.setCell ⟨gs, q, none⟩ (strV lq)) gs cap S.n (landN ks tn S.F S.L (j + 1))) := by
              show CopyAt _ _ _ _ _ _
              rw [hst]
              exact HC.out.set q hqn lq
            clear hst hq hlq hca hcb hfq htn hkv hkc hql hfl
            go_wp2_with fail
            go_roundw
            case rel => exact ⟨j + 1, by omega, by go_num, HC2⟩
            case measure => simp [intOf]; omega
    · have e1 : decide (j < S.L.length) = false := by simpa using hlt
      obtain rfl : j = S.L.length := by omega
      have x0 : wr.cell? ⟨b, 0, none⟩ = some (.slice (some ⟨g0, 0, none⟩) S.n sc) := ((HC.out.old HK1.out Hgs.out hlb).1).trans c0
      have x4 := ((HC.out.old HK1.out Hgs.out (o := 4) hlb).1).trans c4
      have x5 := ((HC.out.old HK1.out Hgs.out (o := 5) hlb).1).trans c5
      have y0 : wr.frozen? ⟨b, 0, none⟩ = false := ((HC.out.old HK1.out Hgs.out hlb).2).trans f0
      have y1 : wr.frozen? ⟨b, 1, none⟩ = false := ((HC.out.old HK1.out Hgs.out hlb).2).trans f1
      have y2 : wr.frozen? ⟨b, 2, none⟩ = false := ((HC.out.old HK1.out Hgs.out hlb).2).trans f2
      have y4 : wr.frozen? ⟨b, 4, none⟩ = false := ((HC.out.old HK1.out Hgs.out hlb).2).trans f4
      have y5 : wr.frozen? ⟨b, 5, none⟩ = false := ((HC.out.old HK1.out Hgs.out hlb).2).trans f5
      go_wp2_with fail
      go_end0
      refine ⟨rfl, ?_⟩
      have T := HR.out.flushed HK1.out Hgs.out HC.out (rlandN_len ks tn S.F S.L S.n HR.out.fl HR.out.lok _ (Nat.le_refl _))
      have T2 := T.step (S3 := { S with F := landN ks tn S.F S.L S.L.length, L := [], dead := false }) 5 (.bool false) (fun _ _ _ h => h.setDead false)
      exact T2.step (S3 := S.crash ks tn) 4 (.int .i64 (-1)) (fun _ _ _ h => h.setNoCut _)
end Go.Proofs.YtggnljfcdohkaaaGreatDoor
