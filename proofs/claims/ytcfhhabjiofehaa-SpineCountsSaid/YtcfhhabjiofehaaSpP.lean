/- Contracts of slices.Reverse at rows of terms; of terms of package spine. -/
import Derived.Test.YtcfhhabjiofehaaSpM
import Derived.OwnWalk
namespace Go.Proofs.Ytcfhhabjiofehaa
open Go.RowKit Go.ChangeMaps

/-- A row of which i pairs have been swapped, from both ends. -/
def Swp (ps cur : List (Option Addr)) (n i : Nat) : Prop := cur.length = n ∧ ∀ x, x < n → cur[x]? = if x < i ∨ n < x + 1 + i then ps[n - 1 - x]? else ps[x]?
theorem Swp.step {ps cur : List (Option Addr)} {n i j : Nat} (h : Swp ps cur n i) (hj : i + 1 + j = n) (hij : i < j) {a b : Option Addr} (ha : ps[i]? = some a) (hb : ps[j]? = some b) : cur[i]? = some a ∧ cur[j]? = some b ∧ Swp ps ((cur.set i b).set j a) n (i + 1) := by
  obtain ⟨h1, h2⟩ := h
  have ci : cur[i]? = some a := by rw [h2 i (by omega), if_neg (by omega)]; exact ha
  have cj : cur[j]? = some b := by rw [h2 j (by omega), if_neg (by omega)]; exact hb
  refine ⟨ci, cj, by simp [h1], fun x hx => ?_⟩
  rw [List.getElem?_set, List.getElem?_set]
  by_cases e1 : j = x
  · subst e1
    rw [if_pos rfl, if_pos (by simp; omega), if_pos (by omega), show n - 1 - j = i by omega, ha]
  · rw [if_neg e1]
    by_cases e2 : i = x
    · subst e2
      rw [if_pos rfl, if_pos (by omega), if_pos (by omega), show n - 1 - i = j by omega, hb]
    · rw [if_neg e2, h2 x hx]
      by_cases e3 : x < i ∨ n < x + 1 + i
      · rw [if_pos e3, if_pos (by omega)]
      · rw [if_neg e3, if_neg (by omega)]
theorem Swp.done {ps cur : List (Option Addr)} {n i : Nat} (hn : ps.length = n) (h : Swp ps cur n i) (hi : n ≤ i + 1 + i) : cur = ps.reverse := by
  apply List.ext_getElem?
  intro x
  by_cases hx : x < n
  · rw [h.2 x hx, List.getElem?_reverse (by omega), hn]
    split
    · rfl
    · have : n - 1 - x = x := by omega
      rw [this]
  · rw [List.getElem?_eq_none (by rw [h.1]; omega), List.getElem?_eq_none (by simp; omega)]
def RevPost (w : World) (B : Nat) (v : Value) (ps : List (Option Addr)) (ts : List Tm) (e : Ending) (w2 : World) : Prop :=
  e = .returned (.tuple #[]) ∧ Kp v.ownBlock.toList w w2 ∧ Row w2 B v ps.reverse ts.reverse
/-- Where Reverse stands. -/
structure RevSt (w wr : World) (B : Nat) (v : Value) (ps : List (Option Addr)) (i : Nat) : Prop where
  kp : Kp v.ownBlock.toList w wr
  ex : ∃ cur, Swp ps cur ps.length i ∧ wr.ownsRow B 24 1 v ps.length (cur.map Value.pointer)
theorem RevSt.fin {w wr : World} {B : Nat} {v : Value} {ps : List (Option Addr)} {ts : List Tm} {i : Nat} (h : RevSt w wr B v ps i) (hr : Row w B v ps ts) (hi : ps.length ≤ i + 1 + i) : RevPost w B v ps ts (.returned (.tuple #[])) wr := by
  obtain ⟨K, cur, h1, h2⟩ := h
  have hc := h1.done rfl hi
  subst hc
  refine ⟨rfl, K, by simpa using h2, by simp [hr.len], fun x q t hq ht => ?_⟩
  have hF := fun g hg => (hr.own_ge g hg).2
  have hx : x < ps.length := by
    rcases Nat.lt_or_ge x ps.length with h | h
    · exact h
    · rw [List.getElem?_eq_none (by simpa using h)] at hq; cases hq
  rw [List.getElem?_reverse hx] at hq
  rw [List.getElem?_reverse (by rw [hr.len]; exact hx), hr.len] at ht
  exact (hr.trm _ _ _ hq ht).row K hF
set_option maxHeartbeats 3200000 in
theorem reverse_any {w : World} {B : Nat} {v : Value} {ps : List (Option Addr)} {ts : List Tm} (h : Row w B v ps ts) (hn : ps.length ≤ 1000000000000) :
    Calls Try.prog 31 #[v] w (RevPost w B v ps ts) := by
  have HR := Lib.hid h
  obtain ⟨n, hnn⟩ : ∃ n, n = ps.length := ⟨_, rfl⟩
  have M0 : Hid (RevSt w w B v ps 0) := ⟨Kp.refl _ _, ps, ⟨rfl, fun x hx => by rw [if_neg (by omega)]⟩, h.own⟩
  have HN := Lib.hid (And.intro hnn hn)
  obtain ⟨a, c, hv⟩ := h.slice
  have hform := h.form
  rw [← hnn] at hv hform hn
  clear h
  rcases hform with ⟨h1, h2⟩ | ⟨g, c2, cs, h1, h2, h3⟩
  · have h0 : n = 0 := by rw [hnn, h2]; rfl
    subst h1
    clear hv hnn hn
    go_enter Try.func31, Try.ntmps31
    go_wp2_with fail
    go_loopw [2, 3] (fun x y wr => x = .int .i64 0 ∧ y = .int .i64 (-1) ∧ wr = w) (fun _ _ _ => 0)
    case atStart => exact ⟨rfl, by go_num, rfl⟩
    case round =>
      obtain ⟨rfl, rfl, rfl⟩ := hrel
      go_wp2_with fail
      go_end0
      exact M0.out.fin HR.out (by rw [← HN.out.1, h0]; omega)
  · subst h1
    have Hg : Hid (B ≤ g ∧ g < w.heap.size) := ⟨h2, (Array.getElem?_eq_some_iff.1 h3).1⟩
    clear hv hnn h2 h3
    go_enter Try.func31, Try.ntmps31
    go_wp2_with fail
    go_loopw [2, 3] (fun x y wr => ∃ i : Nat, i ≤ n ∧ x = .int .i64 (i : Int) ∧ y = .int .i64 ((n : Int) - 1 - (i : Int)) ∧ Hid (RevSt w wr B (.slice (some ⟨g, 0, none⟩) n c2) ps i)) (fun x _ _ => n - (intOf x).toNat)
    case atStart => exact ⟨0, Nat.zero_le _, rfl, by go_num, M0⟩
    case round =>
      clear M0
      obtain ⟨i, hi, rfl, rfl, HS⟩ := hrel
      by_cases hlt : (i : Int) < (n : Int) - 1 - (i : Int)
      · have l1 : decide ((i : Int) < (n : Int) - 1 - (i : Int)) = true := by simpa using hlt
        obtain ⟨j, hj⟩ : ∃ j : Nat, i + 1 + j = n := ⟨n - 1 - i, by omega⟩
        have ej : (n : Int) - 1 - (i : Int) = (j : Int) := by omega
        rw [ej] at l1 ⊢
        have hij : i < j := by omega
        obtain ⟨K, cur, hs, ho⟩ := HS.out
        have hil : i < ps.length := by rw [← HN.out.1]; omega
        have hjl : j < ps.length := by rw [← HN.out.1]; omega
        obtain ⟨ci, cj, hs2⟩ := hs.step (by rw [← HN.out.1]; exact hj) hij (List.getElem?_eq_getElem hil) (List.getElem?_eq_getElem hjl)
        obtain ⟨qa, hqa⟩ : ∃ qa, qa = ps[i] := ⟨_, rfl⟩
        obtain ⟨qb, hqb⟩ : ∃ qb, qb = ps[j] := ⟨_, rfl⟩
        rw [← hqa] at ci hs2
        rw [← hqb] at cj hs2
        rw [← HN.out.1] at hs2 ho
        have xi : wr.cell? ⟨g, i, none⟩ = some (.pointer qa) := by rw [ho.cellAt i (by omega), List.getElem?_map, ci]; rfl
        have xj : wr.cell? ⟨g, j, none⟩ = some (.pointer qb) := by rw [ho.cellAt j (by omega), List.getElem?_map, cj]; rfl
        have fi : wr.frozen? ⟨g, i, none⟩ = false := ho.frozenAt i
        have fj : wr.frozen? ⟨g, j, none⟩ = false := ho.frozenAt j
        have hin : i < n := by omega
        have hjn : j < n := by omega
        have HE : Hid (RevSt w ((wr.setCell ⟨g, i, none⟩ (.pointer qb)).setCell ⟨g, j, none⟩ (.pointer qa)).drew B (.slice (some ⟨g, 0, none⟩) n c2) ps (i + 1)) := by
          refine ⟨((K.setCell (.inl (by simp [Value.ownBlock])) _).setCell (.inl (by simp [Value.ownBlock])) _).drew, _, by rw [← HN.out.1]; exact hs2, ?_⟩
          rw [← HN.out.1, List.map_set, List.map_set]
          exact (((ho.stored i _).1.stored j _).1).drew
        clear HS K hs ho hs2 ci cj hil hjl hqa hqb hlt
        go_wp2_with fail
        go_region
        all_goals
          go_wp2_with fail
          go_roundw
          case rel => exact ⟨i + 1, by omega, by go_num, by go_num, HE⟩
          case measure => simp [intOf]; omega
      · have l1 : decide ((i : Int) < (n : Int) - 1 - (i : Int)) = false := by simpa using hlt
        have hfin : Hid (n ≤ i + 1 + i) := by show n ≤ i + 1 + i; omega
        clear hlt
        go_wp2_with fail
        go_end0
        exact HS.out.fin HR.out (by rw [← HN.out.1]; exact hfin.out)
/-- No node of a term lies in a block that holds none. -/
theorem TmP.off {w : World} {P : Nat → Prop} {X : List Nat} (hX : ∀ g ∈ X, NoNode w g) : ∀ {t : Tm} {q : Option Addr}, TmP w P t q → TmP w (fun b => b ∉ X) t q
  | .nil, _, h => h
  | .node _ _ _ _ _ _, _, ⟨g, pa, pb, pc, h1, _, h3, h4, h5, h6⟩ => ⟨g, pa, pb, pc, h1, fun hm => hX g hm _ _ _ _ _ _ h3, h3, h4.off hX, h5.off hX, h6.off hX⟩
/-- What terms leaves: the row, of copies. -/
def CTermsPost (w : World) (B A : Nat) (v : Value) (M : Option Nat) (ts : List Tm) (e : Ending) (w2 : World) : Prop :=
  ∃ ps2 M2 nd2, e = .returned v ∧ Kp (A :: (v.ownBlock.toList ++ M.toList)) w w2 ∧ MapStep w M M2 ∧ Env w2 A v.ownBlock.toList nd2 M2 [] ∧ Row w2 B v ps2 ts
/-- Where terms stands. -/
def CtSt (w wr : World) (B A : Nat) (v : Value) (M : Option Nat) (ts : List Tm) (n : Nat) : Prop :=
  ∃ cur M2 nd2, cur.length = n ∧ Kp (A :: (v.ownBlock.toList ++ M.toList)) w wr ∧ MapStep w M M2 ∧ Env wr A v.ownBlock.toList nd2 M2 [] ∧ Row wr B v cur ts
theorem CtSt.fin {w wr : World} {B A : Nat} {v : Value} {M : Option Nat} {ts : List Tm} {n : Nat} (h : CtSt w wr B A v M ts n) : CTermsPost w B A v M ts (.returned v) wr := by
  obtain ⟨cur, M2, nd2, _, h1, h2, h3, h4⟩ := h
  exact ⟨cur, M2, nd2, rfl, h1, h2, h3, h4⟩
theorem kp_step2 {A : Nat} {G : List Nat} {a b c : World} {M1 M2 : Option Nat} (h : Kp (A :: (G ++ M1.toList)) a b) (s : MapStep a M1 M2) (k : Kp (A :: (G ++ M2.toList)) b c) : Kp (A :: (G ++ M1.toList)) a c := by
  refine h.trans2 k (fun x hx => ?_)
  rcases List.mem_cons.1 hx with rfl | hx
  · exact .inl (by simp)
  · rcases List.mem_append.1 hx with hx | hx
    · exact .inl (by simp [hx])
    · rcases s with rfl | ⟨rfl, b1, rfl, h1⟩
      · exact .inl (by simp [hx])
      · right
        simp at hx
        rw [hx]; exact h1
/-- A round of it: the call's copy is stored. -/
theorem CtSt.step {w wr w2 : World} {B A g c n : Nat} {M : Option Nat} {ts : List Tm} {cur : List (Option Addr)} {M2 M3 : Option Nat} {nd2 : Int} {k : Nat} {t : Tm} {q : Option Addr}
    (hl : cur.length = n) (K : Kp (A :: ((Value.slice (some ⟨g, 0, none⟩) n c).ownBlock.toList ++ M.toList)) w wr) (S : MapStep w M M2) (he : Env wr A [g] nd2 M2 []) (hr : Row wr B (.slice (some ⟨g, 0, none⟩) n c) cur ts) (hk : ts[k]? = some t)
    (kk : Kp (A :: M2.toList) wr w2) (ss : MapStep wr M2 M3) {nd3 : Int} (ee : Env w2 A [g] nd3 M3 []) (tt : TmP w2 (fun b => b ∉ [g]) t q) :
    CtSt w (w2.setCell ⟨g, k, none⟩ (.pointer q)) B A (.slice (some ⟨g, 0, none⟩) n c) M ts n := by
  have hform := hr.form
  have hgB : ∃ cs, wr.heap[g]? = some (.cells cs 24 (0, 0)) := by
    rcases hform with ⟨h1, _⟩ | ⟨g2, c2, cs, h1, _, h3⟩
    · cases h1
    · injection h1 with h1
      injection h1 with h1
      injection h1 with h1
      subst h1
      exact ⟨cs, h3⟩
  obtain ⟨cs, hg⟩ := hgB
  have hgA := notIn_foot he hg (by decide)
  have hg2 : w2.heap[g]? = some (.cells cs 24 (0, 0)) := (kk.block g (Array.getElem?_eq_some_iff.1 hg).1 hgA).trans hg
  have hgA2 := notIn_foot ee hg2 (by decide)
  have ho2 : w2.ownsRow B 24 1 (.slice (some ⟨g, 0, none⟩) n c) n (cur.map Value.pointer) := by
    have h1 := kk.owns hr.own (fun x hx hm => by
      obtain rfl : g = x := by simpa [Value.ownBlock] using hx
      exact hgA hm)
    rw [hl] at h1
    exact h1
  have K3 : Kp [g] w2 (w2.setCell ⟨g, k, none⟩ (.pointer q)) := (Kp.refl [g] w2).setCell (.inl (by simp)) _
  have hN2 : ∀ x ∈ [g], NoNode w2 x := fun x hx => by rw [List.mem_singleton.1 hx]; exact noNode_of hg2 (by decide)
  have hNr : ∀ x ∈ [g], NoNode wr x := fun x hx => by rw [List.mem_singleton.1 hx]; exact noNode_of hg (by decide)
  refine ⟨cur.set k q, M3, nd3, by simp [hl], ?_, S.trans ss K.size, ?_, ?_⟩
  · refine kp_step2 (kp_step2 K S (kk.mono (fun x hx => by simp at hx; rcases hx with rfl | hx <;> simp [*]))) (S.trans ss K.size) (K3.mono (fun x hx => by rw [List.mem_singleton.1 hx]; simp [Value.ownBlock]))
  · simp only [List.mem_cons, not_or] at hgA2
    exact ee.kp K3 (fun x hx => .inr hx) (by simpa using fun e => hgA2.1 e.symm) (fun b hb hm => by
      rw [List.mem_singleton] at hm
      exact hgA2.2 (by rw [← hm, hb]; simp)) (fun _ _ h => h) (fun x hx => K3.lt (ee.xs x hx)) (fun _ h => h)
  · refine ⟨?_, by simp [hr.len], fun x q2 t2 h1 h2 => ?_⟩
    · have := (ho2.stored k (.pointer q)).1
      rw [List.length_set, hl, List.map_set]
      exact this
    · rw [List.getElem?_set] at h1
      by_cases e : k = x
      · subst e
        rw [if_pos rfl] at h1
        split at h1
        · injection h1 with h1
          subst h1
          rw [hk] at h2
          injection h2 with h2
          subst h2
          exact (tt.at).row K3 hN2
        · cases h1
      · rw [if_neg e] at h1
        exact ((((hr.trm x q2 t2 h1 h2).off hNr).call he kk).at).row K3 hN2
set_option maxHeartbeats 3200000 in
theorem cterms_any {w : World} {B A : Nat} {v : Value} {nd : Int} {M : Option Nat} {ps : List (Option Addr)} {ts : List Tm} (h : Row w B v ps ts) (hn9 : ps.length ≤ 1000000000000) (he : Env w A v.ownBlock.toList nd M []) :
    Calls Try.prog 33 #[.pointer (some ⟨A, 0, none⟩), v] w (CTermsPost w B A v M ts) := by
  obtain ⟨n, hn⟩ : ∃ n, n = ps.length := ⟨_, rfl⟩
  have M0 : Hid (CtSt w w B A v M ts n) := ⟨ps, M, nd, hn.symm, Kp.refl _ _, MapStep.refl _ _, he, h⟩
  obtain ⟨a, c, hv⟩ := h.slice
  rw [← hn] at hv
  subst hv
  rw [← hn] at hn9
  clear h he hn
  go_enter Try.func33, Try.ntmps33
  go_wp2_with fail
  go_loopw [9] (fun i wr => ∃ k : Nat, k ≤ n ∧ i = .int .i64 (k : Int) ∧ Hid (CtSt w wr B A (.slice a n c) M ts n)) (fun i _ => n - (intOf i).toNat)
  case atStart => exact ⟨0, Nat.zero_le _, rfl, M0⟩
  case round =>
    clear M0
    obtain ⟨k, hk, rfl, HS⟩ := hrel
    by_cases hlt : k < n
    · have l1 : decide ((k : Int) < (n : Int)) = true := by simpa using hlt
      have l1' : decide (k < n) = true := by simpa using hlt
      obtain ⟨cur, M2, nd2, hl, K, S, he, hr⟩ := HS.out
      obtain ⟨g, c2, q, t, h1, h2, h3, h4, h5, h6⟩ := hr.cell k (by omega)
      rw [hl] at h1
      injection h1 with h1 _ h7
      subst h1
      subst h7
      have hNr : ∀ x ∈ [g], NoNode wr x := fun x hx => (hr.own_ge x (by simpa [Value.ownBlock] using hx)).2
      have he' : Env wr A [g] nd2 M2 [] := he
      have HC : Hid (Calls Try.prog 32 #[.pointer (some ⟨A, 0, none⟩), .pointer q] wr (AtPost wr A [g] M2 [] t)) := at_any t wr A [g] nd2 M2 [] q he' (fun k hk => by cases hk) (h6.off hNr)
      have HX := Lib.hid (And.intro hl (And.intro K (And.intro S (And.intro he' (And.intro hr h5)))))
      have hgf : Hid (∀ w2, Kp (A :: M2.toList) wr w2 → w2.cell? ⟨g, k, none⟩ = some (.pointer q) ∧ w2.frozen? ⟨g, k, none⟩ = false) := fun w2 K2 => by
        rcases hr.form with ⟨e1, _⟩ | ⟨g2, c3, cs, e1, _, e3⟩
        · cases e1
        · injection e1 with e1
          injection e1 with e1
          injection e1 with e1
          subst e1
          have hgA := notIn_foot he' e3 (by decide)
          have hlg := (Array.getElem?_eq_some_iff.1 e3).1
          exact ⟨(K2.cell (p := ⟨g, k, none⟩) hlg hgA).trans h2, (K2.frozen (p := ⟨g, k, none⟩) hlg hgA).trans h3⟩
      clear HS K S he hr h4 h5 h6 he' hl hNr
      go_wp2_with (go_at_call 32; refine Calls.mono HC.out ?_; rintro e w2 ⟨q2, M3, nd3, rfl, kk, ss, ee, tt⟩; have KK := Lib.hid (And.intro kk (And.intro ss (And.intro ee tt))); obtain ⟨z1, z2⟩ := hgf.out _ kk; clear kk ss ee tt h2 h3)
      go_roundw
      case rel => exact ⟨k + 1, hlt, by go_num, HX.out.2.2.2.2.1 |> fun hr => CtSt.step HX.out.1 HX.out.2.1 HX.out.2.2.1 HX.out.2.2.2.1 hr HX.out.2.2.2.2.2 KK.out.1 KK.out.2.1 KK.out.2.2.1 KK.out.2.2.2⟩
      case measure => simp [intOf]; omega
    · have l1 : decide ((k : Int) < (n : Int)) = false := by simpa using hlt
      have l1' : decide (k < n) = false := by simpa using hlt
      clear hlt hk
      go_wp2_with fail
      go_ret
      exact HS.out.fin
end Go.Proofs.Ytcfhhabjiofehaa
