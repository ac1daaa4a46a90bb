/- The law TreePlays, walked. -/
import Derived.Test.YtpocnldljglbgaaTrV
import Derived.Test.YtpocnldljglbgaaOr2
import Derived.Deep.Cut
import Derived.Deep.CutRange
namespace Go.Proofs.Ytpocnldljglbgaa
open Go.RowKit Tr

structure StepT where
  key : ByteArray
  n : Int
  del : Bool
/-- A row of steps that is handed over. -/
def StepsT (w : World) (a : Option Addr) (n : Nat) (st : Nat → StepT) : Prop :=
  ∀ i, i < n → ∃ g o, a = some ⟨g, o, none⟩ ∧ g < w.heap.size ∧ w.cell? ⟨g, o + i * 3, none⟩ = some (.string (st i).key) ∧ w.cell? ⟨g, o + i * 3 + 1, none⟩ = some (.int .i64 (st i).n) ∧ w.cell? ⟨g, o + i * 3 + 2, none⟩ = some (.bool (st i).del)
theorem modInfo : (Try.prog.info? 30).map (fun i => (i.zero, i.size, i.bytes)) = some (some (.agg #[.slice none 0 0, .slice none 0 0]), 2, 48) := by kernel_rfl
theorem ptrInfo : (Try.prog.info? 24).map (fun i => (i.zero, i.size, i.bytes)) = some (some (.pointer none), 1, 8) := by kernel_rfl
theorem done_any2 (a b : Option Addr) (c d : Nat) (L : List En) (hr : Rise L) (hL : L.length ≤ 1000) (k : ByteArray) (n : Int) (del : Bool) (w : World) (hS : StrsAt w w.heap.size a L.length (keyAt L)) (hN : NumsAt w b L.length (numAt L)) :
    Calls Try.prog 10 #[.agg #[.slice a L.length c, .slice b L.length d], .agg #[.string k, .int .i64 n, .bool del]] w fun e w2 => ∃ va vb dl vc vd, e = .returned (.agg #[.slice va dl vc, .slice vb dl vd]) ∧ Kp [] w w2 ∧ ModAt w2 (.slice va dl vc) (.slice vb dl vd) (doneL k n del L) :=
  (done_any a b c d L hr hL k n del w hS hN).mono fun e w2 ⟨kv, nv, he, hk, hm⟩ => by
    obtain ⟨va, vb, vc, vd, h1, h2, _⟩ := hm.ex
    subst h1
    subst h2
    exact ⟨va, vb, _, vc, vd, he, hk, hm⟩
theorem obj_cells {x : World} {T : Nat} {v u : Value} {ty : TypeId} (h : x.heap[T]? = some (.cells #[v, u] ty)) : x.cell? ⟨T, 0, none⟩ = some v ∧ x.cell? ⟨T, 1, none⟩ = some u ∧ ∀ o, x.frozen? ⟨T, o, none⟩ = false :=
  ⟨by simp [World.cell?, h], by simp [World.cell?, h], fun o => by simp [World.frozen?, h]⟩
theorem alien_mod {x : World} {T : Nat} (h : x.heap[T]? = some (.cells #[.slice none 0 0, .slice none 0 0] 30)) : Alien x T := by
  have h0 := (obj_cells h).1
  refine ⟨fun s hs => ?_, fun s hs => ?_, fun p hp => ?_⟩
  · rw [h0] at hs; cases hs
  · rw [h0] at hs; cases hs
  · rw [h] at hp
    injection hp with hp
    injection hp with _ hp _
    revert hp
    decide
theorem get_bool {w : World} {a : Option Addr} {L : List En} (h : MapAt w a L) (k : ByteArray) :
    Calls Try.prog 14 #[.pointer a, .string k] w fun e w2 => ∃ v ok, e = .returned (.tuple #[.int .i64 v, .bool ok]) ∧ w2 = w ∧ (ok = decide (lk k L ≠ none)) :=
  (get_any h k).mono fun e w2 ⟨he, hw⟩ => by
    cases hl : lk k L with
    | none => rw [hl] at he; exact ⟨0, false, he, hw, by simp⟩
    | some n => rw [hl] at he; exact ⟨n, true, he, hw, by simp⟩
theorem has_lk {k : ByteArray} {L : List En} (h : Rise L) : (∃ i, i < L.length ∧ keyAt L i = k) ↔ lk k L ≠ none := by
  constructor
  · rintro ⟨i, hi, rfl⟩
    rw [lk_num h hi]
    simp
  · intro hk
    obtain ⟨n, hm, _⟩ := lk_some hk
    obtain ⟨i, hi, he⟩ := List.getElem_of_mem hm
    exact ⟨i, hi, by rw [keyAt_get hi, he]⟩
/-- What the loads of a statement read: a model's variable. -/
def ST (T : Nat) (u v : Value) (x : World) : Prop := x.cell? ⟨T, 0, none⟩ = some u ∧ x.cell? ⟨T, 1, none⟩ = some v
theorem doneL_len (k : ByteArray) (n : Int) (del : Bool) (L : List En) : (doneL k n del L).length ≤ L.length + 1 := by
  cases del
  · exact len_put_le k n L
  · exact Nat.le_succ_of_le (len_rem_le k L)
theorem doneL_rise (k : ByteArray) (n : Int) (del : Bool) {L : List En} (h : Rise L) : Rise (doneL k n del L) := by
  cases del
  · exact rise_put k n L h
  · exact rise_rem k L h
theorem pl_start {x : World} {a : Option Addr} (h : MapAt x a []) (y : World) (hy : y = (x.alloc (.cells #[.pointer a] 24)).alloc (.cells #[.slice none 0 0, .slice none 0 0] 30)) :
    Kp [] x y ∧ Pl x.heap.size y (.slice (some ⟨x.heap.size, 0, none⟩) 1 1) (.slice (some ⟨x.heap.size + 1, 0, none⟩) 1 1) [⟨a, .slice none 0 0, .slice none 0 0, []⟩] := by
  obtain ⟨x1, h1⟩ : ∃ x1, x1 = x.alloc (.cells #[.pointer a] 24) := ⟨_, rfl⟩
  rw [← h1] at hy
  have z1 : x1.heap.size = x.heap.size + 1 := by rw [h1]; simp
  have k1 : Kp [] x x1 := by rw [h1]; exact (Kp.refl [] x).alloc _
  have k2 : Kp [] x1 y := by rw [hy]; exact (Kp.refl [] x1).alloc _
  have b1 : x1.heap[x.heap.size]? = some (.cells #[.pointer a] 24) := by rw [h1]; exact heap_alloc_new x _
  have b2 : y.heap[x.heap.size]? = some (.cells #[.pointer a] 24) := (k2.block _ (by omega) (fun h => by cases h)).trans b1
  have b3 : y.heap[x.heap.size + 1]? = some (.cells #[.slice none 0 0, .slice none 0 0] 30) := by rw [hy, ← z1]; exact heap_alloc_new x1 _
  refine ⟨k1.trans k2, ⟨⟨(k1.trans k2).size, ?_, ?_, fun j h1 h2 => ?_⟩, by simp, fun e he => ?_⟩⟩
  · exact ⟨rfl, .inr ⟨x.heap.size, 1, #[.pointer a], rfl, Nat.le_refl _, b2, Nat.le_refl _, by decide, rfl, rfl⟩⟩
  · exact ⟨rfl, .inr ⟨x.heap.size + 1, 1, #[.slice none 0 0, .slice none 0 0], rfl, Nat.le_succ _, b3, Nat.le_refl _, by decide, rfl, rfl⟩⟩
  · simp [Value.ownBlock] at h1 h2
    omega
  · obtain rfl := List.mem_singleton.1 he
    exact ⟨h.kp (k1.trans k2), ⟨none, none, 0, 0, rfl, rfl, fun i hi => absurd hi (Nat.not_lt_zero _), fun i hi => absurd hi (Nat.not_lt_zero _), (fun x h => by cases h), (fun x h => by cases h)⟩, Nat.zero_le _⟩
set_option maxHeartbeats 6400000 in
set_option maxRecDepth 20000 in
theorem plays_any (la : Option Addr) (z c : Nat) (st : Nat → StepT) (key : ByteArray) (w : World) (hR : StepsT w la z st) :
    Calls Try.prog 3 #[.slice la z c, .string key] w fun e w2 => e = .returned (.bool true) ∧ Kp [] w w2 := by
  have HR := Lib.hid hR
  clear hR
  by_cases h1 : 60 < z
  · have d1 : decide ((60 : Int) < (z : Int)) = true := by simp; omega
    clear HR h1
    go_enter Try.func3, Try.ntmps3
    go_wp2_with fail
    refine Calls.mono (known_any _) ?_
    rintro e x1 ⟨rfl, K⟩
    have H1 := Lib.hid K
    clear K
    go_wp2_with fail
    go_ret
    exact ⟨rfl, H1.out⟩
  have d1 : decide ((60 : Int) < (z : Int)) = false := by simp; omega
  have hz : z ≤ 60 := by omega
  clear h1
  go_enter Try.func3, Try.ntmps3
  go_wp2_with fail
  refine Calls.mono (known_any _) ?_
  rintro e x1 ⟨rfl, K⟩
  have H1 := Lib.hid K
  clear K
  go_wp2_with fail
  refine Calls.mono (new_any _) ?_
  rintro e x2 ⟨a0, rfl, K, M0⟩
  have H2 := Lib.hid (H1.out.trans K)
  have HM0 := Lib.hid M0
  clear K H1 M0
  go_upto_region 6 with fail
  obtain ⟨n0, hn0⟩ : ∃ n0, n0 = x2.heap.size := ⟨_, rfl⟩
  obtain ⟨y, hy⟩ : ∃ y, y = (x2.alloc (.cells #[.pointer a0] 24)).alloc (.cells #[.slice none 0 0, .slice none 0 0] 30) := ⟨_, rfl⟩
  have P0 := Lib.hid (pl_start HM0.out y hy)
  rw [← hy, ← hn0]
  rw [← hn0] at P0
  have HN0 := Lib.hid hn0
  clear hy hn0 HM0
  go_wp2_with fail
  go_loopw [5, 6, 7] (fun tv mv i wr => ∃ (k : Nat) (Es : List El), k ≤ z ∧ i = .int .i64 (k : Int) ∧ Hid (Pl n0 wr tv mv Es ∧ Es.length = k + 1 ∧ ∀ e ∈ Es, e.L.length ≤ k) ∧ Hid (Below n0 x2 wr)) (fun _ _ i _ => z - (intOf i).toNat)
  case atStart => exact ⟨0, _, Nat.zero_le _, rfl, ⟨P0.out.2, rfl, fun e he => by rw [List.mem_singleton.1 he]; exact Nat.le_refl _⟩, by show Below n0 x2 y; rw [HN0.out]; exact P0.out.1.below (Nat.le_refl _) (fun _ h => by cases h)⟩
  case round =>
    obtain ⟨k, Es, hk, rfl, HP, HB⟩ := hrel
    by_cases hlt : k < z
    · have l1 : decide ((k : Int) < (z : Int)) = true := by simpa using hlt
      have l1' : decide (k < z) = true := by simpa using hlt
      have Hlt := Lib.hid hlt
      obtain ⟨g, o, rfl, hg, s0, s1, s2⟩ := HR.out k hlt
      obtain ⟨⟨sk, sn, sd⟩, hst⟩ : ∃ e, e = st k := ⟨_, rfl⟩
      rw [← hst] at s0 s1 s2
      simp only at s0 s1 s2
      have SA : Hid (∀ x, Below n0 x2 x → x.cell? ⟨g, o + k * 3, none⟩ = some (.string sk) ∧ x.cell? ⟨g, o + k * 3 + 1, none⟩ = some (.int .i64 sn) ∧ x.cell? ⟨g, o + k * 3 + 2, none⟩ = some (.bool sd)) := fun x K => by
        have c : ∀ j, x.cell? ⟨g, j, none⟩ = w.cell? ⟨g, j, none⟩ := fun j => (World.cell?_of_block (w := x2) (K.block g (by have := H2.out.lt hg; have := HN0.out; omega))).trans (H2.out.cell0 hg)
        exact ⟨(c _).trans s0, (c _).trans s1, (c _).trans s2⟩
      clear hg s0 s1 s2 hst
      have c0 := (SA.out wr HB.out).1
      have c2 := (SA.out wr HB.out).2.2
      by_cases hbig : 30 < sk.size
      · have d2 : decide ((30 : Int) < (sk.size : Int)) = true := by simp; omega
        clear hbig c2
        go_wp2_with fail
        go_ret
        refine ⟨rfl, H2.out.trans (Kp.of_below ?_ [])⟩
        rw [← HN0.out]
        exact HB.out
      have d2 : decide ((30 : Int) < (sk.size : Int)) = false := by simp; omega
      clear hbig
      obtain ⟨gt, ct, htv, hgt, htc, _⟩ := HP.out.1.t
      have hkE : k < Es.length := by rw [HP.out.2.1]; exact Nat.lt_succ_self k
      obtain ⟨e, he⟩ : ∃ e, e = Es[k] := ⟨_, rfl⟩
      have HEl : Hid (ElAt wr e ∧ e.L.length ≤ k) := by rw [he]; exact ⟨HP.out.1.all _ (List.getElem_mem _), HP.out.2.2 _ (List.getElem_mem _)⟩
      have c1 := htc k hkE
      rw [← he] at c1
      obtain ⟨k1, hk1⟩ : ∃ k1, k1 = Es.length := ⟨_, rfl⟩
      rw [← hk1] at htv
      have hkk1 : k1 = k + 1 := hk1.trans HP.out.2.1
      subst htv
      obtain ⟨gm, cm, hmv, hgm, hmc, _⟩ := HP.out.1.mm
      have hm2 := hmc k hkE
      rw [← he] at hm2
      rw [← hk1] at hmv
      subst hmv
      obtain ⟨ea, ekv, env, eL⟩ := e
      simp only at HEl c1 hm2
      have HMC := Lib.hid hm2
      have Hgm := Lib.hid hgm
      have w1 : IntKind.i64.wrap ((k1 : Int) - 1) = (k : Int) := by rw [IntKind.wrap_i64]; omega
      have hkk : k < k1 := by omega
      have HK1 : Hid (k1 = k + 1 ∧ k1 = Es.length) := ⟨hkk1, hk1⟩
      have Hgt := Lib.hid hgt
      clear htc hkE he hgt hmc hm2 hgm hkk1 hk1
      go_upto_if 47 with fail
      go_cut [9] from 23 to 110 (fun s9 wx => ∃ a2, s9 = .pointer a2 ∧ Hid (MapAt wx a2 (doneL sk sn sd eL)) ∧ Hid (Kp [] wr wx))
      case first =>
        cases sd
        · go_wp2_with fail
          have c3 := (SA.out wr HB.out).2.1
          have KD : Hid (Kp [] wr wr.drew) := (Kp.refl [] wr).drew
          go_region_held3 (fun w' => w'.cell? ⟨g, o + k * 3, none⟩ = some (.string sk) ∧ w'.cell? ⟨g, o + k * 3 + 1, none⟩ = some (.int .i64 sn)) (first | exact ⟨c0, c3⟩ | exact CK.out)
            ((go_at_call 9; refine Calls.mono (With_any (HEl.out.1.m.kp KD.out) sk sn (by have h : eL.length ≤ k := HEl.out.2; show eL.length ≤ 400000; omega)) ?_; rintro e x4 ⟨a2, rfl, kk, mm⟩; have K4 := Lib.hid (KD.out.trans kk); have M4 := Lib.hid mm; have CK : Hid (x4.cell? ⟨g, o + k * 3, none⟩ = some (.string sk) ∧ x4.cell? ⟨g, o + k * 3 + 1, none⟩ = some (.int .i64 sn)) := ⟨(kk.cell0 (World.block_lt_of_cell? wr _ c0)).trans c0, (kk.cell0 (World.block_lt_of_cell? wr _ c0)).trans c3⟩; clear kk mm))
          all_goals
            go_wp2_with fail
            go_meet
            case rel => exact ⟨_, rfl, M4, K4⟩
        · go_wp2_with fail
          refine Calls.mono (Without_any HEl.out.1.m sk (by have h : eL.length ≤ k := HEl.out.2; show eL.length ≤ 400000; omega)) ?_
          rintro e x4 ⟨a2, rfl, kk, mm⟩
          have K4 := Lib.hid kk
          have M4 := Lib.hid mm
          clear kk mm
          go_wp2_with fail
          go_meet
          case rel => exact ⟨_, rfl, M4, K4⟩
      case rest =>
        obtain ⟨a2, rfl, HM4, HK4⟩ := hcut
        clear c0 c1 c2
        go_upto_region 16 with fail
        obtain ⟨ma, mb, mc, md, hk1, hk2, hS, hN, _⟩ := HEl.out.1.d.ex
        simp only at hk1 hk2 hS hN
        subst hk1
        subst hk2
        have HDone : Hid (∀ W, Kp [] wc W → Calls Try.prog 10 #[.agg #[.slice ma eL.length mc, .slice mb eL.length md], .agg #[.string sk, .int .i64 sn, .bool sd]] W fun e w2 => ∃ va vb dl vc vd, e = .returned (.agg #[.slice va dl vc, .slice vb dl vd]) ∧ Kp [] W w2 ∧ ModAt w2 (.slice va dl vc) (.slice vb dl vd) (doneL sk sn sd eL)) :=
          fun W K => done_any2 ma mb mc md eL HEl.out.1.m.rise (by have h : eL.length ≤ k := HEl.out.2; omega) sk sn sd W (hS.kept (HK4.out.trans K)) (hN.kept (HK4.out.trans K))
        clear hS hN
        obtain ⟨el, hel⟩ : ∃ el, el = eL.length := ⟨_, rfl⟩
        rw [← hel] at HDone HMC
        clear hel
        have S0 : Hid (∀ X, Kp [] wc X → X.cell? ⟨gm, k * 2, none⟩ = some (.slice ma el mc) ∧ X.cell? ⟨gm, k * 2 + 1, none⟩ = some (.slice mb el md) ∧ X.cell? ⟨g, o + k * 3, none⟩ = some (.string sk) ∧ X.cell? ⟨g, o + k * 3 + 1, none⟩ = some (.int .i64 sn) ∧ X.cell? ⟨g, o + k * 3 + 2, none⟩ = some (.bool sd)) := fun X K => by
          have kk := HK4.out.trans K
          have hgl : g < wr.heap.size := World.block_lt_of_cell? wr _ (SA.out wr HB.out).1
          exact ⟨(kk.cell0 Hgm.out).trans HMC.out.1, (kk.cell0 Hgm.out).trans HMC.out.2, (kk.cell0 hgl).trans (SA.out wr HB.out).1, (kk.cell0 hgl).trans (SA.out wr HB.out).2.1, (kk.cell0 hgl).trans (SA.out wr HB.out).2.2⟩
        have KD : Hid (Kp [] wc wc.drew) := (Kp.refl [] wc).drew
        have KE : Hid (Kp [] wc (wc.alloc (.cells #[.slice none 0 0, .slice none 0 0] 30)).drew) := ((Kp.refl [] wc).alloc _).drew
        have TE : Hid ((wc.alloc (.cells #[.slice none 0 0, .slice none 0 0] 30)).drew.heap[wc.heap.size]? = some (.cells #[.slice none 0 0, .slice none 0 0] 30)) := heap_alloc_new wc _
        have TL : Hid (wc.heap.size < (wc.alloc (.cells #[.slice none 0 0, .slice none 0 0] 30)).drew.heap.size) := by show _ < (wc.alloc _).heap.size; simp
        go_cut [10] from 23 to 110 (fun s10 wx => ∃ T va vb dl vc vd, s10 = .pointer (some ⟨T, 0, none⟩) ∧ Hid (ModAt wx (.slice va dl vc) (.slice vb dl vd) (doneL sk sn sd eL)) ∧ Hid (wx.cell? ⟨T, 0, none⟩ = some (.slice va dl vc) ∧ wx.cell? ⟨T, 1, none⟩ = some (.slice vb dl vd) ∧ wc.heap.size ≤ T ∧ T < wx.heap.size) ∧ Hid (Kp [] wc wx))
        case first =>
          have b5 : k < z := Hlt.out
          go_region_held3 (fun X => X.cell? ⟨gm, k * 2, none⟩ = some (.slice ma el mc) ∧ X.cell? ⟨gm, k * 2 + 1, none⟩ = some (.slice mb el md) ∧ X.cell? ⟨g, o + k * 3, none⟩ = some (.string sk) ∧ X.cell? ⟨g, o + k * 3 + 1, none⟩ = some (.int .i64 sn) ∧ X.cell? ⟨g, o + k * 3 + 2, none⟩ = some (.bool sd))
            (first | exact S0.out _ KD.out | exact S0.out _ KE.out | exact S0.out _ K5.out | exact S0.out _ (K5.out.alloc _) | exact S0.out _ ((K5.out.setCell (.inr (Nat.le_refl _)) _).setCell (.inr (Nat.le_refl _)) _) | exact S0.out _ (((K5.out.alloc _).setCell (.inr K5.out.size) _).setCell (.inr K5.out.size) _))
            (first
            | (go_at_call 10; refine Calls.mono (HDone.out _ KD.out) ?_; rintro e x5 ⟨va, vb, dl, vc, vd, rfl, kk, mm⟩; have K5 := Lib.hid (KD.out.trans kk); have M5 := Lib.hid mm; clear kk mm)
            | (go_at_call 10; refine Calls.mono (HDone.out _ KE.out) ?_; rintro e x5 ⟨va, vb, dl, vc, vd, rfl, kk, mm⟩; have K5 := Lib.hid (KE.out.trans kk); have M5 := Lib.hid mm; have T5 := Lib.hid ((kk.block _ TL.out (fun h => by cases h)).trans TE.out); have v0 := (obj_cells T5.out).1; have v1 := (obj_cells T5.out).2.1; have f0 := (obj_cells T5.out).2.2 0; have f1 := (obj_cells T5.out).2.2 1; clear kk mm))
          · go_wp2_with fail
            go_meet
            case rel => exact ⟨_, va, vb, dl, vc, vd, rfl, M5.out.kept ((Kp.refl [] x5).alloc _), ⟨by rw [World.cell?_alloc_new]; rfl, by rw [World.cell?_alloc_new]; rfl, K5.out.size, by simp⟩, K5.out.alloc _⟩
          · go_wp2_with fail
            go_meet
            case rel => exact ⟨_, va, vb, dl, vc, vd, rfl, M5.out.out (alien_mod T5.out) (((Kp.refl [wc.heap.size] x5).setCell (.inl (by simp)) _).setCell (.inl (by simp)) _), ⟨(cell_ne _ _ 1 0 _ (by decide)).trans (cell_eq _ _ 0 _ _ v0), cell_eq _ _ 1 _ _ ((cell_ne _ _ 0 1 _ (by decide)).trans v1), Nat.le_refl _, by have := World.block_lt_of_cell? x5 _ v0; simpa [World.setCell] using this⟩, (K5.out.setCell (.inr (Nat.le_refl _)) _).setCell (.inr (Nat.le_refl _)) _⟩
        case rest =>
          obtain ⟨T, va, vb, dl, vc, vd, rfl, HM5, HT5, HK5⟩ := hcut
          have HL9 : Hid (dl = (doneL sk sn sd eL).length ∧ dl ≤ k + 1) := by
            obtain ⟨a, b, c, d, h1, _⟩ := HM5.out.ex
            injection h1 with _ h1 _
            exact ⟨h1, by have h2 : eL.length ≤ k := HEl.out.2; have := doneL_len sk sn sd eL; omega⟩
          have HM6 := Lib.hid (HM4.out.kp HK5.out)
          have KR := Lib.hid (HK4.out.trans HK5.out)
          have KD9 : Hid (Kp [] wc wc.drew) := (Kp.refl [] wc).drew
          have HAl : Hid (Calls Try.prog 11 #[.pointer a2, .agg #[.slice va dl vc, .slice vb dl vd]] wc.drew fun e w2 => e = .returned (.bool true) ∧ Kp [] wc.drew w2) :=
            alike_any (HM6.out.kp KD9.out) (HM5.out.kept KD9.out) (by have := HL9.out; have := Hlt.out; omega)
          have HDp : Hid (∀ W, Kp [] wc W → Calls Try.prog 13 #[.pointer a2] W fun e w2 => (∃ d : Nat, e = .returned (.int .i64 (d : Int)) ∧ Flat d dl) ∧ w2 = W) :=
            fun W K => by have := deep_any (HM6.out.kp K); rwa [← HL9.out.1] at this
          clear HDone S0 KD KE TE TL HMC
          have LT9 := HT5.out.2.2.2
          have t0 := HT5.out.1
          have t1 := HT5.out.2.1
          have TL9 := Lib.hid LT9
          clear LT9
          go_wp2_with fail
          go_region_held3 (fun X => X.cell? ⟨T, 0, none⟩ = some (.slice va dl vc) ∧ X.cell? ⟨T, 1, none⟩ = some (.slice vb dl vd))
            (first | exact ⟨t0, t1⟩ | exact CT.out)
            (first
            | (go_at_call 11; refine Calls.mono HAl.out ?_; rintro e x6 ⟨rfl, kk⟩; have K6 := Lib.hid (KD9.out.trans kk); have CT : Hid (x6.cell? ⟨T, 0, none⟩ = some (.slice va dl vc) ∧ x6.cell? ⟨T, 1, none⟩ = some (.slice vb dl vd)) := ⟨(kk.cell0 TL9.out).trans t0, (kk.cell0 TL9.out).trans t1⟩; clear kk)
            | (go_at_call 13; refine Calls.mono (HDp.out _ K6.out) ?_; rintro e x7 ⟨⟨dd, rfl, hfl⟩, hw7⟩; subst hw7; have HFl := Lib.hid hfl; clear hfl)
            | (go_at_call 12; refine Calls.mono (flat_any HFl.out (by have := HL9.out; have := Hlt.out; omega) _) ?_; rintro e x8 ⟨rfl, hw8⟩; subst hw8))
          all_goals
            have HG9 := Lib.hid (get_bool (HM6.out.kp K6.out) key)
            have HR9 := Lib.hid HM6.out.rise
            have HS9 : Hid (∀ W, Kp [] wc W → StrsAt W W.heap.size va dl (keyAt (doneL sk sn sd eL))) := fun W K => by
              obtain ⟨a, b, c, d, h1, _, h3, _⟩ := HM5.out.ex
              injection h1 with h4 h5 _
              subst h4
              rw [h5]
              exact h3.kept K
            clear HAl HDp t0 t1
            have t0 := CT.out.1
            have t1 := CT.out.2
            go_wp2_with fail
            refine Calls.mono HG9.out ?_
            rintro e x9 ⟨v9, ok, rfl, hw9, hok⟩
            subst hw9
            have HOK := Lib.hid hok
            clear hok HG9
            go_wp2_with fail
            refine Calls.mono (has_any va dl vc (by have := HL9.out; have := Hlt.out; omega) (keyAt (doneL sk sn sd eL)) key _ (HS9.out _ K6.out)) ?_
            rintro e x10 ⟨r, rfl, hw10, hr⟩
            subst hw10
            have hrr : r = ok := by
              rw [HOK.out]
              have h1 := has_lk (k := key) HR9.out
              rw [← HL9.out.1] at h1
              by_cases hl : lk key (doneL sk sn sd eL) ≠ none
              · rw [decide_eq_true hl]; exact hr.2 (h1.2 hl)
              · rw [decide_eq_false hl]
                cases r
                · rfl
                · exact absurd (h1.1 (hr.1 rfl)) hl
            subst hrr
            have hbb : (r != r) = false := by simp
            clear hr HOK
            go_wp2_with fail
            obtain ⟨W9, hW9⟩ : ∃ W9, W9 = x10 := ⟨_, rfl⟩
            obtain ⟨i0, hi0, hz0, hz1, hz2⟩ := info_parts ptrInfo
            obtain ⟨j0, hj0, jz0, jz1, jz2⟩ := info_parts modInfo
            have Hi0 := Lib.hid hi0
            have Hj0 := Lib.hid hj0
            have hk1b : k1 ≤ 61 := by have := HK1.out.1; omega
            have hn1 : k1 + 1 ≤ maxLen := by unfold maxLen; omega
            have hn2 : (k1 + 1) * 8 ≤ 140737488355328 := by omega
            have hm2 : (k1 + 1) * 48 ≤ 140737488355328 := by omega
            clear hi0 hj0 hk1b t0 t1 hbb
            refine wp_region_M (ST T (.slice va dl vc) (.slice vb dl vd)) 9 (by kernel_rfl) ?_
            generalize hX : World.drew _ = x0
            have kx0 : Kp [] x10 x0 := by rw [← hX]; exact (Kp.refl [] x10).drew
            have KZ : Hid (Kp [] wr x0) := (KR.out.trans K6.out).trans kx0
            have HP0 := Lib.hid (HP.out.1.kp KZ.out)
            have HE0 : Hid (ElAt x0 ⟨a2, .slice va dl vc, .slice vb dl vd, doneL sk sn sd eL⟩) := ⟨HM6.out.kp (K6.out.trans kx0), HM5.out.kept (K6.out.trans kx0), by show (doneL sk sn sd eL).length ≤ 100; have := HL9.out; omega⟩
            have HB0 : Hid (Below n0 x2 x0) := HB.out.trans (KZ.out.below HP.out.1.rt.hB (fun _ h => by cases h))
            have hgm : n0 ≤ gm := (HP.out.1.rt.ltI gm rfl).1
            have hgt : n0 ≤ gt := (HP.out.1.rt.ltS gt rfl).1
            have HGG : Hid (∀ j ∈ [gt, gm], n0 ≤ j) := fun j hj => by simp at hj; omega
            have hT1 : T ∉ [gt, gm] := by
              have h1 := HT5.out.2.2.1
              have h2 := HK4.out.size
              have h3 := Hgt.out
              have h4 := Hgm.out
              simp
              omega
            have hT2 : T < x0.heap.size := kx0.lt (K6.out.lt HT5.out.2.2.2)
            have SF : Hid (∀ X, Kp [gt, gm] x0 X → ST T (.slice va dl vc) (.slice vb dl vd) X) := fun X K =>
              ⟨(K.cell (p := ⟨T, 0, none⟩) hT2 hT1).trans ((kx0.cell0 (K6.out.lt HT5.out.2.2.2)).trans CT.out.1), (K.cell (p := ⟨T, 1, none⟩) hT2 hT1).trans ((kx0.cell0 (K6.out.lt HT5.out.2.2.2)).trans CT.out.2)⟩
            have RS0 : RT n0 x0 (.slice (some ⟨gt, 0, none⟩) k1 ct) (.slice (some ⟨gm, 0, none⟩) k1 cm) k1 k1 (ptrsV Es) (modsV Es) := by rw [HK1.out.2]; rw [HK1.out.2] at HP0; exact HP0.out.rt
            have KB0 := Kp.refl [gt, gm] x0
            have KC0 := Kp.refl [] x0
            have hS0 := SF.out x0 KB0
            have HLL : Hid (∀ e ∈ Es ++ [(⟨a2, .slice va dl vc, .slice vb dl vd, doneL sk sn sd eL⟩ : El)], e.L.length ≤ k + 1) := fun e he => by
              rcases List.mem_append.1 he with h | h
              · exact Nat.le_succ_of_le (HP.out.2.2 e h)
              · rw [List.mem_singleton.1 h]
                show (doneL sk sn sd eL).length ≤ k + 1
                have := HL9.out
                omega
            clear hX hW9 hgm hgt hT1 hT2
            refine wpAnyM_takeY (i := 0) (v := ?v22001) rfl (by kernel_rfl) (by kernel_rfl) (by kernel_rfl) (fun _ _ _ h => h) (by decide) (Or.inl ⟨by rfl, ?hy22001⟩) (fun _ => hS0) ?rest22001
            case hy22001 => (intro w; go_simp; first | done | with_reducible rfl)
            try simp only [List.getElem_toArray, List.getElem_cons_succ, List.getElem_cons_zero, Act.put, List.setIfInBounds_toArray, List.set_cons_zero, List.set_cons_succ]
            refine wpAnyM_takeY (i := 1) (v := ?v22002) rfl (by kernel_rfl) (by kernel_rfl) (by kernel_rfl) (fun _ _ _ h => h) (by decide) (Or.inl ⟨by rfl, ?hy22002⟩) (fun _ => hS0) ?rest22002
            case hy22002 => (intro w; go_simp; first | done | with_reducible rfl)
            try simp only [List.getElem_toArray, List.getElem_cons_succ, List.getElem_cons_zero, Act.put, List.setIfInBounds_toArray, List.set_cons_zero, List.set_cons_succ]
            refine wpAnyM_takeY (i := 4) (v := ?v22003) rfl (by kernel_rfl) (by kernel_rfl) (by kernel_rfl) (fun _ _ _ h => h) (by decide) (Or.inl ⟨by rfl, ?hy22003⟩) (fun _ => hS0) ?rest22003
            case hy22003 => (intro w; go_simp; first | done | with_reducible rfl)
            try simp only [List.getElem_toArray, List.getElem_cons_succ, List.getElem_cons_zero, Act.put, List.setIfInBounds_toArray, List.set_cons_zero, List.set_cons_succ]
            refine wpAnyM_takeC (i := 5) (c := 5) (r := []) (v := ?v22004) rfl (by kernel_rfl) (by kernel_rfl) (by kernel_rfl) (fun _ _ _ h => h) (by decide) (by kernel_rfl) rfl (by kernel_rfl) (by kernel_rfl) (Or.inl ⟨by rfl, ?hy22004⟩) hS0 ?rest22004
            case hy22004 => (intro w hS; obtain ⟨s1, s2⟩ := hS; go_simp; first | done | with_reducible rfl)
            try simp only [List.getElem_toArray, List.getElem_cons_succ, List.getElem_cons_zero, Act.put, List.setIfInBounds_toArray, List.set_cons_zero, List.set_cons_succ]
            refine wpAnyM_two (i := 2) (j := 6) (by kernel_rfl) rfl rfl (fun K hK => ?_) (fun K hK => ?_)
            ·
              try simp only [List.getElem_toArray, List.getElem_cons_succ, List.getElem_cons_zero]
              go_simp
              generalize hX22005 : World.alloc _ _ = x22005
              have kx22005 : Kp [] x0 x22005 := by rw [← hX22005]; exact (Kp.refl [] x0).alloc _
              have RS22005 := RS0.kp kx22005
              have KB22005 := KB0.trans (kx22005.mono (fun _ h => by cases h))
              have KC22005 := KC0.trans kx22005
              have hcS22005 : x22005.heap[x0.heap.size]? = some (.cells #[Value.pointer a2] 24) := by rw [← hX22005]; exact heap_alloc_new x0 _
              have lt22005 : x0.heap.size < x22005.heap.size := by rw [← hX22005]; simp
              clear hX22005
              refine hK _ _ (fun _ => (SF.out x22005 KB22005)) ?_
              clear hK K
              try simp only [List.getElem_toArray, List.getElem_cons_succ, List.getElem_cons_zero, Act.put, List.setIfInBounds_toArray, List.set_cons_zero, List.set_cons_succ]
              refine wpAnyM_two (i := 3) (j := 6) (by kernel_rfl) rfl rfl (fun K hK => ?_) (fun K hK => ?_)
              ·
                try simp only [List.getElem_toArray, List.getElem_cons_succ, List.getElem_cons_zero]
                refine Eq.mpr (if_pos rfl) ?_
                refine wp_append_lies _ _ _ _ (by rfl) n0 24 i0 _ 1 8 Try.underlying26 Hi0.out hz0 hz1 hz2 rfl (by decide) (Value.slice (some ⟨gt, 0, none⟩) k1 ct) k1 (ptrsV Es) (by rfl) RS22005.ot ⟨x0.heap.size, 0, none⟩ 1 1 [Value.pointer a2] (by rfl) (by rfl) (World.news_of_block (cs := #[Value.pointer a2]) (t := 24) (fr := (0, 0)) hcS22005) (by intro u hu; simp at hu; subst hu; rfl) (by decide) hn1 hn2 RS22005.hB _ rfl ?_
                intro gg22006 cap22006 x22006 hv22006 hgr22006 hat22006 hlt22006
                have RS22006 := RS22005.growS hv22006 hgr22006 hat22006
                have KB22006 := KB22005.grown hgr22006 (fun j hj => .inl (by simp [Value.ownBlock] at hj; simp [hj]))
                have KC22006 := Kp.refl [] x22006
                clear hv22006 hat22006 hlt22006
                refine hK _ _ (fun _ => (SF.out x22006 KB22006)) ?_
                clear hK K
                try simp only [List.getElem_toArray, List.getElem_cons_succ, List.getElem_cons_zero, Act.put, List.setIfInBounds_toArray, List.set_cons_zero, List.set_cons_succ]
                refine wpAnyM_one (i := 6) (by kernel_rfl) rfl (fun K hK => ?_)
                try simp only [List.getElem_toArray, List.getElem_cons_succ, List.getElem_cons_zero]
                go_simp
                generalize hX22007 : World.alloc _ _ = x22007
                have kx22007 : Kp [] x22006 x22007 := by rw [← hX22007]; exact (Kp.refl [] x22006).alloc _
                have RS22007 := RS22006.kp kx22007
                have KB22007 := KB22006.trans (kx22007.mono (fun _ h => by cases h))
                have KC22007 := KC22006.trans kx22007
                have hcI22007 : x22007.heap[x22006.heap.size]? = some (.cells #[Value.slice va dl vc, Value.slice vb dl vd] 30) := by rw [← hX22007]; exact heap_alloc_new x22006 _
                have lt22007 : x22006.heap.size < x22007.heap.size := by rw [← hX22007]; simp
                have ne22007 : (Value.slice (some ⟨gg22006, 0, none⟩) (k1 + 1) cap22006).ownBlock = some x22006.heap.size → False := fun h => Nat.lt_irrefl _ (RS22006.ltS _ h).2
                clear hX22007
                refine hK _ _ (fun _ => (SF.out x22007 KB22007)) ?_
                clear hK K
                try simp only [List.getElem_toArray, List.getElem_cons_succ, List.getElem_cons_zero, Act.put, List.setIfInBounds_toArray, List.set_cons_zero, List.set_cons_succ]
                refine wpAnyM_one (i := 7) (by kernel_rfl) rfl (fun K hK => ?_)
                try simp only [List.getElem_toArray, List.getElem_cons_succ, List.getElem_cons_zero]
                refine Eq.mpr (if_pos rfl) ?_
                refine wp_append_lies _ _ _ _ (by rfl) n0 30 j0 _ 2 48 Try.underlying31 Hj0.out jz0 jz1 jz2 rfl (by decide) (Value.slice (some ⟨gm, 0, none⟩) k1 cm) k1 (modsV Es) (by rfl) RS22007.om ⟨x22006.heap.size, 0, none⟩ 1 1 [Value.slice va dl vc, Value.slice vb dl vd] (by rfl) (by rfl) (World.news_of_block (cs := #[Value.slice va dl vc, Value.slice vb dl vd]) (t := 30) (fr := (0, 0)) hcI22007) (by intro u hu; simp at hu; rcases hu with rfl | rfl <;> rfl) (by decide) hn1 hm2 RS22007.hB _ rfl ?_
                intro gg22008 cap22008 x22008 hv22008 hgr22008 hat22008 hlt22008
                have RS22008 := RS22007.growI hv22008 hgr22008 hat22008
                have KB22008 := KB22007.grown hgr22008 (fun j hj => .inl (by simp [Value.ownBlock] at hj; simp [hj]))
                clear hv22008 hat22008 hlt22008
                refine hK _ _ (fun _ => (SF.out x22008 KB22008)) ?_
                clear hK K
                try simp only [List.getElem_toArray, List.getElem_cons_succ, List.getElem_cons_zero, Act.put, List.setIfInBounds_toArray, List.set_cons_zero, List.set_cons_succ]
                refine wpAnyM_takeY (i := 8) (v := ?v22009) rfl (by kernel_rfl) (by kernel_rfl) (by kernel_rfl) (fun _ _ _ h => h) (by decide) (Or.inl ⟨by rfl, ?hy22009⟩) (fun _ => (SF.out x22008 KB22008)) ?rest22009
                case hy22009 => (intro w; go_simp; first | done | with_reducible rfl)
                try simp only [List.getElem_toArray, List.getElem_cons_succ, List.getElem_cons_zero, Act.put, List.setIfInBounds_toArray, List.set_cons_zero, List.set_cons_succ]
                refine wpAnyM_one (i := 9) (by kernel_rfl) rfl (fun K hK => ?_)
                try simp only [List.getElem_toArray, List.getElem_cons_succ, List.getElem_cons_zero]
                go_simp
                refine hK _ _ (fun h => absurd h (by decide)) ?_
                clear hK K
                try simp only [List.getElem_toArray, List.getElem_cons_succ, List.getElem_cons_zero, Act.put, List.setIfInBounds_toArray, List.set_cons_zero, List.set_cons_succ]
                refine wpAnyM_done (by kernel_rfl) ?_ _
                have P9 := Lib.hid (HP0.out.grow (e := ⟨a2, .slice va dl vc, .slice vb dl vd, doneL sk sn sd eL⟩) HE0.out (by rw [← HK1.out.2]; exact RS22008) KC22005 hgr22006 KC22007 hgr22008)
                have B9 : Hid (Below n0 x2 x22008) := HB0.out.trans (KB22008.below HP0.out.rt.hB HGG.out)
                go_wp2_with fail
                go_roundw
                case rel => exact ⟨k + 1, _, Hlt.out, by go_num, ⟨P9.out, by simp; have := HK1.out; omega, HLL.out⟩, B9⟩
                case measure => have := Hlt.out; simp [intOf]; omega
              ·
                try simp only [List.getElem_toArray, List.getElem_cons_succ, List.getElem_cons_zero]
                go_simp
                generalize hX22011 : World.alloc _ _ = x22011
                have kx22011 : Kp [] x22005 x22011 := by rw [← hX22011]; exact (Kp.refl [] x22005).alloc _
                have RS22011 := RS22005.kp kx22011
                have KB22011 := KB22005.trans (kx22011.mono (fun _ h => by cases h))
                have KC22011 := KC22005.trans kx22011
                have hcI22011 : x22011.heap[x22005.heap.size]? = some (.cells #[Value.slice va dl vc, Value.slice vb dl vd] 30) := by rw [← hX22011]; exact heap_alloc_new x22005 _
                have lt22011 : x22005.heap.size < x22011.heap.size := by rw [← hX22011]; simp
                have ne22011 : (Value.slice (some ⟨gt, 0, none⟩) k1 ct).ownBlock = some x22005.heap.size → False := fun h => Nat.lt_irrefl _ (RS22005.ltS _ h).2
                have hcS22005b := (kx22011.block _ lt22005 (fun h => by cases h)).trans hcS22005
                have lt22005b := Nat.lt_of_lt_of_le lt22005 kx22011.size
                clear hX22011
                refine hK _ _ (fun _ => (SF.out x22011 KB22011)) ?_
                clear hK K
                try simp only [List.getElem_toArray, List.getElem_cons_succ, List.getElem_cons_zero, Act.put, List.setIfInBounds_toArray, List.set_cons_zero, List.set_cons_succ]
                refine wpAnyM_one (i := 3) (by kernel_rfl) rfl (fun K hK => ?_)
                try simp only [List.getElem_toArray, List.getElem_cons_succ, List.getElem_cons_zero]
                refine Eq.mpr (if_pos rfl) ?_
                refine wp_append_lies _ _ _ _ (by rfl) n0 24 i0 _ 1 8 Try.underlying26 Hi0.out hz0 hz1 hz2 rfl (by decide) (Value.slice (some ⟨gt, 0, none⟩) k1 ct) k1 (ptrsV Es) (by rfl) RS22011.ot ⟨x0.heap.size, 0, none⟩ 1 1 [Value.pointer a2] (by rfl) (by rfl) (World.news_of_block (cs := #[Value.pointer a2]) (t := 24) (fr := (0, 0)) hcS22005b) (by intro u hu; simp at hu; subst hu; rfl) (by decide) hn1 hn2 RS22011.hB _ rfl ?_
                intro gg22012 cap22012 x22012 hv22012 hgr22012 hat22012 hlt22012
                have RS22012 := RS22011.growS hv22012 hgr22012 hat22012
                have KB22012 := KB22011.grown hgr22012 (fun j hj => .inl (by simp [Value.ownBlock] at hj; simp [hj]))
                have hcI22011c := (hgr22012.block _ lt22011 (fun e => ne22011 e.symm)).trans hcI22011
                have lt22011c := Nat.lt_of_lt_of_le lt22011 hgr22012.size
                have KC22012 := Kp.refl [] x22012
                clear hv22012 hat22012 hlt22012
                refine hK _ _ (fun _ => (SF.out x22012 KB22012)) ?_
                clear hK K
                try simp only [List.getElem_toArray, List.getElem_cons_succ, List.getElem_cons_zero, Act.put, List.setIfInBounds_toArray, List.set_cons_zero, List.set_cons_succ]
                refine wpAnyM_one (i := 7) (by kernel_rfl) rfl (fun K hK => ?_)
                try simp only [List.getElem_toArray, List.getElem_cons_succ, List.getElem_cons_zero]
                refine Eq.mpr (if_pos rfl) ?_
                refine wp_append_lies _ _ _ _ (by rfl) n0 30 j0 _ 2 48 Try.underlying31 Hj0.out jz0 jz1 jz2 rfl (by decide) (Value.slice (some ⟨gm, 0, none⟩) k1 cm) k1 (modsV Es) (by rfl) RS22012.om ⟨x22005.heap.size, 0, none⟩ 1 1 [Value.slice va dl vc, Value.slice vb dl vd] (by rfl) (by rfl) (World.news_of_block (cs := #[Value.slice va dl vc, Value.slice vb dl vd]) (t := 30) (fr := (0, 0)) hcI22011c) (by intro u hu; simp at hu; rcases hu with rfl | rfl <;> rfl) (by decide) hn1 hm2 RS22012.hB _ rfl ?_
                intro gg22013 cap22013 x22013 hv22013 hgr22013 hat22013 hlt22013
                have RS22013 := RS22012.growI hv22013 hgr22013 hat22013
                have KB22013 := KB22012.grown hgr22013 (fun j hj => .inl (by simp [Value.ownBlock] at hj; simp [hj]))
                clear hv22013 hat22013 hlt22013
                refine hK _ _ (fun _ => (SF.out x22013 KB22013)) ?_
                clear hK K
                try simp only [List.getElem_toArray, List.getElem_cons_succ, List.getElem_cons_zero, Act.put, List.setIfInBounds_toArray, List.set_cons_zero, List.set_cons_succ]
                refine wpAnyM_takeY (i := 8) (v := ?v22014) rfl (by kernel_rfl) (by kernel_rfl) (by kernel_rfl) (fun _ _ _ h => h) (by decide) (Or.inl ⟨by rfl, ?hy22014⟩) (fun _ => (SF.out x22013 KB22013)) ?rest22014
                case hy22014 => (intro w; go_simp; first | done | with_reducible rfl)
                try simp only [List.getElem_toArray, List.getElem_cons_succ, List.getElem_cons_zero, Act.put, List.setIfInBounds_toArray, List.set_cons_zero, List.set_cons_succ]
                refine wpAnyM_one (i := 9) (by kernel_rfl) rfl (fun K hK => ?_)
                try simp only [List.getElem_toArray, List.getElem_cons_succ, List.getElem_cons_zero]
                go_simp
                refine hK _ _ (fun h => absurd h (by decide)) ?_
                clear hK K
                try simp only [List.getElem_toArray, List.getElem_cons_succ, List.getElem_cons_zero, Act.put, List.setIfInBounds_toArray, List.set_cons_zero, List.set_cons_succ]
                refine wpAnyM_done (by kernel_rfl) ?_ _
                have P9 := Lib.hid (HP0.out.grow (e := ⟨a2, .slice va dl vc, .slice vb dl vd, doneL sk sn sd eL⟩) HE0.out (by rw [← HK1.out.2]; exact RS22013) KC22011 hgr22012 KC22012 hgr22013)
                have B9 : Hid (Below n0 x2 x22013) := HB0.out.trans (KB22013.below HP0.out.rt.hB HGG.out)
                go_wp2_with fail
                go_roundw
                case rel => exact ⟨k + 1, _, Hlt.out, by go_num, ⟨P9.out, by simp; have := HK1.out; omega, HLL.out⟩, B9⟩
                case measure => have := Hlt.out; simp [intOf]; omega
            ·
              try simp only [List.getElem_toArray, List.getElem_cons_succ, List.getElem_cons_zero]
              go_simp
              generalize hX22016 : World.alloc _ _ = x22016
              have kx22016 : Kp [] x0 x22016 := by rw [← hX22016]; exact (Kp.refl [] x0).alloc _
              have RS22016 := RS0.kp kx22016
              have KB22016 := KB0.trans (kx22016.mono (fun _ h => by cases h))
              have KC22016 := KC0.trans kx22016
              have hcI22016 : x22016.heap[x0.heap.size]? = some (.cells #[Value.slice va dl vc, Value.slice vb dl vd] 30) := by rw [← hX22016]; exact heap_alloc_new x0 _
              have lt22016 : x0.heap.size < x22016.heap.size := by rw [← hX22016]; simp
              have ne22016 : (Value.slice (some ⟨gt, 0, none⟩) k1 ct).ownBlock = some x0.heap.size → False := fun h => Nat.lt_irrefl _ (RS0.ltS _ h).2
              clear hX22016
              refine hK _ _ (fun _ => (SF.out x22016 KB22016)) ?_
              clear hK K
              try simp only [List.getElem_toArray, List.getElem_cons_succ, List.getElem_cons_zero, Act.put, List.setIfInBounds_toArray, List.set_cons_zero, List.set_cons_succ]
              refine wpAnyM_one (i := 2) (by kernel_rfl) rfl (fun K hK => ?_)
              try simp only [List.getElem_toArray, List.getElem_cons_succ, List.getElem_cons_zero]
              go_simp
              generalize hX22017 : World.alloc _ _ = x22017
              have kx22017 : Kp [] x22016 x22017 := by rw [← hX22017]; exact (Kp.refl [] x22016).alloc _
              have RS22017 := RS22016.kp kx22017
              have KB22017 := KB22016.trans (kx22017.mono (fun _ h => by cases h))
              have KC22017 := KC22016.trans kx22017
              have hcS22017 : x22017.heap[x22016.heap.size]? = some (.cells #[Value.pointer a2] 24) := by rw [← hX22017]; exact heap_alloc_new x22016 _
              have lt22017 : x22016.heap.size < x22017.heap.size := by rw [← hX22017]; simp
              have hcI22016b := (kx22017.block _ lt22016 (fun h => by cases h)).trans hcI22016
              have lt22016b := Nat.lt_of_lt_of_le lt22016 kx22017.size
              clear hX22017
              refine hK _ _ (fun _ => (SF.out x22017 KB22017)) ?_
              clear hK K
              try simp only [List.getElem_toArray, List.getElem_cons_succ, List.getElem_cons_zero, Act.put, List.setIfInBounds_toArray, List.set_cons_zero, List.set_cons_succ]
              refine wpAnyM_one (i := 3) (by kernel_rfl) rfl (fun K hK => ?_)
              try simp only [List.getElem_toArray, List.getElem_cons_succ, List.getElem_cons_zero]
              refine Eq.mpr (if_pos rfl) ?_
              refine wp_append_lies _ _ _ _ (by rfl) n0 24 i0 _ 1 8 Try.underlying26 Hi0.out hz0 hz1 hz2 rfl (by decide) (Value.slice (some ⟨gt, 0, none⟩) k1 ct) k1 (ptrsV Es) (by rfl) RS22017.ot ⟨x22016.heap.size, 0, none⟩ 1 1 [Value.pointer a2] (by rfl) (by rfl) (World.news_of_block (cs := #[Value.pointer a2]) (t := 24) (fr := (0, 0)) hcS22017) (by intro u hu; simp at hu; subst hu; rfl) (by decide) hn1 hn2 RS22017.hB _ rfl ?_
              intro gg22018 cap22018 x22018 hv22018 hgr22018 hat22018 hlt22018
              have RS22018 := RS22017.growS hv22018 hgr22018 hat22018
              have KB22018 := KB22017.grown hgr22018 (fun j hj => .inl (by simp [Value.ownBlock] at hj; simp [hj]))
              have hcI22016bc := (hgr22018.block _ lt22016b (fun e => ne22016 e.symm)).trans hcI22016b
              have lt22016bc := Nat.lt_of_lt_of_le lt22016b hgr22018.size
              have KC22018 := Kp.refl [] x22018
              clear hv22018 hat22018 hlt22018
              refine hK _ _ (fun _ => (SF.out x22018 KB22018)) ?_
              clear hK K
              try simp only [List.getElem_toArray, List.getElem_cons_succ, List.getElem_cons_zero, Act.put, List.setIfInBounds_toArray, List.set_cons_zero, List.set_cons_succ]
              refine wpAnyM_one (i := 7) (by kernel_rfl) rfl (fun K hK => ?_)
              try simp only [List.getElem_toArray, List.getElem_cons_succ, List.getElem_cons_zero]
              refine Eq.mpr (if_pos rfl) ?_
              refine wp_append_lies _ _ _ _ (by rfl) n0 30 j0 _ 2 48 Try.underlying31 Hj0.out jz0 jz1 jz2 rfl (by decide) (Value.slice (some ⟨gm, 0, none⟩) k1 cm) k1 (modsV Es) (by rfl) RS22018.om ⟨x0.heap.size, 0, none⟩ 1 1 [Value.slice va dl vc, Value.slice vb dl vd] (by rfl) (by rfl) (World.news_of_block (cs := #[Value.slice va dl vc, Value.slice vb dl vd]) (t := 30) (fr := (0, 0)) hcI22016bc) (by intro u hu; simp at hu; rcases hu with rfl | rfl <;> rfl) (by decide) hn1 hm2 RS22018.hB _ rfl ?_
              intro gg22019 cap22019 x22019 hv22019 hgr22019 hat22019 hlt22019
              have RS22019 := RS22018.growI hv22019 hgr22019 hat22019
              have KB22019 := KB22018.grown hgr22019 (fun j hj => .inl (by simp [Value.ownBlock] at hj; simp [hj]))
              clear hv22019 hat22019 hlt22019
              refine hK _ _ (fun _ => (SF.out x22019 KB22019)) ?_
              clear hK K
              try simp only [List.getElem_toArray, List.getElem_cons_succ, List.getElem_cons_zero, Act.put, List.setIfInBounds_toArray, List.set_cons_zero, List.set_cons_succ]
              refine wpAnyM_takeY (i := 8) (v := ?v22020) rfl (by kernel_rfl) (by kernel_rfl) (by kernel_rfl) (fun _ _ _ h => h) (by decide) (Or.inl ⟨by rfl, ?hy22020⟩) (fun _ => (SF.out x22019 KB22019)) ?rest22020
              case hy22020 => (intro w; go_simp; first | done | with_reducible rfl)
              try simp only [List.getElem_toArray, List.getElem_cons_succ, List.getElem_cons_zero, Act.put, List.setIfInBounds_toArray, List.set_cons_zero, List.set_cons_succ]
              refine wpAnyM_one (i := 9) (by kernel_rfl) rfl (fun K hK => ?_)
              try simp only [List.getElem_toArray, List.getElem_cons_succ, List.getElem_cons_zero]
              go_simp
              refine hK _ _ (fun h => absurd h (by decide)) ?_
              clear hK K
              try simp only [List.getElem_toArray, List.getElem_cons_succ, List.getElem_cons_zero, Act.put, List.setIfInBounds_toArray, List.set_cons_zero, List.set_cons_succ]
              refine wpAnyM_done (by kernel_rfl) ?_ _
              have P9 := Lib.hid (HP0.out.grow (e := ⟨a2, .slice va dl vc, .slice vb dl vd, doneL sk sn sd eL⟩) HE0.out (by rw [← HK1.out.2]; exact RS22019) KC22017 hgr22018 KC22018 hgr22019)
              have B9 : Hid (Below n0 x2 x22019) := HB0.out.trans (KB22019.below HP0.out.rt.hB HGG.out)
              go_wp2_with fail
              go_roundw
              case rel => exact ⟨k + 1, _, Hlt.out, by go_num, ⟨P9.out, by simp; have := HK1.out; omega, HLL.out⟩, B9⟩
              case measure => have := Hlt.out; simp [intOf]; omega
    · have l1 : decide ((k : Int) < (z : Int)) = false := by simpa using hlt
      have l1' : decide (k < z) = false := by simpa using hlt
      obtain rfl : k = z := by omega
      clear hlt
      obtain ⟨k1, hk1⟩ : ∃ k1, k1 = Es.length := ⟨_, rfl⟩
      obtain ⟨gt, ct, htv, hgt, htc, _⟩ := HP.out.1.t
      obtain ⟨gm, cm, hmv, hgm, hmc, _⟩ := HP.out.1.mm
      rw [← hk1] at htv hmv
      subst htv
      subst hmv
      have HTC := Lib.hid htc
      have HMC := Lib.hid hmc
      have Hgt := Lib.hid hgt
      have Hgm := Lib.hid hgm
      have HK1 := Lib.hid hk1
      have HPA := Lib.hid HP.out.1.all
      have HKF : Hid (Kp [] w wr) := by
        refine H2.out.trans (Kp.of_below ?_ [])
        rw [← HN0.out]
        exact HB.out
      have hk1b : k1 ≤ 61 := by have := HP.out.2.1; omega
      clear htc hmc hgt hgm hk1 HP HB
      go_wp2_with fail
      go_loopw [13] (fun i wz => ∃ (j : Nat), j ≤ k1 ∧ i = .int .i64 (j : Int) ∧ Hid (Kp [] wr wz)) (fun i _ => k1 - (intOf i).toNat)
      case atStart => exact ⟨0, Nat.zero_le _, rfl, Kp.refl _ _⟩
      case round =>
        obtain ⟨j, hj, rfl, HZ⟩ := hrel
        by_cases hlt : j < k1
        · have l2 : decide ((j : Int) < (k1 : Int)) = true := by simpa using hlt
          have l2' : decide (j < k1) = true := by simpa using hlt
          have Hlt := Lib.hid hlt
          have hjE : j < Es.length := by rw [← HK1.out]; exact hlt
          have c1 := (HZ.out.cell0 Hgt.out).trans (HTC.out j hjE)
          have c2 := (HZ.out.cell0 Hgm.out).trans (HMC.out j hjE).1
          have c3 := (HZ.out.cell0 Hgm.out).trans (HMC.out j hjE).2
          have HEj := Lib.hid ((HPA.out _ (List.getElem_mem hjE)).kp HZ.out)
          obtain ⟨⟨ea, ekv, env, eL⟩, he⟩ : ∃ e, e = Es[j] := ⟨_, rfl⟩
          rw [← he] at c1 c2 c3 HEj
          simp only at c1 c2 c3
          obtain ⟨ma, mb, mc, md, hm1, hm2, _⟩ := HEj.out.d.ex
          simp only at hm1 hm2
          subst hm1
          subst hm2
          have KD : Hid (Kp [] wr wr.drew) := (Kp.refl [] wr).drew
          have HAl : Hid (Calls Try.prog 11 #[.pointer ea, .agg #[.slice ma eL.length mc, .slice mb eL.length md]] wr.drew fun e w2 => e = .returned (.bool true) ∧ Kp [] wr.drew w2) :=
            alike_any (HEj.out.m.kp KD.out) (HEj.out.d.kept KD.out) (by have h : eL.length ≤ 100 := HEj.out.n; show eL.length ≤ 1000; omega)
          obtain ⟨el, hel⟩ : ∃ el, el = eL.length := ⟨_, rfl⟩
          rw [← hel] at HAl c2 c3
          have Hg1 := Lib.hid (World.block_lt_of_cell? wr _ c1)
          have Hg2 := Lib.hid (World.block_lt_of_cell? wr _ c2)
          clear hel he hjE HEj
          go_wp2_with fail
          go_region_held3 (fun X => X.cell? ⟨gt, j, none⟩ = some (.pointer ea) ∧ X.cell? ⟨gm, j * 2, none⟩ = some (.slice ma el mc) ∧ X.cell? ⟨gm, j * 2 + 1, none⟩ = some (.slice mb el md))
            (first | exact ⟨c1, c2, c3⟩ | exact CT.out)
            ((go_at_call 11; refine Calls.mono HAl.out ?_; rintro e x6 ⟨rfl, kk⟩; have K6 := Lib.hid (KD.out.trans kk); have CT : Hid (x6.cell? ⟨gt, j, none⟩ = some (.pointer ea) ∧ x6.cell? ⟨gm, j * 2, none⟩ = some (.slice ma el mc) ∧ x6.cell? ⟨gm, j * 2 + 1, none⟩ = some (.slice mb el md)) := ⟨(kk.cell0 Hg1.out).trans c1, (kk.cell0 Hg2.out).trans c2, (kk.cell0 Hg2.out).trans c3⟩; clear kk))
          all_goals
            have HZ2 := Lib.hid (HZ.out.trans K6.out)
            go_wp2_with fail
            go_roundw
            case rel => exact ⟨j + 1, Hlt.out, by go_num, HZ2⟩
            case measure => have := Hlt.out; simp [intOf]; omega
        · have l2 : decide ((j : Int) < (k1 : Int)) = false := by simpa using hlt
          have l2' : decide (j < k1) = false := by simpa using hlt
          clear hlt
          go_wp2_with fail
          go_ret
          exact ⟨rfl, HKF.out.trans HZ.out⟩
end Go.Proofs.Ytpocnldljglbgaa
