/- Contracts of the reference's journal: OpenJournal, where a disk has power. -/
import Derived.Test.YtggnljfcdohkaaaGreatDoorRju
namespace Go.Proofs.YtggnljfcdohkaaaGreatDoor
open Go.RowKit

def jq (a t h n u : Nat) : Jn := { at_ := a, turn := t, half := h, count := n, used := u, tail := ⟨#[]⟩ }
def CntP (S : Dk) (a T H : Nat) : Prop := (0 < T → countV S = (a, T, H)) ∧ (T = 0 → (countV S).2.1 = 0)
def endOf (w : World) (q : Nat) : Nat := match w.cell? ⟨q, 4, none⟩ with
  | some (.int _ n) => n.toNat
  | _ => 0
theorem QAt.endOf {w : World} {q r : Nat} {J : Jn} {dd : Bool} (s : QAt w q r J dd) : endOf w q = J.used := by
  unfold Go.Proofs.YtggnljfcdohkaaaGreatDoor.endOf
  rw [s.c4]
  simp
theorem oScr_ok {S : Dk} {m t : Nat} (h : S.Fine m) (hs : SecInv t S) (ht : t ≤ 1000000) (hc : 0 < (countV S).2.1) : S.oScr.2.1 = 0 := by
  have hE := (open_inv h hs ht hc).err
  unfold Dk.OErr at hE
  rw [h.dead, if_neg (by simp), if_neg (by omega)] at hE
  unfold Dk.oErr at hE
  by_cases h1 : S.oScr.2.1 = 0
  · exact h1
  · rw [if_pos h1] at hE; exact absurd hE h1
/-- What opening comes to, once the records are read: the journal with its sectors cleared. -/
theorem ro_end {w x2 w2 w0 : World} {f f2 : List Nat} {b q a T H kk us : Nat} {S : Dk} {v : Value} {m t0 : Nat} (hS : S.Fine m) (hs : SecInv t0 S) (ht0 : t0 ≤ 1000000) (hc : countV S = (a, T, H)) (hT : 0 < T)
    (hD : ∀ x ∈ f, x < w.heap.size) (K0 : Kp [] w w0) (hq1 : w.heap.size ≤ q) (hq2 : q < w0.heap.size) (K : Kp [q] w0 x2) (Q : QAt x2 q b (jq a T H kk us) false) (hus : us = S.oUsed) (hkk : kk = S.oUn.1.length)
    (hown : OwnStrs x2 w0.heap.size v S.oUn.1) (hD2 : RkF w2 f2 b (if 0 < S.oScr.1 then S.oScr.2.2.flushed else S.oScr.2.2)) (hM : Mv f x2 f2 w2) :
    ROPost S b f w (.returned (.tuple #[.pointer (some ⟨q, 0, none⟩), v, .int .i64 0])) w2 := by
  have o := open_inv hS hs ht0 (by rw [hc]; exact hT)
  have hcc : ¬ (countV S).2.1 = 0 := by rw [hc]; show ¬ T = 0; omega
  have hDk : S.ODk = if 0 < S.oScr.1 then S.oScr.2.2.flushed else S.oScr.2.2 := by
    have h1 := oScr_ok hS hs ht0 (by omega)
    unfold Dk.ODk
    rw [hS.dead, if_neg (by simp), if_neg hcc]
    unfold Dk.oDk
    by_cases h2 : 0 < S.oScr.1
    · rw [if_pos ⟨h1, h2⟩, if_pos h2]
    · rw [if_neg (fun e => h2 e.2), if_neg h2]
  have hqf : q ∉ f := fun hm => by have := hD q hm; omega
  have hl0 := K0.size
  have hl1 := K.size
  have hwx : Kp [] w x2 := K0.trans2 K (fun x hx => .inr (by simp at hx; omega))
  have hqx : q < x2.heap.size := by omega
  obtain ⟨va, vc, hv, _, hvb⟩ := hown.form
  refine ⟨f2, (Mv.of_kp hwx f).trans hM, .inr ⟨o.err, q, v, rfl, ⟨by rw [hDk]; exact hD2, ?_, ?_, hM.apart hqf hqx, hq1, fun e => ?_, fun g hg => ?_⟩⟩⟩
  · refine (Q.keep hM.kp hqf).like ?_ ?_ ?_ ?_ ?_
    · show (countV S).2.1 = T; rw [hc]
    · show (countV S).2.2 = H; rw [hc]
    · show (countV S).1 = a; rw [hc]
    · have h1 : S.oJn.used = (S.oAll.extract 0 S.oUsed).size := rfl
      have h2 : S.oUsed = S.oAll.size - S.oUn.2.size := rfl
      rw [h1, ByteArray.size_extract]
      show _ = us
      omega
    · show S.oUn.1.length = kk; exact hkk.symm
  · have h := hown.keep hM.kp (fun x hx => by have := hD x hx; omega)
    obtain ⟨h1, h2⟩ := h
    refine ⟨h1, ?_⟩
    rcases h2 with h2 | ⟨g, cap, cur, h3, h4, h5⟩
    · exact .inl h2
    · exact .inr ⟨g, cap, cur, h3, by omega, h5⟩
  · have := (hvb q e).1; omega
  · have hb := hvb g hg
    exact hM.apart (fun hm => by have := hD g hm; omega) hb.2
set_option maxHeartbeats 25600000 in
set_option maxRecDepth 20000 in
theorem ropen_any {w : World} {f : List Nat} {b : Nat} {S : Dk} {m t0 : Nat} (D : RkF w f b S) (hS : S.Fine m) (hm : m ≤ 1000000) (hs : SecInv t0 S) (ht0 : t0 ≤ 1000000) :
    Calls Tryz.prog 11 #[.pointer (some ⟨b, 0, none⟩)] w (ROPost S b f w) := by
  obtain ⟨i0, hi0, hz0, hz1, hz2⟩ := info_parts strInfo
  obtain ⟨sa, sc, c0⟩ := D.len
  have hn2 := D.n2
  have hn4 := hS.n4
  have l1 : decide ((S.n : Int) < 4) = false := by simp; omega
  have HR0 := Lib.hid (g_read D 0 m hS.ok.lim (by omega))
  have hl0 : S.lbytes 0 = S.read 0 ∧ S.rerr 0 = 0 := hS.lb 0 (by omega)
  rw [hl0.1, hl0.2] at HR0
  have HR1 := Lib.hid (g_read D 1 m hS.ok.lim (by omega))
  have hl1 : S.lbytes 1 = S.read 1 ∧ S.rerr 1 = 0 := hS.lb 1 (by omega)
  rw [hl1.1, hl1.2] at HR1
  have hsz0 : (S.read 0).size = 64 := by show (S.C 0).toArray.size = 64; rw [List.size_toArray]; exact hS.ln 0 (by omega)
  have hsz1 : (S.read 1).size = 64 := by show (S.C 1).toArray.size = 64; rw [List.size_toArray]; exact hS.ln 1 (by omega)
  have hb0 := sup_getD hs ht0 0 (by omega)
  have hb1 := sup_getD hs ht0 1 (by omega)
  obtain ⟨t, h, e0⟩ : ∃ t h, (superS (S.read 0)).getD (0, 0) = (t, h) := ⟨_, _, rfl⟩
  obtain ⟨u, k, e1⟩ : ∃ u k, (superS (S.read 1)).getD (0, 0) = (u, k) := ⟨_, _, rfl⟩
  have HB0 : Hid (∀ w, Calls Tryz.prog 36 #[.string (S.read 0)] w fun e w2 => e = .returned (.tuple #[.int .i64 (t : Int), .int .i64 (h : Int)]) ∧ Kp [] w w2) := fun w => (rblock_any (S.read 0) (by omega) w).mono (fun _ _ hp => by have := blk_getD hp; rw [e0] at this; exact this)
  have HB1 : Hid (∀ w, Calls Tryz.prog 36 #[.string (S.read 1)] w fun e w2 => e = .returned (.tuple #[.int .i64 (u : Int), .int .i64 (k : Int)]) ∧ Kp [] w w2) := fun w => (rblock_any (S.read 1) (by omega) w).mono (fun _ _ hp => by have := blk_getD hp; rw [e1] at this; exact this)
  rw [e0] at hb0
  rw [e1] at hb1
  simp only at hb0 hb1
  have HC := Lib.hid (count_ref2 S t h u k e0 e1)
  obtain ⟨s0, hs0⟩ : ∃ s0, s0 = S.read 0 := ⟨_, rfl⟩
  obtain ⟨s1, hs1⟩ : ∃ s1, s1 = S.read 1 := ⟨_, rfl⟩
  rw [← hs0] at HR0 HB0
  rw [← hs1] at HR1 HB1
  have HD := Lib.hid D
  have HS := Lib.hid hS
  have HSec := Lib.hid hs
  have Hi := Lib.hid hi0
  have HF : Hid (∀ x ∈ f, x < w.heap.size) := fun x hx => (D.pos x hx).2
  clear D hS hs hl0 hl1 hsz0 hsz1 e0 e1 hs0 hs1 hi0
  go_enter Tryz.func11, Tryz.ntmps11
  go_wp2_with fail
  refine Calls.mono HR0.out ?_
  rintro e x1 ⟨rfl, hx⟩
  subst hx
  go_wp2_with fail
  refine Calls.mono HR1.out ?_
  rintro e x2 ⟨rfl, hx⟩
  subst hx
  go_wp2_with fail
  refine Calls.mono (HB0.out _) ?_
  rintro e x3 ⟨rfl, K3⟩
  have HK3 := Lib.hid K3
  clear K3
  go_wp2_with fail
  refine Calls.mono (HB1.out _) ?_
  rintro e x4 ⟨rfl, K4⟩
  have HK4 : Hid (Kp [] w x4) := HK3.out.trans K4
  clear K4 HK3
  have HQ := Lib.hid (QAt.new x4 b t h)
  have HK5 : Hid (Kp [] w (x4.alloc (.cells #[.pointer (some ⟨b, 0, none⟩), .int .i64 (t : Int), .int .i64 (h : Int), .int .i64 0, .int .i64 0, .int .i64 0, .bool false] 53))) := HK4.out.alloc _
  have HZ : Hid (x4.heap.size < (x4.alloc (.cells #[.pointer (some ⟨b, 0, none⟩), .int .i64 (t : Int), .int .i64 (h : Int), .int .i64 0, .int .i64 0, .int .i64 0, .bool false] 53)).heap.size) := by show _ < _; simp
  obtain ⟨q, hq⟩ : ∃ q, q = x4.heap.size := ⟨_, rfl⟩
  have HQW : Hid (w.heap.size ≤ q) := by show _ ≤ _; rw [hq]; exact HK4.out.size
  rw [← hq] at HQ HZ
  go_upto_if 56 with fail
  rw [← hq]
  generalize hW : World.alloc _ _ = y at *
  clear hW hq HK4
  go_cut [13] from 54 to 67 (fun s13 wx => ∃ (a T H : Nat), s13 = .pointer (some ⟨q, 0, none⟩) ∧ Hid (QAt wx q b (jq a T H 0 0) false) ∧ Hid (Kp [q] y wx) ∧ Hid (CntP S a T H) ∧ T ≤ 1000000 ∧ H ≤ 1)
  case first =>
    have q0 := HQ.out.c0
    have q1 := HQ.out.c1
    have q2 := HQ.out.c2
    have q3 := HQ.out.c3
    have g1 := HQ.out.f 1
    have g2 := HQ.out.f 2
    have g3 := HQ.out.f 3
    by_cases htu : t < u
    · have l2 : decide ((t : Int) < (u : Int)) = true := by simpa using htu
      go_wp2_with fail
      go_meet
      case rel => exact ⟨1, u, k, rfl, HQ.out.set123 u k 1, ((((Kp.refl [q] y).setCell (.inl (by simp)) _).setCell (.inl (by simp)) _).setCell (.inl (by simp)) _), ⟨fun _ => HC.out.1 htu, fun e => by omega⟩, by omega, by omega⟩
    · have l2 : decide ((t : Int) < (u : Int)) = false := by simpa using htu
      go_wp2_with fail
      go_meet
      case rel => exact ⟨0, t, h, rfl, HQ.out, Kp.refl _ _, ⟨HC.out.2.1 htu, HC.out.2.2 htu⟩, by omega, by omega⟩
  case rest =>
    obtain ⟨a, T, H, rfl, HQ2, HKY, HCV, hT9, hH1⟩ := hcut
    clear HQ HB0 HB1 HR0 HR1 HC
    have HK6 : Hid (Kp [] w wc) := HK5.out.trans2 HKY.out (fun x hx => .inr (by simp at hx; rw [hx]; exact HQW.out))
    have HZ2 : Hid (q < wc.heap.size) := Nat.lt_of_lt_of_le HZ.out HKY.out.size
    have q1 := HQ2.out.c1
    by_cases hT : T = 0
    · subst hT
      have l3 : (((0 : Nat) : Int) == 0) = true := rfl
      have q1' : wc.cell? ⟨q, 1, none⟩ = some (.int .i64 0) := q1
      clear q1
      go_wp2_with fail
      have ho := open_none HS.out (HCV.out.2 rfl)
      exact ro_ret rfl rfl rfl rfl ⟨f, Mv.of_kp HK6.out f, .inl ⟨ho.1, rfl, by rw [ho.2]; exact HD.out.kept HK6.out⟩⟩
    have l3 : ((T : Int) == 0) = false := by rw [beq_eq_false_iff_ne]; omega
    have q1' : wc.cell? ⟨q, 1, none⟩ = some (.int .i64 (T : Int)) := q1
    have HT : Hid (0 < T) := by show 0 < T; omega
    have HCC : Hid (countV S = (a, T, H)) := HCV.out.1 HT.out
    clear q1 hT HCV
    have HBy := Lib.hid (rbytes_ok HQ2.out (HD.out.kept HK6.out) HS.out hm hH1)
    obtain ⟨all, hall⟩ : ∃ all, all = S.half H := ⟨_, rfl⟩
    rw [show (jq a T H 0 0).half = H from rfl, ← hall] at HBy
    have hals : all.size ≤ 64000 := by rw [hall, HS.out.half_size H hH1]; unfold hl; omega
    have HAll := Lib.hid hall
    clear hall
    go_wp2_with fail
    refine Calls.mono HBy.out ?_
    rintro e w0 ⟨rfl, K⟩
    have HK0 : Hid (Kp [] w w0) := HK6.out.trans K
    have HQ0 : Hid (QAt w0 q b (jq a T H 0 0) false) := HQ2.out.kept K
    have HZ0 : Hid (q < w0.heap.size) := Nat.lt_of_lt_of_le HZ2.out K.size
    clear K HBy HQ2 HK6 HZ2 HKY HK5 HZ q1'
    obtain ⟨seq, hseq⟩ : ∃ seq, seq = T * 1000000 := ⟨_, rfl⟩
    have Hseq := Lib.hid hseq
    have hseq9 : seq ≤ 1000000000000 := by omega
    clear hseq
    have M0 : Hid (UoMid seq all b q (jq a T H 0 0) w0 w0 0 all (.slice none 0 0)) := ⟨Kp.refl _ _, by rw [Nat.sub_self]; exact HQ0.out, ⟨[], rfl, ⟨rfl, .inl ⟨rfl, rfl⟩⟩, by simp⟩, Suf.refl _⟩
    have HSZ := Lib.hid (unL_size all.size seq 0 all (Nat.le_refl _))
    go_wp2_with fail
    go_loopw [14] (fun o wr => ∃ (kk : Nat) (rest : ByteArray) (va : Option Addr) (vc : Nat), o = .slice va kk vc ∧ rest.size + 4 * kk ≤ all.size ∧ Hid (UoMid seq all b q (jq a T H 0 0) w0 wr kk rest (.slice va kk vc))) (fun _ wr => all.size - endOf wr q)
    case atStart => exact ⟨0, all, none, 0, rfl, by omega, M0⟩
    case round =>
      clear M0 HQ0
      obtain ⟨kk, rest, va, vc, rfl, hk4, HM⟩ := hrel
      obtain ⟨us, hus⟩ : ∃ us, us = all.size - rest.size := ⟨_, rfl⟩
      have HQr : Hid (QAt wr q b (jq a T H kk us) false) := by
        have := HM.out.q_
        rw [← hus] at this
        exact this
      have hrest : all.extract us all.size = rest := by rw [hus]; exact HM.out.suf.ext
      have hus9 : us ≤ all.size := by omega
      have HEn : Hid (endOf wr q = us) := HQr.out.endOf
      have Hus := Lib.hid hus
      have Hk4 := Lib.hid hk4
      have hkk9 : kk ≤ 64000 := by omega
      obtain ⟨qn, hqn⟩ : ∃ qn : Nat, qn = seq + kk := ⟨_, rfl⟩
      have Hqn := Lib.hid hqn
      have E5 : Hid (IntKind.i64.wrap (IntKind.i64.wrap ((T : Int) * 1000000) + (kk : Int)) = (qn : Int)) := by
        show _ = _
        rw [show (T : Int) * 1000000 = (seq : Int) by rw [Hseq.out, Int.natCast_mul]; rfl, wrapL (by omega), show (seq : Int) + (kk : Int) = (qn : Int) by rw [Hqn.out, Int.natCast_add], wrapL (by rw [Hqn.out]; omega)]
      have HO := Lib.hid (fun w2 => rop_any rest (by omega) (qn : Int) w2)
      have c1 : wr.cell? ⟨q, 1, none⟩ = some (.int .i64 (T : Int)) := HQr.out.c1
      have c4 : wr.cell? ⟨q, 4, none⟩ = some (.int .i64 (us : Int)) := HQr.out.c4
      have c5 : wr.cell? ⟨q, 5, none⟩ = some (.int .i64 (kk : Int)) := HQr.out.c5
      have d1 : wr.drew.cell? ⟨q, 1, none⟩ = some (.int .i64 (T : Int)) := c1
      have d4 : wr.drew.cell? ⟨q, 4, none⟩ = some (.int .i64 (us : Int)) := c4
      have d5 : wr.drew.cell? ⟨q, 5, none⟩ = some (.int .i64 (kk : Int)) := c5
      have hql : q < wr.drew.heap.size := lt_of_cell d1
      clear hus hk4 hqn
      go_upto_region 16 with fail
      go_cut [16, 17, 18] from 75 to 95 (fun s16 s17 s18 wx => ∃ (cc : Nat) (tt r : ByteArray), s16 = .string tt ∧ s17 = .string r ∧ s18 = .int .i64 (cc : Int) ∧ Hid (opS rest (qn : Int) = (cc, tt, r)) ∧ Hid (Kp [] wr wx))
      case first =>
        focus
          go_region_held3 (fun w' => w'.cell? ⟨q, 1, none⟩ = some (.int .i64 (T : Int)) ∧ w'.cell? ⟨q, 4, none⟩ = some (.int .i64 (us : Int)) ∧ w'.cell? ⟨q, 5, none⟩ = some (.int .i64 (kk : Int))) (first | exact ⟨d1, d4, d5⟩ | exact ⟨r1, r4, r5⟩) (first | (go_at_call 38; (try rw [E5.out]); refine Calls.mono (HO.out _) ?_; rintro e z2 ⟨K, cc, tt, r, ho, rfl⟩; have r1 := (K.cell0 (o := 1) hql).trans d1; have r4 := (K.cell0 (o := 4) hql).trans d4; have r5 := (K.cell0 (o := 5) hql).trans d5))
        all_goals
          have HKz : Hid (Kp [] wr z2) := (Kp.refl [] wr).drew.trans K
          have Ho := Lib.hid ho
          clear K ho
          go_wp2_with fail
          go_meet
          case rel => exact ⟨cc, tt, r, rfl, rfl, rfl, Ho, HKz⟩
      case rest =>
        obtain ⟨cc, tt, r, rfl, rfl, rfl, Ho, HKz⟩ := hcut
        clear c1 c4 c5 d1 d4 d5 HO E5 hql
        have HQz : Hid (QAt wc q b (jq a T H kk us) false) := HQr.out.kept HKz.out
        by_cases hc0 : cc = 0
        · subst hc0
          have l4 : (((0 : Nat) : Int) != 0) = false := rfl
          have ho := Ho.out
          have h4 := opS_shrink ho
          have HSf : Hid (Suf r all) := (opS_suf ho).trans HM.out.suf
          have HY : Hid (unL seq kk rest = (tt :: (unL seq (kk + 1) r).1, (unL seq (kk + 1) r).2)) := unL_yes (by rw [← Hqn.out]; exact ho)
          have hown : Hid (∃ l : List ByteArray, l.length = kk ∧ wc.ownsRow w0.heap.size 9 1 (.slice va kk vc) kk (l.map Value.string) ∧ (l ++ (unL seq kk rest).1, (unL seq kk rest).2) = unL seq 0 all) := by
            obtain ⟨l, h1, h2, h3⟩ := HM.out.ex
            have := HKz.out.owns h2 (fun g hg hm => by cases hm)
            rw [h1] at this
            exact ⟨l, h1, this, h3⟩
          have hrr : r.size + 4 ≤ rest.size := h4
          have HK2 : Hid (Kp [q] w0 wc) := HM.out.kp.trans2 HKz.out (fun x hx => by cases hx)
          clear ho h4 HM HQr
          obtain ⟨l, hl1, hl2, hl3⟩ := hown.out
          have Hl := Lib.hid (And.intro hl1 hl3)
          have hsz : w0.heap.size ≤ wc.heap.size := HK2.out.size
          go_wp2_with (at_builtin; refine wpList_append_own _ rfl _ _ 34 rfl w0.heap.size 9 i0 (.string ⟨#[]⟩) 1 16 Tryz.underlying34 Hi.out hz0 hz1 hz2 rfl (by decide) _ kk (l.map Value.string) rfl (hl2.alloc _) ⟨wc.heap.size, 0, none⟩ 1 1 [.string tt] rfl rfl ?c1 ?c2 ?c3 ?c4 ?c5 ?_)
          case c1 =>
            intro j u hj
            match j, hj with
            | 0, hj => simp at hj; subst hj; simp [Addr.add]
          case c2 => intro u hu; simp at hu; subst hu; rfl
          case c3 => unfold maxLen; omega
          case c4 => omega
          case c5 => simp; omega
          intro v' w3 hown' hgrow _
          have hvb : ∀ g, (Value.slice va kk vc).ownBlock = some g → w0.heap.size ≤ g := fun g hg => by
            rcases hl2.2 with ⟨h, _⟩ | ⟨g2, cap, cur, h, hb, _⟩
            · rw [h] at hg; cases hg
            · rw [h] at hg
              obtain rfl : g2 = g := by simpa [Value.ownBlock] using hg
              exact hb
          have K7 : Kp (Value.slice va kk vc).ownBlock.toList wc w3 := ((Kp.refl _ wc).alloc _).grown hgrow (fun g hg => .inl (by simp [hg]))
          have HQ7 : Hid (QAt w3 q b (jq a T H kk us) false) := HQz.out.keep K7 (fun hm => by
            have := hvb q (by simpa using hm)
            have := HZ0.out
            omega)
          have H5 : Hid (Kp [q] w0 w3 ∧ ∃ l, l.length = kk + 1 ∧ OwnStrs w3 w0.heap.size v' l ∧ (l ++ (unL seq (kk + 1) r).1, (unL seq (kk + 1) r).2) = unL seq 0 all) := by
            refine ⟨HK2.out.trans2 K7 (fun x hx => .inr (hvb x (by simpa using hx))), l ++ [tt], by simp [Hl.out.1], ?_, ?_⟩
            · unfold OwnStrs
              rw [List.length_append, Hl.out.1, List.map_append]
              exact hown'
            · rw [← Hl.out.2, HY.out]
              simp
          obtain ⟨a2, c2, rfl⟩ : ∃ a2 c2, v' = .slice a2 (kk + 1) c2 := by
            obtain ⟨l2, h1, h2, h3⟩ := H5.out.2
            obtain ⟨a, c, h4, _, _⟩ := h2.form
            rw [h1] at h4
            exact ⟨a, c, h4⟩
          clear hown' hgrow hl2 hl3 hown HY K7 hvb HQz HK2
          have y0 := HQ7.out.c0
          have y4 : w3.cell? ⟨q, 4, none⟩ = some (.int .i64 (us : Int)) := HQ7.out.c4
          have y5 : w3.cell? ⟨q, 5, none⟩ = some (.int .i64 (kk : Int)) := HQ7.out.c5
          have g4 := HQ7.out.f 4
          have g5 := HQ7.out.f 5
          obtain ⟨us2, hus2⟩ : ∃ us2 : Nat, us2 = all.size - r.size := ⟨_, rfl⟩
          have e8 : (all.size : Int) - (r.size : Int) = (us2 : Int) := by have := Hk4.out; omega
          have HU2 := Lib.hid hus2
          clear hus2
          go_wp2_with fail
          have H9 : Hid (UoMid seq all b q (jq a T H 0 0) w0 ((w3.setCell ⟨q, 4, none⟩ (.int .i64 (us2 : Int))).setCell ⟨q, 5, none⟩ (.int .i64 ((kk + 1 : Nat) : Int))) (kk + 1) r (.slice a2 (kk + 1) c2)) := by
            have K9 : Kp [q] w3 ((w3.setCell ⟨q, 4, none⟩ (.int .i64 (us2 : Int))).setCell ⟨q, 5, none⟩ (.int .i64 ((kk + 1 : Nat) : Int))) := (((Kp.refl [q] w3).setCell (.inl (by simp)) _).setCell (.inl (by simp)) _)
            obtain ⟨l2, h1, h2, h3⟩ := H5.out.2
            refine ⟨H5.out.1.trans K9, ?_, ⟨l2, h1, h2.keep K9 (fun x hx => by simp at hx; have := HZ0.out; omega), h3⟩, HSf.out⟩
            rw [← HU2.out]
            exact HQ7.out.set45 us2 (kk + 1)
          have H10 := H9.out.q_.endOf
          go_roundw
          case rel => exact ⟨kk + 1, r, a2, c2, rfl, by have := Hk4.out; omega, H9⟩
          case measure =>
            have h1 := HEn.out
            have h2 : endOf ((w3.setCell ⟨q, 4, none⟩ (.int .i64 (us2 : Int))).setCell ⟨q, 5, none⟩ (.int .i64 ((kk + 1 : Nat) : Int))) q = all.size - r.size := H10
            have h3 := Hus.out
            have h4 := Hk4.out
            first
              | (rw [h1, h2]; omega)
              | (rw [h1, show endOf ((w3.setCell ⟨q, 4, none⟩ (.int .i64 (us2 : Int))).setCell ⟨q, 5, none⟩ (.int .i64 ((kk : Int) + 1))) q = all.size - r.size from h2]; omega)
              | trace_state
        · have l4 : ((cc : Int) != 0) = true := by simp; omega
          have HN : Hid (unL seq kk rest = ([], rest)) := unL_no (by rw [← Hqn.out, Ho.out]; exact hc0)
          have HR : Hid (OwnStrs wc w0.heap.size (.slice va kk vc) (unL seq 0 all).1 ∧ (unL seq 0 all).2 = rest ∧ (unL seq 0 all).1.length = kk) := by
            obtain ⟨l, h1, h2, h3⟩ := HM.out.ex
            rw [HN.out] at h3
            rw [← h3]
            show OwnStrs wc w0.heap.size (.slice va kk vc) (l ++ []) ∧ rest = rest ∧ (l ++ []).length = kk
            rw [List.append_nil]
            exact ⟨HKz.out.owns h2 (fun g hg hm => by cases hm), rfl, h1⟩
          have HK2 : Hid (Kp [q] w0 wc) := HM.out.kp.trans2 HKz.out (fun x hx => by cases hx)
          have HUA : Hid (S.oAll = all) := by show S.half (countV S).2.2 = all; rw [HCC.out, HAll.out]
          have HUN : Hid (S.oUn = unL seq 0 all) := by show unL ((countV S).2.1 * 1000000) 0 S.oAll = _; rw [HUA.out, HCC.out, Hseq.out]
          have HUS : Hid (us = S.oUsed) := by show us = S.oAll.size - S.oUn.2.size; rw [HUA.out, HUN.out, HR.out.2.1]; exact Hus.out
          have hqf : q ∉ f := fun hx => by have := HF.out q hx; have := HQW.out; omega
          have hsc : Dk.scrb (hat S.n H) all us (hl S.n - us / 64) (us / 64) 0 S = (S.oScr.1, 0, S.oScr.2.2) := by
            have h1 := oScr_ok HS.out HSec.out ht0 (by rw [HCC.out]; exact HT.out)
            have h2 : S.oScr = Dk.scrb (hat S.n H) all us (hl S.n - us / 64) (us / 64) 0 S := by unfold Dk.oScr; rw [HUA.out, ← HUS.out, HCC.out]
            rw [← h2, ← h1]
          have hcl := rclears_ok (J := jq a T H kk us) HQz.out ((HD.out.kept HK0.out).keep HK2.out (fun x hx hm9 => by simp at hm9; subst hm9; exact hqf hx)) HS.out hm hH1 hqf (by show us ≤ _; rw [HAll.out, HS.out.half_size H hH1] at hus9; exact hus9) all HAll.out S.oScr.1 S.oScr.2.2 hsc
          have HCl : Hid (Calls Tryz.prog 39 #[.pointer (some ⟨q, 0, none⟩), .string (all.extract 0 us)] wc fun e w2 => e = .returned (.int .i64 0) ∧ ∃ f2, RkF w2 f2 b (if 0 < S.oScr.1 then S.oScr.2.2.flushed else S.oScr.2.2) ∧ Mv f wc f2 w2) := hcl
          have z0 := HQz.out.c0
          have z4 : wc.cell? ⟨q, 4, none⟩ = some (.int .i64 (us : Int)) := HQz.out.c4
          clear hsc hcl hqf HM
          go_wp2_with fail
          refine Calls.mono HCl.out ?_
          rintro e w2 ⟨rfl, f2, D2, M2⟩
          have HD2 := Lib.hid D2
          have HM2 := Lib.hid M2
          clear D2 M2
          go_wp2_with fail
          exact ro_ret rfl rfl rfl rfl (ro_end HS.out HSec.out ht0 HCC.out HT.out HF.out HK0.out HQW.out HZ0.out HK2.out HQz.out HUS.out (by rw [HUN.out]; exact HR.out.2.2.symm) (by rw [HUN.out]; exact HR.out.1) HD2.out HM2.out)
end Go.Proofs.YtggnljfcdohkaaaGreatDoor
