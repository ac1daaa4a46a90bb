/- The walk of the law LexWords. -/
import Derived.Test.YtmhnjgnljfkdcaaDoorLxV
namespace Go.Proofs.YtmhnjgnljfkdcaaDoor
open Go.RowKit

theorem sep_at0 (W : World) : (Instr.index 34 (.agg #[.string ⟨#[32]⟩, .string ⟨#[10]⟩, .string ⟨#[9, 32]⟩]) (.int .i64 0)).run Tryd.prog W = .ok (.string ⟨#[32]⟩) W := by kernel_rfl
theorem sep_at1 (W : World) : (Instr.index 34 (.agg #[.string ⟨#[32]⟩, .string ⟨#[10]⟩, .string ⟨#[9, 32]⟩]) (.int .i64 1)).run Tryd.prog W = .ok (.string ⟨#[10]⟩) W := by kernel_rfl
theorem sep_at2 (W : World) : (Instr.index 34 (.agg #[.string ⟨#[32]⟩, .string ⟨#[10]⟩, .string ⟨#[9, 32]⟩]) (.int .i64 2)).run Tryd.prog W = .ok (.string ⟨#[9, 32]⟩) W := by kernel_rfl

/-- The table of words that the law has made. -/
def tabO : Obj := .cells (somL.map Value.string).toArray 35
theorem tab_at (W : World) (j : Nat) (hj : j < 12) : (W.alloc tabO).cell? ⟨W.heap.size, j, none⟩ = some (.string (somL.getD j ⟨#[]⟩)) := by
  unfold tabO
  rw [World.cell?_alloc_new]
  have h : j < somL.length := hj
  simp [List.getElem?_eq_getElem h, List.getD]
theorem wf_u8 {n : Int} (h : (Lit.int .u8 n).wf = true) : 0 ≤ n ∧ n ≤ 255 := by
  simp only [Lit.wf, Bool.and_eq_true, decide_eq_true_eq] at h
  exact h
/-- Between two rounds of the second loop. -/
structure TMid (w6 wr : World) (k : Nat) (tx : ByteArray) (v : Value) : Prop where
  kp : Kp [] w6 wr
  ex : ∃ l : List ByteArray, UMid k tx l ∧ OwnStrs wr w6.heap.size v l
set_option maxHeartbeats 12800000 in
set_option maxRecDepth 20000 in
theorem lwords_any (s : ByteArray) (wa : Option Addr) (n wc : Nat) (z : Nat → Nat) (w : World) (hN : NatsAt w w.heap.size .u8 wa n z) :
    Calls Tryd.prog 4 #[.string s, .slice wa n wc] w fun e w2 => e = .returned (.bool true) ∧ Kp [] w w2 := by
  have HNs := Lib.hid hN
  clear hN
  by_cases h1 : 600 < s.size
  · have d1 : decide ((600 : Int) < (s.size : Int)) = true := decide_eq_true (by omega)
    go_enter Tryd.func4, Tryd.ntmps4
    go_wp2_with fail
    refine Calls.mono (known_any _) ?_
    rintro e w1 ⟨rfl, k1⟩
    have KA := Lib.hid k1
    clear k1
    go_wp2_with fail
    go_ret
    exact ⟨rfl, KA.out⟩
  have d1 : decide ((600 : Int) < (s.size : Int)) = false := decide_eq_false (by omega)
  by_cases h2 : 60 < n
  · have d2 : decide ((60 : Int) < (n : Int)) = true := decide_eq_true (by omega)
    go_enter Tryd.func4, Tryd.ntmps4
    go_wp2_with fail
    refine Calls.mono (known_any _) ?_
    rintro e w1 ⟨rfl, k1⟩
    have KA := Lib.hid k1
    clear k1
    go_wp2_with fail
    go_ret
    exact ⟨rfl, KA.out⟩
  have d2 : decide ((60 : Int) < (n : Int)) = false := decide_eq_false (by omega)
  have hs6 : s.size ≤ 600 := by omega
  have hn6 : n ≤ 60 := by omega
  obtain ⟨i0, hi0, hz0, hz1, hz2⟩ := info_parts strInfo
  have Hi := Lib.hid hi0
  clear hi0 h1 h2
  have C1 := Lib.hid (words_all s)
  go_enter Tryd.func4, Tryd.ntmps4
  go_wp2_with fail
  refine Calls.mono (known_any _) ?_
  rintro e w1 ⟨rfl, k1⟩
  have KA := Lib.hid k1
  clear k1
  go_wp2_with fail
  refine Calls.mono (C1.out _) ?_
  rintro e w2 ⟨a, ca, ev, rfl, k2, s2, hv⟩
  have KB := Lib.hid (KA.out.trans k2)
  clear k2 KA C1
  rcases hv with ⟨h0, rfl⟩ | hv
  · obtain ⟨ws, hws⟩ : ∃ ws, ws = (out s).2 := ⟨_, rfl⟩
    have ho : out s = (0, ws) := by rw [hws, ← h0]
    rw [← hws] at s2 ⊢
    obtain ⟨vs, F⟩ := firsts ho
    have hl9 : ws.length ≤ 600 := by have := F.le; rw [F.map, List.length_map]; omega
    have hlv : ws.length = vs.length := by rw [F.map, List.length_map]
    obtain ⟨N, hN⟩ : ∃ N, N = ws.length := ⟨_, rfl⟩
    rw [← hN] at s2 hl9 hlv ⊢
    have SB := Lib.hid s2
    have HF := Lib.hid F
    have HLV := Lib.hid hlv
    have HNw := Lib.hid hN
    have J0 : Hid (JMid vs 0 ⟨#[]⟩) := ⟨rfl⟩
    clear s2 F ho hws hlv h0 hN
    go_wp2_with fail
    go_loopw [7, 8] (fun t i wr => ∃ (k : Nat) (tx : ByteArray), k ≤ N ∧ t = .string tx ∧ i = .int .i64 (k : Int) ∧ Hid (Kp [] w2 wr) ∧ Hid (JMid vs k tx)) (fun _ i _ => N - (intOf i).toNat)
    case atStart => exact ⟨0, _, Nat.zero_le _, rfl, rfl, Kp.refl _ _, J0⟩
    case round =>
      clear J0
      obtain ⟨k, tx, hk, rfl, rfl, HK, HJ⟩ := hrel
      have htx : tx.size ≤ 1800 := by have h5 := HJ.out.le; have h6 := HF.out.len; omega
      by_cases hlt : k < N
      · have l1 : decide ((k : Int) < (N : Int)) = true := decide_eq_true (by omega)
        have hkv : k < vs.length := by have := HLV.out; omega
        obtain ⟨g, o, rfl, hg, hc⟩ := SB.out k hlt
        obtain ⟨x, hx⟩ : ∃ x, x = ws.getD k ⟨#[]⟩ := ⟨_, rfl⟩
        have hxv : x = mkB vs[k] := by
          rw [hx, HF.out.map, List.getD_eq_getElem?_getD, List.getElem?_map, List.getElem?_eq_getElem hkv]
          rfl
        have hc : w2.cell? ⟨g, o + k, none⟩ = some (.string x) := by rw [hc, hx]
        have Kd : Kp [] w2 wr.drew := HK.out.drew
        have c1 : wr.drew.cell? ⟨g, o + k, none⟩ = some (.string x) := (Kd.cell0 hg).trans hc
        have hxs : x.size ≤ 600 := by
          have := HF.out.small vs[k] (List.getElem_mem _)
          rw [hxv, mkB_size]
          omega
        have HKd := Lib.hid Kd
        have Hlt := Lib.hid hlt
        have hk0 : (0 : Int) ≤ (k : Int) := by omega
        have hk9 : (k : Int) < (N : Int) := by omega
        have l1' : decide (k < N) = true := decide_eq_true hlt
        rcases (show k % 3 = 0 ∨ k % 3 = 1 ∨ k % 3 = 2 by omega) with h3 | h3 | h3
        · have e3 : (k : Int).tmod 3 = 0 := by rw [Int.tmod_eq_emod_of_nonneg (by omega)]; omega
          have ix := sep_at0
          have HJ2 : Hid (JMid vs (k + 1) ((tx ++ x) ++ ⟨#[32]⟩)) := Lib.hid (HJ.out.step hkv hxv (by unfold sep3; simp only [h3]; rfl))
          clear Kd hc HK HJ hx hxv hg h3 hkv
          go_wp2_with fail
          go_region_with (fail)
          all_goals
            go_wp2_with fail
            go_roundw
            case rel => exact ⟨k + 1, _, Hlt.out, rfl, by go_num, HKd.out, HJ2.out⟩
            case measure => have := Hlt.out; simp [intOf]; omega
        · have e3 : (k : Int).tmod 3 = 1 := by rw [Int.tmod_eq_emod_of_nonneg (by omega)]; omega
          have ix := sep_at1
          have HJ2 : Hid (JMid vs (k + 1) ((tx ++ x) ++ ⟨#[10]⟩)) := Lib.hid (HJ.out.step hkv hxv (by unfold sep3; simp only [h3]; rfl))
          clear Kd hc HK HJ hx hxv hg h3 hkv
          go_wp2_with fail
          go_region_with (fail)
          all_goals
            go_wp2_with fail
            go_roundw
            case rel => exact ⟨k + 1, _, Hlt.out, rfl, by go_num, HKd.out, HJ2.out⟩
            case measure => have := Hlt.out; simp [intOf]; omega
        · have e3 : (k : Int).tmod 3 = 2 := by rw [Int.tmod_eq_emod_of_nonneg (by omega)]; omega
          have ix := sep_at2
          have HJ2 : Hid (JMid vs (k + 1) ((tx ++ x) ++ ⟨#[9, 32]⟩)) := Lib.hid (HJ.out.step hkv hxv (by unfold sep3; simp only [h3]; rfl))
          clear Kd hc HK HJ hx hxv hg h3 hkv
          go_wp2_with fail
          go_region_with (fail)
          all_goals
            go_wp2_with fail
            go_roundw
            case rel => exact ⟨k + 1, _, Hlt.out, rfl, by go_num, HKd.out, HJ2.out⟩
            case measure => have := Hlt.out; simp [intOf]; omega
      · have l1 : decide ((k : Int) < (N : Int)) = false := decide_eq_false (by omega)
        have l1' : decide (k < N) = false := decide_eq_false hlt
        have htl := HJ.out.all (by have := HLV.out; omega)
        have hw := words_yes (s := tx) (by omega) (by rw [htl, res_join sep3_ok vs 0 HF.out.ok])
        rw [← HF.out.map, ← HNw.out] at hw
        have HW := Lib.hid hw
        have SW := Lib.hid (SB.out.kept HK.out)
        have KC := Lib.hid (KB.out.trans HK.out)
        clear hw htl HJ HK KB SB hlt
        go_wp2_with fail
        refine Calls.mono (HW.out _) ?_
        rintro e w3 ⟨a3, c3, rfl, k3, s3⟩
        have KD := Lib.hid (KC.out.trans k3)
        have SC := Lib.hid (SW.out.kept k3)
        have SD := Lib.hid s3
        clear k3 s3 SW KC HW
        go_wp2_with fail
        refine Calls.mono (same_texts a a3 N ca c3 (by omega) (fun i => ws.getD i ⟨#[]⟩) (fun i => ws.getD i ⟨#[]⟩) _ SC.out SD.out (fun i _ => rfl)) ?_
        rintro e w4 ⟨rfl, k4⟩
        have KE := Lib.hid (KD.out.trans k4)
        clear k4 KD SC SD
        have U0 : Hid (TMid (w4.alloc tabO) (w4.alloc tabO) 0 ⟨#[]⟩ (.slice none 0 0)) := ⟨Kp.refl _ _, [], ⟨rfl, fun v hv => (by cases hv), rfl⟩, ⟨rfl, .inl ⟨rfl, rfl⟩⟩⟩
        go_wp2_with fail
        go_loopw [12, 13, 14] (fun t v i wr => ∃ (k : Nat) (tx : ByteArray) (a : Option Addr) (c : Nat), k ≤ n ∧ t = .string tx ∧ v = .slice a k c ∧ i = .int .i64 (k : Int) ∧ Hid (TMid (w4.alloc tabO) wr k tx (.slice a k c))) (fun _ _ i _ => n - (intOf i).toNat)
        case atStart => exact ⟨0, _, none, 0, Nat.zero_le _, rfl, rfl, rfl, U0⟩
        case round =>
          clear U0
          obtain ⟨k, tx, ua, uc, hk, rfl, rfl, rfl, HU⟩ := hrel
          obtain ⟨w6, hw6⟩ : ∃ w6, w6 = w4.alloc tabO := ⟨_, rfl⟩
          have k6 : Kp [] w4 w6 := by rw [hw6]; exact (Kp.refl [] w4).alloc tabO
          have t6 : ∀ j, j < 12 → w6.cell? ⟨w4.heap.size, j, none⟩ = some (.string (somL.getD j ⟨#[]⟩)) := fun j hj => by rw [hw6]; exact tab_at w4 j hj
          have l6 : w4.heap.size < w6.heap.size := by rw [hw6]; simp
          rw [← hw6] at HU
          have HW6 := Lib.hid hw6
          have HKB := Lib.hid ((KE.out.trans k6).trans HU.out.kp)
          clear hw6 k6
          have htx : tx.size ≤ 660 := by obtain ⟨l, h5, _⟩ := HU.out.ex; have := h5.le; omega
          by_cases hlt : k < n
          · have l1 : decide ((k : Int) < (n : Int)) = true := decide_eq_true (by omega)
            obtain ⟨hwf, g, o, rfl, hg, hc⟩ := HNs.out k hlt
            have hzk : wr.cell? ⟨g, o + k, none⟩ = some (.int .u8 (z k : Int)) := (HKB.out.cell0 hg).trans hc
            have bz := wf_u8 hwf
            obtain ⟨zk, hzz⟩ : ∃ zk, zk = z k := ⟨_, rfl⟩
            rw [← hzz] at hzk bz
            obtain ⟨j, hj⟩ : ∃ j, j = zk % 12 := ⟨_, rfl⟩
            have ej : (zk : Int).tmod 12 = (j : Int) := by rw [Int.tmod_eq_emod_of_nonneg (by omega)]; omega
            have hj12 : j < 12 := by omega
            have hjx := somL_at j hj12
            have hxc := (HU.out.kp.cell0 (b := w4.heap.size) (o := j) l6).trans (t6 j hj12)
            obtain ⟨x, hx⟩ : ∃ x, x = somL.getD j ⟨#[]⟩ := ⟨_, rfl⟩
            rw [← hx] at hjx hxc
            have hxs : x.size ≤ 9 := by rw [Lib.size_eq]; exact hjx.2
            obtain ⟨l, hl1, hl2⟩ := HU.out.ex
            unfold OwnStrs at hl2
            rw [hl1.len] at hl2
            have HL1 := Lib.hid hl1
            have HJX := Lib.hid hjx
            obtain ⟨xs, hxs2⟩ : ∃ xs, xs = l.map Value.string := ⟨_, rfl⟩
            rw [← hxs2] at hl2
            have Hxs := Lib.hid hxs2
            have HK := Lib.hid HU.out.kp
            have Hlt := Lib.hid hlt
            have hsz : w6.heap.size ≤ wr.heap.size := HK.out.size
            have C3 : Hid (k + 1 ≤ maxLen) := Lib.hid (by unfold maxLen; omega)
            have C4 : Hid ((k + 1) * 16 ≤ 140737488355328) := Lib.hid (by omega)
            have hj0 : (0 : Int) ≤ (j : Int) := by omega
            have hj9 : (j : Int) < 12 := by omega
            clear hl1 hxs2 HU hjx hx hj hzz bz hc hg hwf hlt t6 l6
            go_wp2_with (at_builtin; refine wpList_append_own _ rfl _ _ 23 rfl w6.heap.size 9 i0 (.string ⟨#[]⟩) 1 16 Tryd.underlying23 Hi.out hz0 hz1 hz2 rfl (by decide) _ k xs rfl (hl2.alloc _) ⟨wr.heap.size, 0, none⟩ 1 1 [.string x] rfl rfl (news1 _ _ _) (one_cell _) C3.out C4.out (by simp; omega) ?_)
            intro v' w3 hown' hgrow _
            obtain ⟨K3, O3⟩ := OwnStrs.grown hl2 HK.out hgrow hown' HL1.out.len Hxs.out
            obtain ⟨a2, c2, rfl⟩ : ∃ a2 c2, v' = .slice a2 (k + 1) c2 := by
              obtain ⟨a, c, h4, _, _⟩ := O3.form
              rw [List.length_append, HL1.out.len] at h4
              exact ⟨a, c, h4⟩
            have H5 : Hid (TMid w6 w3 (k + 1) ((tx ++ x) ++ ⟨#[32]⟩) (.slice a2 (k + 1) c2)) := ⟨K3, _, HL1.out.step HJX.out, O3⟩
            rw [HW6.out] at H5
            clear hown' hgrow hl2 K3 O3
            go_wp2_with fail
            go_roundw
            case rel => exact ⟨k + 1, _, a2, c2, Hlt.out, rfl, rfl, by go_num, H5⟩
            case measure => have := Hlt.out; simp [intOf]; omega
          · have l1 : decide ((k : Int) < (n : Int)) = false := decide_eq_false (by omega)
            have l1' : decide (k < n) = false := decide_eq_false hlt
            obtain ⟨l, hl1, hl2⟩ := HU.out.ex
            have HW := Lib.hid (words_yes (s := tx) (by omega) hl1.res)
            obtain ⟨a9, c9, h9, hS, _⟩ := hl2.form
            have hll : l.length = k := hl1.len
            rw [hll] at h9 hS HW
            injection h9 with h9a h9b h9c
            subst h9a
            have SW := Lib.hid hS
            have hk9 : k ≤ 100000 := by omega
            clear hl1 hl2 HU hll hlt h9b h9c hS htx t6 l6
            go_wp2_with fail
            refine Calls.mono (HW.out _) ?_
            rintro e w7 ⟨a7, c7, rfl, k7, s7⟩
            have KC := Lib.hid (HKB.out.trans k7)
            have SC := Lib.hid (SW.out.kept k7)
            have SD := Lib.hid s7
            clear k7 s7 SW HKB HW
            go_wp2_with fail
            refine Calls.mono (same_texts a7 ua k c7 uc hk9 (fun i => l.getD i ⟨#[]⟩) (fun i => l.getD i ⟨#[]⟩) _ SD.out SC.out (fun i _ => rfl)) ?_
            rintro e w8 ⟨rfl, k8⟩
            have KD := Lib.hid (KC.out.trans k8)
            clear k8 KC SC SD
            go_wp2_with fail
            go_ret
            exact ⟨rfl, KD.out⟩
  · obtain ⟨u, rfl⟩ := hv
    clear s2
    have U0 : Hid (TMid (w2.alloc tabO) (w2.alloc tabO) 0 ⟨#[]⟩ (.slice none 0 0)) := ⟨Kp.refl _ _, [], ⟨rfl, fun v hv => (by cases hv), rfl⟩, ⟨rfl, .inl ⟨rfl, rfl⟩⟩⟩
    go_wp2_with fail
    go_loopw [12, 13, 14] (fun t v i wr => ∃ (k : Nat) (tx : ByteArray) (a : Option Addr) (c : Nat), k ≤ n ∧ t = .string tx ∧ v = .slice a k c ∧ i = .int .i64 (k : Int) ∧ Hid (TMid (w2.alloc tabO) wr k tx (.slice a k c))) (fun _ _ i _ => n - (intOf i).toNat)
    case atStart => exact ⟨0, _, none, 0, Nat.zero_le _, rfl, rfl, rfl, U0⟩
    case round =>
      clear U0
      obtain ⟨k, tx, ua, uc, hk, rfl, rfl, rfl, HU⟩ := hrel
      obtain ⟨w6, hw6⟩ : ∃ w6, w6 = w2.alloc tabO := ⟨_, rfl⟩
      have k6 : Kp [] w2 w6 := by rw [hw6]; exact (Kp.refl [] w2).alloc tabO
      have t6 : ∀ j, j < 12 → w6.cell? ⟨w2.heap.size, j, none⟩ = some (.string (somL.getD j ⟨#[]⟩)) := fun j hj => by rw [hw6]; exact tab_at w2 j hj
      have l6 : w2.heap.size < w6.heap.size := by rw [hw6]; simp
      rw [← hw6] at HU
      have HW6 := Lib.hid hw6
      have HKB := Lib.hid ((KB.out.trans k6).trans HU.out.kp)
      clear hw6 k6
      have htx : tx.size ≤ 660 := by obtain ⟨l, h5, _⟩ := HU.out.ex; have := h5.le; omega
      by_cases hlt : k < n
      · have l1 : decide ((k : Int) < (n : Int)) = true := decide_eq_true (by omega)
        obtain ⟨hwf, g, o, rfl, hg, hc⟩ := HNs.out k hlt
        have hzk : wr.cell? ⟨g, o + k, none⟩ = some (.int .u8 (z k : Int)) := (HKB.out.cell0 hg).trans hc
        have bz := wf_u8 hwf
        obtain ⟨zk, hzz⟩ : ∃ zk, zk = z k := ⟨_, rfl⟩
        rw [← hzz] at hzk bz
        obtain ⟨j, hj⟩ : ∃ j, j = zk % 12 := ⟨_, rfl⟩
        have ej : (zk : Int).tmod 12 = (j : Int) := by rw [Int.tmod_eq_emod_of_nonneg (by omega)]; omega
        have hj12 : j < 12 := by omega
        have hjx := somL_at j hj12
        have hxc := (HU.out.kp.cell0 (b := w2.heap.size) (o := j) l6).trans (t6 j hj12)
        obtain ⟨x, hx⟩ : ∃ x, x = somL.getD j ⟨#[]⟩ := ⟨_, rfl⟩
        rw [← hx] at hjx hxc
        have hxs : x.size ≤ 9 := by rw [Lib.size_eq]; exact hjx.2
        obtain ⟨l, hl1, hl2⟩ := HU.out.ex
        unfold OwnStrs at hl2
        rw [hl1.len] at hl2
        have HL1 := Lib.hid hl1
        have HJX := Lib.hid hjx
        obtain ⟨xs, hxs2⟩ : ∃ xs, xs = l.map Value.string := ⟨_, rfl⟩
        rw [← hxs2] at hl2
        have Hxs := Lib.hid hxs2
        have HK := Lib.hid HU.out.kp
        have Hlt := Lib.hid hlt
        have hsz : w6.heap.size ≤ wr.heap.size := HK.out.size
        have C3 : Hid (k + 1 ≤ maxLen) := Lib.hid (by unfold maxLen; omega)
        have C4 : Hid ((k + 1) * 16 ≤ 140737488355328) := Lib.hid (by omega)
        have hj0 : (0 : Int) ≤ (j : Int) := by omega
        have hj9 : (j : Int) < 12 := by omega
        clear hl1 hxs2 HU hjx hx hj hzz bz hc hg hwf hlt t6 l6
        go_wp2_with (at_builtin; refine wpList_append_own _ rfl _ _ 23 rfl w6.heap.size 9 i0 (.string ⟨#[]⟩) 1 16 Tryd.underlying23 Hi.out hz0 hz1 hz2 rfl (by decide) _ k xs rfl (hl2.alloc _) ⟨wr.heap.size, 0, none⟩ 1 1 [.string x] rfl rfl (news1 _ _ _) (one_cell _) C3.out C4.out (by simp; omega) ?_)
        intro v' w3 hown' hgrow _
        obtain ⟨K3, O3⟩ := OwnStrs.grown hl2 HK.out hgrow hown' HL1.out.len Hxs.out
        obtain ⟨a2, c2, rfl⟩ : ∃ a2 c2, v' = .slice a2 (k + 1) c2 := by
          obtain ⟨a, c, h4, _, _⟩ := O3.form
          rw [List.length_append, HL1.out.len] at h4
          exact ⟨a, c, h4⟩
        have H5 : Hid (TMid w6 w3 (k + 1) ((tx ++ x) ++ ⟨#[32]⟩) (.slice a2 (k + 1) c2)) := ⟨K3, _, HL1.out.step HJX.out, O3⟩
        rw [HW6.out] at H5
        clear hown' hgrow hl2 K3 O3
        go_wp2_with fail
        go_roundw
        case rel => exact ⟨k + 1, _, a2, c2, Hlt.out, rfl, rfl, by go_num, H5⟩
        case measure => have := Hlt.out; simp [intOf]; omega
      · have l1 : decide ((k : Int) < (n : Int)) = false := decide_eq_false (by omega)
        have l1' : decide (k < n) = false := decide_eq_false hlt
        obtain ⟨l, hl1, hl2⟩ := HU.out.ex
        have HW := Lib.hid (words_yes (s := tx) (by omega) hl1.res)
        obtain ⟨a9, c9, h9, hS, _⟩ := hl2.form
        have hll : l.length = k := hl1.len
        rw [hll] at h9 hS HW
        injection h9 with h9a h9b h9c
        subst h9a
        have SW := Lib.hid hS
        have hk9 : k ≤ 100000 := by omega
        clear hl1 hl2 HU hll hlt h9b h9c hS htx t6 l6
        go_wp2_with fail
        refine Calls.mono (HW.out _) ?_
        rintro e w7 ⟨a7, c7, rfl, k7, s7⟩
        have KC := Lib.hid (HKB.out.trans k7)
        have SC := Lib.hid (SW.out.kept k7)
        have SD := Lib.hid s7
        clear k7 s7 SW HKB HW
        go_wp2_with fail
        refine Calls.mono (same_texts a7 ua k c7 uc hk9 (fun i => l.getD i ⟨#[]⟩) (fun i => l.getD i ⟨#[]⟩) _ SD.out SC.out (fun i _ => rfl)) ?_
        rintro e w8 ⟨rfl, k8⟩
        have KD := Lib.hid (KC.out.trans k8)
        clear k8 KC SC SD
        go_wp2_with fail
        go_ret
        exact ⟨rfl, KD.out⟩
end Go.Proofs.YtmhnjgnljfkdcaaDoor
