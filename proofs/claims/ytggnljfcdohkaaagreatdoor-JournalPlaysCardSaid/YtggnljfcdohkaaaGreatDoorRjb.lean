/- Contracts of the reference's journal: a superblock's bytes, told and made. -/
import Derived.Test.YtggnljfcdohkaaaGreatDoorRk
import Derived.Test.YtggnljfcdohkaaaGreatDoorRfO
import Derived.Test.YtggnljfcdohkaaaGreatDoorJnH
namespace Go.Proofs.YtggnljfcdohkaaaGreatDoor
open Go.RowKit

theorem ttS_most {s t r : ByteArray} (h : ttS s 2020 = (0, t, r)) : ttS s s.size = (0, t, r) := by
  unfold ttS at h ⊢
  split at h
  · next k u hu =>
    split at h
    · simp at h
    · split at h
      · simp at h
      · next h2 =>
        rw [if_neg, if_neg h2]
        · exact h
        · rw [ByteArray.size_extract] at h2
          omega
  · simp at h
theorem unS_tt {s t r : ByteArray} (h : unS s = (0, t, r)) : ∃ r2, ttS s 2020 = (0, t, r2) := by
  unfold unS at h
  split at h
  · next t' r' ht =>
    split at h
    · simp at h
    · split at h
      · simp only [Prod.mk.injEq, true_and] at h
        exact ⟨r', by rw [ht, h.1]⟩
      · simp at h
  · simp at h
/-- A superblock's bytes as the reference tells them. -/
def blkS (s : ByteArray) : Option (Nat × Nat) :=
  match uwS s with
  | (0, b, k, r) => match takeS b with
    | (0, h, u) => if k = 0 ∨ 1 < h ∨ u < b.size ∨ isZ r = false then none else some (k, h)
    | _ => none
  | _ => none
theorem blkS_eq (s : ByteArray) : blkS s = superS s := by
  obtain ⟨⟨c, t, r⟩, hu⟩ : ∃ x, unS s = x := ⟨_, rfl⟩
  cases c with
  | zero =>
    obtain ⟨r2, ht⟩ := unS_tt hu
    have ht2 := ttS_most ht
    obtain ⟨⟨d, k, u⟩, hk⟩ : ∃ x, takeL 0 0 t.data.toList = x := ⟨_, rfl⟩
    cases d with
    | zero =>
      have h1 : turnS s = (0, k) := by unfold turnS; rw [ht2]; simp only; rw [hk]
      have h2 : opS s (k : Int) = (0, t.extract u t.size, r) := by unfold opS; rw [hu]; simp only; rw [hk]; simp
      have h3 : uwS s = (0, t.extract u t.size, k, r) := uw_yes hu hk
      unfold blkS superS
      rw [h1, h3]
      simp only
      rw [h2]
      rfl
    | succ d =>
      have h1 : turnS s = (d + 1, 0) := by unfold turnS; rw [ht2]; simp only; rw [hk]
      have h3 := uw_noseq hu hk
      unfold blkS
      rw [h3, superS_turn h1]
      rfl
  | succ c =>
    have h3 := uw_err hu
    have h4 : ∀ k : Nat, (opS s (k : Int)).1 = c + 1 := fun k => by unfold opS; rw [hu]
    unfold blkS superS
    rw [h3]
    simp only
    split
    · next turn _ =>
      split
      · next h5 => have := h4 turn; rw [h5] at this; simp at this
      · rfl
    · rfl
theorem supB_def (t h : Nat) : supB t h = wrapS t (numS h) := rfl
set_option maxHeartbeats 1600000 in
set_option maxRecDepth 20000 in
theorem rsuper_any (t h : Nat) (ht : t ≤ 1000000000) (hh : h ≤ 1) (w : World) :
    Calls Tryz.prog 34 #[.int .i64 (t : Int), .int .i64 (h : Int)] w fun e w2 => e = .returned (.string (supB t h)) ∧ Kp [] w w2 := by
  have HN := Lib.hid (rnum_any (h : Int) (by omega) (by omega))
  have HW := Lib.hid (rwrap_any (t : Int) (by omega) (by omega) (numS h) (by have := numS_le10 h (by omega); omega))
  rw [Int.toNat_natCast] at HN HW
  rw [supB_def]
  generalize numS h = nh at *
  generalize wrapS t nh = sb at *
  go_enter Tryz.func34, Tryz.ntmps34
  go_wp2_with fail
  refine Calls.mono (HN.out _) ?_
  rintro e x1 ⟨rfl, K⟩
  have K1 := Lib.hid K
  clear K
  go_wp2_with fail
  refine Calls.mono (HW.out _) ?_
  rintro e x2 ⟨rfl, K⟩
  have K2 := Lib.hid (K1.out.trans K)
  clear K
  go_wp2_with fail
  go_ret
  exact ⟨rfl, K2.out⟩
end Go.Proofs.YtggnljfcdohkaaaGreatDoor
/- Contracts of the reference's journal: block. -/
namespace Go.Proofs.YtggnljfcdohkaaaGreatDoor
open Go.RowKit

theorem isZ_zStr (r : ByteArray) : (r = zStr r.size) ↔ isZ r = true := by
  unfold isZ zStr
  rw [List.all_eq_true]
  constructor
  · intro h x hx
    rw [h] at hx
    simp at hx
    simp [hx.2]
  · intro h
    apply ba_ext
    have : r.data.toList = List.replicate r.data.toList.length 0 := List.eq_replicate_of_mem (fun x hx => by simpa using h x hx)
    rw [this]
    show List.replicate r.data.toList.length 0 = List.replicate r.size 0
    rw [Array.length_toList]
    rfl
theorem isZ_cmp (r : ByteArray) : (r.toList == (zStr r.size).toList) = isZ r := by
  cases h : isZ r
  · rw [beq_eq_false_iff_ne]
    intro he
    have : r = zStr r.size := by
      apply ba_ext
      rwa [ByteArray.toList_eq, ByteArray.toList_eq] at he
    rw [(isZ_zStr r).1 this] at h
    cases h
  · rw [← (isZ_zStr r).2 h, beq_self_eq_true]
/-- What block answers. -/
def BlkPost (s : ByteArray) (w : World) (e : Ending) (w2 : World) : Prop :=
  Kp [] w w2 ∧ ((∃ t h, superS s = some (t, h) ∧ e = .returned (.tuple #[.int .i64 (t : Int), .int .i64 (h : Int)])) ∨ (superS s = none ∧ e = .returned (.tuple #[.int .i64 0, .int .i64 0])))
theorem blk_ret {P : Ending → World → Prop} {w2 : World} {a : Act} {v0 v1 : Value} (h2 : a.tmps.getD 2 undef = v0) (h3 : a.tmps.getD 3 undef = v1) (hd : a.defers = []) (hP : P (.returned (.tuple #[v0, v1])) w2) :
    bodyPost Tryz.prog Tryz.f36 P .ret a w2 :=
  bodyPost_ret (v := .tuple #[v0, v1]) (by simp [results, Tryz.results36, go_sem]; simp at h2 h3; exact ⟨h2, h3⟩) hd hP
set_option maxHeartbeats 3200000 in
set_option maxRecDepth 20000 in
theorem rblock_any (s : ByteArray) (hs : s.size ≤ 100000) (w : World) :
    Calls Tryz.prog 36 #[.string s] w (BlkPost s w) := by
  have HU := Lib.hid (ruw_any s (by omega) w)
  go_enter Tryz.func36, Tryz.ntmps36
  go_wp2_with fail
  refine Calls.mono HU.out ?_
  rintro e x1 ⟨K, c, b, k, r, hc, hu, hk, rfl⟩
  have K1 := Lib.hid K
  have U1 := Lib.hid hu
  clear K hu
  by_cases h0 : c = 0
  · subst h0
    have ho : opS s (k : Int) = (0, b, r) := by rw [op_of_uw U1.out]; simp
    have hr := opS_shrink ho
    have hb := opS_le ho
    have HB : Hid (superS s = match takeS b with | (0, h, u) => if k = 0 ∨ 1 < h ∨ u < b.size ∨ isZ r = false then none else some (k, h) | _ => none) := by
      show _ = _
      rw [← blkS_eq]
      unfold blkS
      rw [U1.out]
      rfl
    clear ho
    have l0 : (((0 : Nat) : Int) == 0) = true := rfl
    by_cases hk0 : k = 0
    · subst hk0
      have HN : Hid (superS s = none) := by
        show _ = _
        rw [HB.out]
        split
        · simp
        · rfl
      clear HB
      go_wp2_with fail
      exact blk_ret rfl rfl rfl ⟨K1.out, .inr ⟨HN.out, rfl⟩⟩
    have l1 : decide ((k : Int) < 1) = false := by simp; omega
    obtain ⟨z, hz⟩ : ∃ z, z = isZ r := ⟨_, rfl⟩
    have HZ := Lib.hid hz
    have hcmp := (isZ_cmp r).trans hz.symm
    have hmk := make_bytes (r.size : Int) r.size rfl (by omega)
    have hcv2 : ∀ (W : World) (g : Nat), IsZ W g r.size → (convert 94 9 (.slice (some ⟨g, 0, none⟩) r.size r.size)).run Tryz.prog W = .ok (.string (zStr r.size)) W := fun W g h => conv_bytes h
    have hz1 := isZ_new
    have Hk0 := Lib.hid hk0
    clear hz hk0
    cases z
    · have HN : Hid (superS s = none) := by
        show _ = _
        rw [HB.out]
        split
        · rw [if_pos (.inr (.inr (.inr HZ.out.symm)))]
        · rfl
      clear HB
      go_wp2_with fail
      exact blk_ret rfl rfl rfl ⟨K1.out.alloc _, .inr ⟨HN.out, rfl⟩⟩
    have HT := Lib.hid (rtake_any b (by omega))
    obtain ⟨⟨c2, h, u⟩, ht⟩ : ∃ x, takeS b = x := ⟨_, rfl⟩
    have Ht := Lib.hid ht
    have hf := takeL_fits b.data.toList 0 0 (by decide) (by omega) c2 h u ht
    have Hf := Lib.hid hf
    clear ht hf
    cases c2 with
    | succ d =>
      have HN : Hid (superS s = none) := by
        show _ = _
        rw [HB.out, Ht.out]
        rfl
      have l2 : (((d : Int) + 1) == 0) = false := by rw [beq_eq_false_iff_ne]; omega
      clear HB
      go_wp2_with fail
      refine Calls.mono (HT.out _) ?_
      rintro e x2 ⟨rfl, K⟩
      rw [Ht.out]
      have K2 := Lib.hid ((K1.out.alloc _).trans K)
      clear K
      unfold rtkVal
      go_wp2_with fail
      exact blk_ret rfl rfl rfl ⟨K2.out, .inr ⟨HN.out, rfl⟩⟩
    | zero =>
      have HB2 : Hid (superS s = if 1 < h ∨ u < b.size then none else some (k, h)) := by
        show _ = _
        rw [HB.out, Ht.out]
        simp only [Hk0.out, false_or]
        rw [← HZ.out]
        simp
      obtain ⟨bx, hbx⟩ : ∃ bx, bx = b.extract u b.size := ⟨_, rfl⟩
      have HX : Hid (bx.size = b.size - u) := by show _ = _; rw [hbx, ByteArray.size_extract]; omega
      have Hbx := Lib.hid hbx
      clear HB hbx
      have lE := isEmpty_size bx
      by_cases hE : bx.size = 0
      case' neg =>
        have HN : Hid (superS s = none) := by
          show _ = _
          rw [HB2.out, if_pos (.inr (by have := HX.out; omega))]
        have lE2 : bx.toList.isEmpty = false := by rw [lE]; simpa using hE
      case' pos =>
        have lE2 : bx.toList.isEmpty = true := by rw [lE]; simpa using hE
        by_cases hh : 1 < h
        case' pos =>
          have HN : Hid (superS s = none) := by
            show _ = _
            rw [HB2.out, if_pos (.inl hh)]
          have l5 : decide ((1 : Int) < (h : Int)) = true := by simp; omega
        case' neg =>
          have HN : Hid (superS s = some (k, h)) := by
            show _ = _
            rw [HB2.out, if_neg (by rintro (h9 | h9); · exact hh h9
                                    · have := HX.out; have := Hf.out; omega)]
          have l5 : decide ((1 : Int) < (h : Int)) = false := by simp; omega
        all_goals clear hh
      all_goals
        clear lE hE HB2
        go_wp2_with fail
        refine Calls.mono (HT.out _) ?_
        rintro e x2 ⟨rfl, K⟩
        rw [Ht.out]
        have K2 := Lib.hid ((K1.out.alloc _).trans K)
        clear K
        unfold rtkVal
        simp only
        rw [← Hbx.out]
        go_wp2_with fail
        first
        | exact blk_ret rfl rfl rfl ⟨K2.out, .inr ⟨HN.out, rfl⟩⟩
        | exact blk_ret rfl rfl rfl ⟨K2.out, .inl ⟨_, _, HN.out, rfl⟩⟩
  · have l0 : ((c : Int) == 0) = false := by rw [beq_eq_false_iff_ne]; omega
    have HN : Hid (superS s = none) := by
      rw [← blkS_eq]
      unfold blkS
      rw [U1.out]
      obtain ⟨d, rfl⟩ : ∃ d, c = d + 1 := ⟨c - 1, by omega⟩
      rfl
    go_wp2_with fail
    exact blk_ret rfl rfl rfl ⟨K1.out, .inr ⟨HN.out, rfl⟩⟩
end Go.Proofs.YtggnljfcdohkaaaGreatDoor
