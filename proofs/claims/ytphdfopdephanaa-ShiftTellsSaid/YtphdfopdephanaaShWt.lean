/-
  The law ShiftTells of layer 7 holds: for every three texts, three numbers and a row of texts it returns true. No condition.
-/
import Derived.Test.YtphdfopdephanaaRows
import Derived.Test.YtphdfopdephanaaShVt
import Derived.Test.YtphdfopdephanaaStOpen
import Derived.ProofKit
import Derived.OpenShut
import Derived.Carry
import Derived.ChangeMaps5
import Derived.SizedLaws
import Derived.Deep.Strs
namespace Go.Proofs.Ytphdfopdephanaa
open Go Go.ChangeMaps Go.ChangeShapes Go.WideShapes Go.ChangeAt Go.RowKit Go.Deep

theorem mem_weightsAll {H : Type} {P : Program} {e : TypeId} {x : Nat} : ∀ {l : List (DataW H)} {d : DataW H}, d ∈ l → x ∈ DataW.weights P e d → x ∈ DataW.weightsAll P e l
  | y :: l, d, hd, hx => by
    rw [DataW.weightsAll]
    rcases List.mem_cons.1 hd with rfl | hd
    · exact List.mem_append_left _ hx
    · exact List.mem_append_right _ (mem_weightsAll hd hx)
theorem strs_at2 {H : Type} {enc : TypeId × Value → H} {W : World} {a : Option Addr} {n c : Nat} {d : DataW H} {p : List MemPlace}
    (h : DataW.Trod enc Try.prog W 0 (fun _ => true) true 22 (.slice a n c) d p) (hw : ∀ x ∈ DataW.weights Try.prog 22 d, x ≤ reachBytes) : ∃ sx, StrsAt W W.heap.size a n sx ∧ ∀ i, i < n → (sx i).size ≤ 1000000000000000 := by
  obtain ⟨fuel, hf⟩ := h
  rcases open_strs Try.underlying22 Try.underlying9 cellsString hf with ⟨hcs, _⟩ | ⟨x, len, cap, m, Sx, hcs, _, hl, _, hm, hd, hcell⟩
  · simp [Value.cells] at hcs
    obtain ⟨rfl, rfl, rfl⟩ := hcs
    exact ⟨fun _ => ByteArray.empty, fun i hi => absurd hi (Nat.not_lt_zero _), fun i hi => absurd hi (Nat.not_lt_zero _)⟩
  · simp [Value.cells] at hcs
    obtain ⟨rfl, rfl, rfl⟩ := hcs
    simp only [if_true] at hm
    simp only [Prod.mk.injEq] at hd
    rw [hd.1] at hw
    refine ⟨Sx, fun i hi => ?_, fun i hi => ?_⟩
    · have h0 := (hcell 0 (by omega)).1
      have hx : x = ⟨x.block, x.off, none⟩ := by
        have e0 : x.add 0 = x := rfl
        rw [e0] at h0
        exact addr_plain h0
      have hi2 := (hcell i (by omega)).1
      rw [hx, Addr.add_mid] at hi2
      exact ⟨x.block, x.off, by rw [hx], World.block_lt_of_cell? W _ h0, hi2⟩
    · have hmem : (Sx i).data.toList.length ∈ DataW.weights Try.prog 22 (DataW.slice ((List.range n).map fun i => DataW.lit (Lit.string (Sx i).data.toList)) ((List.range (m - n)).map fun j => DataW.lit (Lit.string (Sx (n + j)).data.toList)) : DataW H) := by
        rw [DataW.weights]
        simp only [Try.underlying22]
        refine List.mem_cons_of_mem _ (List.mem_append_left _ (mem_weightsAll (d := DataW.lit (Lit.string (Sx i).data.toList)) (List.mem_map.2 ⟨i, List.mem_range.2 hi, rfl⟩) ?_))
        rw [DataW.weights]
        exact List.mem_singleton.2 rfl
      exact Nat.le_trans (hw _ hmem) (by decide)
theorem own_shiftTells : ownKnob Try.prog.godebug = none := by kernel_rfl
set_option maxRecDepth 100000 in
theorem shiftTells_lifted (os : Os) (started : os.Started) (H : Type) (enc : TypeId × Value → H) :
    ReturnsInHanded {} Try.checked os 3 .any (Rows.shiftTellsSpec.pre6 enc Try.prog Try.f3 Rows.shiftTellsRow.domain false) (Rows.shiftTellsSpec.post enc Try.prog Try.f3 false true false false) := by
  refine returnsInHanded_of_change_sized (C := Try.checked) own_shiftTells started (by kernel_rfl) Try.func3
    (ChangeSpec.witness6 (enc := enc) (C := Try.checked) false ⟨#[], #[.string ⟨#[]⟩, .string ⟨#[]⟩, .int .u8 0, .int .u8 0, .int .u8 0, .string ⟨#[]⟩, .slice none 0 0], []⟩ 8 (by kernel_rfl) (by kernel_rfl) (by kernel_rfl) (by kernel_rfl)) ?_
  intro W base args ds gs before hval0 hW _ hreach _
  have hval : ∀ (j : Nat) t v, Try.f3.params[j]? = some t → args[j]? = some v → Value.okWide Try.prog W .any base t v := hval0
  have hW' := hW
  obtain ⟨p, q, hA0, hV, rfl, hfz, hnd⟩ := hW
  have hA : DataW.TrodAll enc Try.prog W 0 (fun _ => true) true Try.f3.params.toList args.toList ds p := hA0
  rw [Try.params3] at hA hval hreach
  obtain ⟨v0, vs0, d0, ds0, p0, q0, hargs, rfl, rfl, h0, r0⟩ := trodAll_cons hA
  obtain ⟨v1, vs1, d1, ds1, p1, q1, rfl, rfl, rfl, h1, r1⟩ := trodAll_cons r0
  obtain ⟨v2, vs2, d2, ds2, p2, q2, rfl, rfl, rfl, h2, r2⟩ := trodAll_cons r1
  obtain ⟨v3, vs3, d3, ds3, p3, q3, rfl, rfl, rfl, h3, r3⟩ := trodAll_cons r2
  obtain ⟨v4, vs4, d4, ds4, p4, q4, rfl, rfl, rfl, h4, r4⟩ := trodAll_cons r3
  obtain ⟨v5, vs5, d5, ds5, p5, q5, rfl, rfl, rfl, h5, r5⟩ := trodAll_cons r4
  obtain ⟨v6, vs6, d6, ds6, p6, q6, rfl, rfl, rfl, h6, r6⟩ := trodAll_cons r5
  obtain ⟨rfl, rfl, rfl⟩ := trodAll_nil r6
  obtain rfl : args = #[v0, v1, v2, v3, v4, v5, v6] := by cases args; simp_all
  obtain ⟨rfl, rfl⟩ := trodVars_none hV
  obtain ⟨s, rfl, rfl, rfl, zs⟩ := open_string Try.underlying9 (hval 0 9 v0 rfl rfl) h0
  obtain ⟨u, rfl, rfl, rfl, zu⟩ := open_string Try.underlying9 (hval 1 9 v1 rfl rfl) h1
  obtain ⟨i, rfl, rfl, rfl, w2⟩ := open_int Try.underlying5 (hval 2 5 v2 rfl rfl) h2
  have bi := bounds_u8 w2
  obtain ⟨i, rfl⟩ := Int.eq_ofNat_of_zero_le bi.1
  obtain ⟨j, rfl, rfl, rfl, w3⟩ := open_int Try.underlying5 (hval 3 5 v3 rfl rfl) h3
  have bj := bounds_u8 w3
  obtain ⟨j, rfl⟩ := Int.eq_ofNat_of_zero_le bj.1
  obtain ⟨k, rfl, rfl, rfl, w4⟩ := open_int Try.underlying5 (hval 4 5 v4 rfl rfl) h4
  have bk := bounds_u8 w4
  obtain ⟨k, rfl⟩ := Int.eq_ofNat_of_zero_le bk.1
  obtain ⟨nm, rfl, rfl, rfl, znm⟩ := open_string Try.underlying9 (hval 5 9 v5 rfl rfl) h5
  obtain ⟨la, ln, lc, rfl⟩ := okWide_slice Try.underlying22 (hval 6 22 v6 rfl rfl)
  clear hA0 hval0
  have hz := hreach
  simp [DataW.weightsEach, DataW.weights] at hz
  obtain ⟨hz0, hz1, hz2, hz3⟩ := hz
  obtain ⟨l, hl, hl2⟩ := strs_at2 h6 hz3
  have hlt : ∀ x ∈ [] ++ ([] ++ ([] ++ ([] ++ ([] ++ ([] ++ (p6 ++ [])))))) ++ [], x.block < W.heap.size := fun x hx => hW'.lt x hx
  refine (tells_any s u i j k (by omega) (by omega) (by omega) nm la ln lc l (Nat.le_trans hz0 (by decide)) (Nat.le_trans hz1 (by decide)) hl2 W hl).mono fun e W' ⟨he, hkp⟩ => ?_
  subst he
  have hb := hkp.below (B := W.heap.size) (Nat.le_refl _) (fun x hx => by cases hx)
  have e1 : Rows.shiftTellsSpec.fn H ([.lit (.string s.data.toList), .lit (.string u.data.toList), .lit (.int .u8 (i : Int)), .lit (.int .u8 (j : Int)), .lit (.int .u8 (k : Int)), .lit (.string nm.data.toList), d6] ++ []) = { results := [.lit (.bool true)], args := [.lit (.string s.data.toList), .lit (.string u.data.toList), .lit (.int .u8 (i : Int)), .lit (.int .u8 (j : Int)), .lit (.int .u8 (k : Int)), .lit (.string nm.data.toList), d6] } := rfl
  refine ⟨_, rfl, _, _, _, [], [] ++ ([] ++ ([] ++ ([] ++ ([] ++ ([] ++ (p6 ++ [])))))), [], hW', ?_, ?_, ?_, hb.frame _, fun h => by cases h⟩
  · rw [e1]; exact trodAll_cons_mk (shut_bool Try.underlying4 _) trodAll_mk0
  · rw [e1]; exact (trodAll_cons_mk (shut_string Try.underlying9 zs) (trodAll_cons_mk (shut_string Try.underlying9 zu) (trodAll_cons_mk (shut_int Try.underlying5 w2) (trodAll_cons_mk (shut_int Try.underlying5 w3) (trodAll_cons_mk (shut_int Try.underlying5 w4) (trodAll_cons_mk (shut_string Try.underlying9 znm) (trodAll_cons_mk (Below.trod laidOut (by kernel_rfl) (of_decide_eq_true (by kernel_rfl)) h6 hb (fun x hx => hlt x (by simp [hx]))) trodAll_mk0)))))))
  · rw [e1]; rfl

theorem shiftTells_proved : Rows.ShiftTellsSaid :=
  OpenClaim.holds_of_wide 3 Try.f3 rfl rfl rfl rfl rfl rfl rfl ⟨rfl, rfl, rfl, rfl, rfl⟩ rfl rfl rfl rfl rfl (by kernel_rfl) Try.func3 (by kernel_rfl)
    (of_decide_eq_true (by kernel_rfl)) (by unfold Func.isWrapper; first | (rw [if_pos (by decide +kernel)]; kernel_rfl) | (rw [if_neg (by decide +kernel)]; exact ⟨rfl, rfl⟩))
    (fun os started H enc _ => shiftTells_lifted os started H enc)
#print axioms shiftTells_proved
end Go.Proofs.Ytphdfopdephanaa
