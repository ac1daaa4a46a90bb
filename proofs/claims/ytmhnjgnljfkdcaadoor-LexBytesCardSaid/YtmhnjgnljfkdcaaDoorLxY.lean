/- The law LexBytes. -/
import Derived.Test.YtmhnjgnljfkdcaaDoorLxP
import Derived.Laws.OwnMore
namespace Go.Proofs.YtmhnjgnljfkdcaaDoor
open Go.RowKit

/-- A new row of bytes 0, and its text. -/
def zBytes (n : Nat) : Obj := .cells (madeCells #[.int .u8 0] n) 5
def zStr (n : Nat) : ByteArray := mkB (List.replicate n (0 : UInt8))
theorem infoByte : (Tryd.prog.info? 5).map (fun i => (i.size, i.bytes, i.zero)) = some (1, 1, some (.int .u8 0)) := by kernel_rfl
theorem make_bytes (x : Int) (n : Nat) (hx : x = n) (hn : n ≤ 100000) (w : World) : (Instr.makeSlice 33 (.int .i64 x) (.int .i64 x)).run Tryd.prog w = .ok (.slice (some ⟨w.heap.size, 0, none⟩) n n) (w.alloc (zBytes n)) := by
  subst hx
  obtain ⟨i, hi, hx⟩ := Option.map_eq_some_iff.1 infoByte
  simp only [Prod.mk.injEq] at hx
  obtain ⟨h1, h2, h3⟩ := hx
  have := run_make (P := Tryd.prog) w 33 5 i (.int .u8 0) Tryd.underlying33 hi h3 .i64 .i64 n n (by omega) (by omega) (by rw [h2]; omega) (by omega)
  rw [this, h1]
  simp [zBytes, Value.cells]
theorem conv_zeros {w : World} {g n : Nat} (h : w.heap[g]? = some (zBytes n)) : (convert 33 9 (.slice (some ⟨g, 0, none⟩) n n)).run Tryd.prog w = .ok (.string (zStr n)) w := by
  have := run_convert_bytes_back (P := Tryd.prog) w 33 9 5 ⟨g, 0, none⟩ n (List.replicate n (0 : UInt8)) Tryd.underlying33 Tryd.underlying5 Tryd.underlying9 (fun j hj => by
    rw [Addr.add_mid, Nat.zero_add]
    simp only [List.length_replicate] at hj
    simp only [World.cell?, h, zBytes]
    rw [← Array.getElem?_toList, toList_madeCells_one, List.getElem?_replicate, if_pos hj, List.getElem_replicate]
    rfl)
  rw [List.length_replicate] at this
  exact this
theorem pair_zero (l : List UInt8) : pairB (0 :: l) = false := by
  match l with
  | [] => rfl
  | _ :: _ => rfl
theorem zeros_out (r : Nat) (hr : r < 5) : out (zStr (1998 + r)) = (if 2 < r then 13 else 10, []) := by
  have hs : (zStr (1998 + r)).size = 1998 + r := by unfold zStr; rw [mkB_size, List.length_replicate]
  by_cases h : 2 < r
  · rw [if_pos h]; exact out_large (by omega)
  · rw [if_neg h]
    refine out_none (by omega) ?_
    unfold zStr
    rw [mkB_list, show 1998 + r = (1997 + r) + 1 by omega, List.replicate_succ]
    unfold res
    rw [wordsL_none (by decide) (by rw [sizeL, if_neg (by decide), if_neg (by rw [pair_zero]; decide), if_neg (by decide)])]
    rfl
def goodB (b : UInt8) : Bool := plainB b || blankB b || markB b
theorem by_words0 : ∀ i : Fin 256, (wordsL [97, 32, UInt8.ofNat i.val, 32, 98]).isSome = goodB (UInt8.ofNat i.val) := by decide +kernel
theorem by_words (c : Nat) (hc : c < 256) : (wordsL [97, 32, UInt8.ofNat c, 32, 98]).isSome = goodB (UInt8.ofNat c) := by_words0 ⟨c, hc⟩
theorem by_text (b : UInt8) (x : ByteArray) (hx : x = mkB [b]) : (⟨#[97, 32]⟩ ++ x) ++ ⟨#[32, 98]⟩ = mkB [97, 32, b, 32, 98] := by
  have e1 : (⟨#[97, 32]⟩ : ByteArray) = mkB [97, 32] := rfl
  have e2 : (⟨#[32, 98]⟩ : ByteArray) = mkB [32, 98] := rfl
  rw [hx, e1, e2, mkB_append, mkB_append]
  rfl
/-- What Words answers to a byte between two words. -/
theorem by_yes (c : Nat) (hc : c < 256) (x : ByteArray) (hx : x = mkB [UInt8.ofNat c]) (hg : goodB (UInt8.ofNat c) = true) (w : World) : Calls Tryd.prog 8 #[.string ((⟨#[97, 32]⟩ ++ x) ++ ⟨#[32, 98]⟩)] w fun e w2 => ∃ a n k, e = .returned (.tuple #[.slice a n k, .nilIface]) ∧ Kp [] w w2 := by
  have h := by_words c hc
  rw [hg] at h
  obtain ⟨vs, hv⟩ := Option.isSome_iff_exists.1 h
  refine (words_of (by_text _ x hx) (by simp) hv rfl w).mono ?_
  rintro e w2 ⟨a, k, rfl, K, _⟩
  exact ⟨a, _, k, rfl, K⟩
theorem by_no (c : Nat) (hc : c < 256) (x : ByteArray) (hx : x = mkB [UInt8.ofNat c]) (hg : goodB (UInt8.ofNat c) = false) (w : World) : Calls Tryd.prog 8 #[.string ((⟨#[97, 32]⟩ ++ x) ++ ⟨#[32, 98]⟩)] w fun e w2 => ∃ a n k u, e = .returned (.tuple #[.slice a n k, .iface 42 (.agg #[.int .i64 u, .int .i64 10])]) ∧ Kp [] w w2 := by
  have h := by_words c hc
  rw [hg] at h
  have hv : wordsL [97, 32, UInt8.ofNat c, 32, 98] = none := by
    cases hw : wordsL [97, 32, UInt8.ofNat c, 32, 98] with
    | none => rfl
    | some _ => rw [hw] at h; cases h
  rw [by_text _ x hx]
  have ho : out (mkB [97, 32, UInt8.ofNat c, 32, 98]) = (10, []) := out_none (by rw [mkB_size]; simp) (by rw [mkB_list]; unfold res; rw [hv]; rfl)
  refine (words_no ho (by decide) w).mono ?_
  rintro e w2 ⟨a, k, u, rfl, K⟩
  exact ⟨a, 0, k, u, rfl, K⟩

def goodI (v : Int) : Bool := plainI v || blankI v || markI v
theorem goodB_I (b : UInt8) : goodB b = goodI (b.toNat : Int) := by
  unfold goodB goodI
  rw [blankB_I, markB_I]
  rfl
/-- What a byte's text is; what Words answers to it. -/
structure ByF (v : Int) (x : ByteArray) : Prop where
  cx : ∀ (W : World) (g : Nat), W.cell? ⟨g, 0, none⟩ = some (.int .u8 v) → (convert 33 9 (.slice (some ⟨g, 0, none⟩) 1 1)).run Tryd.prog W = .ok (.string x) W
  zx : x.size = 1
  yes : goodI v = true → ∀ w, Calls Tryd.prog 8 #[.string ((⟨#[97, 32]⟩ ++ x) ++ ⟨#[32, 98]⟩)] w fun e w2 => ∃ a n k, e = .returned (.tuple #[.slice a n k, .nilIface]) ∧ Kp [] w w2
  no : goodI v = false → ∀ w, Calls Tryd.prog 8 #[.string ((⟨#[97, 32]⟩ ++ x) ++ ⟨#[32, 98]⟩)] w fun e w2 => ∃ a n k u, e = .returned (.tuple #[.slice a n k, .iface 42 (.agg #[.int .i64 u, .int .i64 10])]) ∧ Kp [] w w2
theorem byF (c : Nat) (hc : c < 256) : ByF (c : Int) (mkB [UInt8.ofNat c]) := by
  have ec : ((UInt8.ofNat c).toNat : Int) = (c : Int) := by rw [UInt8.toNat_ofNat']; omega
  refine ⟨fun W g h => conv_one W g _ (by rw [ec]; exact h), by rw [mkB_size]; rfl, fun h w => by_yes c hc _ rfl (by rw [goodB_I, ec]; exact h) w, fun h w => by_no c hc _ rfl (by rw [goodB_I, ec]; exact h) w⟩
/-- What the row of bytes 0 is; what Words answers to it. -/
structure ZeF (n r m : Nat) : Prop where
  er : (n : Int).tmod 5 = (r : Int)
  r5 : r < 5
  em : (1998 : Int) + (r : Int) = (m : Int)
  m9 : m ≤ 2002
  cz : ∀ (W : World), (convert 33 9 (.slice (some ⟨W.heap.size, 0, none⟩) m m)).run Tryd.prog (W.alloc (zBytes m)) = .ok (.string (zStr m)) (W.alloc (zBytes m))
  large : 2 < r → ∀ w, Calls Tryd.prog 8 #[.string (zStr m)] w fun e w2 => ∃ a k u, e = .returned (.tuple #[.slice a 0 k, .iface 42 (.agg #[.int .i64 u, .int .i64 13])]) ∧ Kp [] w w2
  form : ¬ 2 < r → ∀ w, Calls Tryd.prog 8 #[.string (zStr m)] w fun e w2 => ∃ a k u, e = .returned (.tuple #[.slice a 0 k, .iface 42 (.agg #[.int .i64 u, .int .i64 10])]) ∧ Kp [] w w2
theorem zeF (n : Nat) : ZeF n (n % 5) (1998 + n % 5) := by
  have h5 : n % 5 < 5 := Nat.mod_lt _ (by decide)
  refine ⟨by rw [Int.tmod_eq_emod_of_nonneg (by omega)]; omega, h5, by omega, by omega, fun W => conv_zeros (by rw [heap_alloc_new]), fun h w => ?_, fun h w => ?_⟩
  · exact words_no (c := 13) (by rw [zeros_out _ h5, if_pos h]) (by decide) w
  · exact words_no (c := 10) (by rw [zeros_out _ h5, if_neg h]) (by decide) w
set_option maxHeartbeats 6400000 in
set_option maxRecDepth 20000 in
theorem lbytes_95 (n r m : Nat) (x : ByteArray) (B : ByF 95 x) (Z : ZeF n r m) (w : World) :
    Calls Tryd.prog 6 #[.int .u8 95, .int .u8 (n : Int)] w fun e w2 => e = .returned (.bool true) ∧ Kp [] w w2 := by
  obtain ⟨er, r5, em, m9, cz, hl, hf⟩ := Z
  have mk := fun W => make_bytes (m : Int) m rfl (by omega) W
  have HL := Lib.hid hl
  have HF := Lib.hid hf
  obtain ⟨cx, zx, hy, hn⟩ := B
  have HY := Lib.hid (hy (by decide))
  clear hl hf hy hn
  go_enter Tryd.func6, Tryd.ntmps6
  go_wp2_with fail
  refine Calls.mono (known_any _) ?_
  rintro e w1 ⟨rfl, k1⟩
  have KA := Lib.hid k1
  clear k1
  go_wp2_with fail
  refine Calls.mono (HY.out _) ?_
  rintro e w2 ⟨a, l, k, rfl, k2⟩
  have KB := Lib.hid (KA.out.trans (((Kp.refl [] w1).alloc _).trans k2))
  clear k2 KA
  go_wp2_with fail
  refine wp_loop_rounds 9 ?_
  rw [rounds_succ]
  go_wp2_with fail
  rw [rounds_succ]
  go_wp2_with fail
  rw [rounds_succ]
  go_wp2_with fail
  rw [rounds_succ]
  go_wp2_with fail
  rw [rounds_succ]
  go_wp2_with fail
  rw [rounds_succ]
  go_wp2_with fail
  rw [rounds_succ]
  go_wp2_with fail
  rw [rounds_succ]
  go_wp2_with fail
  rw [rounds_succ]
  go_wp2_with fail
  by_cases h2 : 2 < r
  · have d0 : decide ((2 : Int) < (r : Int)) = true := decide_eq_true (by omega)
    refine Calls.mono (HL.out h2 _) ?_
    rintro e w3 ⟨a3, l3, u3, rfl, k3⟩
    have KC := Lib.hid (KB.out.trans (((Kp.refl [] w2).alloc _).trans k3))
    clear k3 KB
    go_wp2_with fail
    refine Calls.mono (is_ref_yes u3 13 _) ?_
    rintro e w5 ⟨rfl, k5⟩
    have KE := Lib.hid (KC.out.trans k5)
    clear k5 KC
    go_wp2_with fail
    go_ret
    exact ⟨rfl, KE.out⟩
  · have d0 : decide ((2 : Int) < (r : Int)) = false := decide_eq_false (by omega)
    refine Calls.mono (HF.out h2 _) ?_
    rintro e w3 ⟨a3, l3, u3, rfl, k3⟩
    have KC := Lib.hid (KB.out.trans (((Kp.refl [] w2).alloc _).trans k3))
    clear k3 KB
    go_wp2_with fail
    refine Calls.mono (is_ref_no u3 10 13 (by decide) _) ?_
    rintro e w5 ⟨rfl, k5⟩
    have KE := Lib.hid (KC.out.trans k5)
    clear k5 KC
    go_wp2_with fail
    go_ret
    exact ⟨rfl, KE.out⟩

set_option maxHeartbeats 6400000 in
set_option maxRecDepth 20000 in
theorem lbytes_64 (n r m : Nat) (x : ByteArray) (B : ByF 64 x) (Z : ZeF n r m) (w : World) :
    Calls Tryd.prog 6 #[.int .u8 64, .int .u8 (n : Int)] w fun e w2 => e = .returned (.bool true) ∧ Kp [] w w2 := by
  obtain ⟨er, r5, em, m9, cz, hl, hf⟩ := Z
  have mk := fun W => make_bytes (m : Int) m rfl (by omega) W
  have HL := Lib.hid hl
  have HF := Lib.hid hf
  obtain ⟨cx, zx, hy, hn⟩ := B
  have HY := Lib.hid (hy (by decide))
  clear hl hf hy hn
  go_enter Tryd.func6, Tryd.ntmps6
  go_wp2_with fail
  refine Calls.mono (known_any _) ?_
  rintro e w1 ⟨rfl, k1⟩
  have KA := Lib.hid k1
  clear k1
  go_wp2_with fail
  refine Calls.mono (HY.out _) ?_
  rintro e w2 ⟨a, l, k, rfl, k2⟩
  have KB := Lib.hid (KA.out.trans (((Kp.refl [] w1).alloc _).trans k2))
  clear k2 KA
  go_wp2_with fail
  refine wp_loop_rounds 9 ?_
  rw [rounds_succ]
  go_wp2_with fail
  rw [rounds_succ]
  go_wp2_with fail
  rw [rounds_succ]
  go_wp2_with fail
  rw [rounds_succ]
  go_wp2_with fail
  rw [rounds_succ]
  go_wp2_with fail
  rw [rounds_succ]
  go_wp2_with fail
  rw [rounds_succ]
  go_wp2_with fail
  rw [rounds_succ]
  go_wp2_with fail
  rw [rounds_succ]
  go_wp2_with fail
  by_cases h2 : 2 < r
  · have d0 : decide ((2 : Int) < (r : Int)) = true := decide_eq_true (by omega)
    refine Calls.mono (HL.out h2 _) ?_
    rintro e w3 ⟨a3, l3, u3, rfl, k3⟩
    have KC := Lib.hid (KB.out.trans (((Kp.refl [] w2).alloc _).trans k3))
    clear k3 KB
    go_wp2_with fail
    refine Calls.mono (is_ref_yes u3 13 _) ?_
    rintro e w5 ⟨rfl, k5⟩
    have KE := Lib.hid (KC.out.trans k5)
    clear k5 KC
    go_wp2_with fail
    go_ret
    exact ⟨rfl, KE.out⟩
  · have d0 : decide ((2 : Int) < (r : Int)) = false := decide_eq_false (by omega)
    refine Calls.mono (HF.out h2 _) ?_
    rintro e w3 ⟨a3, l3, u3, rfl, k3⟩
    have KC := Lib.hid (KB.out.trans (((Kp.refl [] w2).alloc _).trans k3))
    clear k3 KB
    go_wp2_with fail
    refine Calls.mono (is_ref_no u3 10 13 (by decide) _) ?_
    rintro e w5 ⟨rfl, k5⟩
    have KE := Lib.hid (KC.out.trans k5)
    clear k5 KC
    go_wp2_with fail
    go_ret
    exact ⟨rfl, KE.out⟩

set_option maxHeartbeats 6400000 in
set_option maxRecDepth 20000 in
theorem lbytes_32 (n r m : Nat) (x : ByteArray) (B : ByF 32 x) (Z : ZeF n r m) (w : World) :
    Calls Tryd.prog 6 #[.int .u8 32, .int .u8 (n : Int)] w fun e w2 => e = .returned (.bool true) ∧ Kp [] w w2 := by
  obtain ⟨er, r5, em, m9, cz, hl, hf⟩ := Z
  have mk := fun W => make_bytes (m : Int) m rfl (by omega) W
  have HL := Lib.hid hl
  have HF := Lib.hid hf
  obtain ⟨cx, zx, hy, hn⟩ := B
  have HY := Lib.hid (hy (by decide))
  clear hl hf hy hn
  go_enter Tryd.func6, Tryd.ntmps6
  go_wp2_with fail
  refine Calls.mono (known_any _) ?_
  rintro e w1 ⟨rfl, k1⟩
  have KA := Lib.hid k1
  clear k1
  go_wp2_with fail
  refine Calls.mono (HY.out _) ?_
  rintro e w2 ⟨a, l, k, rfl, k2⟩
  have KB := Lib.hid (KA.out.trans (((Kp.refl [] w1).alloc _).trans k2))
  clear k2 KA
  go_wp2_with fail
  refine wp_loop_rounds 9 ?_
  rw [rounds_succ]
  go_wp2_with fail
  rw [rounds_succ]
  go_wp2_with fail
  rw [rounds_succ]
  go_wp2_with fail
  rw [rounds_succ]
  go_wp2_with fail
  rw [rounds_succ]
  go_wp2_with fail
  rw [rounds_succ]
  go_wp2_with fail
  rw [rounds_succ]
  go_wp2_with fail
  rw [rounds_succ]
  go_wp2_with fail
  rw [rounds_succ]
  go_wp2_with fail
  by_cases h2 : 2 < r
  · have d0 : decide ((2 : Int) < (r : Int)) = true := decide_eq_true (by omega)
    refine Calls.mono (HL.out h2 _) ?_
    rintro e w3 ⟨a3, l3, u3, rfl, k3⟩
    have KC := Lib.hid (KB.out.trans (((Kp.refl [] w2).alloc _).trans k3))
    clear k3 KB
    go_wp2_with fail
    refine Calls.mono (is_ref_yes u3 13 _) ?_
    rintro e w5 ⟨rfl, k5⟩
    have KE := Lib.hid (KC.out.trans k5)
    clear k5 KC
    go_wp2_with fail
    go_ret
    exact ⟨rfl, KE.out⟩
  · have d0 : decide ((2 : Int) < (r : Int)) = false := decide_eq_false (by omega)
    refine Calls.mono (HF.out h2 _) ?_
    rintro e w3 ⟨a3, l3, u3, rfl, k3⟩
    have KC := Lib.hid (KB.out.trans (((Kp.refl [] w2).alloc _).trans k3))
    clear k3 KB
    go_wp2_with fail
    refine Calls.mono (is_ref_no u3 10 13 (by decide) _) ?_
    rintro e w5 ⟨rfl, k5⟩
    have KE := Lib.hid (KC.out.trans k5)
    clear k5 KC
    go_wp2_with fail
    go_ret
    exact ⟨rfl, KE.out⟩

set_option maxHeartbeats 6400000 in
set_option maxRecDepth 20000 in
theorem lbytes_9 (n r m : Nat) (x : ByteArray) (B : ByF 9 x) (Z : ZeF n r m) (w : World) :
    Calls Tryd.prog 6 #[.int .u8 9, .int .u8 (n : Int)] w fun e w2 => e = .returned (.bool true) ∧ Kp [] w w2 := by
  obtain ⟨er, r5, em, m9, cz, hl, hf⟩ := Z
  have mk := fun W => make_bytes (m : Int) m rfl (by omega) W
  have HL := Lib.hid hl
  have HF := Lib.hid hf
  obtain ⟨cx, zx, hy, hn⟩ := B
  have HY := Lib.hid (hy (by decide))
  clear hl hf hy hn
  go_enter Tryd.func6, Tryd.ntmps6
  go_wp2_with fail
  refine Calls.mono (known_any _) ?_
  rintro e w1 ⟨rfl, k1⟩
  have KA := Lib.hid k1
  clear k1
  go_wp2_with fail
  refine Calls.mono (HY.out _) ?_
  rintro e w2 ⟨a, l, k, rfl, k2⟩
  have KB := Lib.hid (KA.out.trans (((Kp.refl [] w1).alloc _).trans k2))
  clear k2 KA
  go_wp2_with fail
  refine wp_loop_rounds 9 ?_
  rw [rounds_succ]
  go_wp2_with fail
  rw [rounds_succ]
  go_wp2_with fail
  rw [rounds_succ]
  go_wp2_with fail
  rw [rounds_succ]
  go_wp2_with fail
  rw [rounds_succ]
  go_wp2_with fail
  rw [rounds_succ]
  go_wp2_with fail
  rw [rounds_succ]
  go_wp2_with fail
  rw [rounds_succ]
  go_wp2_with fail
  rw [rounds_succ]
  go_wp2_with fail
  by_cases h2 : 2 < r
  · have d0 : decide ((2 : Int) < (r : Int)) = true := decide_eq_true (by omega)
    refine Calls.mono (HL.out h2 _) ?_
    rintro e w3 ⟨a3, l3, u3, rfl, k3⟩
    have KC := Lib.hid (KB.out.trans (((Kp.refl [] w2).alloc _).trans k3))
    clear k3 KB
    go_wp2_with fail
    refine Calls.mono (is_ref_yes u3 13 _) ?_
    rintro e w5 ⟨rfl, k5⟩
    have KE := Lib.hid (KC.out.trans k5)
    clear k5 KC
    go_wp2_with fail
    go_ret
    exact ⟨rfl, KE.out⟩
  · have d0 : decide ((2 : Int) < (r : Int)) = false := decide_eq_false (by omega)
    refine Calls.mono (HF.out h2 _) ?_
    rintro e w3 ⟨a3, l3, u3, rfl, k3⟩
    have KC := Lib.hid (KB.out.trans (((Kp.refl [] w2).alloc _).trans k3))
    clear k3 KB
    go_wp2_with fail
    refine Calls.mono (is_ref_no u3 10 13 (by decide) _) ?_
    rintro e w5 ⟨rfl, k5⟩
    have KE := Lib.hid (KC.out.trans k5)
    clear k5 KC
    go_wp2_with fail
    go_ret
    exact ⟨rfl, KE.out⟩

set_option maxHeartbeats 6400000 in
set_option maxRecDepth 20000 in
theorem lbytes_10 (n r m : Nat) (x : ByteArray) (B : ByF 10 x) (Z : ZeF n r m) (w : World) :
    Calls Tryd.prog 6 #[.int .u8 10, .int .u8 (n : Int)] w fun e w2 => e = .returned (.bool true) ∧ Kp [] w w2 := by
  obtain ⟨er, r5, em, m9, cz, hl, hf⟩ := Z
  have mk := fun W => make_bytes (m : Int) m rfl (by omega) W
  have HL := Lib.hid hl
  have HF := Lib.hid hf
  obtain ⟨cx, zx, hy, hn⟩ := B
  have HY := Lib.hid (hy (by decide))
  clear hl hf hy hn
  go_enter Tryd.func6, Tryd.ntmps6
  go_wp2_with fail
  refine Calls.mono (known_any _) ?_
  rintro e w1 ⟨rfl, k1⟩
  have KA := Lib.hid k1
  clear k1
  go_wp2_with fail
  refine Calls.mono (HY.out _) ?_
  rintro e w2 ⟨a, l, k, rfl, k2⟩
  have KB := Lib.hid (KA.out.trans (((Kp.refl [] w1).alloc _).trans k2))
  clear k2 KA
  go_wp2_with fail
  refine wp_loop_rounds 9 ?_
  rw [rounds_succ]
  go_wp2_with fail
  rw [rounds_succ]
  go_wp2_with fail
  rw [rounds_succ]
  go_wp2_with fail
  rw [rounds_succ]
  go_wp2_with fail
  rw [rounds_succ]
  go_wp2_with fail
  rw [rounds_succ]
  go_wp2_with fail
  rw [rounds_succ]
  go_wp2_with fail
  rw [rounds_succ]
  go_wp2_with fail
  rw [rounds_succ]
  go_wp2_with fail
  by_cases h2 : 2 < r
  · have d0 : decide ((2 : Int) < (r : Int)) = true := decide_eq_true (by omega)
    refine Calls.mono (HL.out h2 _) ?_
    rintro e w3 ⟨a3, l3, u3, rfl, k3⟩
    have KC := Lib.hid (KB.out.trans (((Kp.refl [] w2).alloc _).trans k3))
    clear k3 KB
    go_wp2_with fail
    refine Calls.mono (is_ref_yes u3 13 _) ?_
    rintro e w5 ⟨rfl, k5⟩
    have KE := Lib.hid (KC.out.trans k5)
    clear k5 KC
    go_wp2_with fail
    go_ret
    exact ⟨rfl, KE.out⟩
  · have d0 : decide ((2 : Int) < (r : Int)) = false := decide_eq_false (by omega)
    refine Calls.mono (HF.out h2 _) ?_
    rintro e w3 ⟨a3, l3, u3, rfl, k3⟩
    have KC := Lib.hid (KB.out.trans (((Kp.refl [] w2).alloc _).trans k3))
    clear k3 KB
    go_wp2_with fail
    refine Calls.mono (is_ref_no u3 10 13 (by decide) _) ?_
    rintro e w5 ⟨rfl, k5⟩
    have KE := Lib.hid (KC.out.trans k5)
    clear k5 KC
    go_wp2_with fail
    go_ret
    exact ⟨rfl, KE.out⟩

set_option maxHeartbeats 6400000 in
set_option maxRecDepth 20000 in
theorem lbytes_13 (n r m : Nat) (x : ByteArray) (B : ByF 13 x) (Z : ZeF n r m) (w : World) :
    Calls Tryd.prog 6 #[.int .u8 13, .int .u8 (n : Int)] w fun e w2 => e = .returned (.bool true) ∧ Kp [] w w2 := by
  obtain ⟨er, r5, em, m9, cz, hl, hf⟩ := Z
  have mk := fun W => make_bytes (m : Int) m rfl (by omega) W
  have HL := Lib.hid hl
  have HF := Lib.hid hf
  obtain ⟨cx, zx, hy, hn⟩ := B
  have HY := Lib.hid (hy (by decide))
  clear hl hf hy hn
  go_enter Tryd.func6, Tryd.ntmps6
  go_wp2_with fail
  refine Calls.mono (known_any _) ?_
  rintro e w1 ⟨rfl, k1⟩
  have KA := Lib.hid k1
  clear k1
  go_wp2_with fail
  refine Calls.mono (HY.out _) ?_
  rintro e w2 ⟨a, l, k, rfl, k2⟩
  have KB := Lib.hid (KA.out.trans (((Kp.refl [] w1).alloc _).trans k2))
  clear k2 KA
  go_wp2_with fail
  refine wp_loop_rounds 9 ?_
  rw [rounds_succ]
  go_wp2_with fail
  rw [rounds_succ]
  go_wp2_with fail
  rw [rounds_succ]
  go_wp2_with fail
  rw [rounds_succ]
  go_wp2_with fail
  rw [rounds_succ]
  go_wp2_with fail
  rw [rounds_succ]
  go_wp2_with fail
  rw [rounds_succ]
  go_wp2_with fail
  rw [rounds_succ]
  go_wp2_with fail
  rw [rounds_succ]
  go_wp2_with fail
  by_cases h2 : 2 < r
  · have d0 : decide ((2 : Int) < (r : Int)) = true := decide_eq_true (by omega)
    refine Calls.mono (HL.out h2 _) ?_
    rintro e w3 ⟨a3, l3, u3, rfl, k3⟩
    have KC := Lib.hid (KB.out.trans (((Kp.refl [] w2).alloc _).trans k3))
    clear k3 KB
    go_wp2_with fail
    refine Calls.mono (is_ref_yes u3 13 _) ?_
    rintro e w5 ⟨rfl, k5⟩
    have KE := Lib.hid (KC.out.trans k5)
    clear k5 KC
    go_wp2_with fail
    go_ret
    exact ⟨rfl, KE.out⟩
  · have d0 : decide ((2 : Int) < (r : Int)) = false := decide_eq_false (by omega)
    refine Calls.mono (HF.out h2 _) ?_
    rintro e w3 ⟨a3, l3, u3, rfl, k3⟩
    have KC := Lib.hid (KB.out.trans (((Kp.refl [] w2).alloc _).trans k3))
    clear k3 KB
    go_wp2_with fail
    refine Calls.mono (is_ref_no u3 10 13 (by decide) _) ?_
    rintro e w5 ⟨rfl, k5⟩
    have KE := Lib.hid (KC.out.trans k5)
    clear k5 KC
    go_wp2_with fail
    go_ret
    exact ⟨rfl, KE.out⟩

set_option maxHeartbeats 6400000 in
set_option maxRecDepth 20000 in
theorem lbytes_40 (n r m : Nat) (x : ByteArray) (B : ByF 40 x) (Z : ZeF n r m) (w : World) :
    Calls Tryd.prog 6 #[.int .u8 40, .int .u8 (n : Int)] w fun e w2 => e = .returned (.bool true) ∧ Kp [] w w2 := by
  obtain ⟨er, r5, em, m9, cz, hl, hf⟩ := Z
  have mk := fun W => make_bytes (m : Int) m rfl (by omega) W
  have HL := Lib.hid hl
  have HF := Lib.hid hf
  obtain ⟨cx, zx, hy, hn⟩ := B
  have HY := Lib.hid (hy (by decide))
  clear hl hf hy hn
  go_enter Tryd.func6, Tryd.ntmps6
  go_wp2_with fail
  refine Calls.mono (known_any _) ?_
  rintro e w1 ⟨rfl, k1⟩
  have KA := Lib.hid k1
  clear k1
  go_wp2_with fail
  refine Calls.mono (HY.out _) ?_
  rintro e w2 ⟨a, l, k, rfl, k2⟩
  have KB := Lib.hid (KA.out.trans (((Kp.refl [] w1).alloc _).trans k2))
  clear k2 KA
  go_wp2_with fail
  refine wp_loop_rounds 9 ?_
  rw [rounds_succ]
  go_wp2_with fail
  rw [rounds_succ]
  go_wp2_with fail
  rw [rounds_succ]
  go_wp2_with fail
  rw [rounds_succ]
  go_wp2_with fail
  rw [rounds_succ]
  go_wp2_with fail
  rw [rounds_succ]
  go_wp2_with fail
  rw [rounds_succ]
  go_wp2_with fail
  rw [rounds_succ]
  go_wp2_with fail
  rw [rounds_succ]
  go_wp2_with fail
  by_cases h2 : 2 < r
  · have d0 : decide ((2 : Int) < (r : Int)) = true := decide_eq_true (by omega)
    refine Calls.mono (HL.out h2 _) ?_
    rintro e w3 ⟨a3, l3, u3, rfl, k3⟩
    have KC := Lib.hid (KB.out.trans (((Kp.refl [] w2).alloc _).trans k3))
    clear k3 KB
    go_wp2_with fail
    refine Calls.mono (is_ref_yes u3 13 _) ?_
    rintro e w5 ⟨rfl, k5⟩
    have KE := Lib.hid (KC.out.trans k5)
    clear k5 KC
    go_wp2_with fail
    go_ret
    exact ⟨rfl, KE.out⟩
  · have d0 : decide ((2 : Int) < (r : Int)) = false := decide_eq_false (by omega)
    refine Calls.mono (HF.out h2 _) ?_
    rintro e w3 ⟨a3, l3, u3, rfl, k3⟩
    have KC := Lib.hid (KB.out.trans (((Kp.refl [] w2).alloc _).trans k3))
    clear k3 KB
    go_wp2_with fail
    refine Calls.mono (is_ref_no u3 10 13 (by decide) _) ?_
    rintro e w5 ⟨rfl, k5⟩
    have KE := Lib.hid (KC.out.trans k5)
    clear k5 KC
    go_wp2_with fail
    go_ret
    exact ⟨rfl, KE.out⟩

set_option maxHeartbeats 6400000 in
set_option maxRecDepth 20000 in
theorem lbytes_41 (n r m : Nat) (x : ByteArray) (B : ByF 41 x) (Z : ZeF n r m) (w : World) :
    Calls Tryd.prog 6 #[.int .u8 41, .int .u8 (n : Int)] w fun e w2 => e = .returned (.bool true) ∧ Kp [] w w2 := by
  obtain ⟨er, r5, em, m9, cz, hl, hf⟩ := Z
  have mk := fun W => make_bytes (m : Int) m rfl (by omega) W
  have HL := Lib.hid hl
  have HF := Lib.hid hf
  obtain ⟨cx, zx, hy, hn⟩ := B
  have HY := Lib.hid (hy (by decide))
  clear hl hf hy hn
  go_enter Tryd.func6, Tryd.ntmps6
  go_wp2_with fail
  refine Calls.mono (known_any _) ?_
  rintro e w1 ⟨rfl, k1⟩
  have KA := Lib.hid k1
  clear k1
  go_wp2_with fail
  refine Calls.mono (HY.out _) ?_
  rintro e w2 ⟨a, l, k, rfl, k2⟩
  have KB := Lib.hid (KA.out.trans (((Kp.refl [] w1).alloc _).trans k2))
  clear k2 KA
  go_wp2_with fail
  refine wp_loop_rounds 9 ?_
  rw [rounds_succ]
  go_wp2_with fail
  rw [rounds_succ]
  go_wp2_with fail
  rw [rounds_succ]
  go_wp2_with fail
  rw [rounds_succ]
  go_wp2_with fail
  rw [rounds_succ]
  go_wp2_with fail
  rw [rounds_succ]
  go_wp2_with fail
  rw [rounds_succ]
  go_wp2_with fail
  rw [rounds_succ]
  go_wp2_with fail
  rw [rounds_succ]
  go_wp2_with fail
  by_cases h2 : 2 < r
  · have d0 : decide ((2 : Int) < (r : Int)) = true := decide_eq_true (by omega)
    refine Calls.mono (HL.out h2 _) ?_
    rintro e w3 ⟨a3, l3, u3, rfl, k3⟩
    have KC := Lib.hid (KB.out.trans (((Kp.refl [] w2).alloc _).trans k3))
    clear k3 KB
    go_wp2_with fail
    refine Calls.mono (is_ref_yes u3 13 _) ?_
    rintro e w5 ⟨rfl, k5⟩
    have KE := Lib.hid (KC.out.trans k5)
    clear k5 KC
    go_wp2_with fail
    go_ret
    exact ⟨rfl, KE.out⟩
  · have d0 : decide ((2 : Int) < (r : Int)) = false := decide_eq_false (by omega)
    refine Calls.mono (HF.out h2 _) ?_
    rintro e w3 ⟨a3, l3, u3, rfl, k3⟩
    have KC := Lib.hid (KB.out.trans (((Kp.refl [] w2).alloc _).trans k3))
    clear k3 KB
    go_wp2_with fail
    refine Calls.mono (is_ref_no u3 10 13 (by decide) _) ?_
    rintro e w5 ⟨rfl, k5⟩
    have KE := Lib.hid (KC.out.trans k5)
    clear k5 KC
    go_wp2_with fail
    go_ret
    exact ⟨rfl, KE.out⟩

set_option maxHeartbeats 6400000 in
set_option maxRecDepth 20000 in
theorem lbytes_123 (n r m : Nat) (x : ByteArray) (B : ByF 123 x) (Z : ZeF n r m) (w : World) :
    Calls Tryd.prog 6 #[.int .u8 123, .int .u8 (n : Int)] w fun e w2 => e = .returned (.bool true) ∧ Kp [] w w2 := by
  obtain ⟨er, r5, em, m9, cz, hl, hf⟩ := Z
  have mk := fun W => make_bytes (m : Int) m rfl (by omega) W
  have HL := Lib.hid hl
  have HF := Lib.hid hf
  obtain ⟨cx, zx, hy, hn⟩ := B
  have HY := Lib.hid (hy (by decide))
  clear hl hf hy hn
  go_enter Tryd.func6, Tryd.ntmps6
  go_wp2_with fail
  refine Calls.mono (known_any _) ?_
  rintro e w1 ⟨rfl, k1⟩
  have KA := Lib.hid k1
  clear k1
  go_wp2_with fail
  refine Calls.mono (HY.out _) ?_
  rintro e w2 ⟨a, l, k, rfl, k2⟩
  have KB := Lib.hid (KA.out.trans (((Kp.refl [] w1).alloc _).trans k2))
  clear k2 KA
  go_wp2_with fail
  refine wp_loop_rounds 9 ?_
  rw [rounds_succ]
  go_wp2_with fail
  rw [rounds_succ]
  go_wp2_with fail
  rw [rounds_succ]
  go_wp2_with fail
  rw [rounds_succ]
  go_wp2_with fail
  rw [rounds_succ]
  go_wp2_with fail
  rw [rounds_succ]
  go_wp2_with fail
  rw [rounds_succ]
  go_wp2_with fail
  rw [rounds_succ]
  go_wp2_with fail
  rw [rounds_succ]
  go_wp2_with fail
  by_cases h2 : 2 < r
  · have d0 : decide ((2 : Int) < (r : Int)) = true := decide_eq_true (by omega)
    refine Calls.mono (HL.out h2 _) ?_
    rintro e w3 ⟨a3, l3, u3, rfl, k3⟩
    have KC := Lib.hid (KB.out.trans (((Kp.refl [] w2).alloc _).trans k3))
    clear k3 KB
    go_wp2_with fail
    refine Calls.mono (is_ref_yes u3 13 _) ?_
    rintro e w5 ⟨rfl, k5⟩
    have KE := Lib.hid (KC.out.trans k5)
    clear k5 KC
    go_wp2_with fail
    go_ret
    exact ⟨rfl, KE.out⟩
  · have d0 : decide ((2 : Int) < (r : Int)) = false := decide_eq_false (by omega)
    refine Calls.mono (HF.out h2 _) ?_
    rintro e w3 ⟨a3, l3, u3, rfl, k3⟩
    have KC := Lib.hid (KB.out.trans (((Kp.refl [] w2).alloc _).trans k3))
    clear k3 KB
    go_wp2_with fail
    refine Calls.mono (is_ref_no u3 10 13 (by decide) _) ?_
    rintro e w5 ⟨rfl, k5⟩
    have KE := Lib.hid (KC.out.trans k5)
    clear k5 KC
    go_wp2_with fail
    go_ret
    exact ⟨rfl, KE.out⟩

set_option maxHeartbeats 6400000 in
set_option maxRecDepth 20000 in
theorem lbytes_125 (n r m : Nat) (x : ByteArray) (B : ByF 125 x) (Z : ZeF n r m) (w : World) :
    Calls Tryd.prog 6 #[.int .u8 125, .int .u8 (n : Int)] w fun e w2 => e = .returned (.bool true) ∧ Kp [] w w2 := by
  obtain ⟨er, r5, em, m9, cz, hl, hf⟩ := Z
  have mk := fun W => make_bytes (m : Int) m rfl (by omega) W
  have HL := Lib.hid hl
  have HF := Lib.hid hf
  obtain ⟨cx, zx, hy, hn⟩ := B
  have HY := Lib.hid (hy (by decide))
  clear hl hf hy hn
  go_enter Tryd.func6, Tryd.ntmps6
  go_wp2_with fail
  refine Calls.mono (known_any _) ?_
  rintro e w1 ⟨rfl, k1⟩
  have KA := Lib.hid k1
  clear k1
  go_wp2_with fail
  refine Calls.mono (HY.out _) ?_
  rintro e w2 ⟨a, l, k, rfl, k2⟩
  have KB := Lib.hid (KA.out.trans (((Kp.refl [] w1).alloc _).trans k2))
  clear k2 KA
  go_wp2_with fail
  refine wp_loop_rounds 9 ?_
  rw [rounds_succ]
  go_wp2_with fail
  rw [rounds_succ]
  go_wp2_with fail
  rw [rounds_succ]
  go_wp2_with fail
  rw [rounds_succ]
  go_wp2_with fail
  rw [rounds_succ]
  go_wp2_with fail
  rw [rounds_succ]
  go_wp2_with fail
  rw [rounds_succ]
  go_wp2_with fail
  rw [rounds_succ]
  go_wp2_with fail
  rw [rounds_succ]
  go_wp2_with fail
  by_cases h2 : 2 < r
  · have d0 : decide ((2 : Int) < (r : Int)) = true := decide_eq_true (by omega)
    refine Calls.mono (HL.out h2 _) ?_
    rintro e w3 ⟨a3, l3, u3, rfl, k3⟩
    have KC := Lib.hid (KB.out.trans (((Kp.refl [] w2).alloc _).trans k3))
    clear k3 KB
    go_wp2_with fail
    refine Calls.mono (is_ref_yes u3 13 _) ?_
    rintro e w5 ⟨rfl, k5⟩
    have KE := Lib.hid (KC.out.trans k5)
    clear k5 KC
    go_wp2_with fail
    go_ret
    exact ⟨rfl, KE.out⟩
  · have d0 : decide ((2 : Int) < (r : Int)) = false := decide_eq_false (by omega)
    refine Calls.mono (HF.out h2 _) ?_
    rintro e w3 ⟨a3, l3, u3, rfl, k3⟩
    have KC := Lib.hid (KB.out.trans (((Kp.refl [] w2).alloc _).trans k3))
    clear k3 KB
    go_wp2_with fail
    refine Calls.mono (is_ref_no u3 10 13 (by decide) _) ?_
    rintro e w5 ⟨rfl, k5⟩
    have KE := Lib.hid (KC.out.trans k5)
    clear k5 KC
    go_wp2_with fail
    go_ret
    exact ⟨rfl, KE.out⟩

set_option maxHeartbeats 6400000 in
set_option maxRecDepth 20000 in
theorem lbytes_58 (n r m : Nat) (x : ByteArray) (B : ByF 58 x) (Z : ZeF n r m) (w : World) :
    Calls Tryd.prog 6 #[.int .u8 58, .int .u8 (n : Int)] w fun e w2 => e = .returned (.bool true) ∧ Kp [] w w2 := by
  obtain ⟨er, r5, em, m9, cz, hl, hf⟩ := Z
  have mk := fun W => make_bytes (m : Int) m rfl (by omega) W
  have HL := Lib.hid hl
  have HF := Lib.hid hf
  obtain ⟨cx, zx, hy, hn⟩ := B
  have HY := Lib.hid (hy (by decide))
  clear hl hf hy hn
  go_enter Tryd.func6, Tryd.ntmps6
  go_wp2_with fail
  refine Calls.mono (known_any _) ?_
  rintro e w1 ⟨rfl, k1⟩
  have KA := Lib.hid k1
  clear k1
  go_wp2_with fail
  refine Calls.mono (HY.out _) ?_
  rintro e w2 ⟨a, l, k, rfl, k2⟩
  have KB := Lib.hid (KA.out.trans (((Kp.refl [] w1).alloc _).trans k2))
  clear k2 KA
  go_wp2_with fail
  refine wp_loop_rounds 9 ?_
  rw [rounds_succ]
  go_wp2_with fail
  rw [rounds_succ]
  go_wp2_with fail
  rw [rounds_succ]
  go_wp2_with fail
  rw [rounds_succ]
  go_wp2_with fail
  rw [rounds_succ]
  go_wp2_with fail
  rw [rounds_succ]
  go_wp2_with fail
  rw [rounds_succ]
  go_wp2_with fail
  rw [rounds_succ]
  go_wp2_with fail
  rw [rounds_succ]
  go_wp2_with fail
  by_cases h2 : 2 < r
  · have d0 : decide ((2 : Int) < (r : Int)) = true := decide_eq_true (by omega)
    refine Calls.mono (HL.out h2 _) ?_
    rintro e w3 ⟨a3, l3, u3, rfl, k3⟩
    have KC := Lib.hid (KB.out.trans (((Kp.refl [] w2).alloc _).trans k3))
    clear k3 KB
    go_wp2_with fail
    refine Calls.mono (is_ref_yes u3 13 _) ?_
    rintro e w5 ⟨rfl, k5⟩
    have KE := Lib.hid (KC.out.trans k5)
    clear k5 KC
    go_wp2_with fail
    go_ret
    exact ⟨rfl, KE.out⟩
  · have d0 : decide ((2 : Int) < (r : Int)) = false := decide_eq_false (by omega)
    refine Calls.mono (HF.out h2 _) ?_
    rintro e w3 ⟨a3, l3, u3, rfl, k3⟩
    have KC := Lib.hid (KB.out.trans (((Kp.refl [] w2).alloc _).trans k3))
    clear k3 KB
    go_wp2_with fail
    refine Calls.mono (is_ref_no u3 10 13 (by decide) _) ?_
    rintro e w5 ⟨rfl, k5⟩
    have KE := Lib.hid (KC.out.trans k5)
    clear k5 KC
    go_wp2_with fail
    go_ret
    exact ⟨rfl, KE.out⟩
end Go.Proofs.YtmhnjgnljfkdcaaDoor
