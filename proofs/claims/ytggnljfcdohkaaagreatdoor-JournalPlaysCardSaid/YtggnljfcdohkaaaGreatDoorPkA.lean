/- Contracts of package pack: Num, Text. -/
import Derived.Test.YtggnljfcdohkaaaGreatDoorProg
import Derived.Test.YtggnljfcdohkaaaGreatDoorPkS
import Derived.Test.YtggnljfcdohkaaaGreatDoorMem
import Derived.WalkKit
import Derived.Deep.QuietTactic
import Derived.BigQuiet
import Derived.Lib.Hide
import Derived.Laws.BitsLemmas
namespace Go.Proofs.YtggnljfcdohkaaaGreatDoor
open Go.RowKit

theorem pkInfo : (Tryz.prog.info? 5).map (fun i => (i.zero, i.size, i.bytes)) = some (some (.int .u8 0), 1, 1) := by kernel_rfl
theorem wraps_i64s (n : Int) (h₀ : 0 ≤ n) (h₁ : n < 2 ^ 63) : IntKind.i64.wrap n = n := by rw [IntKind.wrap_i64]; omega
theorem and127 (x : Int) (h₀ : 0 ≤ x) (h₁ : x ≤ 9223372036854775807) : bits .and .i64 x 127 = x % 128 := bits_mask .i64 63 (by decide) wraps_i64s 7 (by decide) x h₀ (by omega)
theorem or128 (x : Int) (h₀ : 0 ≤ x) (h₁ : x < 128) : bits .or .i64 x 128 = x + 128 := by
  have : ∀ y : Fin 128, bits .or .i64 (y.val : Int) 128 = (y.val : Int) + 128 := by decide +kernel
  have := this ⟨x.toNat, by omega⟩
  simpa [Int.toNat_of_nonneg h₀] using this
theorem cell_one_new (w : World) (x : Value) (t : TypeId) : ∀ j u, [x][j]? = some u → (w.alloc (.cells #[x] t)).cell? ((⟨w.heap.size, 0, none⟩ : Addr).add j) = some u := by
  intro j u hj
  match j, hj with
  | 0, hj => simp at hj; subst hj; simp [Addr.add]
  | j + 1, hj => simp at hj
theorem bytesV_snoc (xs : List UInt8) (r : Nat) (hr : r < 256) : bytesV xs ++ [Value.int .u8 (r : Int)] = bytesV (xs ++ [UInt8.ofNat r]) := by
  rw [bytesV_append]
  simp only [bytesV, List.map_cons, List.map_nil, ofNat_small hr]
/-- What an append of one byte leaves. -/
def NumSt (w w3 : World) (v : Value) (xs : List UInt8) : Prop := w3.ownsRow w.heap.size 5 1 v xs.length (bytesV xs) ∧ Kp [] w w3
theorem NumSt.step {w wr w3 : World} {v v' : Value} {xs : List UInt8} {r : Nat} (hr2 : r < 256) (hown : wr.ownsRow w.heap.size 5 1 v xs.length (bytesV xs)) (K : Kp [] w wr) (o : Obj)
    (hown' : w3.ownsRow w.heap.size 5 1 v' (xs.length + 1) (bytesV xs ++ [.int .u8 (r : Int)])) (hg : (wr.alloc o).grownBy w3 v.ownBlock) : NumSt w w3 v' (xs ++ [UInt8.ofNat r]) := by
  refine ⟨?_, (K.alloc o).grown hg (fun k hk => .inr (hown.lt _ hk).1)⟩
  rw [List.length_append, ← bytesV_snoc _ _ hr2]
  exact hown'
/-- The text of a row that was appended to. -/
theorem num_conv {w w3 : World} {v : Value} {ys : List UInt8} (h : NumSt w w3 v ys) (h0 : ys ≠ []) (x : ByteArray) (hx : x = ⟨ys.toArray⟩) :
    (convert 94 9 v).run Tryz.prog w3 = .ok (.string x) w3 := by
  obtain ⟨⟨h1, h2⟩, K⟩ := h
  rcases h2 with ⟨rfl, hn⟩ | ⟨g, cap, cur, rfl, hb, hg, hle, hm, hs, ht⟩
  · exact absurd (List.eq_nil_of_length_eq_zero hn) h0
  · have := run_convert_bytes_back (P := Tryz.prog) w3 94 9 5 ⟨g, 0, none⟩ cap ys Tryz.underlying94 Tryz.underlying5 Tryz.underlying9 (fun j hj => by
      rw [Addr.add_mid, Nat.zero_add]
      simp only [World.cell?, hg]
      rw [Nat.mul_one] at ht
      have h3 : cur.toList[j]? = (bytesV ys)[j]? := by rw [← ht, List.getElem?_take_of_lt hj]
      rw [← Array.getElem?_toList, h3]
      simp [bytesV, hj])
    rw [this, hx]
set_option maxRecDepth 100000 in
set_option maxHeartbeats 1600000 in
theorem num_nat (n : Nat) (hn : n ≤ 9223372036854775807) (w : World) :
    Calls Tryz.prog 88 #[.int .i64 (n : Int)] w fun e w2 => e = .returned (.string (numS n)) ∧ Kp [] w w2 := by
  have hlen : (numL n).length ≤ 10 := numL_len 9 n (by omega)
  have Hlen := Lib.hid hlen
  clear hlen
  obtain ⟨i0, hi, hz0, hz1, hz2⟩ := info_parts pkInfo
  have Hi := Lib.hid hi
  clear hi
  go_enter Tryz.func88, Tryz.ntmps88
  go_wp2
  go_loopw [3, 4] (fun i v wr => ∃ (l : Nat) (xs : List UInt8), l ≤ 9223372036854775807 ∧ i = .int .i64 (l : Int) ∧ Hid (xs ++ numL l = numL n) ∧ wr.ownsRow w.heap.size 5 1 v xs.length (bytesV xs) ∧ Kp [] w wr) (fun i _ _ => (intOf i).toNat)
  case atStart => exact ⟨n, [], hn, rfl, rfl, World.ownsRow_nil _ _ _ _, Kp.refl _ _⟩
  case round =>
    obtain ⟨l, xs, hl, rfl, HX, hown, K0⟩ := hrel
    have HK := Lib.hid K0
    clear K0
    have hxl : xs.length ≤ 9 := by
      have h1 := Hlen.out
      rw [← HX.out, List.length_append] at h1
      have := numL_pos l
      omega
    by_cases hlt : 128 ≤ l
    · have hd : decide ((128 : Int) ≤ (l : Int)) = true := by simp; omega
      obtain ⟨r, hr⟩ : ∃ r : Nat, r = l % 128 + 128 := ⟨_, rfl⟩
      obtain ⟨q, hq⟩ : ∃ q : Nat, q = l % 128 := ⟨_, rfl⟩
      have hr2 : r < 256 := by omega
      have hA : bits .and .i64 (l : Int) 127 = (q : Int) := by rw [and127 _ (by omega) (by omega)]; omega
      have hB : bits .or .i64 (q : Int) 128 = (r : Int) := by rw [or128 _ (by omega) (by omega)]; omega
      have hM : (r : Int) % 256 = (r : Int) := by omega
      have Hr := Lib.hid hr
      clear hr hq
      go_wp2_with (first
        | (at_builtin; refine wpList_append_own _ rfl _ _ 94 rfl w.heap.size 5 i0 (.int .u8 0) 1 1 Tryz.underlying94 Hi.out hz0 hz1 hz2 rfl (by decide) _ _ _ rfl (hown.alloc _) ⟨wr.heap.size, 0, none⟩ 1 1 [.int .u8 (r : Int)] rfl rfl (cell_one_new _ _ _) (fun x hx => by simp at hx; rcases hx with rfl; rfl) (by unfold maxLen; omega) (by omega) (by have := HK.out.size; simp; omega) ?_; intro v' w3 hown' hgrow3 hnil3
           have X : Hid (NumSt w w3 v' (xs ++ [UInt8.ofNat r])) := NumSt.step hr2 hown HK.out _ hown' hgrow3
           clear hown' hgrow3 hnil3))
      obtain ⟨h3, h4⟩ := X
      go_roundw
      case rel =>
        refine ⟨l / 128, xs ++ [UInt8.ofNat r], by omega, by simp, ?_, h3, h4⟩
        show (xs ++ [UInt8.ofNat r]) ++ numL (l / 128) = numL n
        rw [List.append_assoc, ← HX.out, numL_ge hlt, Hr.out]
        rfl
      case measure => simp [intOf]; omega
    · have hd : decide ((128 : Int) ≤ (l : Int)) = false := by simp; omega
      have hM : (l : Int) % 256 = (l : Int) := by omega
      go_wp2_with (first
        | (at_builtin; refine wpList_append_own _ rfl _ _ 94 rfl w.heap.size 5 i0 (.int .u8 0) 1 1 Tryz.underlying94 Hi.out hz0 hz1 hz2 rfl (by decide) _ _ _ rfl (hown.alloc _) ⟨wr.heap.size, 0, none⟩ 1 1 [.int .u8 (l : Int)] rfl rfl (cell_one_new _ _ _) (fun x hx => by simp at hx; rcases hx with rfl; rfl) (by unfold maxLen; omega) (by omega) (by have := HK.out.size; simp; omega) ?_; intro v' w3 hown' hgrow3 hnil3
           have X : Hid (NumSt w w3 v' (xs ++ [UInt8.ofNat l])) := NumSt.step (by omega) hown HK.out _ hown' hgrow3
           have hcv := num_conv X (by simp) (numS n) (by unfold numS; rw [← HX.out, numL_lt (by omega)])
           clear hown' hgrow3 hnil3))
      go_ret
      exact ⟨rfl, X.2⟩
/-- A number below 0 is held to 0. -/
theorem num_neg (n : Int) (_h0 : -9223372036854775808 ≤ n) (hn : n < 0) (w : World) :
    Calls Tryz.prog 88 #[.int .i64 n] w fun e w2 => e = .returned (.string (numS 0)) ∧ Kp [] w w2 := by
  obtain ⟨i0, hi, hz0, hz1, hz2⟩ := info_parts pkInfo
  have Hi := Lib.hid hi
  clear hi
  go_enter Tryz.func88, Tryz.ntmps88
  go_wp2
  have hd : decide ((128 : Int) ≤ 0) = false := by decide
  refine wp_loop_rounds 1 ?_
  rw [rounds_succ]
  go_wp2_with (first
        | (at_builtin; refine wpList_append_own _ rfl _ _ 94 rfl w.heap.size 5 i0 (.int .u8 0) 1 1 Tryz.underlying94 Hi.out hz0 hz1 hz2 rfl (by decide) _ 0 [] rfl (World.ownsRow_nil _ _ _ _) ⟨w.heap.size, 0, none⟩ 1 1 [.int .u8 0] rfl rfl (cell_one_new _ _ _) (fun x hx => by simp at hx; rcases hx with rfl; rfl) (by unfold maxLen; omega) (by omega) (by simp) ?_; intro v' w3 hown' hgrow3 hnil3
           have X : Hid (NumSt w w3 v' ([] ++ [UInt8.ofNat 0])) := NumSt.step (xs := []) (r := 0) (by omega) (World.ownsRow_nil _ _ _ _) (Kp.refl _ _) _ hown' hgrow3
           have hcv := num_conv X (by simp) (numS 0) (by unfold numS; rw [numL_lt (by omega)]; rfl)
           clear hown' hgrow3 hnil3))
  go_ret
  exact ⟨rfl, X.2⟩
/-- A text, its length ahead of it. -/
theorem text_any (s : ByteArray) (hs : s.size ≤ 9223372036854775) (w : World) :
    Calls Tryz.prog 100 #[.string s] w fun e w2 => e = .returned (.string (numS s.size ++ s)) ∧ Kp [] w w2 := by
  have h1 : (numS s.size).size ≤ 10 := by rw [numS_size]; exact numL_len 9 _ (by omega)
  go_enter Tryz.func100, Tryz.ntmps100
  go_wp2_with (go_at_call 88; refine Calls.mono (num_nat s.size (by omega) _) ?_; rintro e w' ⟨rfl, hk⟩)
  go_ret
  exact ⟨rfl, hk⟩
end Go.Proofs.YtggnljfcdohkaaaGreatDoor
