/- Contracts of the reference's disk: filled, NewDisk. What its disk is in memory. -/
import Derived.Test.YtiglipiofclmfaaDoorZf
import Derived.Deep.RegionHeld3
import Derived.Deep.RegionLaw
import Derived.Deep.DrawnRows
namespace Go.Proofs.YtiglipiofclmfaaDoor
open Go.RowKit

/-- The text of bytes. -/
def secS (l : List UInt8) : ByteArray := ⟨l.toArray⟩
abbrev strV (l : List UInt8) : Value := .string (secS l)
theorem filled_any (s : ByteArray) (hs : s.size ≤ 64) (w : World) :
    Calls Tryd.prog 22 #[.string s] w fun e w2 => e = .returned (strV (fillUp s)) ∧ Kp [] w w2 := by
  have hmk := make_bytes (64 - (s.size : Int)) (64 - s.size) (by omega) (by omega)
  have hmx : max 0 (64 - (s.size : Int)) = 64 - (s.size : Int) := by omega
  have HF := Lib.hid (fill_eq s)
  generalize hN : 64 - s.size = N at hmk HF
  have hs2 : ¬ 9223372036854775807 < s.size + (zStr N).size := by rw [zStr_size]; omega
  have hcv2 : ∀ (W : World) (g : Nat), IsZ W g N → (convert 63 9 (.slice (some ⟨g, 0, none⟩) N N)).run Tryd.prog W = .ok (.string (zStr N)) W := fun W g h => conv_bytes h
  have hz1 := isZ_new
  clear hN
  go_enter Tryd.func22, Tryd.ntmps22
  go_wp2
  go_ret
  exact ⟨congrArg (fun x => Ending.returned (Value.string x)) HF.out, (Kp.refl [] w).alloc _⟩

/-- The reference's disk in memory: block b; the sectors' row sv; the loose Writes' rows av, bv. -/
structure RfAt (w : World) (b : Nat) (sv av bv : Value) (S : Dk) : Prop where
  n2 : S.n ≤ 2000
  hb : 4 ≤ b
  ns : sv.ownBlock ≠ some b
  na : av.ownBlock ≠ some b
  nb : bv.ownBlock ≠ some b
  c0 : w.cell? ⟨b, 0, none⟩ = some sv
  c1 : w.cell? ⟨b, 1, none⟩ = some av
  c2 : w.cell? ⟨b, 2, none⟩ = some bv
  c3 : w.cell? ⟨b, 3, none⟩ = some (.int .i64 (S.writes : Int))
  c4 : w.cell? ⟨b, 4, none⟩ = some (.int .i64 (if S.cut then (S.left : Int) else -1))
  c5 : w.cell? ⟨b, 5, none⟩ = some (.bool S.dead)
  fr : ∀ o, w.frozen? ⟨b, o, none⟩ = false
  ss : w.ownsRow 4 9 1 sv S.n ((List.range S.n).map fun k => strV (S.F k))
  ats : w.ownsRow 4 3 1 av S.L.length (S.L.map fun x => .int .i64 (x.1 : Int))
  bts : w.ownsRow 4 9 1 bv S.L.length (S.L.map fun x => strV x.2)
  fl : ∀ k, k < S.n → (S.F k).length = 64
  lok : ∀ x ∈ S.L, x.1 < S.n ∧ x.2.length = 64
def rfoot (b : Nat) (sv av bv : Value) : List Nat := b :: (sv.ownBlock.toList ++ av.ownBlock.toList ++ bv.ownBlock.toList)
theorem owns_lt {w : World} {base e size n : Nat} {v : Value} {xs : List Value} (h : w.ownsRow base e size v n xs) : ∀ g, v.ownBlock = some g → base ≤ g ∧ g < w.heap.size := by
  intro g hg
  rcases h.2 with ⟨rfl, _⟩ | ⟨g2, cap, cur, rfl, hb, hh, _⟩
  · cases hg
  · obtain rfl : g2 = g := by simpa [Value.ownBlock] using hg
    refine ⟨hb, ?_⟩
    rcases Nat.lt_or_ge g2 w.heap.size with hlt | hge
    · exact hlt
    · rw [Array.getElem?_eq_none hge] at hh; cases hh
theorem owns_form {w : World} {base e size n : Nat} {v : Value} {xs : List Value} (h : w.ownsRow base e size v n xs) : ∃ a cap, v = .slice a n cap := by
  rcases h.2 with ⟨rfl, h0⟩ | ⟨g2, cap, cur, rfl, hb, hh, _⟩
  · exact ⟨none, 0, by rw [h0]⟩
  · exact ⟨_, cap, rfl⟩
/-- An element of a row of one-cell elements. -/
theorem owns_cell {w : World} {base e n cap : Nat} {a : Option Addr} {xs : List Value} (h : w.ownsRow base e 1 (.slice a n cap) n xs) (i : Nat) (hi : i < n) : ∃ g, a = some ⟨g, 0, none⟩ ∧ w.cell? ⟨g, i, none⟩ = xs[i]? ∧ w.frozen? ⟨g, i, none⟩ = false := by
  rcases h.2 with ⟨_, h0⟩ | ⟨g, cap2, cur, hv, hb, hg, h1, h2, h3, h4⟩
  · omega
  · injection hv with e1 e2 e3
    refine ⟨g, e1, ?_, by simp [World.frozen?, hg]⟩
    rw [← h4, List.getElem?_take, if_pos (by omega)]
    simp [World.cell?, hg]
theorem RfAt.lb {w : World} {b : Nat} {sv av bv : Value} {S : Dk} (h : RfAt w b sv av bv S) : b < w.heap.size := lt_of_cell h.c0
theorem RfAt.foot_lt {w : World} {b : Nat} {sv av bv : Value} {S : Dk} (h : RfAt w b sv av bv S) : ∀ x ∈ rfoot b sv av bv, 4 ≤ x ∧ x < w.heap.size := fun x hx => by
  simp only [rfoot, List.mem_cons, List.mem_append, Option.mem_toList] at hx
  rcases hx with rfl | (hx | hx) | hx
  · exact ⟨h.hb, h.lb⟩
  · exact owns_lt h.ss x hx
  · exact owns_lt h.ats x hx
  · exact owns_lt h.bts x hx
theorem RfAt.keep {f : List Nat} {w w2 : World} {b : Nat} {sv av bv : Value} {S : Dk} (h : RfAt w b sv av bv S) (k : Kp f w w2) (hd : ∀ x ∈ rfoot b sv av bv, x ∉ f) : RfAt w2 b sv av bv S := by
  have hb : b ∉ f := hd b (by simp [rfoot])
  have lb := h.lb
  exact { h with
    c0 := by rw [k.cell (p := ⟨b, 0, none⟩) lb hb]; exact h.c0
    c1 := by rw [k.cell (p := ⟨b, 1, none⟩) lb hb]; exact h.c1
    c2 := by rw [k.cell (p := ⟨b, 2, none⟩) lb hb]; exact h.c2
    c3 := by rw [k.cell (p := ⟨b, 3, none⟩) lb hb]; exact h.c3
    c4 := by rw [k.cell (p := ⟨b, 4, none⟩) lb hb]; exact h.c4
    c5 := by rw [k.cell (p := ⟨b, 5, none⟩) lb hb]; exact h.c5
    fr := fun o => by rw [k.frozen (p := ⟨b, o, none⟩) lb hb]; exact h.fr o
    ss := k.owns h.ss (fun g hg => hd g (by simp [rfoot, hg]))
    ats := k.owns h.ats (fun g hg => hd g (by simp [rfoot, hg]))
    bts := k.owns h.bts (fun g hg => hd g (by simp [rfoot, hg])) }
theorem RfAt.new {w w2 : World} {b : Nat} {sv av bv : Value} {S : Dk} (h : RfAt w b sv av bv S) (k : Kp [] w w2) : RfAt w2 b sv av bv S := h.keep k (by simp)
theorem infoStr : (Tryd.prog.info? 9).map (fun i => (i.zero, i.size, i.bytes)) = some (some (.string ByteArray.empty), 1, 16) := by kernel_rfl
theorem infoInt : (Tryd.prog.info? 3).map (fun i => (i.zero, i.size, i.bytes)) = some (some (.int .i64 0), 1, 8) := by kernel_rfl
theorem RfAt.nofoot_b {w : World} {b : Nat} {sv av bv : Value} {S : Dk} (h : RfAt w b sv av bv S) : (∀ g, sv.ownBlock = some g → g ∉ [b]) ∧ (∀ g, av.ownBlock = some g → g ∉ [b]) ∧ ∀ g, bv.ownBlock = some g → g ∉ [b] :=
  ⟨fun g hg hm => h.ns (by rw [hg, List.mem_singleton.1 hm]), fun g hg hm => h.na (by rw [hg, List.mem_singleton.1 hm]), fun g hg hm => h.nb (by rw [hg, List.mem_singleton.1 hm])⟩
/-- The sectors' row has been replaced. -/
theorem RfAt.setS {w : World} {b : Nat} {sv av bv : Value} {S : Dk} (h : RfAt w b sv av bv S) (n : Nat) (F : Nat → List UInt8) (sv2 : Value) (hn : n ≤ 2000) (hne : sv2.ownBlock ≠ some b)
    (hown : w.ownsRow 4 9 1 sv2 n ((List.range n).map fun k => strV (F k))) (hf : ∀ k, k < n → (F k).length = 64) (hl : S.n ≤ n) :
    RfAt (w.setCell ⟨b, 0, none⟩ sv2) b sv2 av bv { S with n := n, F := F } := by
  have kp := Kp.set1 w b 0 sv2
  obtain ⟨n1, n2, n3⟩ := h.nofoot_b
  exact { h with
    n2 := hn
    ns := hne
    c0 := cell_eq _ _ _ _ _ h.c0
    c1 := by rw [cell_ne _ _ _ _ _ (by decide)]; exact h.c1
    c2 := by rw [cell_ne _ _ _ _ _ (by decide)]; exact h.c2
    c3 := by rw [cell_ne _ _ _ _ _ (by decide)]; exact h.c3
    c4 := by rw [cell_ne _ _ _ _ _ (by decide)]; exact h.c4
    c5 := by rw [cell_ne _ _ _ _ _ (by decide)]; exact h.c5
    fr := fun o => by rw [frozen_setCell]; exact h.fr o
    ss := kp.owns hown (fun g hg hm => hne (by rw [hg, List.mem_singleton.1 hm]))
    ats := kp.owns h.ats n2
    bts := kp.owns h.bts n3
    fl := hf
    lok := fun x hx => ⟨by have := (h.lok x hx).1; show x.1 < n; omega, (h.lok x hx).2⟩ }

/-- The sectors' row has grown, and was stored. -/
theorem RfAt.growS {w w1 : World} {b : Nat} {sv : Value} {S : Dk} (h : RfAt w b sv (.slice none 0 0) (.slice none 0 0) S) (hL : S.L = []) (hg : w.grownBy w1 sv.ownBlock) (n : Nat) (F : Nat → List UInt8) (sv2 : Value) (hn : n ≤ 2000) (hne : sv2.ownBlock ≠ some b)
    (hown : w1.ownsRow 4 9 1 sv2 n ((List.range n).map fun k => strV (F k))) (hf : ∀ k, k < n → (F k).length = 64) :
    RfAt (w1.setCell ⟨b, 0, none⟩ sv2) b sv2 (.slice none 0 0) (.slice none 0 0) { S with n := n, F := F } := by
  have k1 : Kp sv.ownBlock.toList w w1 := (Kp.refl _ w).grown hg (fun k hk => .inl (by simp [hk]))
  have hb : b ∉ sv.ownBlock.toList := fun hm => h.ns (by simpa using hm)
  have lb := h.lb
  have c (o : Nat) : w1.cell? ⟨b, o, none⟩ = w.cell? ⟨b, o, none⟩ := k1.cell (p := ⟨b, o, none⟩) lb hb
  have kp := Kp.set1 w1 b 0 sv2
  exact { h with
    n2 := hn
    ns := hne
    c0 := cell_eq _ _ _ _ sv (by rw [c]; exact h.c0)
    c1 := by rw [cell_ne _ _ _ _ _ (by decide), c]; exact h.c1
    c2 := by rw [cell_ne _ _ _ _ _ (by decide), c]; exact h.c2
    c3 := by rw [cell_ne _ _ _ _ _ (by decide), c]; exact h.c3
    c4 := by rw [cell_ne _ _ _ _ _ (by decide), c]; exact h.c4
    c5 := by rw [cell_ne _ _ _ _ _ (by decide), c]; exact h.c5
    fr := fun o => by rw [frozen_setCell, k1.frozen (p := ⟨b, o, none⟩) lb hb]; exact h.fr o
    ss := kp.owns hown (fun g hg hm => hne (by rw [hg, List.mem_singleton.1 hm]))
    ats := by show World.ownsRow _ _ _ _ _ S.L.length _; rw [hL]; exact ⟨by simp, .inl ⟨rfl, rfl⟩⟩
    bts := by show World.ownsRow _ _ _ _ _ S.L.length _; rw [hL]; exact ⟨by simp, .inl ⟨rfl, rfl⟩⟩
    fl := hf
    lok := fun x hx => by
      have : x ∈ S.L := hx
      rw [hL] at this
      cases this }
theorem ref_start {W : World} {b : Nat} (hb : W.heap[b]? = some (.cells #[.slice none 0 0, .slice none 0 0, .slice none 0 0, .int .i64 0, .int .i64 (-1), .bool false] 43 (0, 0))) (hg : 4 ≤ b) :
    RfAt W b (.slice none 0 0) (.slice none 0 0) (.slice none 0 0) (Dk.new 0) :=
  { n2 := by decide
    hb := hg
    ns := fun h => by cases h
    na := fun h => by cases h
    nb := fun h => by cases h
    c0 := by simp [World.cell?, hb]
    c1 := by simp [World.cell?, hb]
    c2 := by simp [World.cell?, hb]
    c3 := by simp [World.cell?, hb, Dk.new]
    c4 := by simp [World.cell?, hb, Dk.new]
    c5 := by simp [World.cell?, hb, Dk.new]
    fr := fun o => by simp [World.frozen?, hb]
    ss := ⟨by simp [Dk.new], .inl ⟨rfl, rfl⟩⟩
    ats := ⟨by simp [Dk.new], .inl ⟨rfl, rfl⟩⟩
    bts := ⟨by simp [Dk.new], .inl ⟨rfl, rfl⟩⟩
    fl := fun k hk => by simp [Dk.new] at hk
    lok := fun x hx => by cases hx }

set_option maxHeartbeats 1600000 in
set_option maxRecDepth 20000 in
theorem newref_any (z : Int) (w : World) (hg : 4 ≤ w.heap.size) :
    Calls Tryd.prog 6 #[.int .i64 z] w fun e w2 => ∃ b sv, e = .returned (.pointer (some ⟨b, 0, none⟩)) ∧ RfAt w2 b sv (.slice none 0 0) (.slice none 0 0) (Dk.new (clampN z)) ∧ Kp [] w w2 ∧ ∀ x ∈ rfoot b sv (.slice none 0 0) (.slice none 0 0), w.heap.size ≤ x := by
  have hm : max 1 (min z 2000) = (clampN z : Int) := by unfold clampN; omega
  have hle := clampN_le z
  generalize clampN z = m at hm hle
  go_enter Tryd.func6, Tryd.ntmps6
  go_wp2_with fail
  obtain ⟨i0, hi0, hz0, hz1, hz2⟩ := info_parts infoStr
  have Hi0 := Lib.hid hi0
  clear hi0
  have R0 : RfAt (w.alloc (.cells #[.slice none 0 0, .slice none 0 0, .slice none 0 0, .int .i64 0, .int .i64 (-1), .bool false] 43)) w.heap.size (.slice none 0 0) (.slice none 0 0) (.slice none 0 0) (Dk.new 0) := ref_start (heap_alloc_new w _) hg
  have HR0 := Lib.hid R0
  have HK0 : Hid (Kp [] w (w.alloc (.cells #[.slice none 0 0, .slice none 0 0, .slice none 0 0, .int .i64 0, .int .i64 (-1), .bool false] 43))) := (Kp.refl [] w).alloc _
  have HW := Lib.hid (Nat.le_refl w.heap.size)
  clear R0
  generalize w.alloc (.cells #[.slice none 0 0, .slice none 0 0, .slice none 0 0, .int .i64 0, .int .i64 (-1), .bool false] 43) = w0 at *
  generalize hb0 : w.heap.size = b at *
  go_loopw [4] (fun i wr => ∃ (k : Nat) (sv : Value), k ≤ m ∧ i = .int .i64 k ∧ RfAt wr b sv (.slice none 0 0) (.slice none 0 0) (Dk.new k) ∧ Kp [] w wr ∧ ∀ g, sv.ownBlock = some g → b ≤ g) (fun i _ => m - (intOf i).toNat)
  case atStart => exact ⟨0, .slice none 0 0, Nat.zero_le _, rfl, HR0.out, HK0.out, fun g h => by cases h⟩
  case round =>
    clear HR0 HK0
    obtain ⟨k, sv, hk, rfl, R, K, hsb⟩ := hrel
    have HR := Lib.hid R
    have HK := Lib.hid K
    have Hsb := Lib.hid hsb
    have c0 := R.c0
    have f0 := R.fr 0
    have hown := R.ss
    have hlb := R.lb
    have hbs : some b ≠ sv.ownBlock := fun e => R.ns e.symm
    have hg4 : 4 ≤ wr.heap.size := by have := R.hb; omega
    clear R K hsb
    by_cases hlt : k < m
    · have hn1 : k + 1 ≤ maxLen := by unfold maxLen; omega
      have hn2 : (k + 1) * 16 ≤ 140737488355328 := by omega
      go_wp2_with fail
      go_region_law (first | (refine step_append_lies _ (by rfl) _ _ _ (by rfl) 4 9 i0 _ 1 16 Tryd.underlying40 Hi0.out hz0 hz1 hz2 rfl (by omega) sv k ((List.range k).map fun j => strV ((Dk.new k).F j)) (by rfl) ((kq.owns hown (fun g _ hm => by cases hm)).alloc _) ⟨x1.heap.size, 0, none⟩ 1 1 [strV zSec] (by rfl) (by rfl) (World.news_of_block (cs := #[strV zSec]) (t := 9) (fr := (0, 0)) (heap_alloc_new x1 _)) (by intro u hu; simp at hu; subst hu; rfl) (by omega) hn1 hn2 (by have := kq.size; simp; omega) (x1.heap.size + 1) (by simp) ?_; intro gg cap w1 hown1 hgrow hat hlt2; have hq2 : w1.cell? ⟨b, 0, none⟩ = some sv := (hgrow.cell_far ⟨b, 0, none⟩ (((Kp.refl [] x1).alloc _).lt hl1) hbs).trans ((((Kp.refl [] x1).alloc _).cell0 hl1).trans hc1); have hq3 : w1.frozen? ⟨b, 0, none⟩ = false := (hgrow.frozen_far ⟨b, 0, none⟩ (((Kp.refl [] x1).alloc _).lt hl1) hbs).trans ((((Kp.refl [] x1).alloc _).frozen0 hl1).trans hf1)) | (go_simp; go_at_call 22; refine (filled_any _ (by decide) _).mono ?_; rintro e x1 ⟨rfl, kq⟩; rw [show fillUp { data := #[] } = zSec from rfl]; have hl1 : b < x1.heap.size := kq.lt (by (first | (simp; done) | (simp; omega))); have hc1 : x1.cell? ⟨b, 0, none⟩ = some sv := (kq.cell0 (by (first | (simp; done) | (simp; omega)))).trans c0; have hf1 : x1.frozen? ⟨b, 0, none⟩ = false := (kq.frozen0 (by (first | (simp; done) | (simp; omega)))).trans f0))
      all_goals
        go_wp2
        go_roundw
        case rel =>
          have kx : Kp [] wr x1 := by first | exact kq | exact ((Kp.refl [] wr).drew).trans kq
          have gb : gg ≠ b := by
            rcases hat with h | h
            · exact fun e => hbs (by rw [h, e])
            · omega
          have gB : b ≤ gg := by
            rcases hat with h | h
            · exact Hsb.out gg h
            · omega
          refine ⟨k + 1, .slice (some ⟨gg, 0, none⟩) (k + 1) cap, by omega, by go_num, ?_, ?_, fun g hg => by
            obtain rfl : gg = g := by simpa [Value.ownBlock] using hg
            exact gB⟩
          · exact ((HR.out.new kx).new ((Kp.refl [] x1).alloc (.cells #[strV zSec] 9))).growS rfl hgrow (k + 1) (fun _ => zSec) _ (by omega) (fun h => gb (by simpa [Value.ownBlock] using h)) (by
              have := hown1
              rw [List.range_succ, List.map_append]
              exact this) (fun _ _ => rfl)
          · exact ((((HK.out.trans kx).alloc (.cells #[strV zSec] 9)).grown hgrow (fun g hg => .inr (by rw [hb0]; exact Hsb.out g hg))).setCell (p := ⟨b, 0, none⟩) (.inr (by rw [hb0]; exact Nat.le_refl _)) _)
        case measure => simp [intOf]; omega
    · have hkm : k = m := by omega
      subst hkm
      go_wp2
      go_ret
      exact ⟨b, sv, rfl, HR.out, HK.out, fun x hx => by
        simp only [rfoot, Value.ownBlock, Option.toList_none, List.append_nil, List.mem_cons, Option.mem_toList] at hx
        rw [hb0]
        rcases hx with rfl | hx
        · exact Nat.le_refl _
        · exact Hsb.out x hx⟩
end Go.Proofs.YtiglipiofclmfaaDoor
